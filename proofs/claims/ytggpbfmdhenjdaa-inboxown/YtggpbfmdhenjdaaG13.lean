import Derived.Test.YtggpbfmdhenjdaaG12
import Derived.Test.YtggpbfmdhenjdaaG01
import Derived.Deep.DrawnRows
/- Contracts of Op on whole numbers: sums and differences. -/
namespace Go.Proofs.Ytggpbfmdhenjdaa
open Go.RowKit
attribute [local go_sem] store_float

theorem hid {p : Prop} (h : p) : Hid p := h

end Go.Proofs.Ytggpbfmdhenjdaa


/- Contracts of Op: quotients. -/
namespace Go.Proofs.Ytggpbfmdhenjdaa
open Go.RowKit
attribute [local go_sem] store_float
attribute [local go_sem ↓] Go.wp_at_zero Go.wp_at_succ

end Go.Proofs.Ytggpbfmdhenjdaa


