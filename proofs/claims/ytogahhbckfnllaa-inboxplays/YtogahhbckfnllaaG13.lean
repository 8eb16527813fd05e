import Derived.Test.YtogahhbckfnllaaG12
import Derived.Test.YtogahhbckfnllaaG01
import Derived.Deep.DrawnRows
/- Contracts of Op on whole numbers: sums and differences. -/
namespace Go.Proofs.Ytogahhbckfnllaa
open Go.RowKit
attribute [local go_sem] store_float

theorem hid {p : Prop} (h : p) : Hid p := h

end Go.Proofs.Ytogahhbckfnllaa


/- Contracts of Op: quotients. -/
namespace Go.Proofs.Ytogahhbckfnllaa
open Go.RowKit
attribute [local go_sem] store_float
attribute [local go_sem ↓] Go.wp_at_zero Go.wp_at_succ

end Go.Proofs.Ytogahhbckfnllaa


