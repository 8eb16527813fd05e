import Derived.Test.YtliebilpddmhkaaGreatG06
import Derived.Test.YtliebilpddmhkaaGreatG04
import Derived.Deep.DrawnRows
/- Contracts of Op on whole numbers: sums and differences. -/
namespace Go.Proofs.YtliebilpddmhkaaGreat
open Go.RowKit
attribute [local go_sem] store_float

theorem hid {p : Prop} (h : p) : Hid p := h

end Go.Proofs.YtliebilpddmhkaaGreat


/- Contracts of Op: quotients. -/
namespace Go.Proofs.YtliebilpddmhkaaGreat
open Go.RowKit
attribute [local go_sem] store_float
attribute [local go_sem ↓] Go.wp_at_zero Go.wp_at_succ

end Go.Proofs.YtliebilpddmhkaaGreat


