import Derived.Test.YtliebilpddmhkaaG06
import Derived.Test.YtliebilpddmhkaaG04
import Derived.Deep.DrawnRows
/- Contracts of Op on whole numbers: sums and differences. -/
namespace Go.Proofs.Ytliebilpddmhkaa
open Go.RowKit
attribute [local go_sem] store_float

theorem hid {p : Prop} (h : p) : Hid p := h

end Go.Proofs.Ytliebilpddmhkaa


/- Contracts of Op: quotients. -/
namespace Go.Proofs.Ytliebilpddmhkaa
open Go.RowKit
attribute [local go_sem] store_float
attribute [local go_sem ↓] Go.wp_at_zero Go.wp_at_succ

end Go.Proofs.Ytliebilpddmhkaa


