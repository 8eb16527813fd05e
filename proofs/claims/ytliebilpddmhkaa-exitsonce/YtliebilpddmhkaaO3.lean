/- Contracts of Op: quotients. -/
import Derived.Test.YtliebilpddmhkaaO2
import Derived.Deep.DrawnRows
namespace Go.Proofs.Ytliebilpddmhkaa
open Go.RowKit
attribute [local go_sem] store_float
attribute [local go_sem ↓] Go.wp_at_zero Go.wp_at_succ

end Go.Proofs.Ytliebilpddmhkaa
