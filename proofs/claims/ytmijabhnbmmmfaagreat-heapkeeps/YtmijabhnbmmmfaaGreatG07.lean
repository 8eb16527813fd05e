import Derived.Test.YtmijabhnbmmmfaaGreatG06
import Derived.Test.YtmijabhnbmmmfaaGreatG04
import Derived.Deep.DrawnRows
/- Contracts of Op on whole numbers: sums and differences. -/
namespace Go.Proofs.YtmijabhnbmmmfaaGreat
open Go.RowKit
attribute [local go_sem] store_float

theorem hid {p : Prop} (h : p) : Hid p := h

end Go.Proofs.YtmijabhnbmmmfaaGreat


/- Contracts of Op: quotients. -/
namespace Go.Proofs.YtmijabhnbmmmfaaGreat
open Go.RowKit
attribute [local go_sem] store_float
attribute [local go_sem ↓] Go.wp_at_zero Go.wp_at_succ

end Go.Proofs.YtmijabhnbmmmfaaGreat


