/- Contracts of Op on whole numbers: sums and differences. -/
import Derived.Test.YtapjnnbcphpokaaO1
import Derived.Test.YtapjnnbcphpokaaW2
import Derived.Test.YtapjnnbcphpokaaBox
namespace Go.Proofs.Ytapjnnbcphpokaa
open Go.RowKit
attribute [local go_sem] store_float

theorem hid {p : Prop} (h : p) : Hid p := h

end Go.Proofs.Ytapjnnbcphpokaa
