/- Contracts of Op on whole numbers: sums and differences. -/
import Derived.Test.YtliebilpddmhkaaO1
import Derived.Test.YtliebilpddmhkaaW2
import Derived.Test.YtliebilpddmhkaaBox
namespace Go.Proofs.Ytliebilpddmhkaa
open Go.RowKit
attribute [local go_sem] store_float

theorem hid {p : Prop} (h : p) : Hid p := h

end Go.Proofs.Ytliebilpddmhkaa
