import Derived.Test.YtjiigabfdigkaaaG00
/- Small contracts of the program: how numbers are made, or refused, by the program. -/
namespace Go.Proofs.Ytjiigabfdigkaaa
open Go.RowKit
attribute [local go_sem] store_float

end Go.Proofs.Ytjiigabfdigkaaa


/- How numbers are made, or refused, by the document's own reckoning. -/
namespace Go.Proofs.Ytjiigabfdigkaaa
open Go.RowKit
attribute [local go_sem] store_float

end Go.Proofs.Ytjiigabfdigkaaa


