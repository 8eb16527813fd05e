/- Pop of a queue of whole numbers. -/
import Derived.Test.YtapjnnbcphpokaaGreatErI
namespace Go.Proofs.YtapjnnbcphpokaaGreat
open Go.RowKit Go.Lib
attribute [local go_sem] store_float f64bits
attribute [local go_sem ↓] Go.wp_at_zero Go.wp_at_succ
end Go.Proofs.YtapjnnbcphpokaaGreat
