/- The library's Round walked, over plain facts on the bits. -/
import Derived.Test.YtihkabgoaejcgaaDoorX1
import Derived.Test.YtihkabgoaejcgaaDoorFltK
namespace Go.Proofs.YtihkabgoaejcgaaDoor
open Go.RowKit

/-- below a half -/
theorem round_w0 (x : Nat) (X E S : Int) (hb : ∀ w, (callFunc 27 #[.float .f64 x]).run Tryd.prog w = .ok (.value (.int .u64 X)) w)
    (e1 : bits .and .u64 (X / 4503599627370496) 2047 = E) (d1 : decide (E < 1023) = true) (e2 : bits .and .u64 X 9223372036854775808 = S) (d2 : (E == 1022) = false) (w : World) :
    Calls Tryd.prog 71 #[.float .f64 x] w fun e w' => e = .returned (.float .f64 S.toNat) ∧ w' = w := by
  have hf := f64frombits
  go_enter Tryd.func71, Tryd.ntmps71
  go_wp2
  go_ret
  exact ⟨rfl, rfl⟩

/-- below one -/
theorem round_w1 (x : Nat) (X E S T : Int) (hb : ∀ w, (callFunc 27 #[.float .f64 x]).run Tryd.prog w = .ok (.value (.int .u64 X)) w)
    (e1 : bits .and .u64 (X / 4503599627370496) 2047 = E) (d1 : decide (E < 1023) = true) (e2 : bits .and .u64 X 9223372036854775808 = S) (d2 : (E == 1022) = true) (e3 : bits .or .u64 S 4607182418800017408 = T) (w : World) :
    Calls Tryd.prog 71 #[.float .f64 x] w fun e w' => e = .returned (.float .f64 T.toNat) ∧ w' = w := by
  have hf := f64frombits
  go_enter Tryd.func71, Tryd.ntmps71
  go_wp2
  go_ret
  exact ⟨rfl, rfl⟩

/-- without a fraction -/
theorem round_w3 (x : Nat) (X E : Int) (hb : ∀ w, (callFunc 27 #[.float .f64 x]).run Tryd.prog w = .ok (.value (.int .u64 X)) w)
    (e1 : bits .and .u64 (X / 4503599627370496) 2047 = E) (d1 : decide (E < 1023) = false) (d3 : decide (E < 1075) = false) (w : World) :
    Calls Tryd.prog 71 #[.float .f64 x] w fun e w' => e = .returned (.float .f64 X.toNat) ∧ w' = w := by
  have hf := f64frombits
  go_enter Tryd.func71, Tryd.ntmps71
  go_wp2
  go_ret
  exact ⟨rfl, rfl⟩

/-- with one -/
theorem round_w2 (x : Nat) (X E H Y M Z : Int) (j : Nat) (hj : j < 64) (hb : ∀ w, (callFunc 27 #[.float .f64 x]).run Tryd.prog w = .ok (.value (.int .u64 X)) w)
    (e1 : bits .and .u64 (X / 4503599627370496) 2047 = E) (d1 : decide (E < 1023) = false) (d3 : decide (E < 1075) = true) (e2 : IntKind.u64.wrap (E - 1023) = (j : Int))
    (e3 : 2251799813685248 / 2 ^ j = H) (e4 : IntKind.u64.wrap (X + H) = Y) (e5 : 4503599627370495 / 2 ^ j = M) (e6 : bits .andNot .u64 Y M = Z) (w : World) :
    Calls Tryd.prog 71 #[.float .f64 x] w fun e w' => e = .returned (.float .f64 Z.toNat) ∧ w' = w := by
  have hf := f64frombits
  go_enter Tryd.func71, Tryd.ntmps71
  go_wp2
  go_ret
  exact ⟨rfl, rfl⟩
end Go.Proofs.YtihkabgoaejcgaaDoor
