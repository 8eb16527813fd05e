/- Terms made by the statements' own helpers: just which world they leave. -/
import Derived.Test.YtihkabgoaejcgaaDoorK1
namespace Go.Proofs.YtihkabgoaejcgaaDoor
open Go.RowKit
attribute [local go_sem] store_float

theorem i_at (n : Int) (w : World) : Calls Tryd.prog 39 #[.int .i64 n] w fun e w' => e = .returned (.agg #[.int .i64 (1), .int .i64 (n), .float .f64 (0), .string ⟨#[]⟩, .slice none 0 0]) ∧ w' = w.alloc (.cells #[.int .i64 1, .int .i64 n, .float .f64 0, .string ⟨#[]⟩, .slice none 0 0] 27) := by
  go_enter Tryd.func39, Tryd.ntmps39
  go_wp2
  exact bodyPost_ret (v := .agg #[.int .i64 (1), .int .i64 (n), .float .f64 (0), .string ⟨#[]⟩, .slice none 0 0]) (by simp [results, Tryd.results39, go_sem]) rfl ⟨rfl, rfl⟩

theorem f_at (x : Nat) (w : World) : Calls Tryd.prog 40 #[.float .f64 x] w fun e w' => e = .returned (.agg #[.int .i64 (2), .int .i64 (0), .float .f64 (x), .string ⟨#[]⟩, .slice none 0 0]) ∧ w' = w.alloc (.cells #[.int .i64 2, .int .i64 0, .float .f64 x, .string ⟨#[]⟩, .slice none 0 0] 27) := by
  go_enter Tryd.func40, Tryd.ntmps40
  go_wp2
  exact bodyPost_ret (v := .agg #[.int .i64 (2), .int .i64 (0), .float .f64 (x), .string ⟨#[]⟩, .slice none 0 0]) (by simp [results, Tryd.results40, go_sem]) rfl ⟨rfl, rfl⟩

end Go.Proofs.YtihkabgoaejcgaaDoor
