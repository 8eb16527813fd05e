/- The walk of NumFinite: it returns true, and nothing that was there has turned. -/
import Derived.Test.YtihkabgoaejcgaaDoorF5a
import Derived.Test.YtihkabgoaejcgaaDoorF5b
import Derived.Test.YtihkabgoaejcgaaDoorF5c
import Derived.Test.YtihkabgoaejcgaaDoorF5d
namespace Go.Proofs.YtihkabgoaejcgaaDoor
open Go.RowKit

theorem num_mod (n : Int) : Num 1 (n.tmod 576460752303423488) 0 := by
  have b1 : n.tmod 576460752303423488 < 576460752303423488 := Int.tmod_lt_of_pos _ (by decide)
  have b2 : -576460752303423488 < n.tmod 576460752303423488 := Int.lt_tmod_of_pos _ (by decide)
  exact Or.inl ⟨rfl, whB_mk ⟨by omega, by omega⟩, rfl⟩

theorem numFinite_any (u v : Nat) (hu : u < 18446744073709551616) (hv : v < 18446744073709551616) (n m : Int) (w : World) (ht : w.cell? ⟨4, 15, none⟩ = some (.int .u8 4)) :
    Calls Tryd.prog 8 #[.int .u64 u, .int .u64 v, .int .i64 n, .int .i64 m] w fun e w' => e = .returned (.bool true) ∧ Below w.heap.size w w' := by
  cases fu : Flt.fin u <;> cases fv : Flt.fin v
  · exact fin_none u v n m _ _ rfl rfl (num_mod n) (num_mod m) (by simp [numBits, fu]) (by simp [numBits, fv]) hu hv w ht
  · exact fin_v u v n m _ _ rfl rfl (num_mod n) (num_mod m) (Or.inr ⟨rfl, rfl, fv, hv⟩ : Num 2 0 v) (by simp [numBits, fu]) (by simp [numBits, fv]) hu hv w ht
  · exact fin_u u v n m _ _ rfl rfl (num_mod n) (num_mod m) (Or.inr ⟨rfl, rfl, fu, hu⟩ : Num 2 0 u) (by simp [numBits, fu]) (by simp [numBits, fv]) hu hv w ht
  · exact fin_uv u v n m _ _ rfl rfl (num_mod n) (num_mod m) (Or.inr ⟨rfl, rfl, fu, hu⟩ : Num 2 0 u) (Or.inr ⟨rfl, rfl, fv, hv⟩ : Num 2 0 v) (by simp [numBits, fu]) (by simp [numBits, fv]) hu hv w ht
end Go.Proofs.YtihkabgoaejcgaaDoor
