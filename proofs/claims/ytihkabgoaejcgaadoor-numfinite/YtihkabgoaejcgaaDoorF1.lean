/- What Op tells of right numbers is right, or nothing; sums and products know no order. -/
import Derived.Test.YtihkabgoaejcgaaDoorNR
import Derived.Test.YtihkabgoaejcgaaDoorO5
import Derived.Test.YtihkabgoaejcgaaDoorO2m
import Derived.Test.YtihkabgoaejcgaaDoorO3z
import Derived.Test.YtihkabgoaejcgaaDoorO4add
import Derived.Test.YtihkabgoaejcgaaDoorO4sub
import Derived.Test.YtihkabgoaejcgaaDoorO4mul
import Derived.Test.YtihkabgoaejcgaaDoorFltB
namespace Go.Proofs.YtihkabgoaejcgaaDoor
open Go.RowKit Ieee

/-- what may be told: a right number, or an error and nothing -/
def Told (r : R) : Prop := (r.e = 0 ∧ ((r.k = 1 ∧ whB r.n = true ∧ r.f = 0) ∨ (r.k = 2 ∧ r.n = 0 ∧ Flt.fin r.f = true))) ∨ (r.e ≠ 0 ∧ r.k = 0 ∧ r.n = 0 ∧ r.f = 0)

theorem told_int (z : Int) : Told (numInt z) := by
  unfold numInt
  split
  · rename_i h; exact Or.inl ⟨rfl, Or.inl ⟨rfl, h, rfl⟩⟩
  · exact Or.inr ⟨by decide, rfl, rfl, rfl⟩

theorem told_bits (u : Nat) : Told (numBits u) := by
  unfold numBits
  split
  · rename_i h; exact Or.inl ⟨rfl, Or.inr ⟨rfl, rfl, h⟩⟩
  · exact Or.inr ⟨by decide, rfl, rfl, rfl⟩

theorem told_flt (o : Option Nat) : Told (fltR o) := by
  cases o with
  | none => exact Or.inr ⟨by decide, rfl, rfl, rfl⟩
  | some r => exact told_bits r

theorem told_11 : Told ⟨0, 0, 0, 11⟩ := Or.inr ⟨by decide, rfl, rfl, rfl⟩

theorem sum_comm {s t : Bool} {m n : Nat} {p q : Int} : Datum.sum (.number s m p) (.number t n q) = Datum.sum (.number t n q) (.number s m p) := by
  simp only [Datum.sum, Int.min_comm p q, Int.add_comm (signed s m _), Bool.and_comm s t]

theorem add_comm' {x y : Nat} (fx : Flt.fin x = true) (fy : Flt.fin y = true) : floatBits .add .f64 x y = floatBits .add .f64 y x := by
  obtain ⟨m, p, hr⟩ := Flt.read_fin fx
  obtain ⟨n, q, hr'⟩ := Flt.read_fin fy
  show double.add x y = double.add y x
  unfold Format.add
  rw [hr, hr', sum_comm]

theorem mul_comm' {x y : Nat} (fx : Flt.fin x = true) (fy : Flt.fin y = true) : floatBits .mul .f64 x y = floatBits .mul .f64 y x := by
  obtain ⟨m, p, hr⟩ := Flt.read_fin fx
  obtain ⟨n, q, hr'⟩ := Flt.read_fin fy
  show double.mul x y = double.mul y x
  unfold Format.mul
  rw [hr, hr']
  simp only [Datum.product, Nat.mul_comm m n, Int.add_comm p q, bne_comm]
end Go.Proofs.YtihkabgoaejcgaaDoor
