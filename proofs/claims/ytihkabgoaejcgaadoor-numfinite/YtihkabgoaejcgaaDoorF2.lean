/- What Op tells of two right numbers, by any sign; sums and products know no order. -/
import Derived.Test.YtihkabgoaejcgaaDoorF1
namespace Go.Proofs.YtihkabgoaejcgaaDoor
open Go.RowKit

def sgn (i : Fin 6) : ByteArray := match i with
  | 0 => ⟨#[43]⟩
  | 1 => ⟨#[45]⟩
  | 2 => ⟨#[42]⟩
  | 3 => ⟨#[47]⟩
  | 4 => ⟨#[100, 105, 118]⟩
  | 5 => ⟨#[114, 101, 109]⟩

/-- a right number's fields -/
def Num (k n : Int) (f : Nat) : Prop := (k = 1 ∧ whB n = true ∧ f = 0) ∨ (k = 2 ∧ n = 0 ∧ Flt.fin f = true ∧ f < 18446744073709551616)

theorem Num.right {k n : Int} {f : Nat} (h : Num k n f) : rightB k n f ⟨#[]⟩ 0 = true := by
  rcases h with ⟨rfl, h, rfl⟩ | ⟨rfl, rfl, h, _⟩ <;> simp [rightB, h]

theorem Num.lt {k n : Int} {f : Nat} (h : Num k n f) : f < 18446744073709551616 := by
  rcases h with ⟨_, _, rfl⟩ | ⟨_, _, _, h⟩
  · decide
  · exact h

theorem Num.real {k n : Int} {f : Nat} (h : Num k n f) : Flt.fin (realV k n f) = true := by
  rcases h with ⟨rfl, h, rfl⟩ | ⟨rfl, rfl, h, _⟩
  · obtain ⟨b1, b2⟩ := whB_yes h
    show Flt.fin (Ieee.double.nearest (decide (n < 0)) n.natAbs 0) = true
    exact Flt.near_fin _ (by omega)
  · exact h

theorem tells_0 {ka na kb nb : Int} {fa fb : Nat} (ha : Num ka na fa) (hb : Num kb nb fb) : ∃ r, Told r ∧ (∀ w, Calls Tryd.prog 17 #[.string ⟨#[43]⟩, .agg #[.int .i64 (ka), .int .i64 (na), .float .f64 (fa), .string ⟨#[]⟩, .slice none 0 0], .agg #[.int .i64 (kb), .int .i64 (nb), .float .f64 (fb), .string ⟨#[]⟩, .slice none 0 0]] w fun e w' => e = .returned (.tuple #[.agg #[.int .i64 (r.k), .int .i64 (r.n), .float .f64 (r.f), .string ⟨#[]⟩, .slice none 0 0], .int .i64 r.e]) ∧ Below w.heap.size w w') ∧ (∀ w, Calls Tryd.prog 17 #[.string ⟨#[43]⟩, .agg #[.int .i64 (kb), .int .i64 (nb), .float .f64 (fb), .string ⟨#[]⟩, .slice none 0 0], .agg #[.int .i64 (ka), .int .i64 (na), .float .f64 (fa), .string ⟨#[]⟩, .slice none 0 0]] w fun e w' => e = .returned (.tuple #[.agg #[.int .i64 (r.k), .int .i64 (r.n), .float .f64 (r.f), .string ⟨#[]⟩, .slice none 0 0], .int .i64 r.e]) ∧ Below w.heap.size w w') := by
  have ra := ha.right
  have rb := hb.right
  have la := ha.lt
  have lb := hb.lt
  have va := ha.real
  have vb := hb.real
  by_cases hk : ka = 1 ∧ kb = 1
  · obtain ⟨rfl, rfl⟩ := hk
    have wa : whB na = true := by
      rcases ha with ⟨_, h, _⟩ | ⟨h, _⟩
      · exact h
      · exact absurd h (by omega)
    have wb : whB nb = true := by
      rcases hb with ⟨_, h, _⟩ | ⟨h, _⟩
      · exact h
      · exact absurd h (by omega)
    have h2 := op_wadd nb na fb fa ⟨#[]⟩ ⟨#[]⟩ none none 0 0 0 0 rb ra lb la wb wa
    rw [Int.add_comm nb na] at h2
    exact ⟨_, told_int _, op_wadd na nb fa fb ⟨#[]⟩ ⟨#[]⟩ none none 0 0 0 0 ra rb la lb wa wb, h2⟩
  · have h2 := op_fadd kb ka nb na fb fa ⟨#[]⟩ ⟨#[]⟩ none none 0 0 0 0 rb ra lb la (by omega)
    rw [add_comm' vb va] at h2
    exact ⟨_, told_flt _, op_fadd ka kb na nb fa fb ⟨#[]⟩ ⟨#[]⟩ none none 0 0 0 0 ra rb la lb hk, h2⟩

theorem tells_1 {ka na kb nb : Int} {fa fb : Nat} (ha : Num ka na fa) (hb : Num kb nb fb) : ∃ r, Told r ∧ (∀ w, Calls Tryd.prog 17 #[.string ⟨#[45]⟩, .agg #[.int .i64 (ka), .int .i64 (na), .float .f64 (fa), .string ⟨#[]⟩, .slice none 0 0], .agg #[.int .i64 (kb), .int .i64 (nb), .float .f64 (fb), .string ⟨#[]⟩, .slice none 0 0]] w fun e w' => e = .returned (.tuple #[.agg #[.int .i64 (r.k), .int .i64 (r.n), .float .f64 (r.f), .string ⟨#[]⟩, .slice none 0 0], .int .i64 r.e]) ∧ Below w.heap.size w w') := by
  have ra := ha.right
  have rb := hb.right
  have la := ha.lt
  have lb := hb.lt
  by_cases hk : ka = 1 ∧ kb = 1
  · obtain ⟨rfl, rfl⟩ := hk
    have wa : whB na = true := by
      rcases ha with ⟨_, h, _⟩ | ⟨h, _⟩
      · exact h
      · exact absurd h (by omega)
    have wb : whB nb = true := by
      rcases hb with ⟨_, h, _⟩ | ⟨h, _⟩
      · exact h
      · exact absurd h (by omega)
    exact ⟨_, told_int _, op_wsub na nb fa fb ⟨#[]⟩ ⟨#[]⟩ none none 0 0 0 0 ra rb la lb wa wb⟩
  · exact ⟨_, told_flt _, op_fsub ka kb na nb fa fb ⟨#[]⟩ ⟨#[]⟩ none none 0 0 0 0 ra rb la lb hk⟩

theorem tells_2 {ka na kb nb : Int} {fa fb : Nat} (ha : Num ka na fa) (hb : Num kb nb fb) : ∃ r, Told r ∧ (∀ w, Calls Tryd.prog 17 #[.string ⟨#[42]⟩, .agg #[.int .i64 (ka), .int .i64 (na), .float .f64 (fa), .string ⟨#[]⟩, .slice none 0 0], .agg #[.int .i64 (kb), .int .i64 (nb), .float .f64 (fb), .string ⟨#[]⟩, .slice none 0 0]] w fun e w' => e = .returned (.tuple #[.agg #[.int .i64 (r.k), .int .i64 (r.n), .float .f64 (r.f), .string ⟨#[]⟩, .slice none 0 0], .int .i64 r.e]) ∧ Below w.heap.size w w') ∧ (∀ w, Calls Tryd.prog 17 #[.string ⟨#[42]⟩, .agg #[.int .i64 (kb), .int .i64 (nb), .float .f64 (fb), .string ⟨#[]⟩, .slice none 0 0], .agg #[.int .i64 (ka), .int .i64 (na), .float .f64 (fa), .string ⟨#[]⟩, .slice none 0 0]] w fun e w' => e = .returned (.tuple #[.agg #[.int .i64 (r.k), .int .i64 (r.n), .float .f64 (r.f), .string ⟨#[]⟩, .slice none 0 0], .int .i64 r.e]) ∧ Below w.heap.size w w') := by
  have ra := ha.right
  have rb := hb.right
  have la := ha.lt
  have lb := hb.lt
  have va := ha.real
  have vb := hb.real
  by_cases hk : ka = 1 ∧ kb = 1
  · obtain ⟨rfl, rfl⟩ := hk
    have wa : whB na = true := by
      rcases ha with ⟨_, h, _⟩ | ⟨h, _⟩
      · exact h
      · exact absurd h (by omega)
    have wb : whB nb = true := by
      rcases hb with ⟨_, h, _⟩ | ⟨h, _⟩
      · exact h
      · exact absurd h (by omega)
    have h2 := op_wmul nb na fb fa ⟨#[]⟩ ⟨#[]⟩ none none 0 0 0 0 rb ra lb la wb wa
    rw [Int.mul_comm nb na] at h2
    exact ⟨_, told_int _, op_wmul na nb fa fb ⟨#[]⟩ ⟨#[]⟩ none none 0 0 0 0 ra rb la lb wa wb, h2⟩
  · have h2 := op_fmul kb ka nb na fb fa ⟨#[]⟩ ⟨#[]⟩ none none 0 0 0 0 rb ra lb la (by omega)
    rw [mul_comm' vb va] at h2
    exact ⟨_, told_flt _, op_fmul ka kb na nb fa fb ⟨#[]⟩ ⟨#[]⟩ none none 0 0 0 0 ra rb la lb hk, h2⟩

theorem tells_3 {ka na kb nb : Int} {fa fb : Nat} (ha : Num ka na fa) (hb : Num kb nb fb) : ∃ r, Told r ∧ (∀ w, Calls Tryd.prog 17 #[.string ⟨#[47]⟩, .agg #[.int .i64 (ka), .int .i64 (na), .float .f64 (fa), .string ⟨#[]⟩, .slice none 0 0], .agg #[.int .i64 (kb), .int .i64 (nb), .float .f64 (fb), .string ⟨#[]⟩, .slice none 0 0]] w fun e w' => e = .returned (.tuple #[.agg #[.int .i64 (r.k), .int .i64 (r.n), .float .f64 (r.f), .string ⟨#[]⟩, .slice none 0 0], .int .i64 r.e]) ∧ Below w.heap.size w w') := by
  have ra := ha.right
  have rb := hb.right
  have la := ha.lt
  have lb := hb.lt
  cases hz : zB (realV kb nb fb)
  · exact ⟨_, told_flt _, op_quo ka kb na nb fa fb ⟨#[]⟩ ⟨#[]⟩ none none 0 0 0 0 ra rb la lb hz⟩
  · exact ⟨_, told_11, op_quoz ka kb na nb fa fb ⟨#[]⟩ ⟨#[]⟩ none none 0 0 0 0 ra rb la lb hz⟩

theorem tells_4 {ka na kb nb : Int} {fa fb : Nat} (ha : Num ka na fa) (hb : Num kb nb fb) : ∃ r, Told r ∧ (∀ w, Calls Tryd.prog 17 #[.string ⟨#[100, 105, 118]⟩, .agg #[.int .i64 (ka), .int .i64 (na), .float .f64 (fa), .string ⟨#[]⟩, .slice none 0 0], .agg #[.int .i64 (kb), .int .i64 (nb), .float .f64 (fb), .string ⟨#[]⟩, .slice none 0 0]] w fun e w' => e = .returned (.tuple #[.agg #[.int .i64 (r.k), .int .i64 (r.n), .float .f64 (r.f), .string ⟨#[]⟩, .slice none 0 0], .int .i64 r.e]) ∧ Below w.heap.size w w') := by
  have ra := ha.right
  have rb := hb.right
  have la := ha.lt
  have lb := hb.lt
  rcases ha with ⟨rfl, wa, _⟩ | ⟨rfl, _⟩
  · rcases hb with ⟨rfl, wb, _⟩ | ⟨rfl, _⟩
    · by_cases h0 : nb = 0
      · subst h0
        exact ⟨_, told_11, op_wdiv0 na fa fb ⟨#[]⟩ ⟨#[]⟩ none none 0 0 0 0 ra rb la lb⟩
      · exact ⟨_, told_int _, op_wdiv na nb fa fb ⟨#[]⟩ ⟨#[]⟩ none none 0 0 0 0 ra rb la lb wa wb h0⟩
    · exact ⟨_, told_11, op_mdiv_a 1 2 na nb fa fb ⟨#[]⟩ ⟨#[]⟩ none none 0 0 0 0 ra rb la lb rfl rfl⟩
  · exact ⟨_, told_11, op_mdiv_b 2 kb na nb fa fb ⟨#[]⟩ ⟨#[]⟩ none none 0 0 0 0 ra rb la lb rfl⟩

theorem tells_5 {ka na kb nb : Int} {fa fb : Nat} (ha : Num ka na fa) (hb : Num kb nb fb) : ∃ r, Told r ∧ (∀ w, Calls Tryd.prog 17 #[.string ⟨#[114, 101, 109]⟩, .agg #[.int .i64 (ka), .int .i64 (na), .float .f64 (fa), .string ⟨#[]⟩, .slice none 0 0], .agg #[.int .i64 (kb), .int .i64 (nb), .float .f64 (fb), .string ⟨#[]⟩, .slice none 0 0]] w fun e w' => e = .returned (.tuple #[.agg #[.int .i64 (r.k), .int .i64 (r.n), .float .f64 (r.f), .string ⟨#[]⟩, .slice none 0 0], .int .i64 r.e]) ∧ Below w.heap.size w w') := by
  have ra := ha.right
  have rb := hb.right
  have la := ha.lt
  have lb := hb.lt
  rcases ha with ⟨rfl, wa, _⟩ | ⟨rfl, _⟩
  · rcases hb with ⟨rfl, wb, _⟩ | ⟨rfl, _⟩
    · by_cases h0 : nb = 0
      · subst h0
        exact ⟨_, told_11, op_wrem0 na fa fb ⟨#[]⟩ ⟨#[]⟩ none none 0 0 0 0 ra rb la lb⟩
      · exact ⟨_, told_int _, op_wrem na nb fa fb ⟨#[]⟩ ⟨#[]⟩ none none 0 0 0 0 ra rb la lb wa wb h0⟩
    · exact ⟨_, told_11, op_mrem_a 1 2 na nb fa fb ⟨#[]⟩ ⟨#[]⟩ none none 0 0 0 0 ra rb la lb rfl rfl⟩
  · exact ⟨_, told_11, op_mrem_b 2 kb na nb fa fb ⟨#[]⟩ ⟨#[]⟩ none none 0 0 0 0 ra rb la lb rfl⟩

end Go.Proofs.YtihkabgoaejcgaaDoor
