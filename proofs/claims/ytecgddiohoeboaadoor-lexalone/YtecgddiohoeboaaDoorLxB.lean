/- Floats by their bits. -/
import Derived.Test.YtecgddiohoeboaaDoorLxA
namespace Go.Proofs.YtecgddiohoeboaaDoor
open Go.RowKit Go.Lib
attribute [local go_sem] store_float f64bits
attribute [local go_sem ↓] Go.wp_at_zero Go.wp_at_succ

theorem hexd_lt {b d : Nat} (h : hexd b = some d) : d < 16 := by
  unfold hexd at h
  split at h
  · rename_i hd; simp [pDigit] at hd; cases h; omega
  · split at h
    · cases h; omega
    · cases h
theorem hexAt_lt {s : ByteArray} {p d : Nat} (h : hexAt s p = some d) : d < 16 := by
  unfold hexAt at h
  split at h
  · exact hexd_lt h
  · cases h
theorem hexN_lt (s : ByteArray) : ∀ k p u v, hexN s k p u = some v → v < (u + 1) * 16 ^ k := by
  intro k
  induction k with
  | zero => intro p u v h; simp [hexN] at h; omega
  | succ k ih =>
    intro p u v h
    cases ha : hexAt s p with
    | none => rw [hexN_none s k p u ha] at h; cases h
    | some d =>
      rw [hexN_some s k p u d ha] at h
      have h1 := ih _ _ _ h
      have h2 := hexAt_lt ha
      have h3 : (u * 16 + d + 1) * 16 ^ k ≤ ((u + 1) * 16) * 16 ^ k := Nat.mul_le_mul_right _ (by omega)
      have h4 : (u + 1) * 16 ^ (k + 1) = ((u + 1) * 16) * 16 ^ k := by rw [Nat.pow_succ, Nat.mul_assoc, Nat.mul_comm (16 ^ k) 16]
      omega
theorem hexN_in (s : ByteArray) : ∀ k p u v, hexN s (k + 1) p u = some v → p + k + 1 ≤ s.size := by
  intro k
  induction k with
  | zero =>
    intro p u v h
    cases ha : hexAt s p with
    | none => rw [hexN_none s 0 p u ha] at h; cases h
    | some d => unfold hexAt at ha; split at ha; omega; cases ha
  | succ k ih =>
    intro p u v h
    cases ha : hexAt s p with
    | none => rw [hexN_none s (k + 1) p u ha] at h; cases h
    | some d =>
      rw [hexN_some s (k + 1) p u d ha] at h
      have := ih _ _ _ h
      omega

def bitsV (s : ByteArray) (i : Nat) : Value :=
  match hexN s 16 (i + 1) 0 with
  | some u => if Flt.fin u = true then .tuple #[.agg #[.int .i64 (4), .string (⟨#[]⟩), .int .i64 (0), .float .f64 (u), .int .i64 (0)], .int .i64 0] else badV 22
  | none => badV 22

/-- Whether a token is told. -/
def okV : Value → Bool
  | .tuple #[_, .int .i64 e] => e == 0
  | _ => false

set_option maxHeartbeats 1000000 in
theorem bits_any (s : ByteArray) (i b : Nat) (hi : i < s.size) (h35 : bt s i = 35) (hs : s.size ≤ 65536) (w : World) (h : Sc w b s i) (hT : Lib.Utf8Tabs G1 G2 w) (hg : GB ≤ b) :
    Calls Tryd.prog 40 #[.pointer (some ⟨b, 0, none⟩)] w fun e w' => e = .returned (bitsV s i) ∧ But (· = b) w w' ∧ ∃ j, i ≤ j ∧ j ≤ s.size ∧ Sc w' b s j ∧ (okV (bitsV s i) = true → j = i + 17) := by
  have hlt := h.lt
  have GT1 : ∀ {w1 : World}, But (· = b) w w1 → Lib.Utf8Tabs G1 G2 w1 := fun hb => Utf8Tabs_but hT hb (fun e => by unfold GB at hg; unfold G1 at e; omega) (fun e => by unfold GB at hg; unfold G2 at e; omega)
  have cN := next_any s i b (by omega) hs (wbox w) (Duo.keep h (wbox_below w)) (GT1 (But.of_below (wbox_below w)))
  have hnx := nx_low hi (by omega)
  rw [hnx.1, hnx.2] at cN
  have cH := fun W h1 h2 => hex_any s (i + 1) b 16 (by omega) (by omega) hs W h1 h2 (by unfold GB at hg; unfold G1; omega) (by unfold GB at hg; unfold G2; omega)
  unfold bitsV
  obtain ⟨o, ho⟩ : ∃ o, hexN s 16 (i + 1) 0 = o := ⟨_, rfl⟩
  have hbd : o.getD 0 < 18446744073709551616 := by
    cases o with
    | none => simp
    | some v => have := hexN_lt s 16 (i + 1) 0 v ho; simpa using this
  rw [ho] at cH ⊢
  have cB := numBits_any (o.getD 0) hbd
  clear hnx h35 ho hT hbd
  cases o with
  | none =>
    simp only [Option.getD_none, Option.isSome_none] at cH cB ⊢
    have h0 : Flt.fin 0 = true := by decide
    have e0 : numBits 0 = ⟨2, 0, 0, 0⟩ := by simp [numBits, h0]
    simp only [e0] at cB
    go_enter Tryd.func40, Tryd.ntmps40
    go_wp2_with (first
      | (go_at_call 55; refine cN.mono ?_; rintro e w1 ⟨rfl, hs1, hb1⟩; have HS1 := hidb hs1; have HB1 := hidb ((But.of_below (wbox_below w)).trans hb1); have HX1 := hidb ((wbox_box w).but hb1 (by omega)))
      | (go_at_call 61; refine (cH _ HS1.out (GT1 HB1.out)).mono ?_; rintro e w2 ⟨rfl, hb2, j, hj1, hj2, hs2, hj3⟩; have HS2 := hidb hs2; have HB2 := hidb (HB1.out.trans hb2); have HX2 := hidb (HX1.out.but hb2 (by omega)); have HJ := hidb (And.intro hj1 (And.intro hj2 hj3)); clear hj1 hj2 hj3)
      | (go_at_call 62; refine (cB _).mono ?_; rintro e w3 ⟨rfl, hb3⟩; have HB3 := hidb hb3; obtain ⟨z0, z1, z2, z3, z4, y0, y1, y2, y3, y4, _⟩ := (HX2.out.keep hb3).alloc (.cells #[.int .i64 2, .int .i64 0, .float .f64 0, .string ⟨#[]⟩, .slice none 0 0] 44)))
    refine bodyPost_ret (v := badV 22) (by simp [results, Tryd.results40, go_sem, z0, z1, z2, z3, z4]) rfl ⟨rfl, ((HB2.out.trans (But.of_below HB3.out)).alloc _).set5 (fun h => absurd h (Nat.lt_irrefl _)) _ _ _ _ _, j, by have := HJ.out.1; omega, HJ.out.2.1, Duo.set5 ((Duo.keep HS2.out HB3.out).keep (below_new _ _)) (by omega) _ _ _ _ _, fun h => by cases h⟩
  | some u =>
    simp only [Option.getD_some, Option.isSome_some] at cH cB ⊢
    cases hf : Flt.fin u
    · have e0 : numBits u = ⟨0, 0, 0, 11⟩ := by simp [numBits, hf]
      simp only [e0] at cB
      simp only [Bool.false_eq_true, if_false]
      go_enter Tryd.func40, Tryd.ntmps40
      go_wp2_with (first
        | (go_at_call 55; refine cN.mono ?_; rintro e w1 ⟨rfl, hs1, hb1⟩; have HS1 := hidb hs1; have HB1 := hidb ((But.of_below (wbox_below w)).trans hb1); have HX1 := hidb ((wbox_box w).but hb1 (by omega)))
        | (go_at_call 61; refine (cH _ HS1.out (GT1 HB1.out)).mono ?_; rintro e w2 ⟨rfl, hb2, j, hj1, hj2, hs2, hj3⟩; have HS2 := hidb hs2; have HB2 := hidb (HB1.out.trans hb2); have HX2 := hidb (HX1.out.but hb2 (by omega)); have HJ := hidb (And.intro hj1 (And.intro hj2 hj3)); clear hj1 hj2 hj3)
        | (go_at_call 62; refine (cB _).mono ?_; rintro e w3 ⟨rfl, hb3⟩; have HB3 := hidb hb3; obtain ⟨z0, z1, z2, z3, z4, y0, y1, y2, y3, y4, _⟩ := (HX2.out.keep hb3).alloc (.cells #[.int .i64 0, .int .i64 0, .float .f64 0, .string ⟨#[]⟩, .slice none 0 0] 44)))
      refine bodyPost_ret (v := badV 22) (by simp [results, Tryd.results40, go_sem, z0, z1, z2, z3, z4]) rfl ⟨rfl, ((HB2.out.trans (But.of_below HB3.out)).alloc _).set5 (fun h => absurd h (Nat.lt_irrefl _)) _ _ _ _ _, j, by have := HJ.out.1; omega, HJ.out.2.1, Duo.set5 ((Duo.keep HS2.out HB3.out).keep (below_new _ _)) (by omega) _ _ _ _ _, fun h => by cases h⟩
    · have e0 : numBits u = ⟨2, 0, u, 0⟩ := by simp [numBits, hf]
      simp only [e0] at cB
      simp only [if_true]
      go_enter Tryd.func40, Tryd.ntmps40
      go_wp2_with (first
        | (go_at_call 55; refine cN.mono ?_; rintro e w1 ⟨rfl, hs1, hb1⟩; have HS1 := hidb hs1; have HB1 := hidb ((But.of_below (wbox_below w)).trans hb1); have HX1 := hidb ((wbox_box w).but hb1 (by omega)))
        | (go_at_call 61; refine (cH _ HS1.out (GT1 HB1.out)).mono ?_; rintro e w2 ⟨rfl, hb2, j, hj1, hj2, hs2, hj3⟩; have HS2 := hidb hs2; have HB2 := hidb (HB1.out.trans hb2); have HX2 := hidb (HX1.out.but hb2 (by omega)); have HJ := hidb (And.intro hj1 (And.intro hj2 hj3)); clear hj1 hj2 hj3)
        | (go_at_call 62; refine (cB _).mono ?_; rintro e w3 ⟨rfl, hb3⟩; have HB3 := hidb hb3; obtain ⟨z0, z1, z2, z3, z4, y0, y1, y2, y3, y4, _⟩ := (HX2.out.keep hb3).alloc (.cells #[.int .i64 2, .int .i64 0, .float .f64 u, .string ⟨#[]⟩, .slice none 0 0] 44)))
      refine bodyPost_ret (v := .tuple #[.agg #[.int .i64 (4), .string (⟨#[]⟩), .int .i64 (0), .float .f64 (u), .int .i64 (0)], .int .i64 0]) (by simp [results, Tryd.results40, go_sem, z0, z1, z2, z3, z4]) rfl ⟨rfl, ((HB2.out.trans (But.of_below HB3.out)).alloc _).set5 (fun h => absurd h (Nat.lt_irrefl _)) _ _ _ _ _, j, by have := HJ.out.1; omega, HJ.out.2.1, Duo.set5 ((Duo.keep HS2.out HB3.out).keep (below_new _ _)) (by omega) _ _ _ _ _, fun h => by have := HJ.out.2.2 trivial; omega⟩
end Go.Proofs.YtecgddiohoeboaaDoor
