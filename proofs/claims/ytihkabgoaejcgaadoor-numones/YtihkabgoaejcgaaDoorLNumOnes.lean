/- Both Wholes, both Negs, Abses, Reals tell the same; the walk of NumOnes: it returns true, and nothing that was there has turned. -/
import Derived.Test.YtihkabgoaejcgaaDoorV6
import Derived.Test.YtihkabgoaejcgaaDoorLNumOnes0
namespace Go.Proofs.YtihkabgoaejcgaaDoor
open Go.RowKit Ieee

theorem U_const (s : Bool) (k : Nat) (hk : k ≤ 100) (c : Nat) (C : Int) (hc : double.word s ((1074 + k) * 4503599627370496 + 4503599627370496) = c) (hC : signed s (4503599627370496 * 2 ^ k) 0 = C) : Flt.U c = C * Flt.P ∧ Flt.fin c = true ∧ c < 18446744073709551616 := by
  obtain ⟨u, f, l⟩ := Flt.U_rung s (a := 1074 + k) (m := 4503599627370496) (by omega) (by omega) (by omega)
  rw [hc] at u f l
  refine ⟨?_, f, l⟩
  rw [u, ← hC, ← Flt.signed_P]
  generalize hK : (1074 : Nat) = K
  unfold signed
  rw [Nat.shiftLeft_eq, Nat.shiftLeft_eq, Nat.mul_assoc, ← Nat.pow_add, Nat.add_comm]

theorem k60 : Flt.U 4877398396442247168 = 1152921504606846976 * Flt.P ∧ Flt.fin 4877398396442247168 = true ∧ 4877398396442247168 < 18446744073709551616 :=
  U_const false 8 (by omega) 4877398396442247168 1152921504606846976 (by rw [Flt.word_val]; decide) (by decide)
theorem k60n : Flt.U 14100770433297022976 = (-1152921504606846976) * Flt.P ∧ Flt.fin 14100770433297022976 = true ∧ 14100770433297022976 < 18446744073709551616 :=
  U_const true 8 (by omega) 14100770433297022976 (-1152921504606846976) (by rw [Flt.word_val]; decide) (by decide)

theorem ord_at {x c : Nat} (hx : x < 18446744073709551616) (fx : Flt.fin x = true) (hc : c < 18446744073709551616) (fc : Flt.fin c = true) : FloatKind.f64.format.order x c = some (compare (Flt.U x) (Flt.U c)) := Flt.order_U hx hc fx fc

/-- what the two of a pair tell -/
def Pair (A : Array Value) (fn fr : Nat) : Prop := ∃ (r : R) (s : ByteArray) (a : Option Addr) (c : Nat), s.toList.isEmpty = true ∧
  (∀ w, Calls Tryd.prog fn A w fun e w' => e = .returned (.tuple #[.agg #[.int .i64 (r.k), .int .i64 (r.n), .float .f64 (r.f), .string ⟨#[]⟩, .slice none 0 0], .int .i64 r.e]) ∧ Below w.heap.size w w') ∧
  (∀ w, Calls Tryd.prog fr A w fun e w' => e = .returned (.tuple #[.agg #[.int .i64 r.k, .int .i64 r.n, .float .f64 r.f, .string s, .slice a 0 c], .int .i64 r.e]) ∧ Below w.heap.size w w')

theorem right_parts {k n : Int} {f : Nat} {s : ByteArray} {l : Nat} (h : rightB k n f s l = true) : s.toList.isEmpty = true ∧ l = 0 ∧ ((k = 1 ∧ whB n = true ∧ f = 0) ∨ (k = 2 ∧ n = 0 ∧ Flt.fin f = true)) := by
  simp only [rightB, Bool.and_eq_true, Bool.or_eq_true, beq_iff_eq] at h
  obtain ⟨⟨h1, hs⟩, hl⟩ := h
  refine ⟨hs, hl, ?_⟩
  rcases h1 with ⟨⟨a, b⟩, c⟩ | ⟨⟨a, b⟩, c⟩
  · exact Or.inl ⟨a, b, c⟩
  · exact Or.inr ⟨a, b, c⟩

theorem empty_none : (⟨#[]⟩ : ByteArray).toList.isEmpty = true := by rw [ByteArray.toList_eq]; rfl

theorem fin4 : ∀ i : Fin 4, i = 0 ∨ i = 1 ∨ i = 2 ∨ i = 3 := by decide

theorem numInt_whB {v : Int} (h : whB v = true) : numInt v = ⟨1, v, 0, 0⟩ := by simp [numInt, h]

theorem neg_pair (k n : Int) (f : Nat) (s : ByteArray) (a : Option Addr) (l c : Nat) (hf : f < 18446744073709551616) : Pair #[.agg #[.int .i64 k, .int .i64 n, .float .f64 f, .string s, .slice a l c]] 19 20 := by
  cases h : rightB k n f s l
  · exact ⟨⟨0, 0, 0, 11⟩, ⟨#[]⟩, none, 0, empty_none, neg_no k n f s a l c hf h, rneg_no k n f s a l c h⟩
  · obtain ⟨_, _, ⟨rfl, hw, rfl⟩ | ⟨rfl, rfl, hff⟩⟩ := right_parts h
    · obtain ⟨b1, b2⟩ := whB_yes hw
      exact ⟨numInt (-n), ⟨#[]⟩, none, 0, empty_none, neg_1 n 0 s a l c hf h hw, rneg_1 n 0 s a l c h b1 b2⟩
    · have x := Flt.U_xor hf hff
      have := neg_2 0 f s a l c hf h
      rw [show numBits (f ^^^ 9223372036854775808) = ⟨2, 0, f ^^^ 9223372036854775808, 0⟩ by simp [numBits, x.2.1]] at this
      exact ⟨⟨2, 0, f ^^^ 9223372036854775808, 0⟩, ⟨#[]⟩, none, 0, empty_none, this, rneg_2 0 f s a l c h _ rfl hf⟩

theorem abs_pair (k n : Int) (f : Nat) (s : ByteArray) (a : Option Addr) (l c : Nat) (hf : f < 18446744073709551616) : Pair #[.agg #[.int .i64 k, .int .i64 n, .float .f64 f, .string s, .slice a l c]] 21 22 := by
  cases h : rightB k n f s l
  · exact ⟨⟨0, 0, 0, 11⟩, ⟨#[]⟩, none, 0, empty_none, abs_no k n f s a l c hf h, rabs_no k n f s a l c h⟩
  · obtain ⟨hs, rfl, ⟨rfl, hw, rfl⟩ | ⟨rfl, rfl, hff⟩⟩ := right_parts h
    · obtain ⟨b1, b2⟩ := whB_yes hw
      rcases Int.lt_or_le n 0 with hn | hn
      · exact ⟨numInt (-n), ⟨#[]⟩, none, 0, empty_none, abs_1n n 0 s a 0 c hf h hw hn, rabs_1n n 0 s a 0 c h b1 hn⟩
      · have := abs_1p n 0 s a 0 c hf h hw hn
        rw [numInt_whB hw] at this
        exact ⟨⟨1, n, 0, 0⟩, s, a, c, hs, this, rabs_1p n 0 s a 0 c h hn⟩
    · have hfm : Flt.fin (f % 9223372036854775808) = true := by
        simp only [Flt.fin, decide_eq_true_eq] at hff ⊢
        omega
      have := abs_2 0 f _ rfl s a 0 c hf h
      rw [show numBits (f % 9223372036854775808) = ⟨2, 0, f % 9223372036854775808, 0⟩ by simp [numBits, hfm]] at this
      rcases Nat.lt_or_ge f 9223372036854775808 with hn | hn
      · rw [Nat.mod_eq_of_lt hn] at this
        exact ⟨⟨2, 0, f, 0⟩, s, a, c, hs, this, rabs_2p 0 f s a 0 c h (by omega)⟩
      · have hx : f ^^^ 9223372036854775808 = f % 9223372036854775808 := by rw [Flt.xor_top_val hf, if_pos hn]; omega
        exact ⟨⟨2, 0, f % 9223372036854775808, 0⟩, ⟨#[]⟩, none, 0, empty_none, this, rabs_2n 0 f s a 0 c h (by omega) _ hx hf⟩

theorem real_pair (k n : Int) (f : Nat) (s : ByteArray) (a : Option Addr) (l c : Nat) (hf : f < 18446744073709551616) : Pair #[.agg #[.int .i64 k, .int .i64 n, .float .f64 f, .string s, .slice a l c]] 23 24 := by
  cases h : rightB k n f s l
  · exact ⟨⟨0, 0, 0, 13⟩, ⟨#[]⟩, none, 0, empty_none, real_no k n f s a l c hf h, rreal_no k n f s a l c h⟩
  · have := real_yes k n f s a l c hf h
    obtain ⟨_, _, ⟨rfl, hw, rfl⟩ | ⟨rfl, rfl, hff⟩⟩ := right_parts h
    · obtain ⟨b1, b2⟩ := whB_yes hw
      have hfin : Flt.fin (floatOfInt .f64 n) = true := by rw [foi]; exact Flt.near_fin _ (by omega)
      rw [show realV 1 n 0 = floatOfInt .f64 n from rfl, show numBits (floatOfInt .f64 n) = ⟨2, 0, floatOfInt .f64 n, 0⟩ by simp [numBits, hfin]] at this
      exact ⟨⟨2, 0, floatOfInt .f64 n, 0⟩, ⟨#[]⟩, none, 0, empty_none, this, rreal_1 n 0 s a l c h (by omega) (by omega)⟩
    · rw [show realV 2 0 f = f from rfl, show numBits f = ⟨2, 0, f, 0⟩ by simp [numBits, hff]] at this
      exact ⟨⟨2, 0, f, 0⟩, ⟨#[]⟩, none, 0, empty_none, this, rreal_2 0 f s a l c h⟩

theorem whole_flt_pair (i : Fin 4) (x : Nat) (s : ByteArray) (a : Option Addr) (l c : Nat) (hx : x < 18446744073709551616) (h : rightB 2 0 x s l = true) (hf : Flt.fin x = true) :
    Pair #[.string (way i), .agg #[.int .i64 2, .int .i64 0, .float .f64 x, .string s, .slice a l c]] 25 26 := by
  obtain ⟨z, v, mk, wf, L, hR, hT, b2, b4⟩ := ways hx hf
  have hn := whole_flt (way i) 0 (v i) x (z i) s a l c hx h (mk i) (isWay_at i) (wf i)
  have hP := Flt.P_pos
  have o1 := ord_at hx hf k60.2.2 k60.2.1
  have o2 := ord_at hx hf k60n.2.2 k60n.2.1
  rw [k60.1] at o1
  rw [k60n.1] at o2
  have m1 : (-1152921504606846976) * Flt.P = -(1152921504606846976 * Flt.P) := Int.neg_mul _ _
  have x1 := L.fc
  have x2 := L.cf
  have x3 := L.ft
  have x4 := L.tc
  have x5 := L.rr
  have vall : v 1 ≤ v i ∧ v i ≤ v 2 := by
    rcases fin4 i with rfl | rfl | rfl | rfl
    · exact ⟨x3, x4⟩
    · exact ⟨Int.le_refl _, x1⟩
    · exact ⟨x1, Int.le_refl _⟩
    · exact ⟨by omega, by omega⟩
  by_cases hhi : 1152921504606846976 * Flt.P ≤ Flt.U x
  · have hv : 1152921504606846976 ≤ v 1 := by
      have : 1152921504606846976 * Flt.P < (v 1 + 1) * Flt.P := by omega
      have := Flt.ltP this
      omega
    rw [numInt_not (by omega)] at hn
    have o : FloatKind.f64.format.order x 4877398396442247168 = some .gt ∨ FloatKind.f64.format.order x 4877398396442247168 = some .eq := by
      rcases Int.lt_or_eq_of_le hhi with h' | h'
      · rw [Int.compare_eq_gt.2 h'] at o1; exact Or.inl o1
      · rw [Int.compare_eq_eq.2 h'.symm] at o1; exact Or.inr o1
    refine ⟨⟨0, 0, 0, 12⟩, ⟨#[]⟩, none, 0, empty_none, hn, ?_⟩
    rcases fin4 i with rfl | rfl | rfl | rfl
    · exact rwhole_hi0 0 x s a l c h o
    · exact rwhole_hi1 0 x s a l c h o
    · exact rwhole_hi2 0 x s a l c h o
    · exact rwhole_hi3 0 x s a l c h o
  · rw [Int.compare_eq_lt.2 (by omega)] at o1
    by_cases hlo : Flt.U x ≤ (-1152921504606846976) * Flt.P
    · have hv : v 2 ≤ -1152921504606846976 := by
        have : (v 2 - 1) * Flt.P < (-1152921504606846976) * Flt.P := by omega
        have := Flt.ltP this
        omega
      rw [numInt_not (by omega)] at hn
      have o : FloatKind.f64.format.order x 14100770433297022976 = some .lt ∨ FloatKind.f64.format.order x 14100770433297022976 = some .eq := by
        rcases Int.lt_or_eq_of_le hlo with h' | h'
        · rw [Int.compare_eq_lt.2 h'] at o2; exact Or.inl o2
        · rw [Int.compare_eq_eq.2 h'] at o2; exact Or.inr o2
      refine ⟨⟨0, 0, 0, 12⟩, ⟨#[]⟩, none, 0, empty_none, hn, ?_⟩
      rcases fin4 i with rfl | rfl | rfl | rfl
      · exact rwhole_lo0 0 x s a l c h o1 o
      · exact rwhole_lo1 0 x s a l c h o1 o
      · exact rwhole_lo2 0 x s a l c h o1 o
      · exact rwhole_lo3 0 x s a l c h o1 o
    · rw [Int.compare_eq_gt.2 (by omega)] at o2
      have t2 : v 0 ≤ 1152921504606846976 := by
        have h1 : (v 2 - 1) * Flt.P < 1152921504606846976 * Flt.P := by omega
        have := Flt.ltP h1
        omega
      have t1 : -1152921504606846976 ≤ v 0 := by
        have h1 : (-1152921504606846976) * Flt.P < (v 1 + 1) * Flt.P := by omega
        have := Flt.ltP h1
        omega
      obtain ⟨q, p, hq, hp, pl, pf, pU⟩ := Flt.frac_of hx hf hT
      have c0 := cv_int hT (by omega) (by omega)
      obtain ⟨f1, f2, c1, c2, r1, r2, r3⟩ := Flt.by_parts L b2 b4 hR
      have oz := ord_at pl pf (c := 0) (by decide) (by decide)
      rw [Flt.U_zero, pU] at oz
      refine ⟨numInt (v i), ⟨#[]⟩, none, 0, empty_none, hn, ?_⟩
      rcases fin4 i with rfl | rfl | rfl | rfl
      · exact rwhole_in0 0 x s a l c h q p (v 0) t1 t2 o1 o2 c0 hq hp
      · skip
        rcases Int.lt_trichotomy (Flt.U x - v 0 * Flt.P) 0 with hh | hh | hh
        · rw [Int.compare_eq_lt.2 hh] at oz
          rw [f1 hh]
          exact rwhole_in1lt 0 x s a l c h q p (v 0) t1 t2 o1 o2 c0 hq hp oz
        · rw [Int.compare_eq_eq.2 hh] at oz
          rw [f2 (by omega)]
          exact rwhole_in1eq 0 x s a l c h q p (v 0) t1 t2 o1 o2 c0 hq hp oz
        · rw [Int.compare_eq_gt.2 hh] at oz
          rw [f2 (by omega)]
          exact rwhole_in1gt 0 x s a l c h q p (v 0) t1 t2 o1 o2 c0 hq hp oz
      · skip
        rcases Int.lt_trichotomy (Flt.U x - v 0 * Flt.P) 0 with hh | hh | hh
        · rw [Int.compare_eq_lt.2 hh] at oz
          rw [c2 (by omega)]
          exact rwhole_in2lt 0 x s a l c h q p (v 0) t1 t2 o1 o2 c0 hq hp oz
        · rw [Int.compare_eq_eq.2 hh] at oz
          rw [c2 (by omega)]
          exact rwhole_in2eq 0 x s a l c h q p (v 0) t1 t2 o1 o2 c0 hq hp oz
        · rw [Int.compare_eq_gt.2 hh] at oz
          rw [c1 hh]
          exact rwhole_in2gt 0 x s a l c h q p (v 0) t1 t2 o1 o2 c0 hq hp oz
      · skip
        have oh := ord_at pl pf (c := 4602678819172646912) (by decide) Flt.U_half.2
        have on := ord_at pl pf (c := 13826050856027422720) (by decide) Flt.U_half_neg.2
        have u1 := Flt.U_half.1
        have u2 := Flt.U_half_neg.1
        rw [pU] at oh on
        generalize Flt.U 4602678819172646912 = H1 at *
        generalize Flt.U 13826050856027422720 = H2 at *
        rcases Int.lt_trichotomy (Flt.U x - v 0 * Flt.P) H1 with hh | hh | hh
        · rw [Int.compare_eq_lt.2 hh] at oh
          rcases Int.lt_trichotomy (Flt.U x - v 0 * Flt.P) H2 with h3 | h3 | h3
          · rw [Int.compare_eq_lt.2 h3] at on
            rw [r2 (by omega)]
            exact rwhole_in3lt 0 x s a l c h q p (v 0) t1 t2 o1 o2 c0 hq hp oh on
          · rw [Int.compare_eq_eq.2 h3] at on
            rw [r2 (by omega)]
            exact rwhole_in3leq 0 x s a l c h q p (v 0) t1 t2 o1 o2 c0 hq hp oh on
          · rw [Int.compare_eq_gt.2 h3] at on
            rw [r3 (by omega) (by omega)]
            exact rwhole_in3mid 0 x s a l c h q p (v 0) t1 t2 o1 o2 c0 hq hp oh on
        · rw [Int.compare_eq_eq.2 hh] at oh
          rw [Int.compare_eq_gt.2 (by omega)] at on
          rw [r1 (by omega)]
          exact rwhole_in3eq 0 x s a l c h q p (v 0) t1 t2 o1 o2 c0 hq hp oh on
        · rw [Int.compare_eq_gt.2 hh] at oh
          rw [Int.compare_eq_gt.2 (by omega)] at on
          rw [r1 (by omega)]
          exact rwhole_in3gt 0 x s a l c h q p (v 0) t1 t2 o1 o2 c0 hq hp oh on

theorem whole_pair (how : ByteArray) (k n : Int) (f : Nat) (s : ByteArray) (a : Option Addr) (l c : Nat) (hf : f < 18446744073709551616) : Pair #[.string how, .agg #[.int .i64 k, .int .i64 n, .float .f64 f, .string s, .slice a l c]] 25 26 := by
  rcases way_or how with ⟨i, rfl⟩ | ⟨h1, h2, h3, h4⟩
  · cases h : rightB k n f s l
    · refine ⟨⟨0, 0, 0, 13⟩, ⟨#[]⟩, none, 0, empty_none, whole_b2 _ k n f s a l c hf h (isWay_at i), ?_⟩
      rcases fin4 i with rfl | rfl | rfl | rfl
      · exact rwhole_no0 k n f s a l c h
      · exact rwhole_no1 k n f s a l c h
      · exact rwhole_no2 k n f s a l c h
      · exact rwhole_no3 k n f s a l c h
    · obtain ⟨hs, rfl, ⟨rfl, hw, rfl⟩ | ⟨rfl, rfl, hff⟩⟩ := right_parts h
      · have := whole_int (way i) n 0 s a 0 c hf h (isWay_at i)
        rw [numInt_whB hw] at this
        refine ⟨⟨1, n, 0, 0⟩, s, a, c, hs, this, ?_⟩
        rcases fin4 i with rfl | rfl | rfl | rfl
        · exact rwhole_int0 n 0 s a 0 c h
        · exact rwhole_int1 n 0 s a 0 c h
        · exact rwhole_int2 n 0 s a 0 c h
        · exact rwhole_int3 n 0 s a 0 c h
      · exact whole_flt_pair i f s a 0 c hf h hff
  · have iw := isWay_not how h1 h2 h3 h4
    refine ⟨⟨0, 0, 0, 13⟩, ⟨#[]⟩, none, 0, empty_none, ?_, rwhole_bad how k n f s a l c h1 h2 h3 h4⟩
    cases h : rightB k n f s l
    · exact whole_b1 how k n f s a l c hf h iw
    · exact whole_b0 how k n f s a l c hf h iw

theorem numOnes_any (k n : Int) (f : Nat) (s : ByteArray) (a : Option Addr) (l c : Nat) (how : ByteArray) (hf : f < 18446744073709551616) (w : World) (ht : w.cell? ⟨4, 15, none⟩ = some (.int .u8 4)) :
    Calls Tryd.prog 5 #[.agg #[.int .i64 k, .int .i64 n, .float .f64 f, .string s, .slice a l c], .string how] w fun e w' => e = .returned (.bool true) ∧ Below w.heap.size w w' := by
  obtain ⟨R1, s1, a1, c1, e1, N1, M1⟩ := neg_pair k n f s a l c hf
  obtain ⟨R2, s2, a2, c2, e2, N2, M2⟩ := abs_pair k n f s a l c hf
  obtain ⟨R3, s3, a3, c3, e3, N3, M3⟩ := real_pair k n f s a l c hf
  obtain ⟨R4, s4, a4, c4, e4, N4, M4⟩ := whole_pair how k n f s a l c hf
  exact ones_walk k n f s a l c how R1 s1 a1 c1 e1 N1 M1 R2 s2 a2 c2 e2 N2 M2 R3 s3 a3 c3 e3 N3 M3 R4 s4 a4 c4 e4 N4 M4 w ht
end Go.Proofs.YtihkabgoaejcgaaDoor
