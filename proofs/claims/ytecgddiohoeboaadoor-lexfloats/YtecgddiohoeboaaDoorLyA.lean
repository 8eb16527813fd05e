/- The reference's token, given its quoted. -/
import Derived.Test.YtecgddiohoeboaaDoorLy6
import Derived.Test.YtecgddiohoeboaaDoorLy2
import Derived.Test.YtecgddiohoeboaaDoorLy7
namespace Go.Proofs.YtecgddiohoeboaaDoor
open Go.RowKit Go.Lib
attribute [local go_sem] store_float f64bits
attribute [local go_sem ↓] Go.wp_at_zero Go.wp_at_succ

theorem kept_len (x : ByteArray) (h : kept x = true) : x.size ≤ 7 := by
  unfold kept at h
  obtain ⟨k, hk, he⟩ := List.any_eq_true.1 h
  have h7 : ∀ k ∈ keptL, k.length ≤ 7 := by decide
  have h1 := h7 k hk
  have h2 : x.data.toList = k := by simpa using he
  have h3 : x.data.toList.length = x.size := rfl
  rw [h2] at h3
  omega

set_option maxHeartbeats 1000000 in
theorem rtok_word (s : ByteArray) (p : Nat) (hp : p < s.size) (hs : s.size ≤ 65536) (hc : pSmall (bt s p) = true) (w : World) : Calls Tryd.prog 23 #[.string s, .int .i64 (p : Int)] w fun e w' => e = .returned (rV (wordV s p) p (goes pName s p)) ∧ Below w.heap.size w w' := by
  have hb := fun h => at_byte s p h
  have cW := rword_any s p (by omega) hs
  have hge := goes_ge pName s p
  have hle := goes_le pName s p (by omega)
  have hXs : (s.extract p (goes pName s p)).size = goes pName s p - p := by rw [size_ext]; omega
  unfold wordV
  obtain ⟨E, hE⟩ : ∃ E, goes pName s p = E := ⟨_, rfl⟩
  rw [hE] at cW hge hle hXs ⊢
  obtain ⟨X, hX⟩ : ∃ X, s.extract p E = X := ⟨_, rfl⟩
  rw [hX] at hXs ⊢
  obtain ⟨c, hcc⟩ : ∃ c, bt s p = c := ⟨_, rfl⟩
  rw [hcc] at hc
  simp only [hcc] at hb
  simp [pSmall] at hc
  have i0 : (0 : Int) ≤ (p : Int) := by omega
  have i1 : (p : Int) < (s.size : Int) := by omega
  have i2 : (97 : Int) ≤ (c : Int) := by omega
  have i3 : (c : Int) ≤ 122 := by omega
  have i4 : (p : Int) ≤ (E : Int) := by omega
  have i5 : (E : Int) ≤ (s.size : Int) := by omega
  have hkl := kept_len X
  have cK := refKept5_any X
  clear hE hcc
  have hXX := hidb hXs
  cases hk : kept X <;> rw [hk] at cK
  · by_cases h64 : 64 < X.size
    · have i6 : (64 : Int) < (X.size : Int) := by omega
      rw [if_neg (by simp), if_pos h64]
      show Calls _ _ _ _ fun e w' => e = .returned (rV (badV 23) p E) ∧ _
      rw [rV_bad 23 (by decide)]
      clear hXs hkl
      go_enter Tryd.func23, Tryd.ntmps23
      go_wp2_with (first | (go_at_call 43; refine (cW _).mono ?_; rintro e w' ⟨rfl, hw'⟩; obtain rfl := hw'.symm) | (go_at_call 14; refine (cK _).mono ?_; rintro e w' ⟨rfl, hw'⟩; obtain rfl := hw'.symm))
      exact bodyPost_ret (v := .tuple #[.agg #[.int .i64 (0), .string (⟨#[]⟩), .int .i64 (0), .float .f64 (0), .int .i64 (0)], .int .i64 0, .int .i64 23]) (by simp [results, Tryd.results23, go_sem]) rfl ⟨rfl, by (repeat (first | exact Below.refl _ _ | assumption | refine Below.drew ?_ | refine below_drewN ?_ _ | refine Below.setCell ?_ (by simp) _ | refine Below.alloc ?_ (by (first | exact Nat.le_refl _ | (simp; done) | (simp; omega) | omega)) _ | refine Below.trans ?_ (Below.mono (by assumption) (by first | exact Nat.le_refl _ | (simp; done) | (simp; omega) | omega))))⟩
    · have i6 : ¬ (64 : Int) < (X.size : Int) := by omega
      rw [if_neg (by simp), if_neg h64, rV_tk]
      clear hXs hkl
      go_enter Tryd.func23, Tryd.ntmps23
      go_wp2_with (first | (go_at_call 43; refine (cW _).mono ?_; rintro e w' ⟨rfl, hw'⟩; obtain rfl := hw'.symm) | (go_at_call 14; refine (cK _).mono ?_; rintro e w' ⟨rfl, hw'⟩; obtain rfl := hw'.symm))
      exact bodyPost_ret (v := .tuple #[.agg #[.int .i64 (1), .string (X), .int .i64 (0), .float .f64 (0), .int .i64 ((p : Int))], .int .i64 (E : Int), .int .i64 0]) (by simp [results, Tryd.results23, go_sem]) rfl ⟨rfl, by (repeat (first | exact Below.refl _ _ | assumption | refine Below.drew ?_ | refine below_drewN ?_ _ | refine Below.setCell ?_ (by simp) _ | refine Below.alloc ?_ (by (first | exact Nat.le_refl _ | (simp; done) | (simp; omega) | omega)) _ | refine Below.trans ?_ (Below.mono (by assumption) (by first | exact Nat.le_refl _ | (simp; done) | (simp; omega) | omega))))⟩
  · have h7 := hkl hk
    have i6 : ¬ (64 : Int) < (X.size : Int) := by omega
    rw [if_pos rfl, rV_tk]
    clear hXs hkl
    go_enter Tryd.func23, Tryd.ntmps23
    go_wp2_with (first | (go_at_call 43; refine (cW _).mono ?_; rintro e w' ⟨rfl, hw'⟩; obtain rfl := hw'.symm) | (go_at_call 14; refine (cK _).mono ?_; rintro e w' ⟨rfl, hw'⟩; obtain rfl := hw'.symm))
    exact bodyPost_ret (v := .tuple #[.agg #[.int .i64 (7), .string (X), .int .i64 (0), .float .f64 (0), .int .i64 ((p : Int))], .int .i64 (E : Int), .int .i64 0]) (by simp [results, Tryd.results23, go_sem]) rfl ⟨rfl, by (repeat (first | exact Below.refl _ _ | assumption | refine Below.drew ?_ | refine below_drewN ?_ _ | refine Below.setCell ?_ (by simp) _ | refine Below.alloc ?_ (by (first | exact Nat.le_refl _ | (simp; done) | (simp; omega) | omega)) _ | refine Below.trans ?_ (Below.mono (by assumption) (by first | exact Nat.le_refl _ | (simp; done) | (simp; omega) | omega))))⟩

set_option maxHeartbeats 1000000 in
theorem rtok_var (s : ByteArray) (p : Nat) (hp : p < s.size) (hs : s.size ≤ 65536) (hc : ¬ pSmall (bt s p) = true) (hd : pCapital (bt s p) = true ∨ bt s p = 95) (w : World) : Calls Tryd.prog 23 #[.string s, .int .i64 (p : Int)] w fun e w' => e = .returned (rV (varV s p) p (goes pName s p)) ∧ Below w.heap.size w w' := by
  have cW := rword_any s p (by omega) hs
  have hge := goes_ge pName s p
  have hle := goes_le pName s p (by omega)
  unfold varV
  obtain ⟨E, hE⟩ : ∃ E, goes pName s p = E := ⟨_, rfl⟩
  rw [hE] at cW hge hle ⊢
  obtain ⟨X, hX⟩ : ∃ X, s.extract p E = X := ⟨_, rfl⟩
  rw [hX, rV_tk]
  have hb := fun h => at_byte s p h
  obtain ⟨c, hcc⟩ : ∃ c, bt s p = c := ⟨_, rfl⟩
  rw [hcc] at hc hd
  simp only [hcc] at hb
  have i0 : (0 : Int) ≤ (p : Int) := by omega
  have i1 : (p : Int) < (s.size : Int) := by omega
  simp [pSmall] at hc
  simp [pCapital] at hd
  have i4 : (p : Int) ≤ (E : Int) := by omega
  have i5 : (E : Int) ≤ (s.size : Int) := by omega
  clear hE hcc
  rcases hd with ⟨hd1, hd2⟩ | rfl
  · have i2 : ¬ (97 : Int) ≤ (c : Int) := by omega
    have i3 : (65 : Int) ≤ (c : Int) := by omega
    have i6 : (c : Int) ≤ 90 := by omega
    go_enter Tryd.func23, Tryd.ntmps23
    go_wp2_with (first | (go_at_call 43; refine (cW _).mono ?_; rintro e w' ⟨rfl, hw'⟩; obtain rfl := hw'.symm))
    exact bodyPost_ret (v := .tuple #[.agg #[.int .i64 (2), .string (X), .int .i64 (0), .float .f64 (0), .int .i64 ((p : Int))], .int .i64 (E : Int), .int .i64 0]) (by simp [results, Tryd.results23, go_sem]) rfl ⟨rfl, by (repeat (first | exact Below.refl _ _ | assumption | refine Below.drew ?_ | refine below_drewN ?_ _ | refine Below.setCell ?_ (by simp) _ | refine Below.alloc ?_ (by (first | exact Nat.le_refl _ | (simp; done) | (simp; omega) | omega)) _ | refine Below.trans ?_ (Below.mono (by assumption) (by first | exact Nat.le_refl _ | (simp; done) | (simp; omega) | omega))))⟩
  · go_enter Tryd.func23, Tryd.ntmps23
    go_wp2_with (first | (go_at_call 43; refine (cW _).mono ?_; rintro e w' ⟨rfl, hw'⟩; obtain rfl := hw'.symm))
    exact bodyPost_ret (v := .tuple #[.agg #[.int .i64 (2), .string (X), .int .i64 (0), .float .f64 (0), .int .i64 ((p : Int))], .int .i64 (E : Int), .int .i64 0]) (by simp [results, Tryd.results23, go_sem]) rfl ⟨rfl, by (repeat (first | exact Below.refl _ _ | assumption | refine Below.drew ?_ | refine below_drewN ?_ _ | refine Below.setCell ?_ (by simp) _ | refine Below.alloc ?_ (by (first | exact Nat.le_refl _ | (simp; done) | (simp; omega) | omega)) _ | refine Below.trans ?_ (Below.mono (by assumption) (by first | exact Nat.le_refl _ | (simp; done) | (simp; omega) | omega))))⟩

/-- What the reference tells is three values. -/
theorem rV_form (v : Value) (h : IsTk v) (i E : Nat) : ∃ (k : Int) (x : ByteArray) (n : Int) (f : Nat) (q : Int) (e er : Int), rV v i E = .tuple #[.agg #[.int .i64 (k), .string (x), .int .i64 (n), .float .f64 (f), .int .i64 (q)], .int .i64 e, .int .i64 er] := by
  obtain ⟨k, x, n, f, er, rfl⟩ := h
  by_cases he : er = 0
  · subst he; exact ⟨_, _, _, _, _, _, _, rV_tk k x n f i E⟩
  · exact ⟨_, _, _, _, _, _, _, rV_err k x n f er he i E⟩

set_option maxHeartbeats 1000000 in
theorem rtok_num (s : ByteArray) (p : Nat) (hp : p < s.size) (hs : s.size ≤ 65536) (hd : pDigit (bt s p) = true) (w : World) : Calls Tryd.prog 23 #[.string s, .int .i64 (p : Int)] w fun e w' => e = .returned (rV (numV s p) p (fracEnd s (goes pDigit s p))) ∧ Below w.heap.size w w' := by
  have cN := rnumber_any s p hp hd hs (wbox w)
  have cD := rdigit_any (bt s p)
  rw [hd] at cD
  obtain ⟨k, x, n, f, q, e, er, hV⟩ := rV_form (numV s p) (numV_tk s p) p (fracEnd s (goes pDigit s p))
  rw [hV] at cN ⊢
  have hb := fun h => at_byte s p h
  obtain ⟨c, hcc⟩ : ∃ c, bt s p = c := ⟨_, rfl⟩
  rw [hcc] at hd cD
  simp only [hcc] at hb
  have i0 : (0 : Int) ≤ (p : Int) := by omega
  have i1 : (p : Int) < (s.size : Int) := by omega
  simp [pDigit] at hd
  have i2 : ¬ (97 : Int) ≤ (c : Int) := by omega
  have i3 : ¬ (65 : Int) ≤ (c : Int) := by omega
  have i7 : ((c : Int) == 95) = false := by simp; omega
  clear hcc hV
  go_enter Tryd.func23, Tryd.ntmps23
  go_wp2_with (first | (go_at_call 44; refine (cD _).mono ?_; rintro e w' ⟨rfl, hw'⟩; obtain rfl := hw'.symm) | (go_at_call 45; refine cN.mono ?_; rintro e w1 ⟨rfl, hb1⟩; have HB1 := hidb hb1; obtain ⟨z0, z1, z2, z3, z4, y0, y1, y2, y3, y4, _⟩ := (wbox_box w).keep hb1))
  exact bodyPost_ret (v := .tuple #[.agg #[.int .i64 (k), .string (x), .int .i64 (n), .float .f64 (f), .int .i64 (q)], .int .i64 e, .int .i64 er]) (by simp [results, Tryd.results23, go_sem, z0, z1, z2, z3, z4]) rfl ⟨rfl, below_set5 ((wbox_below w).trans (HB1.out.mono (wbox_below w).size)) (Nat.le_refl _) _ _ _ _ _⟩

set_option maxHeartbeats 1000000 in
theorem rtok_bits (s : ByteArray) (p : Nat) (hp : p < s.size) (hs : s.size ≤ 65536) (hf : bt s p = 35) (w : World) : Calls Tryd.prog 23 #[.string s, .int .i64 (p : Int)] w fun e w' => e = .returned (rV (bitsV s p) p (p + 17)) ∧ Below w.heap.size w w' := by
  have cN := rbits_any s p hp hs (wbox w)
  have cD := rdigit_any 35
  rw [show pDigit 35 = false from rfl] at cD
  obtain ⟨k, x, n, f, q, e, er, hV⟩ := rV_form (bitsV s p) (bitsV_tk s p) p (p + 17)
  rw [hV] at cN ⊢
  have hb : ∀ h, (s[p]'h).toNat = 35 := fun h => by rw [at_byte, hf]
  have i0 : (0 : Int) ≤ (p : Int) := by omega
  have i1 : (p : Int) < (s.size : Int) := by omega
  clear hV hf
  go_enter Tryd.func23, Tryd.ntmps23
  go_wp2_with (first | (go_at_call 44; refine (cD _).mono ?_; rintro e w' ⟨rfl, hw'⟩; obtain rfl := hw'.symm) | (go_at_call 46; refine cN.mono ?_; rintro e w1 ⟨rfl, hb1⟩; have HB1 := hidb hb1; obtain ⟨z0, z1, z2, z3, z4, y0, y1, y2, y3, y4, _⟩ := (wbox_box w).keep hb1))
  exact bodyPost_ret (v := .tuple #[.agg #[.int .i64 (k), .string (x), .int .i64 (n), .float .f64 (f), .int .i64 (q)], .int .i64 e, .int .i64 er]) (by simp [results, Tryd.results23, go_sem, z0, z1, z2, z3, z4]) rfl ⟨rfl, below_set5 ((wbox_below w).trans (HB1.out.mono (wbox_below w).size)) (Nat.le_refl _) _ _ _ _ _⟩

set_option maxHeartbeats 1000000 in
theorem rtok_sign (s : ByteArray) (p : Nat) (hp : p < s.size) (hs : s.size ≤ 65536) (hc : ¬ pSmall (bt s p) = true) (hd : ¬ (pCapital (bt s p) = true ∨ bt s p = 95)) (he : ¬ pDigit (bt s p) = true) (hf : ¬ bt s p = 35) (hq : ¬ (bt s p = 39 ∨ bt s p = 34)) (w : World) : Calls Tryd.prog 23 #[.string s, .int .i64 (p : Int)] w fun e w' => e = .returned (rV (sgV (signAt s p)) p (p + sgN (signAt s p))) ∧ Below w.heap.size w w' := by
  have cS := rsign_any s p (by omega) hs (wbox w)
  have cD := rdigit_any (bt s p)
  have he' : pDigit (bt s p) = false := by simpa using he
  rw [he'] at cD
  have hin := sign_in s p (by omega)
  have hbl := bt_lt s p
  have hb := fun h => at_byte s p h
  obtain ⟨c, hcc⟩ : ∃ c, bt s p = c := ⟨_, rfl⟩
  rw [hcc] at hc hd cD hf hq hbl
  simp only [hcc] at hb
  have i0 : (0 : Int) ≤ (p : Int) := by omega
  have i1 : (p : Int) < (s.size : Int) := by omega
  have e35 : ((c : Int) == 35) = false := by simp; omega
  have e39 : ((c : Int) == 39) = false := by simp; omega
  have e34 : ((c : Int) == 34) = false := by simp; omega
  have e95 : ((c : Int) == 95) = false := by simp; omega
  have hss : decide ((97 : Int) ≤ (c : Int)) = false ∨ (decide ((97 : Int) ≤ (c : Int)) = true ∧ decide ((c : Int) ≤ 122) = false) := by
    simp [pSmall] at hc
    by_cases h : (97 : Int) ≤ (c : Int)
    · right; simp; omega
    · left; simp; omega
  have hcs : decide ((65 : Int) ≤ (c : Int)) = false ∨ (decide ((65 : Int) ≤ (c : Int)) = true ∧ decide ((c : Int) ≤ 90) = false) := by
    have := (not_or.1 hd).1
    simp [pCapital] at this
    by_cases h : (65 : Int) ≤ (c : Int)
    · right; simp; omega
    · left; simp; omega
  clear hc hd he he' hf hq hcc
  cases ho : signAt s p with
  | none =>
    rw [ho] at cS
    show Calls _ _ _ _ fun e w' => e = .returned (rV (badV 21) p _) ∧ _
    rw [rV_bad 21 (by decide)]
    have k1 : (([] : List UInt8) == []) = true := rfl
    rcases hss with s1 | ⟨s1, s2⟩ <;> rcases hcs with t1 | ⟨t1, t2⟩
    all_goals (go_enter Tryd.func23, Tryd.ntmps23)
    all_goals (go_wp2_with (first | (go_at_call 44; refine (cD _).mono ?_; rintro e w' ⟨rfl, hw'⟩; obtain rfl := hw'.symm) | (go_at_call 48; refine cS.mono ?_; rintro e w1 ⟨rfl, hb1⟩; have HB1 := hidb hb1; simp only [sgS]; obtain ⟨z0, z1, z2, z3, z4, y0, y1, y2, y3, y4, _⟩ := (wbox_box w).keep hb1)))
    all_goals exact bodyPost_ret (v := .tuple #[.agg #[.int .i64 (0), .string (⟨#[]⟩), .int .i64 (0), .float .f64 (0), .int .i64 (0)], .int .i64 0, .int .i64 21]) (by simp [results, Tryd.results23, go_sem, z0, z1, z2, z3, z4]) rfl ⟨rfl, below_set5 ((wbox_below w).trans (HB1.out.mono (wbox_below w).size)) (Nat.le_refl _) _ _ _ _ _⟩
  | some l =>
    rw [ho] at cS
    obtain ⟨hl1, hl2⟩ := hin l ho
    show Calls _ _ _ _ fun e w' => e = .returned (rV (.tuple #[.agg #[.int .i64 (6), .string (⟨l.toArray⟩), .int .i64 (0), .float .f64 (0), .int .i64 (0)], .int .i64 0]) p (p + l.length)) ∧ _
    rw [rV_tk]
    simp only [sgS] at cS
    obtain ⟨X, hX⟩ : ∃ X, (⟨l.toArray⟩ : ByteArray) = X := ⟨_, rfl⟩
    have hXs : X.size = l.length := by rw [← hX]; rfl
    have hXn := str_nil X
    rw [hX] at cS ⊢
    rw [← hXs] at hl1 hl2 ⊢
    have hn0 : decide (X.size = 0) = false := by rw [decide_eq_false_iff_not]; omega
    rw [hn0] at hXn
    have hwr : (p : Int) + (X.size : Int) ≤ 65536 := by omega
    clear hX hXs hn0
    rcases hss with s1 | ⟨s1, s2⟩ <;> rcases hcs with t1 | ⟨t1, t2⟩
    all_goals (go_enter Tryd.func23, Tryd.ntmps23)
    all_goals (go_wp2_with (first | (go_at_call 44; refine (cD _).mono ?_; rintro e w' ⟨rfl, hw'⟩; obtain rfl := hw'.symm) | (go_at_call 48; refine cS.mono ?_; rintro e w1 ⟨rfl, hb1⟩; have HB1 := hidb hb1; obtain ⟨z0, z1, z2, z3, z4, y0, y1, y2, y3, y4, _⟩ := (wbox_box w).keep hb1)))
    all_goals exact bodyPost_ret (v := .tuple #[.agg #[.int .i64 (6), .string (X), .int .i64 (0), .float .f64 (0), .int .i64 ((p : Int))], .int .i64 ((p + X.size : Nat) : Int), .int .i64 0]) (by simp [results, Tryd.results23, go_sem, z0, z1, z2, z3, z4]) rfl ⟨rfl, below_set5 ((wbox_below w).trans (HB1.out.mono (wbox_below w).size)) (Nat.le_refl _) _ _ _ _ _⟩
end Go.Proofs.YtecgddiohoeboaaDoor
