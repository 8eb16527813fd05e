import Derived.Test.YtecgddiohoeboaaDoorLy6
import Derived.Test.YtecgddiohoeboaaDoorG14
import Derived.Test.YtecgddiohoeboaaDoorG13
import Derived.Test.YtecgddiohoeboaaDoorG12
import Derived.BigQuiet
/- The reference's token, given its quoted. -/
namespace Go.Proofs.YtecgddiohoeboaaDoor
open Go.RowKit Go.Lib
attribute [local go_sem] store_float f64bits
attribute [local go_sem ↓] Go.wp_at_zero Go.wp_at_succ

theorem kept_len (x : ByteArray) (h : kept x = true) : x.size ≤ 7 := by
  unfold kept at h
  obtain ⟨k, hk, he⟩ := List.any_eq_true.1 h
  have h7 : ∀ k ∈ keptL, k.length ≤ 7 := by decide
  have h1 := h7 k hk
  have h2 : x.data.toList = k := by simpa using he
  have h3 : x.data.toList.length = x.size := rfl
  rw [h2] at h3
  omega

set_option maxHeartbeats 1000000 in
theorem rtok_word (s : ByteArray) (p : Nat) (hp : p < s.size) (hs : s.size ≤ 65536) (hc : pSmall (bt s p) = true) (w : World) : Calls Tryd.prog 23 #[.string s, .int .i64 (p : Int)] w fun e w' => e = .returned (rV (wordV s p) p (goes pName s p)) ∧ Below w.heap.size w w' := by
  have hb := fun h => at_byte s p h
  have cW := rword_any s p (by omega) hs
  have hge := goes_ge pName s p
  have hle := goes_le pName s p (by omega)
  have hXs : (s.extract p (goes pName s p)).size = goes pName s p - p := by rw [size_ext]; omega
  unfold wordV
  obtain ⟨E, hE⟩ : ∃ E, goes pName s p = E := ⟨_, rfl⟩
  rw [hE] at cW hge hle hXs ⊢
  obtain ⟨X, hX⟩ : ∃ X, s.extract p E = X := ⟨_, rfl⟩
  rw [hX] at hXs ⊢
  obtain ⟨c, hcc⟩ : ∃ c, bt s p = c := ⟨_, rfl⟩
  rw [hcc] at hc
  simp only [hcc] at hb
  simp [pSmall] at hc
  have i0 : (0 : Int) ≤ (p : Int) := by omega
  have i1 : (p : Int) < (s.size : Int) := by omega
  have i2 : (97 : Int) ≤ (c : Int) := by omega
  have i3 : (c : Int) ≤ 122 := by omega
  have i4 : (p : Int) ≤ (E : Int) := by omega
  have i5 : (E : Int) ≤ (s.size : Int) := by omega
  have hkl := kept_len X
  have cK := refKept5_any X
  clear hE hcc
  have hXX := hidb hXs
  cases hk : kept X <;> rw [hk] at cK
  · by_cases h64 : 64 < X.size
    · have i6 : (64 : Int) < (X.size : Int) := by omega
      rw [if_neg (by simp), if_pos h64]
      show Calls _ _ _ _ fun e w' => e = .returned (rV (badV 23) p E) ∧ _
      rw [rV_bad 23 (by decide)]
      clear hXs hkl
      go_enter Tryd.func23, Tryd.ntmps23
      go_wp2_with (first | (go_at_call 43; refine (cW _).mono ?_; rintro e w' ⟨rfl, hw'⟩; obtain rfl := hw'.symm) | (go_at_call 14; refine (cK _).mono ?_; rintro e w' ⟨rfl, hw'⟩; obtain rfl := hw'.symm))
      exact bodyPost_ret (v := .tuple #[.agg #[.int .i64 (0), .string (⟨#[]⟩), .int .i64 (0), .float .f64 (0), .int .i64 (0)], .int .i64 0, .int .i64 23]) (by simp [results, Tryd.results23, go_sem]) rfl ⟨rfl, by (repeat (first | exact Below.refl _ _ | assumption | refine Below.drew ?_ | refine below_drewN ?_ _ | refine Below.setCell ?_ (by simp) _ | refine Below.alloc ?_ (by (first | exact Nat.le_refl _ | (simp; done) | (simp; omega) | omega)) _ | refine Below.trans ?_ (Below.mono (by assumption) (by first | exact Nat.le_refl _ | (simp; done) | (simp; omega) | omega))))⟩
    · have i6 : ¬ (64 : Int) < (X.size : Int) := by omega
      rw [if_neg (by simp), if_neg h64, rV_tk]
      clear hXs hkl
      go_enter Tryd.func23, Tryd.ntmps23
      go_wp2_with (first | (go_at_call 43; refine (cW _).mono ?_; rintro e w' ⟨rfl, hw'⟩; obtain rfl := hw'.symm) | (go_at_call 14; refine (cK _).mono ?_; rintro e w' ⟨rfl, hw'⟩; obtain rfl := hw'.symm))
      exact bodyPost_ret (v := .tuple #[.agg #[.int .i64 (1), .string (X), .int .i64 (0), .float .f64 (0), .int .i64 ((p : Int))], .int .i64 (E : Int), .int .i64 0]) (by simp [results, Tryd.results23, go_sem]) rfl ⟨rfl, by (repeat (first | exact Below.refl _ _ | assumption | refine Below.drew ?_ | refine below_drewN ?_ _ | refine Below.setCell ?_ (by simp) _ | refine Below.alloc ?_ (by (first | exact Nat.le_refl _ | (simp; done) | (simp; omega) | omega)) _ | refine Below.trans ?_ (Below.mono (by assumption) (by first | exact Nat.le_refl _ | (simp; done) | (simp; omega) | omega))))⟩
  · have h7 := hkl hk
    have i6 : ¬ (64 : Int) < (X.size : Int) := by omega
    rw [if_pos rfl, rV_tk]
    clear hXs hkl
    go_enter Tryd.func23, Tryd.ntmps23
    go_wp2_with (first | (go_at_call 43; refine (cW _).mono ?_; rintro e w' ⟨rfl, hw'⟩; obtain rfl := hw'.symm) | (go_at_call 14; refine (cK _).mono ?_; rintro e w' ⟨rfl, hw'⟩; obtain rfl := hw'.symm))
    exact bodyPost_ret (v := .tuple #[.agg #[.int .i64 (7), .string (X), .int .i64 (0), .float .f64 (0), .int .i64 ((p : Int))], .int .i64 (E : Int), .int .i64 0]) (by simp [results, Tryd.results23, go_sem]) rfl ⟨rfl, by (repeat (first | exact Below.refl _ _ | assumption | refine Below.drew ?_ | refine below_drewN ?_ _ | refine Below.setCell ?_ (by simp) _ | refine Below.alloc ?_ (by (first | exact Nat.le_refl _ | (simp; done) | (simp; omega) | omega)) _ | refine Below.trans ?_ (Below.mono (by assumption) (by first | exact Nat.le_refl _ | (simp; done) | (simp; omega) | omega))))⟩

set_option maxHeartbeats 1000000 in
theorem rtok_var (s : ByteArray) (p : Nat) (hp : p < s.size) (hs : s.size ≤ 65536) (hc : ¬ pSmall (bt s p) = true) (hd : pCapital (bt s p) = true ∨ bt s p = 95) (w : World) : Calls Tryd.prog 23 #[.string s, .int .i64 (p : Int)] w fun e w' => e = .returned (rV (varV s p) p (goes pName s p)) ∧ Below w.heap.size w w' := by
  have cW := rword_any s p (by omega) hs
  have hge := goes_ge pName s p
  have hle := goes_le pName s p (by omega)
  unfold varV
  obtain ⟨E, hE⟩ : ∃ E, goes pName s p = E := ⟨_, rfl⟩
  rw [hE] at cW hge hle ⊢
  obtain ⟨X, hX⟩ : ∃ X, s.extract p E = X := ⟨_, rfl⟩
  rw [hX, rV_tk]
  have hb := fun h => at_byte s p h
  obtain ⟨c, hcc⟩ : ∃ c, bt s p = c := ⟨_, rfl⟩
  rw [hcc] at hc hd
  simp only [hcc] at hb
  have i0 : (0 : Int) ≤ (p : Int) := by omega
  have i1 : (p : Int) < (s.size : Int) := by omega
  simp [pSmall] at hc
  simp [pCapital] at hd
  have i4 : (p : Int) ≤ (E : Int) := by omega
  have i5 : (E : Int) ≤ (s.size : Int) := by omega
  clear hE hcc
  rcases hd with ⟨hd1, hd2⟩ | rfl
  · have i2 : ¬ (97 : Int) ≤ (c : Int) := by omega
    have i3 : (65 : Int) ≤ (c : Int) := by omega
    have i6 : (c : Int) ≤ 90 := by omega
    go_enter Tryd.func23, Tryd.ntmps23
    go_wp2_with (first | (go_at_call 43; refine (cW _).mono ?_; rintro e w' ⟨rfl, hw'⟩; obtain rfl := hw'.symm))
    exact bodyPost_ret (v := .tuple #[.agg #[.int .i64 (2), .string (X), .int .i64 (0), .float .f64 (0), .int .i64 ((p : Int))], .int .i64 (E : Int), .int .i64 0]) (by simp [results, Tryd.results23, go_sem]) rfl ⟨rfl, by (repeat (first | exact Below.refl _ _ | assumption | refine Below.drew ?_ | refine below_drewN ?_ _ | refine Below.setCell ?_ (by simp) _ | refine Below.alloc ?_ (by (first | exact Nat.le_refl _ | (simp; done) | (simp; omega) | omega)) _ | refine Below.trans ?_ (Below.mono (by assumption) (by first | exact Nat.le_refl _ | (simp; done) | (simp; omega) | omega))))⟩
  · go_enter Tryd.func23, Tryd.ntmps23
    go_wp2_with (first | (go_at_call 43; refine (cW _).mono ?_; rintro e w' ⟨rfl, hw'⟩; obtain rfl := hw'.symm))
    exact bodyPost_ret (v := .tuple #[.agg #[.int .i64 (2), .string (X), .int .i64 (0), .float .f64 (0), .int .i64 ((p : Int))], .int .i64 (E : Int), .int .i64 0]) (by simp [results, Tryd.results23, go_sem]) rfl ⟨rfl, by (repeat (first | exact Below.refl _ _ | assumption | refine Below.drew ?_ | refine below_drewN ?_ _ | refine Below.setCell ?_ (by simp) _ | refine Below.alloc ?_ (by (first | exact Nat.le_refl _ | (simp; done) | (simp; omega) | omega)) _ | refine Below.trans ?_ (Below.mono (by assumption) (by first | exact Nat.le_refl _ | (simp; done) | (simp; omega) | omega))))⟩

/-- What the reference tells is three values. -/
theorem rV_form (v : Value) (h : IsTk v) (i E : Nat) : ∃ (k : Int) (x : ByteArray) (n : Int) (f : Nat) (q : Int) (e er : Int), rV v i E = .tuple #[.agg #[.int .i64 (k), .string (x), .int .i64 (n), .float .f64 (f), .int .i64 (q)], .int .i64 e, .int .i64 er] := by
  obtain ⟨k, x, n, f, er, rfl⟩ := h
  by_cases he : er = 0
  · subst he; exact ⟨_, _, _, _, _, _, _, rV_tk k x n f i E⟩
  · exact ⟨_, _, _, _, _, _, _, rV_err k x n f er he i E⟩

set_option maxHeartbeats 1000000 in
theorem rtok_num (s : ByteArray) (p : Nat) (hp : p < s.size) (hs : s.size ≤ 65536) (hd : pDigit (bt s p) = true) (w : World) : Calls Tryd.prog 23 #[.string s, .int .i64 (p : Int)] w fun e w' => e = .returned (rV (numV s p) p (fracEnd s (goes pDigit s p))) ∧ Below w.heap.size w w' := by
  have cN := rnumber_any s p hp hd hs (wbox w)
  have cD := rdigit_any (bt s p)
  rw [hd] at cD
  obtain ⟨k, x, n, f, q, e, er, hV⟩ := rV_form (numV s p) (numV_tk s p) p (fracEnd s (goes pDigit s p))
  rw [hV] at cN ⊢
  have hb := fun h => at_byte s p h
  obtain ⟨c, hcc⟩ : ∃ c, bt s p = c := ⟨_, rfl⟩
  rw [hcc] at hd cD
  simp only [hcc] at hb
  have i0 : (0 : Int) ≤ (p : Int) := by omega
  have i1 : (p : Int) < (s.size : Int) := by omega
  simp [pDigit] at hd
  have i2 : ¬ (97 : Int) ≤ (c : Int) := by omega
  have i3 : ¬ (65 : Int) ≤ (c : Int) := by omega
  have i7 : ((c : Int) == 95) = false := by simp; omega
  clear hcc hV
  go_enter Tryd.func23, Tryd.ntmps23
  go_wp2_with (first | (go_at_call 44; refine (cD _).mono ?_; rintro e w' ⟨rfl, hw'⟩; obtain rfl := hw'.symm) | (go_at_call 45; refine cN.mono ?_; rintro e w1 ⟨rfl, hb1⟩; have HB1 := hidb hb1; obtain ⟨z0, z1, z2, z3, z4, y0, y1, y2, y3, y4, _⟩ := (wbox_box w).keep hb1))
  exact bodyPost_ret (v := .tuple #[.agg #[.int .i64 (k), .string (x), .int .i64 (n), .float .f64 (f), .int .i64 (q)], .int .i64 e, .int .i64 er]) (by simp [results, Tryd.results23, go_sem, z0, z1, z2, z3, z4]) rfl ⟨rfl, below_set5 ((wbox_below w).trans (HB1.out.mono (wbox_below w).size)) (Nat.le_refl _) _ _ _ _ _⟩

set_option maxHeartbeats 1000000 in
theorem rtok_bits (s : ByteArray) (p : Nat) (hp : p < s.size) (hs : s.size ≤ 65536) (hf : bt s p = 35) (w : World) : Calls Tryd.prog 23 #[.string s, .int .i64 (p : Int)] w fun e w' => e = .returned (rV (bitsV s p) p (p + 17)) ∧ Below w.heap.size w w' := by
  have cN := rbits_any s p hp hs (wbox w)
  have cD := rdigit_any 35
  rw [show pDigit 35 = false from rfl] at cD
  obtain ⟨k, x, n, f, q, e, er, hV⟩ := rV_form (bitsV s p) (bitsV_tk s p) p (p + 17)
  rw [hV] at cN ⊢
  have hb : ∀ h, (s[p]'h).toNat = 35 := fun h => by rw [at_byte, hf]
  have i0 : (0 : Int) ≤ (p : Int) := by omega
  have i1 : (p : Int) < (s.size : Int) := by omega
  clear hV hf
  go_enter Tryd.func23, Tryd.ntmps23
  go_wp2_with (first | (go_at_call 44; refine (cD _).mono ?_; rintro e w' ⟨rfl, hw'⟩; obtain rfl := hw'.symm) | (go_at_call 46; refine cN.mono ?_; rintro e w1 ⟨rfl, hb1⟩; have HB1 := hidb hb1; obtain ⟨z0, z1, z2, z3, z4, y0, y1, y2, y3, y4, _⟩ := (wbox_box w).keep hb1))
  exact bodyPost_ret (v := .tuple #[.agg #[.int .i64 (k), .string (x), .int .i64 (n), .float .f64 (f), .int .i64 (q)], .int .i64 e, .int .i64 er]) (by simp [results, Tryd.results23, go_sem, z0, z1, z2, z3, z4]) rfl ⟨rfl, below_set5 ((wbox_below w).trans (HB1.out.mono (wbox_below w).size)) (Nat.le_refl _) _ _ _ _ _⟩

set_option maxHeartbeats 1000000 in
theorem rtok_sign (s : ByteArray) (p : Nat) (hp : p < s.size) (hs : s.size ≤ 65536) (hc : ¬ pSmall (bt s p) = true) (hd : ¬ (pCapital (bt s p) = true ∨ bt s p = 95)) (he : ¬ pDigit (bt s p) = true) (hf : ¬ bt s p = 35) (hq : ¬ (bt s p = 39 ∨ bt s p = 34)) (w : World) : Calls Tryd.prog 23 #[.string s, .int .i64 (p : Int)] w fun e w' => e = .returned (rV (sgV (signAt s p)) p (p + sgN (signAt s p))) ∧ Below w.heap.size w w' := by
  have cS := rsign_any s p (by omega) hs (wbox w)
  have cD := rdigit_any (bt s p)
  have he' : pDigit (bt s p) = false := by simpa using he
  rw [he'] at cD
  have hin := sign_in s p (by omega)
  have hbl := bt_lt s p
  have hb := fun h => at_byte s p h
  obtain ⟨c, hcc⟩ : ∃ c, bt s p = c := ⟨_, rfl⟩
  rw [hcc] at hc hd cD hf hq hbl
  simp only [hcc] at hb
  have i0 : (0 : Int) ≤ (p : Int) := by omega
  have i1 : (p : Int) < (s.size : Int) := by omega
  have e35 : ((c : Int) == 35) = false := by simp; omega
  have e39 : ((c : Int) == 39) = false := by simp; omega
  have e34 : ((c : Int) == 34) = false := by simp; omega
  have e95 : ((c : Int) == 95) = false := by simp; omega
  have hss : decide ((97 : Int) ≤ (c : Int)) = false ∨ (decide ((97 : Int) ≤ (c : Int)) = true ∧ decide ((c : Int) ≤ 122) = false) := by
    simp [pSmall] at hc
    by_cases h : (97 : Int) ≤ (c : Int)
    · right; simp; omega
    · left; simp; omega
  have hcs : decide ((65 : Int) ≤ (c : Int)) = false ∨ (decide ((65 : Int) ≤ (c : Int)) = true ∧ decide ((c : Int) ≤ 90) = false) := by
    have := (not_or.1 hd).1
    simp [pCapital] at this
    by_cases h : (65 : Int) ≤ (c : Int)
    · right; simp; omega
    · left; simp; omega
  clear hc hd he he' hf hq hcc
  cases ho : signAt s p with
  | none =>
    rw [ho] at cS
    show Calls _ _ _ _ fun e w' => e = .returned (rV (badV 21) p _) ∧ _
    rw [rV_bad 21 (by decide)]
    have k1 : (([] : List UInt8) == []) = true := rfl
    rcases hss with s1 | ⟨s1, s2⟩ <;> rcases hcs with t1 | ⟨t1, t2⟩
    all_goals (go_enter Tryd.func23, Tryd.ntmps23)
    all_goals (go_wp2_with (first | (go_at_call 44; refine (cD _).mono ?_; rintro e w' ⟨rfl, hw'⟩; obtain rfl := hw'.symm) | (go_at_call 48; refine cS.mono ?_; rintro e w1 ⟨rfl, hb1⟩; have HB1 := hidb hb1; simp only [sgS]; obtain ⟨z0, z1, z2, z3, z4, y0, y1, y2, y3, y4, _⟩ := (wbox_box w).keep hb1)))
    all_goals exact bodyPost_ret (v := .tuple #[.agg #[.int .i64 (0), .string (⟨#[]⟩), .int .i64 (0), .float .f64 (0), .int .i64 (0)], .int .i64 0, .int .i64 21]) (by simp [results, Tryd.results23, go_sem, z0, z1, z2, z3, z4]) rfl ⟨rfl, below_set5 ((wbox_below w).trans (HB1.out.mono (wbox_below w).size)) (Nat.le_refl _) _ _ _ _ _⟩
  | some l =>
    rw [ho] at cS
    obtain ⟨hl1, hl2⟩ := hin l ho
    show Calls _ _ _ _ fun e w' => e = .returned (rV (.tuple #[.agg #[.int .i64 (6), .string (⟨l.toArray⟩), .int .i64 (0), .float .f64 (0), .int .i64 (0)], .int .i64 0]) p (p + l.length)) ∧ _
    rw [rV_tk]
    simp only [sgS] at cS
    obtain ⟨X, hX⟩ : ∃ X, (⟨l.toArray⟩ : ByteArray) = X := ⟨_, rfl⟩
    have hXs : X.size = l.length := by rw [← hX]; rfl
    have hXn := str_nil X
    rw [hX] at cS ⊢
    rw [← hXs] at hl1 hl2 ⊢
    have hn0 : decide (X.size = 0) = false := by rw [decide_eq_false_iff_not]; omega
    rw [hn0] at hXn
    have hwr : (p : Int) + (X.size : Int) ≤ 65536 := by omega
    clear hX hXs hn0
    rcases hss with s1 | ⟨s1, s2⟩ <;> rcases hcs with t1 | ⟨t1, t2⟩
    all_goals (go_enter Tryd.func23, Tryd.ntmps23)
    all_goals (go_wp2_with (first | (go_at_call 44; refine (cD _).mono ?_; rintro e w' ⟨rfl, hw'⟩; obtain rfl := hw'.symm) | (go_at_call 48; refine cS.mono ?_; rintro e w1 ⟨rfl, hb1⟩; have HB1 := hidb hb1; obtain ⟨z0, z1, z2, z3, z4, y0, y1, y2, y3, y4, _⟩ := (wbox_box w).keep hb1)))
    all_goals exact bodyPost_ret (v := .tuple #[.agg #[.int .i64 (6), .string (X), .int .i64 (0), .float .f64 (0), .int .i64 ((p : Int))], .int .i64 ((p + X.size : Nat) : Int), .int .i64 0]) (by simp [results, Tryd.results23, go_sem, z0, z1, z2, z3, z4]) rfl ⟨rfl, below_set5 ((wbox_below w).trans (HB1.out.mono (wbox_below w).size)) (Nat.le_refl _) _ _ _ _ _⟩
end Go.Proofs.YtecgddiohoeboaaDoor


/- The law's Same on rows of tokens. -/
namespace Go.Proofs.YtecgddiohoeboaaDoor
open Go.RowKit Go.Lib
attribute [local go_sem] store_float f64bits
attribute [local go_sem ↓] Go.wp_at_zero Go.wp_at_succ

theorem tk_at : ∀ (l : List Tk) (j : Nat) (t : Tk), l[j]? = some t → ∀ f u, t.cells[f]? = some u → (tkCells l)[j * 5 + f]? = some u := by
  intro l
  induction l with
  | nil => intro j t h; simp at h
  | cons a l ih =>
    intro j t h f u hf
    have hfl : f < 5 := by
      have := (List.getElem?_eq_some_iff.1 hf).1
      simpa [Tk.cells] using this
    have hal : a.cells.length = 5 := rfl
    show (a.cells ++ tkCells l)[j * 5 + f]? = some u
    cases j with
    | zero =>
      simp at h
      subst h
      rw [List.getElem?_append_left (by omega)]
      simpa using hf
    | succ j =>
      rw [List.getElem?_append_right (by omega), hal]
      have := ih j t (by simpa using h) f u hf
      rw [show (j + 1) * 5 + f - 5 = j * 5 + f from by omega]
      exact this

set_option maxHeartbeats 1000000 in
set_option maxRecDepth 100000 in
theorem same_rows (va vb : Value) (l : List Tk) (B : Nat) (hl : 0 < l.length) (hln : l.length ≤ 70000) (w : World) (ha : w.ownsRow B TT 5 va l.length (tkCells l)) (hb : w.ownsRow B TT 5 vb l.length (tkCells l)) :
    Calls Tryd.prog 12 #[va, vb, .bool true] w fun e w' => e = .returned (.bool true) ∧ Below w.heap.size w w' := by
  obtain ⟨g, cap, rfl, hg, hcap, hce⟩ := own_cell ha (by omega)
  obtain ⟨g2, cap2, rfl, hg2, hcap2, hce2⟩ := own_cell hb (by omega)
  have hgl : g < w.heap.size := cell_lt (hce 0 _ (tk_at l 0 (l[0]'(by omega)) (by simp) 0 _ rfl))
  have hgl2 : g2 < w.heap.size := cell_lt (hce2 0 _ (tk_at l 0 (l[0]'(by omega)) (by simp) 0 _ rfl))
  clear ha hb
  go_enter Tryd.func12, Tryd.ntmps12
  go_wp2_with fail
  go_loopg [7] l.length (fun gf s7 wx => ∃ j : Nat, s7 = .int .i64 (j : Int) ∧ j + gf = l.length ∧ Below w.heap.size w wx)
  case atStart => exact ⟨0, rfl, by omega, Below.refl _ _⟩
  case round =>
    obtain ⟨j, rfl, hjg, hbw⟩ := hrel
    by_cases hj : j < l.length
    · obtain ⟨g', rfl⟩ : ∃ g', gk = g' + 1 := ⟨gk - 1, by omega⟩
      obtain ⟨t, ht⟩ : ∃ t, l[j]? = some t := ⟨l[j]'hj, by simp⟩
      have hta := tk_at l j t ht
      obtain ⟨tk, tx, tn, tf, tp⟩ := t
      have a0 : wr.cell? ⟨g, j * 5, none⟩ = some (.int .i64 tk) := (hbw.cell (p := ⟨g, j * 5, none⟩) hgl).trans (hce _ _ (hta 0 _ rfl))
      have a1 : wr.cell? ⟨g, j * 5 + 1, none⟩ = some (.string tx) := (hbw.cell (p := ⟨g, j * 5 + 1, none⟩) hgl).trans (hce _ _ (hta 1 _ rfl))
      have a2 : wr.cell? ⟨g, j * 5 + 2, none⟩ = some (.int .i64 tn) := (hbw.cell (p := ⟨g, j * 5 + 2, none⟩) hgl).trans (hce _ _ (hta 2 _ rfl))
      have a3 : wr.cell? ⟨g, j * 5 + 3, none⟩ = some (.float .f64 tf) := (hbw.cell (p := ⟨g, j * 5 + 3, none⟩) hgl).trans (hce _ _ (hta 3 _ rfl))
      have a4 : wr.cell? ⟨g, j * 5 + 4, none⟩ = some (.int .i64 (tp : Int)) := (hbw.cell (p := ⟨g, j * 5 + 4, none⟩) hgl).trans (hce _ _ (hta 4 _ rfl))
      have b0 : wr.cell? ⟨g2, j * 5, none⟩ = some (.int .i64 tk) := (hbw.cell (p := ⟨g2, j * 5, none⟩) hgl2).trans (hce2 _ _ (hta 0 _ rfl))
      have b1 : wr.cell? ⟨g2, j * 5 + 1, none⟩ = some (.string tx) := (hbw.cell (p := ⟨g2, j * 5 + 1, none⟩) hgl2).trans (hce2 _ _ (hta 1 _ rfl))
      have b2 : wr.cell? ⟨g2, j * 5 + 2, none⟩ = some (.int .i64 tn) := (hbw.cell (p := ⟨g2, j * 5 + 2, none⟩) hgl2).trans (hce2 _ _ (hta 2 _ rfl))
      have b3 : wr.cell? ⟨g2, j * 5 + 3, none⟩ = some (.float .f64 tf) := (hbw.cell (p := ⟨g2, j * 5 + 3, none⟩) hgl2).trans (hce2 _ _ (hta 3 _ rfl))
      have b4 : wr.cell? ⟨g2, j * 5 + 4, none⟩ = some (.int .i64 (tp : Int)) := (hbw.cell (p := ⟨g2, j * 5 + 4, none⟩) hgl2).trans (hce2 _ _ (hta 4 _ rfl))
      have hz := hbw.size
      have hg3 : g < wr.heap.size := by omega
      have hg4 : g2 < wr.heap.size := by omega
      have i0 : (0 : Int) ≤ (j : Int) := by omega
      have i1 : (j : Int) < (l.length : Int) := by omega
      have HBW := hidb hbw
      clear hce hce2 hta ht hbw
      go_wp2_with fail
      have X1 := (Box.new wr 35 (.int .i64 tk) (.string tx) (.int .i64 tn) (.float .f64 tf) (.int .i64 (tp : Int))).alloc (Obj.cells #[.int .i64 tk, .string tx, .int .i64 tn, .float .f64 tf, .int .i64 (tp : Int)] 35)
      have X2 := Box.new (wr.alloc (Obj.cells #[.int .i64 tk, .string tx, .int .i64 tn, .float .f64 tf, .int .i64 (tp : Int)] 35)) 35 (.int .i64 tk) (.string tx) (.int .i64 tn) (.float .f64 tf) (.int .i64 (tp : Int))
      have hs1 : (wr.alloc (Obj.cells #[.int .i64 tk, .string tx, .int .i64 tn, .float .f64 tf, .int .i64 (tp : Int)] 35)).heap.size = wr.heap.size + 1 := by simp
      rw [hs1] at X2
      have HB2 : Hid (Below w.heap.size w ((wr.alloc (Obj.cells #[.int .i64 tk, .string tx, .int .i64 tn, .float .f64 tf, .int .i64 (tp : Int)] 35)).alloc (Obj.cells #[.int .i64 tk, .string tx, .int .i64 tn, .float .f64 tf, .int .i64 (tp : Int)] 35))) := hidb ((HBW.out.alloc hz _).alloc (by simp; omega) _)
      generalize hW2 : ((wr.alloc (Obj.cells #[.int .i64 tk, .string tx, .int .i64 tn, .float .f64 tf, .int .i64 (tp : Int)] 35)).alloc (Obj.cells #[.int .i64 tk, .string tx, .int .i64 tn, .float .f64 tf, .int .i64 (tp : Int)] 35)) = W2 at *
      obtain ⟨x0, x1, x2, x3, x4, _, _, _, _, _, _⟩ := X1
      obtain ⟨y0, y1, y2, y3, y4, _, _, _, _, _, _⟩ := X2
      have k1 : (tk != tk) = false := by simp
      have k2 : (!(tx.toList == tx.toList)) = false := by simp
      have k3 : (tn != tn) = false := by simp
      have k4 : (((tf : Nat) : Int) != ((tf : Nat) : Int)) = false := by simp
      have k5 : (((tp : Nat) : Int) != ((tp : Nat) : Int)) = false := by simp
      clear hW2 a0 a1 a2 a3 a4 b0 b1 b2 b3 b4 hs1
      go_quiet (fail)
      go_wp2_with fail
      go_roundg g'
      case measure => omega
      case rel => exact ⟨j + 1, by simp, by omega, below_drewN HB2.out _⟩
    · have i1 : ¬ (j : Int) < (l.length : Int) := by omega
      go_wp2_with fail
      go_ret
      exact ⟨rfl, hbw⟩

theorem same_nil (w : World) : Calls Tryd.prog 12 #[.slice none 0 0, .slice none 0 0, .bool true] w fun e w' => e = .returned (.bool true) ∧ Below w.heap.size w w' := by
  go_enter Tryd.func12, Tryd.ntmps12
  go_wp2_with fail
  go_loopg [7] 0 (fun gf s7 wx => s7 = .int .i64 0 ∧ gf = 0 ∧ wx = w)
  case atStart => exact ⟨rfl, rfl, rfl⟩
  case round =>
    obtain ⟨rfl, _, hwx⟩ := hrel
    obtain rfl := hwx.symm
    go_wp2_with fail
    go_ret
    exact ⟨rfl, Below.refl _ _⟩
end Go.Proofs.YtecgddiohoeboaaDoor


/- The chapter's first example. -/
namespace Go.Proofs.YtecgddiohoeboaaDoor
open Go.RowKit Go.Lib
attribute [local go_sem] store_float f64bits
attribute [local go_sem ↓] Go.wp_at_zero Go.wp_at_succ

def KS : ByteArray := ⟨#[102, 40, 88, 41, 45, 62, 88, 43, 49, 46, 53, 46, 37, 101]⟩
def KT : List Tk := [⟨1, ⟨#[102]⟩, 0, 0, 0⟩, ⟨6, ⟨#[40]⟩, 0, 0, 1⟩, ⟨2, ⟨#[88]⟩, 0, 0, 2⟩, ⟨6, ⟨#[41]⟩, 0, 0, 3⟩, ⟨6, ⟨#[45, 62]⟩, 0, 0, 4⟩, ⟨2, ⟨#[88]⟩, 0, 0, 6⟩, ⟨6, ⟨#[43]⟩, 0, 0, 7⟩, ⟨4, ⟨#[]⟩, 0, 4609434218613702656, 8⟩, ⟨6, ⟨#[46]⟩, 0, 0, 11⟩, ⟨8, ⟨#[]⟩, 0, 0, 14⟩]

theorem KS_toks : allT KS = .inl KT := by kernel_rfl

set_option maxHeartbeats 1000000 in
set_option maxRecDepth 1000000 in
theorem known_any (w : World) (hT : LexTab w) : Calls Tryd.prog 9 #[] w fun e w' => e = .returned (.bool true) ∧ Below w.heap.size w w' := by
  have cT := fun W h => Tokens_any KS W h
  rw [KS_toks] at cT
  have k1 : kept ⟨#[101, 110, 100]⟩ = true := by kernel_rfl
  have k2 : kept ⟨#[101, 110, 100, 115]⟩ = false := by kernel_rfl
  go_enter Tryd.func9, Tryd.ntmps9
  go_wp2_with fail
  refine (cT _ hT).mono ?_
  rintro e w1 ⟨hTP, hb⟩
  rcases hTP with ⟨l, V, hl, rfl, how⟩ | ⟨er, p, hl, _⟩
  case inr => cases hl
  obtain rfl : KT = l := Sum.inl.inj hl
  obtain ⟨g, cap, rfl, hg, hcap, hce⟩ := own_cell how (by decide)
  have hgl : g < w1.heap.size := cell_lt (hce 0 _ rfl)
  have x35 := hce 35 _ rfl
  have x38 := hce 38 _ rfl
  have x45 := hce 45 _ rfl
  have x49 := hce 49 _ rfl
  have hlen : KT.length = 10 := rfl
  rw [hlen]
  have HB := hidb hb
  clear hce how hb hcap cT hl hlen
  go_wp2_with fail
  refine (kept_any _ _).mono ?_
  rintro e w' ⟨rfl, hw'⟩
  obtain rfl := hw'.symm
  rw [k1]
  go_wp2_with fail
  refine (kept_any _ _).mono ?_
  rintro e w' ⟨rfl, hw'⟩
  obtain rfl := hw'.symm
  rw [k2]
  go_wp2_with fail
  go_ret
  exact ⟨rfl, HB.out.alloc HB.out.size _⟩

set_option maxHeartbeats 1000000 in
theorem LexKept_walk (s : ByteArray) (w : World) (hT : LexTab w) : Calls Tryd.prog 5 #[.string s] w fun e w' => e = .returned (.bool true) ∧ Below w.heap.size w w' := by
  have cK := known_any w hT
  by_cases hl : 16384 < s.size
  · have h1 : (16384 : Int) < (s.size : Int) := by omega
    go_enter Tryd.func5, Tryd.ntmps5
    go_wp2_with (first
      | (go_at_call 9; refine cK.mono ?_; rintro e w1 ⟨rfl, hb1⟩))
    go_ret
    exact ⟨rfl, hb1⟩
  · have h1 : ¬ (16384 : Int) < (s.size : Int) := by omega
    go_enter Tryd.func5, Tryd.ntmps5
    go_wp2_with (first
      | (go_at_call 9; refine cK.mono ?_; rintro e w1 ⟨rfl, hb1⟩)
      | (go_at_call 13; refine (kept_any _ _).mono ?_; rintro e w' ⟨rfl, hw'⟩; obtain rfl := hw'.symm)
      | (go_at_call 14; refine (refKept5_any _ _).mono ?_; rintro e w' ⟨rfl, hw'⟩; obtain rfl := hw'.symm))
    go_ret
    exact ⟨by simp, hb1⟩
end Go.Proofs.YtecgddiohoeboaaDoor


