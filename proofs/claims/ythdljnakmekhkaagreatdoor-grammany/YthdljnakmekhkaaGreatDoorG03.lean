import Derived.Test.YthdljnakmekhkaaGreatDoorG02
import Derived.Test.YthdljnakmekhkaaGreatDoorG01
import Derived.Deep.WholeRow
/- Numbers: the tokens. -/
namespace Go.Proofs.YthdljnakmekhkaaGreatDoor
open Go.RowKit Go.Lib
attribute [local go_sem] store_float f64bits
attribute [local go_sem ↓] Go.wp_at_zero Go.wp_at_succ

/-- A token that is none, with its error. -/
abbrev badV (e : Int) : Value := .tuple #[.agg #[.int .i64 (0), .string (⟨#[]⟩), .int .i64 (0), .float .f64 (0), .int .i64 (0)], .int .i64 e]

def wholeV (D : ByteArray) : Value := if 18 < D.size then badV 22 else if 576460752303423487 < wor D D.size then badV 22 else .tuple #[.agg #[.int .i64 (3), .string (⟨#[]⟩), .int .i64 ((wor D D.size : Nat)), .float .f64 (0), .int .i64 (0)], .int .i64 0]

theorem below_chain {a b c d : World} (h1 : Below a.heap.size a b) (h2 : Below b.heap.size b c) (h3 : Below c.heap.size c d) : Below a.heap.size a d :=
  (h1.trans (h2.mono h1.size)).trans (h3.mono (Nat.le_trans h1.size h2.size))

set_option maxHeartbeats 1000000 in
theorem wholeNumber_any (D : ByteArray) (h : Digs D) (hs : D.size ≤ 65536) (w : World) :
    Calls Tryz.prog 70 #[.string D] w fun e w' => e = .returned (wholeV D) ∧ Below w.heap.size w w' := by
  unfold wholeV
  by_cases h18 : 18 < D.size
  · have h1 : (18 : Int) < (D.size : Int) := by omega
    rw [if_pos h18]
    go_enter Tryz.func70, Tryz.ntmps70
    go_wp2_with fail
    exact bodyPost_ret (v := badV 22) (by simp [results, Tryz.results70, go_sem]) rfl ⟨rfl, by (repeat (first | exact Below.refl _ _ | assumption | refine Below.drew ?_ | refine below_drewN ?_ _ | refine Below.setCell ?_ (by simp) _ | refine Below.alloc ?_ (by (first | exact Nat.le_refl _ | (simp; done) | (simp; omega) | omega)) _ | refine Below.trans ?_ (Below.mono (by assumption) (by first | exact Nat.le_refl _ | (simp; done) | (simp; omega) | omega))))⟩
  · have h1 : ¬ (18 : Int) < (D.size : Int) := by omega
    rw [if_neg h18]
    have cW := worth_any D h (by omega)
    have hv := wor_lt18 D h (by omega) D.size (Nat.le_refl _)
    obtain ⟨V, hV⟩ : ∃ V, wor D D.size = V := ⟨_, rfl⟩
    rw [hV] at cW hv ⊢
    have cI := numInt_any (V : Int)
    by_cases hm : 576460752303423487 < V
    · have e : numInt (V : Int) = ⟨0, 0, 0, 12⟩ := by
        have : whB (V : Int) = false := by simp [whB]; omega
        simp [numInt, this]
      rw [if_pos hm]
      simp only [e] at cI
      clear hV hm e hv
      go_enter Tryz.func70, Tryz.ntmps70
      go_wp2_with (first
        | (go_at_call 92; refine (cW _).mono ?_; rintro e w1 ⟨rfl, hb1⟩; have HB1 := hidb hb1)
        | (go_at_call 91; refine (cI _).mono ?_; rintro e w2 ⟨rfl, hb2⟩; have HB2 := hidb hb2; obtain ⟨d0, d1, d2, d3, d4, g0, g1, g2, g3, g4, _⟩ := (((wbox_box w).keep HB1.out).keep hb2).alloc (.cells #[.int .i64 0, .int .i64 0, .float .f64 0, .string ⟨#[]⟩, .slice none 0 0] 90)))
      exact bodyPost_ret (v := badV 22) (by simp [results, Tryz.results70, go_sem, d0, d1, d2, d3, d4]) rfl ⟨rfl, below_set5 ((below_chain (wbox_below w) HB1.out HB2.out).alloc (Nat.le_trans (Nat.le_trans (wbox_below w).size HB1.out.size) HB2.out.size) _) (Nat.le_refl _) _ _ _ _ _⟩
    · have e : numInt (V : Int) = ⟨1, V, 0, 0⟩ := by
        have : whB (V : Int) = true := by simp [whB]; omega
        simp [numInt, this]
      rw [if_neg hm]
      simp only [e] at cI
      clear hV hm e hv
      go_enter Tryz.func70, Tryz.ntmps70
      go_wp2_with (first
        | (go_at_call 92; refine (cW _).mono ?_; rintro e w1 ⟨rfl, hb1⟩; have HB1 := hidb hb1)
        | (go_at_call 91; refine (cI _).mono ?_; rintro e w2 ⟨rfl, hb2⟩; have HB2 := hidb hb2; obtain ⟨d0, d1, d2, d3, d4, g0, g1, g2, g3, g4, _⟩ := (((wbox_box w).keep HB1.out).keep hb2).alloc (.cells #[.int .i64 1, .int .i64 (V : Int), .float .f64 0, .string ⟨#[]⟩, .slice none 0 0] 90)))
      exact bodyPost_ret (v := .tuple #[.agg #[.int .i64 (3), .string (⟨#[]⟩), .int .i64 ((V : Nat)), .float .f64 (0), .int .i64 (0)], .int .i64 0]) (by simp [results, Tryz.results70, go_sem, d0, d1, d2, d3, d4]) rfl ⟨rfl, below_set5 ((below_chain (wbox_below w) HB1.out HB2.out).alloc (Nat.le_trans (Nat.le_trans (wbox_below w).size HB1.out.size) HB2.out.size) _) (Nat.le_refl _) _ _ _ _ _⟩
end Go.Proofs.YthdljnakmekhkaaGreatDoor


/- Numbers: floats, and all. -/
namespace Go.Proofs.YthdljnakmekhkaaGreatDoor
open Go.RowKit Go.Lib
attribute [local go_sem] store_float f64bits
attribute [local go_sem ↓] Go.wp_at_zero Go.wp_at_succ

/-- The blocks of the variables lie below it. -/
abbrev GB : Nat := 7

theorem cell_lt {w : World} {a : Addr} {v : Value} (hc : w.cell? a = some v) : a.block < w.heap.size := by
  rcases Nat.lt_or_ge a.block w.heap.size with h' | h'
  · exact h'
  · simp [World.cell?, Array.getElem?_eq_none h'] at hc

theorem PowTab_but {S : Nat → Prop} {w w' : World} (h : PowTab w) (hb : But S w w') (h1 : ¬ S 2) (h2 : ¬ S 3) : PowTab w' :=
  ⟨(hb.cell (cell_lt h.one) h1).trans h.one, fun k x hk => (hb.cell (cell_lt (h.tab k x hk)) h2).trans (h.tab k x hk)⟩
theorem PowTab_below {w w' : World} (h : PowTab w) (hb : Below w.heap.size w w') : PowTab w' :=
  PowTab_but h (But.of_below (S := fun _ => False) hb) (fun h => h) (fun h => h)

def floatV (W P : ByteArray) : Value := if 15 < (W ++ P).size then badV 22 else .tuple #[.agg #[.int .i64 (4), .string (⟨#[]⟩), .int .i64 (0), .float .f64 (fq (wor (W ++ P) (W ++ P).size) P.size), .int .i64 (0)], .int .i64 0]

set_option maxHeartbeats 1000000 in
theorem float_any (W P : ByteArray) (h : Digs (W ++ P)) (hs : W.size ≤ 65536) (hp : P.size ≤ 65536) (w : World) (hT : PowTab w) :
    Calls Tryz.prog 71 #[.string W, .string P] w fun e w' => e = .returned (floatV W P) ∧ Below w.heap.size w w' := by
  unfold floatV
  have hsz : (W ++ P).size = W.size + P.size := ByteArray.size_append ..
  by_cases h15 : 15 < (W ++ P).size
  · have h1 : (15 : Int) < ((W ++ P).size : Int) := by omega
    rw [if_pos h15]
    go_enter Tryz.func71, Tryz.ntmps71
    go_wp2_with fail
    exact bodyPost_ret (v := badV 22) (by simp [results, Tryz.results71, go_sem]) rfl ⟨rfl, by (repeat (first | exact Below.refl _ _ | assumption | refine Below.drew ?_ | refine below_drewN ?_ _ | refine Below.setCell ?_ (by simp) _ | refine Below.alloc ?_ (by (first | exact Nat.le_refl _ | (simp; done) | (simp; omega) | omega)) _ | refine Below.trans ?_ (Below.mono (by assumption) (by first | exact Nat.le_refl _ | (simp; done) | (simp; omega) | omega))))⟩
  · have h1 : ¬ (15 : Int) < ((W ++ P).size : Int) := by omega
    rw [if_neg h15]
    have cW := worth_any (W ++ P) h (by omega)
    have hv := wor_lt18 _ h (by omega) _ (Nat.le_refl _)
    obtain ⟨D, hD⟩ : ∃ D, W ++ P = D := ⟨_, rfl⟩
    rw [hD] at cW hv h1 ⊢
    obtain ⟨V, hV⟩ : ∃ V, wor D D.size = V := ⟨_, rfl⟩
    rw [hV] at cW hv ⊢
    have cP := fun W h => pow10_any P.size (by omega) W h
    have hq := fq_some V P.size (by omega) (by omega)
    obtain ⟨Q, hQ⟩ : ∃ Q, fq V P.size = Q := ⟨_, rfl⟩
    rw [hQ] at hq ⊢
    have hqq := fun t w => run_float_arith (P := Tryz.prog) w .quo t .f64 _ _ _ hq
    clear hV hv hQ hq hsz h15
    go_enter Tryz.func71, Tryz.ntmps71
    go_wp2_with (first
      | (go_at_call 92; refine (cW _).mono ?_; rintro e w1 ⟨rfl, hb1⟩; have HB1 := hidb hb1)
      | (go_at_call 93; refine (cP _ (PowTab_below (PowTab_below hT (wbox_below w)) HB1.out)).mono ?_; rintro e w2 ⟨rfl, hb2⟩; have HB2 := hidb hb2; obtain ⟨d0, d1, d2, d3, d4, g0, g1, g2, g3, g4, _⟩ := ((wbox_box w).keep HB1.out).keep hb2))
    exact bodyPost_ret (v := .tuple #[.agg #[.int .i64 (4), .string (⟨#[]⟩), .int .i64 (0), .float .f64 (Q), .int .i64 (0)], .int .i64 0]) (by simp [results, Tryz.results71, go_sem, d0, d1, d2, d3, d4]) rfl ⟨rfl, below_set5 (below_chain (wbox_below w) HB1.out HB2.out) (Nat.le_refl _) _ _ _ _ _⟩

theorem bt_append (A B : ByteArray) (j : Nat) (h : j < A.size + B.size) : bt (A ++ B) j = if j < A.size then bt A j else bt B (j - A.size) := by
  have hj : j < (A ++ B).size := by rw [ByteArray.size_append]; exact h
  unfold bt
  rw [get_of_lt _ _ hj]
  split
  · rename_i hl
    rw [get_of_lt _ _ hl, ByteArray.getElem_append_left hl]
  · rename_i hl
    rw [get_of_lt _ _ (by omega), ByteArray.getElem_append_right (by omega)]

theorem digs_part (s : ByteArray) (i : Nat) (hi : i ≤ s.size) : Digs (s.extract i (goes pDigit s i)) := by
  intro j hj
  rw [size_ext] at hj
  have h1 := goes_le pDigit s i hi
  rw [bt_ext2 s i _ j (by omega) h1]
  exact goes_all pDigit s i _ (by omega) (by omega)

theorem digs_append (A B : ByteArray) (hA : Digs A) (hB : Digs B) : Digs (A ++ B) := by
  intro j hj
  rw [ByteArray.size_append] at hj
  rw [bt_append A B j hj]
  split
  · exact hA j (by assumption)
  · exact hB _ (by omega)

theorem digs_frac (s : ByteArray) (e : Nat) : Digs (fracS s e) := by
  unfold fracS
  split
  · rename_i h
    simp [fracOk] at h
    exact digs_part s (e + 1) (by omega)
  · intro j hj; simp [ByteArray.size] at hj

theorem frac_end (s : ByteArray) (e : Nat) (he : e ≤ s.size) : e ≤ fracEnd s e ∧ fracEnd s e ≤ s.size := by
  unfold fracEnd
  split
  · rename_i h
    simp [fracOk] at h
    have := goes_ge pDigit s (e + 1)
    have := goes_le pDigit s (e + 1) (by omega)
    omega
  · omega
theorem frac_size (s : ByteArray) (e : Nat) (hs : s.size ≤ 65536) : (fracS s e).size ≤ 65536 := by
  unfold fracS
  split
  · exact sub_size _ _ _ hs
  · simp [ByteArray.size]

def numV (s : ByteArray) (i : Nat) : Value :=
  if 1 < (s.extract i (goes pDigit s i)).size ∧ bt (s.extract i (goes pDigit s i)) 0 = 48 then badV 22
  else if (fracS s (goes pDigit s i)).size = 0 then wholeV (s.extract i (goes pDigit s i))
  else floatV (s.extract i (goes pDigit s i)) (fracS s (goes pDigit s i))

theorem str_nil (P : ByteArray) : (P.toList == []) = decide (P.size = 0) := by
  rw [ByteArray.toList_eq, Bool.eq_iff_iff]
  have h : P.size = P.data.toList.length := rfl
  rw [h]
  cases P.data.toList <;> simp

/-- A told token: its cells, its error; its place is not told yet. -/
def IsTk (v : Value) : Prop := ∃ (k : Int) (x : ByteArray) (n : Int) (f : Nat) (e : Int), v = .tuple #[.agg #[.int .i64 (k), .string (x), .int .i64 (n), .float .f64 (f), .int .i64 (0)], .int .i64 e]

theorem badV_tk (e : Int) : IsTk (badV e) := ⟨_, _, _, _, _, rfl⟩
theorem wholeV_tk (D : ByteArray) : IsTk (wholeV D) := by
  unfold wholeV
  split
  · exact badV_tk _
  · split
    · exact badV_tk _
    · exact ⟨_, _, _, _, _, rfl⟩
theorem floatV_tk (W P : ByteArray) : IsTk (floatV W P) := by
  unfold floatV
  split
  · exact badV_tk _
  · exact ⟨_, _, _, _, _, rfl⟩

set_option maxHeartbeats 1000000 in
theorem number_any (s : ByteArray) (i b : Nat) (hi : i ≤ s.size) (hs : s.size ≤ 65536) (w : World) (h : Sc w b s i) (hT : Lib.Utf8Tabs G1 G2 w) (hP : PowTab w) (hg : GB ≤ b) :
    Calls Tryz.prog 42 #[.pointer (some ⟨b, 0, none⟩)] w fun e w' => e = .returned (numV s i) ∧ Sc w' b s (fracEnd s (goes pDigit s i)) ∧ But (· = b) w w' := by
  have hlt := h.lt
  have cT := take_digit s i b hi hs (wbox w) (Duo.keep h (wbox_below w))
  have hge := goes_ge pDigit s i
  have hle := goes_le pDigit s i hi
  have cF := fun W h1 h2 => fraction_any s (goes pDigit s i) b hle hs W h1 h2
  have cWh := fun W => wholeNumber_any _ (digs_part s i hi) (sub_size s i _ hs) W
  have cFl := fun W hW => float_any _ _ (digs_append _ _ (digs_part s i hi) (digs_frac s (goes pDigit s i))) (sub_size s i _ hs) (frac_size s _ hs) W hW
  have hnil := str_nil (fracS s (goes pDigit s i))
  unfold numV
  obtain ⟨E, hE⟩ : ∃ E, goes pDigit s i = E := ⟨_, rfl⟩
  rw [hE] at cT cF cFl cWh hnil ⊢
  obtain ⟨W, hW⟩ : ∃ W, s.extract i E = W := ⟨_, rfl⟩
  obtain ⟨P, hPP⟩ : ∃ P, fracS s E = P := ⟨_, rfl⟩
  rw [hW] at cT cWh cFl ⊢
  rw [hPP] at cF cFl hnil ⊢
  have hb0 : ∀ h, (W[0]'h).toNat = bt W 0 := fun h => by unfold bt; rw [get_of_lt _ _ h]
  obtain ⟨c, hc⟩ : ∃ c, bt W 0 = c := ⟨_, rfl⟩
  rw [hc] at hb0 ⊢
  have GT1 : ∀ {w1 : World}, But (· = b) w w1 → Lib.Utf8Tabs G1 G2 w1 := fun hb => Utf8Tabs_but hT hb (fun e => by unfold GB at hg; unfold G1 at e; omega) (fun e => by unfold GB at hg; unfold G2 at e; omega)
  have GT2 : ∀ {w1 : World}, But (· = b) w w1 → PowTab w1 := fun hb => PowTab_but hP hb (fun e => by unfold GB at hg; omega) (fun e => by unfold GB at hg; omega)
  clear hE hW hPP hc hT hP
  by_cases hA : 1 < W.size ∧ c = 48
  · obtain ⟨hA1, rfl⟩ := hA
    have hA2 : (1 : Int) < (W.size : Int) := by omega
    rw [if_pos ⟨hA1, rfl⟩]
    go_enter Tryz.func42, Tryz.ntmps42
    go_wp2_with (first
      | (go_at_call 33; refine cT.mono ?_; rintro e w1 ⟨rfl, hs1, hb1⟩; have HS1 := hidb hs1; have HB1 := hidb ((But.of_below (wbox_below w)).trans hb1); have HX1 := hidb ((wbox_box w).but hb1 (by omega)))
      | (go_at_call 69; refine (cF _ HS1.out (GT1 HB1.out)).mono ?_; rintro e w2 ⟨rfl, hs2, hb2⟩; have HS2 := hidb hs2; have HB2 := hidb (HB1.out.trans hb2); have HX2 := hidb (HX1.out.but hb2 (by omega)); obtain ⟨d0, d1, d2, d3, d4, g0, g1, g2, g3, g4, _⟩ := HX2.out))
    refine bodyPost_ret (v := badV 22) (by simp [results, Tryz.results42, go_sem, d0, d1, d2, d3, d4]) rfl ⟨rfl, Duo.set5 HS2.out (by omega) _ _ _ _ _, HB2.out.set5 (fun h => absurd h (Nat.lt_irrefl _)) _ _ _ _ _⟩
  · rw [if_neg hA]
    have hB : ((c : Int) == 48) = false ∨ ¬ (1 : Int) < (W.size : Int) := by
      by_cases h1 : 1 < W.size
      · left; simp; omega
      · right; omega
    cases hq : decide (P.size = 0) <;> rw [hq] at hnil <;> simp only [decide_eq_true_eq, decide_eq_false_iff_not] at hq
    · rw [if_neg hq]
      obtain ⟨k, x, n, f, er, hV⟩ := floatV_tk W P
      rw [hV] at cFl ⊢
      clear hA hV cWh
      rcases hB with hB | hB
      all_goals (go_enter Tryz.func42, Tryz.ntmps42)
      all_goals (go_wp2_with (first
      | (go_at_call 33; refine cT.mono ?_; rintro e w1 ⟨rfl, hs1, hb1⟩; have HS1 := hidb hs1; have HB1 := hidb ((But.of_below (wbox_below w)).trans hb1); have HX1 := hidb ((wbox_box w).but hb1 (by omega)))
      | (go_at_call 69; refine (cF _ HS1.out (GT1 HB1.out)).mono ?_; rintro e w2 ⟨rfl, hs2, hb2⟩; have HS2 := hidb hs2; have HB2 := hidb (HB1.out.trans hb2); have HX2 := hidb (HX1.out.but hb2 (by omega)); obtain ⟨d0, d1, d2, d3, d4, g0, g1, g2, g3, g4, _⟩ := HX2.out)
      | (go_at_call 71; refine (cFl _ (GT2 HB2.out)).mono ?_; rintro e w3 ⟨rfl, hb3⟩; have HB3 := hidb hb3; obtain ⟨z0, z1, z2, z3, z4, y0, y1, y2, y3, y4, _⟩ := HX2.out.keep hb3)))
      all_goals (refine bodyPost_ret (v := .tuple #[.agg #[.int .i64 (k), .string (x), .int .i64 (n), .float .f64 (f), .int .i64 (0)], .int .i64 er]) (by simp [results, Tryz.results42, go_sem, z0, z1, z2, z3, z4]) rfl ⟨rfl, Duo.set5 (Duo.keep HS2.out HB3.out) (by omega) _ _ _ _ _, (HB2.out.trans (But.of_below HB3.out)).set5 (fun h => absurd h (Nat.lt_irrefl _)) _ _ _ _ _⟩)
    · rw [if_pos hq]
      obtain ⟨k, x, n, f, er, hV⟩ := wholeV_tk W
      rw [hV] at cWh ⊢
      clear hA hV cFl
      rcases hB with hB | hB
      all_goals (go_enter Tryz.func42, Tryz.ntmps42)
      all_goals (go_wp2_with (first
      | (go_at_call 33; refine cT.mono ?_; rintro e w1 ⟨rfl, hs1, hb1⟩; have HS1 := hidb hs1; have HB1 := hidb ((But.of_below (wbox_below w)).trans hb1); have HX1 := hidb ((wbox_box w).but hb1 (by omega)))
      | (go_at_call 69; refine (cF _ HS1.out (GT1 HB1.out)).mono ?_; rintro e w2 ⟨rfl, hs2, hb2⟩; have HS2 := hidb hs2; have HB2 := hidb (HB1.out.trans hb2); have HX2 := hidb (HX1.out.but hb2 (by omega)); obtain ⟨d0, d1, d2, d3, d4, g0, g1, g2, g3, g4, _⟩ := HX2.out)
      | (go_at_call 70; refine (cWh _).mono ?_; rintro e w3 ⟨rfl, hb3⟩; have HB3 := hidb hb3; obtain ⟨z0, z1, z2, z3, z4, y0, y1, y2, y3, y4, _⟩ := HX2.out.keep hb3)))
      all_goals (refine bodyPost_ret (v := .tuple #[.agg #[.int .i64 (k), .string (x), .int .i64 (n), .float .f64 (f), .int .i64 (0)], .int .i64 er]) (by simp [results, Tryz.results42, go_sem, z0, z1, z2, z3, z4]) rfl ⟨rfl, Duo.set5 (Duo.keep HS2.out HB3.out) (by omega) _ _ _ _ _, (HB2.out.trans (But.of_below HB3.out)).set5 (fun h => absurd h (Nat.lt_irrefl _)) _ _ _ _ _⟩)
end Go.Proofs.YthdljnakmekhkaaGreatDoor


/- Floats by their bits. -/
namespace Go.Proofs.YthdljnakmekhkaaGreatDoor
open Go.RowKit Go.Lib
attribute [local go_sem] store_float f64bits
attribute [local go_sem ↓] Go.wp_at_zero Go.wp_at_succ

theorem hexd_lt {b d : Nat} (h : hexd b = some d) : d < 16 := by
  unfold hexd at h
  split at h
  · rename_i hd; simp [pDigit] at hd; cases h; omega
  · split at h
    · cases h; omega
    · cases h
theorem hexAt_lt {s : ByteArray} {p d : Nat} (h : hexAt s p = some d) : d < 16 := by
  unfold hexAt at h
  split at h
  · exact hexd_lt h
  · cases h
theorem hexN_lt (s : ByteArray) : ∀ k p u v, hexN s k p u = some v → v < (u + 1) * 16 ^ k := by
  intro k
  induction k with
  | zero => intro p u v h; simp [hexN] at h; omega
  | succ k ih =>
    intro p u v h
    cases ha : hexAt s p with
    | none => rw [hexN_none s k p u ha] at h; cases h
    | some d =>
      rw [hexN_some s k p u d ha] at h
      have h1 := ih _ _ _ h
      have h2 := hexAt_lt ha
      have h3 : (u * 16 + d + 1) * 16 ^ k ≤ ((u + 1) * 16) * 16 ^ k := Nat.mul_le_mul_right _ (by omega)
      have h4 : (u + 1) * 16 ^ (k + 1) = ((u + 1) * 16) * 16 ^ k := by rw [Nat.pow_succ, Nat.mul_assoc, Nat.mul_comm (16 ^ k) 16]
      omega
theorem hexN_in (s : ByteArray) : ∀ k p u v, hexN s (k + 1) p u = some v → p + k + 1 ≤ s.size := by
  intro k
  induction k with
  | zero =>
    intro p u v h
    cases ha : hexAt s p with
    | none => rw [hexN_none s 0 p u ha] at h; cases h
    | some d => unfold hexAt at ha; split at ha; omega; cases ha
  | succ k ih =>
    intro p u v h
    cases ha : hexAt s p with
    | none => rw [hexN_none s (k + 1) p u ha] at h; cases h
    | some d =>
      rw [hexN_some s (k + 1) p u d ha] at h
      have := ih _ _ _ h
      omega

def bitsV (s : ByteArray) (i : Nat) : Value :=
  match hexN s 16 (i + 1) 0 with
  | some u => if Flt.fin u = true then .tuple #[.agg #[.int .i64 (4), .string (⟨#[]⟩), .int .i64 (0), .float .f64 (u), .int .i64 (0)], .int .i64 0] else badV 22
  | none => badV 22

/-- Whether a token is told. -/
def okV : Value → Bool
  | .tuple #[_, .int .i64 e] => e == 0
  | _ => false

set_option maxHeartbeats 1000000 in
theorem bits_any (s : ByteArray) (i b : Nat) (hi : i < s.size) (h35 : bt s i = 35) (hs : s.size ≤ 65536) (w : World) (h : Sc w b s i) (hT : Lib.Utf8Tabs G1 G2 w) (hg : GB ≤ b) :
    Calls Tryz.prog 43 #[.pointer (some ⟨b, 0, none⟩)] w fun e w' => e = .returned (bitsV s i) ∧ But (· = b) w w' ∧ ∃ j, i ≤ j ∧ j ≤ s.size ∧ Sc w' b s j ∧ (okV (bitsV s i) = true → j = i + 17) := by
  have hlt := h.lt
  have GT1 : ∀ {w1 : World}, But (· = b) w w1 → Lib.Utf8Tabs G1 G2 w1 := fun hb => Utf8Tabs_but hT hb (fun e => by unfold GB at hg; unfold G1 at e; omega) (fun e => by unfold GB at hg; unfold G2 at e; omega)
  have cN := next_any s i b (by omega) hs (wbox w) (Duo.keep h (wbox_below w)) (GT1 (But.of_below (wbox_below w)))
  have hnx := nx_low hi (by omega)
  rw [hnx.1, hnx.2] at cN
  have cH := fun W h1 h2 => hex_any s (i + 1) b 16 (by omega) (by omega) hs W h1 h2 (by unfold GB at hg; unfold G1; omega) (by unfold GB at hg; unfold G2; omega)
  unfold bitsV
  obtain ⟨o, ho⟩ : ∃ o, hexN s 16 (i + 1) 0 = o := ⟨_, rfl⟩
  have hbd : o.getD 0 < 18446744073709551616 := by
    cases o with
    | none => simp
    | some v => have := hexN_lt s 16 (i + 1) 0 v ho; simpa using this
  rw [ho] at cH ⊢
  have cB := numBits_any (o.getD 0) hbd
  clear hnx h35 ho hT hbd
  cases o with
  | none =>
    simp only [Option.getD_none, Option.isSome_none] at cH cB ⊢
    have h0 : Flt.fin 0 = true := by decide
    have e0 : numBits 0 = ⟨2, 0, 0, 0⟩ := by simp [numBits, h0]
    simp only [e0] at cB
    go_enter Tryz.func43, Tryz.ntmps43
    go_wp2_with (first
      | (go_at_call 65; refine cN.mono ?_; rintro e w1 ⟨rfl, hs1, hb1⟩; have HS1 := hidb hs1; have HB1 := hidb ((But.of_below (wbox_below w)).trans hb1); have HX1 := hidb ((wbox_box w).but hb1 (by omega)))
      | (go_at_call 72; refine (cH _ HS1.out (GT1 HB1.out)).mono ?_; rintro e w2 ⟨rfl, hb2, j, hj1, hj2, hs2, hj3⟩; have HS2 := hidb hs2; have HB2 := hidb (HB1.out.trans hb2); have HX2 := hidb (HX1.out.but hb2 (by omega)); have HJ := hidb (And.intro hj1 (And.intro hj2 hj3)); clear hj1 hj2 hj3)
      | (go_at_call 73; refine (cB _).mono ?_; rintro e w3 ⟨rfl, hb3⟩; have HB3 := hidb hb3; obtain ⟨z0, z1, z2, z3, z4, y0, y1, y2, y3, y4, _⟩ := (HX2.out.keep hb3).alloc (.cells #[.int .i64 2, .int .i64 0, .float .f64 0, .string ⟨#[]⟩, .slice none 0 0] 90)))
    refine bodyPost_ret (v := badV 22) (by simp [results, Tryz.results43, go_sem, z0, z1, z2, z3, z4]) rfl ⟨rfl, ((HB2.out.trans (But.of_below HB3.out)).alloc _).set5 (fun h => absurd h (Nat.lt_irrefl _)) _ _ _ _ _, j, by have := HJ.out.1; omega, HJ.out.2.1, Duo.set5 ((Duo.keep HS2.out HB3.out).keep (below_new _ _)) (by omega) _ _ _ _ _, fun h => by cases h⟩
  | some u =>
    simp only [Option.getD_some, Option.isSome_some] at cH cB ⊢
    cases hf : Flt.fin u
    · have e0 : numBits u = ⟨0, 0, 0, 11⟩ := by simp [numBits, hf]
      simp only [e0] at cB
      simp only [Bool.false_eq_true, if_false]
      go_enter Tryz.func43, Tryz.ntmps43
      go_wp2_with (first
        | (go_at_call 65; refine cN.mono ?_; rintro e w1 ⟨rfl, hs1, hb1⟩; have HS1 := hidb hs1; have HB1 := hidb ((But.of_below (wbox_below w)).trans hb1); have HX1 := hidb ((wbox_box w).but hb1 (by omega)))
        | (go_at_call 72; refine (cH _ HS1.out (GT1 HB1.out)).mono ?_; rintro e w2 ⟨rfl, hb2, j, hj1, hj2, hs2, hj3⟩; have HS2 := hidb hs2; have HB2 := hidb (HB1.out.trans hb2); have HX2 := hidb (HX1.out.but hb2 (by omega)); have HJ := hidb (And.intro hj1 (And.intro hj2 hj3)); clear hj1 hj2 hj3)
        | (go_at_call 73; refine (cB _).mono ?_; rintro e w3 ⟨rfl, hb3⟩; have HB3 := hidb hb3; obtain ⟨z0, z1, z2, z3, z4, y0, y1, y2, y3, y4, _⟩ := (HX2.out.keep hb3).alloc (.cells #[.int .i64 0, .int .i64 0, .float .f64 0, .string ⟨#[]⟩, .slice none 0 0] 90)))
      refine bodyPost_ret (v := badV 22) (by simp [results, Tryz.results43, go_sem, z0, z1, z2, z3, z4]) rfl ⟨rfl, ((HB2.out.trans (But.of_below HB3.out)).alloc _).set5 (fun h => absurd h (Nat.lt_irrefl _)) _ _ _ _ _, j, by have := HJ.out.1; omega, HJ.out.2.1, Duo.set5 ((Duo.keep HS2.out HB3.out).keep (below_new _ _)) (by omega) _ _ _ _ _, fun h => by cases h⟩
    · have e0 : numBits u = ⟨2, 0, u, 0⟩ := by simp [numBits, hf]
      simp only [e0] at cB
      simp only [if_true]
      go_enter Tryz.func43, Tryz.ntmps43
      go_wp2_with (first
        | (go_at_call 65; refine cN.mono ?_; rintro e w1 ⟨rfl, hs1, hb1⟩; have HS1 := hidb hs1; have HB1 := hidb ((But.of_below (wbox_below w)).trans hb1); have HX1 := hidb ((wbox_box w).but hb1 (by omega)))
        | (go_at_call 72; refine (cH _ HS1.out (GT1 HB1.out)).mono ?_; rintro e w2 ⟨rfl, hb2, j, hj1, hj2, hs2, hj3⟩; have HS2 := hidb hs2; have HB2 := hidb (HB1.out.trans hb2); have HX2 := hidb (HX1.out.but hb2 (by omega)); have HJ := hidb (And.intro hj1 (And.intro hj2 hj3)); clear hj1 hj2 hj3)
        | (go_at_call 73; refine (cB _).mono ?_; rintro e w3 ⟨rfl, hb3⟩; have HB3 := hidb hb3; obtain ⟨z0, z1, z2, z3, z4, y0, y1, y2, y3, y4, _⟩ := (HX2.out.keep hb3).alloc (.cells #[.int .i64 2, .int .i64 0, .float .f64 u, .string ⟨#[]⟩, .slice none 0 0] 90)))
      refine bodyPost_ret (v := .tuple #[.agg #[.int .i64 (4), .string (⟨#[]⟩), .int .i64 (0), .float .f64 (u), .int .i64 (0)], .int .i64 0]) (by simp [results, Tryz.results43, go_sem, z0, z1, z2, z3, z4]) rfl ⟨rfl, ((HB2.out.trans (But.of_below HB3.out)).alloc _).set5 (fun h => absurd h (Nat.lt_irrefl _)) _ _ _ _ _, j, by have := HJ.out.1; omega, HJ.out.2.1, Duo.set5 ((Duo.keep HS2.out HB3.out).keep (below_new _ _)) (by omega) _ _ _ _ _, fun h => by have := HJ.out.2.2 trivial; omega⟩
end Go.Proofs.YthdljnakmekhkaaGreatDoor


/- A builder of strings. -/
namespace Go.Proofs.YthdljnakmekhkaaGreatDoor
open Go.RowKit Go.Lib

set_option maxHeartbeats 1000000 in
set_option maxRecDepth 100000 in
theorem copyCheck_used (b : Nat) (w : World) (h0 : w.cell? ⟨b, 0, none⟩ = some (.pointer (some ⟨b, 0, none⟩))) :
    Calls Tryz.prog 112 #[.pointer (some ⟨b, 0, none⟩)] w fun e w' => e = .returned (.tuple #[]) ∧ w' = w := by
  obtain ⟨j, hj, _⟩ := Option.map_eq_some_iff.1 Tryz.Builder_Extra_169.sizeBuilder
  go_enter Tryz.func112, Tryz.ntmps112
  go_wp2_with fail
  rw [Lib.run_neq_ptr_same w _ Tryz.underlying113 hj]
  go_wp2
  go_end0
  exact ⟨rfl, rfl⟩

set_option maxHeartbeats 1000000 in
set_option maxRecDepth 100000 in
theorem copyCheck_fresh (b : Nat) (w : World) (h0 : w.cell? ⟨b, 0, none⟩ = some (.pointer none)) (hsh : w.shape? b = some (115, 2)) (hfz : w.frozen? ⟨b, 0, none⟩ = false) :
    Calls Tryz.prog 112 #[.pointer (some ⟨b, 0, none⟩)] w fun e w' => e = .returned (.tuple #[]) ∧ w' = w.setCell ⟨b, 0, none⟩ (.pointer (some ⟨b, 0, none⟩)) := by
  obtain ⟨j, hj, hjs⟩ := Option.map_eq_some_iff.1 Tryz.Builder_Extra_169.sizeBuilder
  go_enter Tryz.func112, Tryz.ntmps112
  go_wp2_with fail
  rw [Lib.run_to_unsafe w ⟨b, 0, none⟩ Tryz.underlying113 Tryz.underlying136 hj (by rw [hjs]; decide) hsh (Nat.zero_lt_succ 1)]
  simp only [Result.andThen]
  rw [Oper.upon_value]
  go_wp2_with fail
  rw [run_callFunc_extern Tryz.func118 (by kernel_rfl) (by kernel_rfl) (by kernel_rfl) (e := Extern.AbiNoEscape.same) (by kernel_rfl)]
  rw [Lib.run_noEscape]
  simp only [Result.andThen]
  rw [Oper.upon_value]
  go_wp2_with fail
  rw [Lib.run_from_unsafe w ⟨b, 0, none⟩ Tryz.underlying136 Tryz.underlying113 hj hsh Tryz.Builder_Extra_169.liesBuilder]
  simp only [Result.andThen]
  rw [Oper.upon_value]
  go_wp2
  go_end0
  exact ⟨rfl, rfl⟩

abbrev TB : Nat := 115
abbrev TU : Nat := 5

/-- What a builder's two cells are. -/
theorem bd_cells {b : Nat} {p v : Value} {w : World} (h : w.heap[b]? = some (.cells #[p, v] TB (0, 0))) : w.cell? ⟨b, 0, none⟩ = some p ∧ w.cell? ⟨b, 1, none⟩ = some v ∧ w.frozen? ⟨b, 1, none⟩ = false ∧ b < w.heap.size :=
  ⟨by rw [Lib.cell_of_heap h]; rfl, by rw [Lib.cell_of_heap h]; rfl, Lib.frozen_of_heap h 1, (Array.getElem?_eq_some_iff.1 h).1⟩

theorem copyCheck_k (B b : Nat) (bs : List Value) (w : World) (h : Lib.IsBuilderF TB TU B b bs w) :
    Calls Tryz.prog 112 #[.pointer (some ⟨b, 0, none⟩)] w fun e w' => e = .returned (.tuple #[]) ∧ (Lib.BuilderAtF TB TU B b (.pointer (some ⟨b, 0, none⟩)) bs w' ∧ Below B w w' ∧ Lib.OthersKept TU (some b) w w') := by
  rcases h with h | h
  · refine (copyCheck_fresh b w h.cell0 h.shape h.frozen0).mono fun e w' hx => ?_
    rw [hx.2]
    exact ⟨hx.1, h.used _, (Below.refl B w).setCell (p := ⟨b, 0, none⟩) h.1 _, (Lib.OthersKept.refl _ _ w).setCell ⟨b, 0, none⟩ rfl _⟩
  · refine (copyCheck_used b w h.cell0).mono fun e w' hx => ?_
    rw [hx.2]
    exact ⟨hx.1, h, Below.refl B _, Lib.OthersKept.refl _ _ _⟩

set_option maxHeartbeats 2000000 in
set_option maxRecDepth 100000 in
theorem writeByte_k (B b : Nat) (bs : List Value) (c : Int) (w : World) (h : Lib.IsBuilderF TB TU B b bs w) (hlen : bs.length + 1 ≤ 1000000) (hBw : B ≤ w.heap.size) :
    Calls Tryz.prog 99 #[.pointer (some ⟨b, 0, none⟩), .int .u8 c] w fun e w' => e = .returned .nilIface ∧ (Lib.BuilderAtF TB TU B b (.pointer (some ⟨b, 0, none⟩)) (bs ++ [.int .u8 c]) w' ∧ Below B w w' ∧ Lib.OthersKept TU (some b) w w') := by
  obtain ⟨i0, hi, hz0, hz1, hz2⟩ := info_parts Tryz.Builder_Extra_169.infoByte
  go_enter Tryz.func99, Tryz.ntmps99
  go_wp2_with (go_at_call 112; refine (copyCheck_k B b bs _ h).mono ?_)
  rintro e w1 ⟨rfl, ⟨hB, v, hbk, hown, hne⟩, hb1, hk1⟩
  obtain ⟨c0, c1, -, hlt⟩ := bd_cells hbk
  have hz := hb1.size
  go_wp2_with (at_builtin; refine wpList_append_ownF _ rfl _ _ 34 rfl B 5 i0 (.int .u8 0) 1 1 Tryz.underlying34 hi hz0 hz1 hz2 rfl (by decide) _ _ _ rfl (hown.alloc _) ⟨w1.heap.size, 0, none⟩ 1 1 [.int .u8 c] rfl rfl ?c1 (fun u hu => by cases List.mem_singleton.1 hu; rfl) (by unfold maxLen; omega) (by omega) (by simp; omega) ?_)
  case c1 =>
    intro j u hj
    cases j with
    | zero => cases hj; simp [Addr.add]
    | succ j => simp at hj
  intro v' w2 hown' hgrow _
  have hb2 : w2.heap[b]? = some (.cells #[.pointer (some ⟨b, 0, none⟩), v] TB (0, 0)) := ((hgrow.block b (by simp; omega) (fun e => hne e.symm)).trans (Lib.alloc_old w1 _ b hlt)).trans hbk
  obtain ⟨d0, d1, f1, -⟩ := bd_cells hb2
  obtain ⟨ao, n', cap, rfl⟩ : ∃ ao n' cap, v' = .slice ao n' cap := hown'.2.elim (fun h => ⟨_, _, _, h.1⟩) fun ⟨_, _, _, _, hv, _⟩ => ⟨_, _, _, hv⟩
  go_wp2
  go_ret
  exact ⟨rfl, Lib.BuilderAtF.put (T := TB) (e := TU) hB hb2 (bs' := bs ++ [.int .u8 c]) (by simpa using hown') (by decide),
    ((hb1.alloc (by omega) _).grown hgrow (by simp; omega) (fun k hk => (hown.lt k hk).1)).setCell (p := ⟨b, 1, none⟩) hB _, ((hk1.alloc _).grown hgrow (Lib.ownsRowF_kind (hown.alloc _))).setCell ⟨b, 1, none⟩ rfl _⟩

set_option maxHeartbeats 2000000 in
set_option maxRecDepth 100000 in
theorem writeString_k (B b : Nat) (bs : List Value) (s : ByteArray) (w : World) (h : Lib.IsBuilderF TB TU B b bs w) (hlen : bs.length + s.size ≤ 1000000) (hBw : B ≤ w.heap.size) :
    Calls Tryz.prog 95 #[.pointer (some ⟨b, 0, none⟩), .string s] w fun e w' => e = .returned (.tuple #[.int .i64 s.size, .nilIface]) ∧ (Lib.BuilderAtF TB TU B b (.pointer (some ⟨b, 0, none⟩)) (bs ++ Lib.strCells s) w' ∧ Below B w w' ∧ Lib.OthersKept TU (some b) w w') := by
  obtain ⟨i0, hi, hz0, hz1, hz2⟩ := info_parts Tryz.Builder_Extra_169.infoByte
  go_enter Tryz.func95, Tryz.ntmps95
  go_wp2_with (go_at_call 112; refine (copyCheck_k B b bs _ h).mono ?_)
  rintro e w1 ⟨rfl, ⟨hB, v, hbk, hown, hne⟩, hb1, hk1⟩
  obtain ⟨c0, c1, -, hlt⟩ := bd_cells hbk
  have hz := hb1.size
  go_wp2_with (at_builtin; refine Lib.wpList_append_own_stringF _ rfl _ _ 34 9 rfl B 5 i0 Tryz.underlying34 Tryz.underlying9 hi hz0 hz1 hz2 _ _ _ rfl hown s rfl (by unfold maxLen; omega) (by omega) (by omega) ?_)
  intro v' w2 hown' hgrow _
  have hb2 : w2.heap[b]? = some (.cells #[.pointer (some ⟨b, 0, none⟩), v] TB (0, 0)) := (hgrow.block b hlt (fun e => hne e.symm)).trans hbk
  obtain ⟨d0, d1, f1, -⟩ := bd_cells hb2
  obtain ⟨ao, n', cap, rfl⟩ : ∃ ao n' cap, v' = .slice ao n' cap := hown'.2.elim (fun h => ⟨_, _, _, h.1⟩) fun ⟨_, _, _, _, hv, _⟩ => ⟨_, _, _, hv⟩
  go_wp2
  go_ret2
  exact ⟨rfl, Lib.BuilderAtF.put (T := TB) (e := TU) hB hb2 (bs' := bs ++ Lib.strCells s) (by simpa [Lib.strCells_length] using hown') (by decide),
    (hb1.grown hgrow (by omega) (fun k hk => (hown.lt k hk).1)).setCell (p := ⟨b, 1, none⟩) hB _, (hk1.grown hgrow (Lib.ownsRowF_kind hown)).setCell ⟨b, 1, none⟩ rfl _⟩
end Go.Proofs.YthdljnakmekhkaaGreatDoor


/- Escapes; a builder is kept. -/
namespace Go.Proofs.YthdljnakmekhkaaGreatDoor
open Go.RowKit Go.Lib
attribute [local go_sem] store_float f64bits
attribute [local go_sem ↓] Go.wp_at_zero Go.wp_at_succ

theorem bd_new (w : World) (B : Nat) (hB : B ≤ w.heap.size) : Lib.IsBuilderF TB TU B w.heap.size [] (w.alloc (.cells #[.pointer none, .slice none 0 0] TB)) :=
  .inl ⟨hB, .slice none 0 0, heap_alloc_last w _, ⟨rfl, .inl ⟨rfl, rfl⟩⟩, by simp [Value.ownBlock]⟩

theorem bd_but {S : Nat → Prop} {B bb : Nat} {bs : List Value} {w w' : World} (h : Lib.IsBuilderF TB TU B bb bs w) (hb : But S w w') (hS : ∀ k, S k → k < B) : Lib.IsBuilderF TB TU B bb bs w' := by
  have key : ∀ p, Lib.BuilderAtF TB TU B bb p bs w → Lib.BuilderAtF TB TU B bb p bs w' := by
    rintro p ⟨hB, v, hbk, hown, hne⟩
    have hk : ∀ k o, w.heap[k]? = some o → B ≤ k → w'.heap[k]? = some o := fun k o hk hBk => (hb.block k (Array.getElem?_eq_some_iff.1 hk).1 (fun h => by have := hS k h; omega)).trans hk
    refine ⟨hB, v, hk _ _ hbk hB, ⟨hown.1, ?_⟩, hne⟩
    rcases hown.2 with h0 | ⟨g, cap, cur, fz, hv, hg, hh, rest⟩
    · exact .inl h0
    · exact .inr ⟨g, cap, cur, fz, hv, hg, hk _ _ hh hg, rest⟩
  exact h.elim (fun h => .inl (key _ h)) (fun h => .inr (key _ h))

/-- The byte that an escape stands for, and the place behind it. -/
def escAt (s : ByteArray) (p : Nat) : Option (Nat × Nat) :=
  if p < s.size then
    if bt s p = 92 ∨ bt s p = 39 ∨ bt s p = 34 then some (bt s p, p + 1)
    else if bt s p = 110 then some (10, p + 1)
    else if bt s p = 116 then some (9, p + 1)
    else if bt s p = 120 then (hexN s 2 (p + 1) 0).map fun u => (u, p + 3)
    else none
  else none

theorem esc_lt {s : ByteArray} {p c e : Nat} (h : escAt s p = some (c, e)) : c < 256 ∧ p < e ∧ e ≤ s.size := by
  unfold escAt at h
  split at h
  · rename_i hp
    split at h
    · cases h; have := bt_lt s p; omega
    · split at h
      · cases h; omega
      · split at h
        · cases h; omega
        · split at h
          · cases hx : hexN s 2 (p + 1) 0 with
            | none => rw [hx] at h; cases h
            | some u =>
              rw [hx] at h; cases h
              have h1 := hexN_lt s 2 (p + 1) 0 c hx
              have h2 := hexN_in s 1 (p + 1) 0 c hx
              omega
          · cases h
  · cases h

set_option maxHeartbeats 1000000 in
theorem escaped_any (s : ByteArray) (i b : Nat) (hi : i ≤ s.size) (hs : s.size ≤ 65536) (w : World) (h : Sc w b s i) (hT : Lib.Utf8Tabs G1 G2 w) (hg : GB ≤ b) :
    Calls Tryz.prog 98 #[.pointer (some ⟨b, 0, none⟩)] w fun e w' => e = .returned (.tuple #[.int .u8 (((escAt s i).map Prod.fst).getD 0 : Nat), .bool (escAt s i).isSome]) ∧ But (· = b) w w' ∧ ∃ j, j ≤ s.size ∧ Sc w' b s j ∧ ∀ c e, escAt s i = some (c, e) → j = e := by
  have GT1 : ∀ {w1 : World}, But (· = b) w w1 → Lib.Utf8Tabs G1 G2 w1 := fun hb => Utf8Tabs_but hT hb (fun e => by unfold GB at hg; unfold G1 at e; omega) (fun e => by unfold GB at hg; unfold G2 at e; omega)
  have cN := next_any s i b hi hs w h hT
  have hin := nx_in s i hi
  have key : (∃ c : Nat, (c = 92 ∨ c = 39 ∨ c = 34 ∨ c = 110 ∨ c = 116 ∨ c = 120) ∧ i < s.size ∧ bt s i = c ∧ nxR s i = (c : Int) ∧ nxK s i = 1) ∨ (escAt s i = none ∧ nxR s i ≠ 92 ∧ nxR s i ≠ 39 ∧ nxR s i ≠ 34 ∧ nxR s i ≠ 110 ∧ nxR s i ≠ 116 ∧ nxR s i ≠ 120) := by
    have q := fun c hc => nx_eq s i c hc
    by_cases hc : i < s.size ∧ (bt s i = 92 ∨ bt s i = 39 ∨ bt s i = 34 ∨ bt s i = 110 ∨ bt s i = 116 ∨ bt s i = 120)
    · left
      have hx := nx_low hc.1 (by omega)
      exact ⟨bt s i, hc.2, hc.1, rfl, hx.1, hx.2⟩
    · right
      have q1 := q 92 (by omega); have q2 := q 39 (by omega); have q3 := q 34 (by omega); have q4 := q 110 (by omega); have q5 := q 116 (by omega); have q6 := q 120 (by omega)
      refine ⟨?_, by omega, by omega, by omega, by omega, by omega, by omega⟩
      unfold escAt
      split
      · rw [if_neg (by omega), if_neg (by omega), if_neg (by omega), if_neg (by omega)]
      · rfl
  rcases key with ⟨c, hc, hlt, hbt, hr, hk⟩ | ⟨hn, n1, n2, n3, n4, n5, n6⟩
  · rw [hr, hk] at cN
    unfold escAt
    rw [if_pos hlt, hbt]
    have cH := fun W h1 h2 => hex_any s (i + 1) b 2 (by omega) (by omega) hs W h1 h2 (by unfold GB at hg; unfold G1; omega) (by unfold GB at hg; unfold G2; omega)
    clear hr hk hbt hin hT
    rcases hc with rfl | rfl | rfl | rfl | rfl | rfl
    · go_enter Tryz.func98, Tryz.ntmps98
      go_wp2_with (first | (go_at_call 65; refine cN.mono ?_; rintro e w1 ⟨rfl, hs1, hb1⟩; have HS1 := hidb hs1; have HB1 := hidb hb1))
      exact bodyPost_ret (v := .tuple #[.int .u8 92, .bool true]) (by simp [results, Tryz.results98, go_sem]) rfl (by first | exact ⟨rfl, hb1, by omega, hs1⟩ | exact ⟨rfl, hb1, i + 1, by omega, hs1, fun c e h => by cases h; rfl⟩)
    · go_enter Tryz.func98, Tryz.ntmps98
      go_wp2_with (first | (go_at_call 65; refine cN.mono ?_; rintro e w1 ⟨rfl, hs1, hb1⟩; have HS1 := hidb hs1; have HB1 := hidb hb1))
      exact bodyPost_ret (v := .tuple #[.int .u8 39, .bool true]) (by simp [results, Tryz.results98, go_sem]) rfl (by first | exact ⟨rfl, hb1, by omega, hs1⟩ | exact ⟨rfl, hb1, i + 1, by omega, hs1, fun c e h => by cases h; rfl⟩)
    · go_enter Tryz.func98, Tryz.ntmps98
      go_wp2_with (first | (go_at_call 65; refine cN.mono ?_; rintro e w1 ⟨rfl, hs1, hb1⟩; have HS1 := hidb hs1; have HB1 := hidb hb1))
      exact bodyPost_ret (v := .tuple #[.int .u8 34, .bool true]) (by simp [results, Tryz.results98, go_sem]) rfl (by first | exact ⟨rfl, hb1, by omega, hs1⟩ | exact ⟨rfl, hb1, i + 1, by omega, hs1, fun c e h => by cases h; rfl⟩)
    · go_enter Tryz.func98, Tryz.ntmps98
      go_wp2_with (first | (go_at_call 65; refine cN.mono ?_; rintro e w1 ⟨rfl, hs1, hb1⟩; have HS1 := hidb hs1; have HB1 := hidb hb1))
      exact bodyPost_ret (v := .tuple #[.int .u8 10, .bool true]) (by simp [results, Tryz.results98, go_sem]) rfl (by first | exact ⟨rfl, hb1, by omega, hs1⟩ | exact ⟨rfl, hb1, i + 1, by omega, hs1, fun c e h => by cases h; rfl⟩)
    · go_enter Tryz.func98, Tryz.ntmps98
      go_wp2_with (first | (go_at_call 65; refine cN.mono ?_; rintro e w1 ⟨rfl, hs1, hb1⟩; have HS1 := hidb hs1; have HB1 := hidb hb1))
      exact bodyPost_ret (v := .tuple #[.int .u8 9, .bool true]) (by simp [results, Tryz.results98, go_sem]) rfl (by first | exact ⟨rfl, hb1, by omega, hs1⟩ | exact ⟨rfl, hb1, i + 1, by omega, hs1, fun c e h => by cases h; rfl⟩)
    · obtain ⟨o, ho⟩ : ∃ o, hexN s 2 (i + 1) 0 = o := ⟨_, rfl⟩
      have hbd : o.getD 0 < 256 := by
        cases o with
        | none => simp
        | some v => have := hexN_lt s 2 (i + 1) 0 v ho; simpa using this
      rw [ho] at cH ⊢
      rw [if_neg (by omega), if_neg (by omega), if_neg (by omega), if_pos rfl]
      have hV : (((o.map fun u => (u, i + 3)).map Prod.fst).getD 0) = o.getD 0 := by cases o <;> rfl
      have hS : (o.map fun u => (u, i + 3)).isSome = o.isSome := by cases o <;> rfl
      have hE : ∀ c e, (o.map fun u => (u, i + 3)) = some (c, e) → o.isSome = true ∧ e = i + 3 := by
        intro c e h; cases o with
        | none => cases h
        | some u => cases h; exact ⟨rfl, rfl⟩
      rw [hV, hS]
      obtain ⟨X, hX⟩ : ∃ X : Int, ((o.getD 0 : Nat) : Int) = X := ⟨_, rfl⟩
      obtain ⟨t, ht⟩ : ∃ t, o.isSome = t := ⟨_, rfl⟩
      simp only [hX, ht] at cH ⊢
      rw [ht] at hE
      have x0 : 0 ≤ X := by omega
      have x1 : X < 256 := by omega
      have xw : IntKind.u8.wrap X = X := by rw [IntKind.wrap_u8]; omega
      obtain ⟨Pp, hPp⟩ : ∃ Pp : World → Prop, (fun w' => But (· = b) w w' ∧ ∃ j, j ≤ s.size ∧ Sc w' b s j ∧ ∀ c e, (o.map fun u => (u, i + 3)) = some (c, e) → j = e) = Pp := ⟨_, rfl⟩
      have hPw : ∀ w', (But (· = b) w w' ∧ ∃ j, j ≤ s.size ∧ Sc w' b s j ∧ ∀ c e, (o.map fun u => (u, i + 3)) = some (c, e) → j = e) = Pp w' := fun w' => by rw [← hPp]
      simp only [hPw]
      clear hV hS ht hX ho hbd hPp
      go_enter Tryz.func98, Tryz.ntmps98
      go_wp2_with (first
        | (go_at_call 65; refine cN.mono ?_; rintro e w1 ⟨rfl, hs1, hb1⟩; have HS1 := hidb hs1; have HB1 := hidb hb1)
        | (go_at_call 72; refine (cH _ HS1.out (GT1 HB1.out)).mono ?_; rintro e w2 ⟨rfl, hb2, j, hj1, hj2, hs2, hj3⟩))
      refine bodyPost_ret (v := .tuple #[.int .u8 X, .bool t]) (by simp [results, Tryz.results98, go_sem]) rfl ⟨rfl, ?_⟩
      rw [← hPw]
      exact ⟨HB1.out.trans hb2, j, hj2, hs2, fun c e h => by obtain ⟨h1, h2⟩ := hE c e h; have := hj3 h1; omega⟩
  · rw [hn]
    obtain ⟨r, hr⟩ : ∃ r, nxR s i = r := ⟨_, rfl⟩
    rw [hr] at cN n1 n2 n3 n4 n5 n6
    have m1 : (r == 92) = false := by simpa using n1
    have m2 : (r == 39) = false := by simpa using n2
    have m3 : (r == 34) = false := by simpa using n3
    have m4 : (r == 110) = false := by simpa using n4
    have m5 : (r == 116) = false := by simpa using n5
    have m6 : (r == 120) = false := by simpa using n6
    clear hr n1 n2 n3 n4 n5 n6 hn
    go_enter Tryz.func98, Tryz.ntmps98
    go_wp2_with (go_at_call 65; refine cN.mono ?_; rintro e w1 ⟨rfl, hs1, hb1⟩)
    exact bodyPost_ret (v := .tuple #[.int .u8 0, .bool false]) (by simp [results, Tryz.results98, go_sem]) rfl ⟨rfl, hb1, i + nxK s i, hin, hs1, fun c e h => by cases h⟩
end Go.Proofs.YthdljnakmekhkaaGreatDoor


