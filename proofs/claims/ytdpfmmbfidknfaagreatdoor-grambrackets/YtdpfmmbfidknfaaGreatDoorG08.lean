import Derived.Test.YtdpfmmbfidknfaaGreatDoorG07
/- Numbers: floats, and all. -/
namespace Go.Proofs.YtdpfmmbfidknfaaGreatDoor
open Go.RowKit Go.Lib
attribute [local go_sem] store_float f64bits
attribute [local go_sem ↓] Go.wp_at_zero Go.wp_at_succ

/-- The blocks of the variables lie below it. -/
abbrev GB : Nat := 7

theorem cell_lt {w : World} {a : Addr} {v : Value} (hc : w.cell? a = some v) : a.block < w.heap.size := by
  rcases Nat.lt_or_ge a.block w.heap.size with h' | h'
  · exact h'
  · simp [World.cell?, Array.getElem?_eq_none h'] at hc

theorem PowTab_but {S : Nat → Prop} {w w' : World} (h : PowTab w) (hb : But S w w') (h1 : ¬ S 2) (h2 : ¬ S 3) : PowTab w' :=
  ⟨(hb.cell (cell_lt h.one) h1).trans h.one, fun k x hk => (hb.cell (cell_lt (h.tab k x hk)) h2).trans (h.tab k x hk)⟩
theorem PowTab_below {w w' : World} (h : PowTab w) (hb : Below w.heap.size w w') : PowTab w' :=
  PowTab_but h (But.of_below (S := fun _ => False) hb) (fun h => h) (fun h => h)

def floatV (W P : ByteArray) : Value := if 15 < (W ++ P).size then badV 22 else .tuple #[.agg #[.int .i64 (4), .string (⟨#[]⟩), .int .i64 (0), .float .f64 (fq (wor (W ++ P) (W ++ P).size) P.size), .int .i64 (0)], .int .i64 0]

set_option maxHeartbeats 1000000 in
theorem float_any (W P : ByteArray) (h : Digs (W ++ P)) (hs : W.size ≤ 65536) (hp : P.size ≤ 65536) (w : World) (hT : PowTab w) :
    Calls Tryz.prog 46 #[.string W, .string P] w fun e w' => e = .returned (floatV W P) ∧ Below w.heap.size w w' := by
  unfold floatV
  have hsz : (W ++ P).size = W.size + P.size := ByteArray.size_append ..
  by_cases h15 : 15 < (W ++ P).size
  · have h1 : (15 : Int) < ((W ++ P).size : Int) := by omega
    rw [if_pos h15]
    go_enter Tryz.func46, Tryz.ntmps46
    go_wp2_with fail
    exact bodyPost_ret (v := badV 22) (by simp [results, Tryz.results46, go_sem]) rfl ⟨rfl, by (repeat (first | exact Below.refl _ _ | assumption | refine Below.drew ?_ | refine below_drewN ?_ _ | refine Below.setCell ?_ (by simp) _ | refine Below.alloc ?_ (by (first | exact Nat.le_refl _ | (simp; done) | (simp; omega) | omega)) _ | refine Below.trans ?_ (Below.mono (by assumption) (by first | exact Nat.le_refl _ | (simp; done) | (simp; omega) | omega))))⟩
  · have h1 : ¬ (15 : Int) < ((W ++ P).size : Int) := by omega
    rw [if_neg h15]
    have cW := worth_any (W ++ P) h (by omega)
    have hv := wor_lt18 _ h (by omega) _ (Nat.le_refl _)
    obtain ⟨D, hD⟩ : ∃ D, W ++ P = D := ⟨_, rfl⟩
    rw [hD] at cW hv h1 ⊢
    obtain ⟨V, hV⟩ : ∃ V, wor D D.size = V := ⟨_, rfl⟩
    rw [hV] at cW hv ⊢
    have cP := fun W h => pow10_any P.size (by omega) W h
    have hq := fq_some V P.size (by omega) (by omega)
    obtain ⟨Q, hQ⟩ : ∃ Q, fq V P.size = Q := ⟨_, rfl⟩
    rw [hQ] at hq ⊢
    have hqq := fun t w => run_float_arith (P := Tryz.prog) w .quo t .f64 _ _ _ hq
    clear hV hv hQ hq hsz h15
    go_enter Tryz.func46, Tryz.ntmps46
    go_wp2_with (first
      | (go_at_call 59; refine (cW _).mono ?_; rintro e w1 ⟨rfl, hb1⟩; have HB1 := hidb hb1)
      | (go_at_call 60; refine (cP _ (PowTab_below (PowTab_below hT (wbox_below w)) HB1.out)).mono ?_; rintro e w2 ⟨rfl, hb2⟩; have HB2 := hidb hb2; obtain ⟨d0, d1, d2, d3, d4, g0, g1, g2, g3, g4, _⟩ := ((wbox_box w).keep HB1.out).keep hb2))
    exact bodyPost_ret (v := .tuple #[.agg #[.int .i64 (4), .string (⟨#[]⟩), .int .i64 (0), .float .f64 (Q), .int .i64 (0)], .int .i64 0]) (by simp [results, Tryz.results46, go_sem, d0, d1, d2, d3, d4]) rfl ⟨rfl, below_set5 (below_chain (wbox_below w) HB1.out HB2.out) (Nat.le_refl _) _ _ _ _ _⟩

theorem bt_append (A B : ByteArray) (j : Nat) (h : j < A.size + B.size) : bt (A ++ B) j = if j < A.size then bt A j else bt B (j - A.size) := by
  have hj : j < (A ++ B).size := by rw [ByteArray.size_append]; exact h
  unfold bt
  rw [get_of_lt _ _ hj]
  split
  · rename_i hl
    rw [get_of_lt _ _ hl, ByteArray.getElem_append_left hl]
  · rename_i hl
    rw [get_of_lt _ _ (by omega), ByteArray.getElem_append_right (by omega)]

theorem digs_part (s : ByteArray) (i : Nat) (hi : i ≤ s.size) : Digs (s.extract i (goes pDigit s i)) := by
  intro j hj
  rw [size_ext] at hj
  have h1 := goes_le pDigit s i hi
  rw [bt_ext2 s i _ j (by omega) h1]
  exact goes_all pDigit s i _ (by omega) (by omega)

theorem digs_append (A B : ByteArray) (hA : Digs A) (hB : Digs B) : Digs (A ++ B) := by
  intro j hj
  rw [ByteArray.size_append] at hj
  rw [bt_append A B j hj]
  split
  · exact hA j (by assumption)
  · exact hB _ (by omega)

theorem digs_frac (s : ByteArray) (e : Nat) : Digs (fracS s e) := by
  unfold fracS
  split
  · rename_i h
    simp [fracOk] at h
    exact digs_part s (e + 1) (by omega)
  · intro j hj; simp [ByteArray.size] at hj

theorem frac_end (s : ByteArray) (e : Nat) (he : e ≤ s.size) : e ≤ fracEnd s e ∧ fracEnd s e ≤ s.size := by
  unfold fracEnd
  split
  · rename_i h
    simp [fracOk] at h
    have := goes_ge pDigit s (e + 1)
    have := goes_le pDigit s (e + 1) (by omega)
    omega
  · omega
theorem frac_size (s : ByteArray) (e : Nat) (hs : s.size ≤ 65536) : (fracS s e).size ≤ 65536 := by
  unfold fracS
  split
  · exact sub_size _ _ _ hs
  · simp [ByteArray.size]

def numV (s : ByteArray) (i : Nat) : Value :=
  if 1 < (s.extract i (goes pDigit s i)).size ∧ bt (s.extract i (goes pDigit s i)) 0 = 48 then badV 22
  else if (fracS s (goes pDigit s i)).size = 0 then wholeV (s.extract i (goes pDigit s i))
  else floatV (s.extract i (goes pDigit s i)) (fracS s (goes pDigit s i))

theorem str_nil (P : ByteArray) : (P.toList == []) = decide (P.size = 0) := by
  rw [ByteArray.toList_eq, Bool.eq_iff_iff]
  have h : P.size = P.data.toList.length := rfl
  rw [h]
  cases P.data.toList <;> simp

/-- A told token: its cells, its error; its place is not told yet. -/
def IsTk (v : Value) : Prop := ∃ (k : Int) (x : ByteArray) (n : Int) (f : Nat) (e : Int), v = .tuple #[.agg #[.int .i64 (k), .string (x), .int .i64 (n), .float .f64 (f), .int .i64 (0)], .int .i64 e]

theorem badV_tk (e : Int) : IsTk (badV e) := ⟨_, _, _, _, _, rfl⟩
theorem wholeV_tk (D : ByteArray) : IsTk (wholeV D) := by
  unfold wholeV
  split
  · exact badV_tk _
  · split
    · exact badV_tk _
    · exact ⟨_, _, _, _, _, rfl⟩
theorem floatV_tk (W P : ByteArray) : IsTk (floatV W P) := by
  unfold floatV
  split
  · exact badV_tk _
  · exact ⟨_, _, _, _, _, rfl⟩

set_option maxHeartbeats 1000000 in
theorem number_any (s : ByteArray) (i b : Nat) (hi : i ≤ s.size) (hs : s.size ≤ 65536) (w : World) (h : Sc w b s i) (hT : Lib.Utf8Tabs G1 G2 w) (hP : PowTab w) (hg : GB ≤ b) :
    Calls Tryz.prog 28 #[.pointer (some ⟨b, 0, none⟩)] w fun e w' => e = .returned (numV s i) ∧ Sc w' b s (fracEnd s (goes pDigit s i)) ∧ But (· = b) w w' := by
  have hlt := h.lt
  have cT := take_digit s i b hi hs (wbox w) (Duo.keep h (wbox_below w))
  have hge := goes_ge pDigit s i
  have hle := goes_le pDigit s i hi
  have cF := fun W h1 h2 => fraction_any s (goes pDigit s i) b hle hs W h1 h2
  have cWh := fun W => wholeNumber_any _ (digs_part s i hi) (sub_size s i _ hs) W
  have cFl := fun W hW => float_any _ _ (digs_append _ _ (digs_part s i hi) (digs_frac s (goes pDigit s i))) (sub_size s i _ hs) (frac_size s _ hs) W hW
  have hnil := str_nil (fracS s (goes pDigit s i))
  unfold numV
  obtain ⟨E, hE⟩ : ∃ E, goes pDigit s i = E := ⟨_, rfl⟩
  rw [hE] at cT cF cFl cWh hnil ⊢
  obtain ⟨W, hW⟩ : ∃ W, s.extract i E = W := ⟨_, rfl⟩
  obtain ⟨P, hPP⟩ : ∃ P, fracS s E = P := ⟨_, rfl⟩
  rw [hW] at cT cWh cFl ⊢
  rw [hPP] at cF cFl hnil ⊢
  have hb0 : ∀ h, (W[0]'h).toNat = bt W 0 := fun h => by unfold bt; rw [get_of_lt _ _ h]
  obtain ⟨c, hc⟩ : ∃ c, bt W 0 = c := ⟨_, rfl⟩
  rw [hc] at hb0 ⊢
  have GT1 : ∀ {w1 : World}, But (· = b) w w1 → Lib.Utf8Tabs G1 G2 w1 := fun hb => Utf8Tabs_but hT hb (fun e => by unfold GB at hg; unfold G1 at e; omega) (fun e => by unfold GB at hg; unfold G2 at e; omega)
  have GT2 : ∀ {w1 : World}, But (· = b) w w1 → PowTab w1 := fun hb => PowTab_but hP hb (fun e => by unfold GB at hg; omega) (fun e => by unfold GB at hg; omega)
  clear hE hW hPP hc hT hP
  by_cases hA : 1 < W.size ∧ c = 48
  · obtain ⟨hA1, rfl⟩ := hA
    have hA2 : (1 : Int) < (W.size : Int) := by omega
    rw [if_pos ⟨hA1, rfl⟩]
    go_enter Tryz.func28, Tryz.ntmps28
    go_wp2_with (first
      | (go_at_call 19; refine cT.mono ?_; rintro e w1 ⟨rfl, hs1, hb1⟩; have HS1 := hidb hs1; have HB1 := hidb ((But.of_below (wbox_below w)).trans hb1); have HX1 := hidb ((wbox_box w).but hb1 (by omega)))
      | (go_at_call 44; refine (cF _ HS1.out (GT1 HB1.out)).mono ?_; rintro e w2 ⟨rfl, hs2, hb2⟩; have HS2 := hidb hs2; have HB2 := hidb (HB1.out.trans hb2); have HX2 := hidb (HX1.out.but hb2 (by omega)); obtain ⟨d0, d1, d2, d3, d4, g0, g1, g2, g3, g4, _⟩ := HX2.out))
    refine bodyPost_ret (v := badV 22) (by simp [results, Tryz.results28, go_sem, d0, d1, d2, d3, d4]) rfl ⟨rfl, Duo.set5 HS2.out (by omega) _ _ _ _ _, HB2.out.set5 (fun h => absurd h (Nat.lt_irrefl _)) _ _ _ _ _⟩
  · rw [if_neg hA]
    have hB : ((c : Int) == 48) = false ∨ ¬ (1 : Int) < (W.size : Int) := by
      by_cases h1 : 1 < W.size
      · left; simp; omega
      · right; omega
    cases hq : decide (P.size = 0) <;> rw [hq] at hnil <;> simp only [decide_eq_true_eq, decide_eq_false_iff_not] at hq
    · rw [if_neg hq]
      obtain ⟨k, x, n, f, er, hV⟩ := floatV_tk W P
      rw [hV] at cFl ⊢
      clear hA hV cWh
      rcases hB with hB | hB
      all_goals (go_enter Tryz.func28, Tryz.ntmps28)
      all_goals (go_wp2_with (first
      | (go_at_call 19; refine cT.mono ?_; rintro e w1 ⟨rfl, hs1, hb1⟩; have HS1 := hidb hs1; have HB1 := hidb ((But.of_below (wbox_below w)).trans hb1); have HX1 := hidb ((wbox_box w).but hb1 (by omega)))
      | (go_at_call 44; refine (cF _ HS1.out (GT1 HB1.out)).mono ?_; rintro e w2 ⟨rfl, hs2, hb2⟩; have HS2 := hidb hs2; have HB2 := hidb (HB1.out.trans hb2); have HX2 := hidb (HX1.out.but hb2 (by omega)); obtain ⟨d0, d1, d2, d3, d4, g0, g1, g2, g3, g4, _⟩ := HX2.out)
      | (go_at_call 46; refine (cFl _ (GT2 HB2.out)).mono ?_; rintro e w3 ⟨rfl, hb3⟩; have HB3 := hidb hb3; obtain ⟨z0, z1, z2, z3, z4, y0, y1, y2, y3, y4, _⟩ := HX2.out.keep hb3)))
      all_goals (refine bodyPost_ret (v := .tuple #[.agg #[.int .i64 (k), .string (x), .int .i64 (n), .float .f64 (f), .int .i64 (0)], .int .i64 er]) (by simp [results, Tryz.results28, go_sem, z0, z1, z2, z3, z4]) rfl ⟨rfl, Duo.set5 (Duo.keep HS2.out HB3.out) (by omega) _ _ _ _ _, (HB2.out.trans (But.of_below HB3.out)).set5 (fun h => absurd h (Nat.lt_irrefl _)) _ _ _ _ _⟩)
    · rw [if_pos hq]
      obtain ⟨k, x, n, f, er, hV⟩ := wholeV_tk W
      rw [hV] at cWh ⊢
      clear hA hV cFl
      rcases hB with hB | hB
      all_goals (go_enter Tryz.func28, Tryz.ntmps28)
      all_goals (go_wp2_with (first
      | (go_at_call 19; refine cT.mono ?_; rintro e w1 ⟨rfl, hs1, hb1⟩; have HS1 := hidb hs1; have HB1 := hidb ((But.of_below (wbox_below w)).trans hb1); have HX1 := hidb ((wbox_box w).but hb1 (by omega)))
      | (go_at_call 44; refine (cF _ HS1.out (GT1 HB1.out)).mono ?_; rintro e w2 ⟨rfl, hs2, hb2⟩; have HS2 := hidb hs2; have HB2 := hidb (HB1.out.trans hb2); have HX2 := hidb (HX1.out.but hb2 (by omega)); obtain ⟨d0, d1, d2, d3, d4, g0, g1, g2, g3, g4, _⟩ := HX2.out)
      | (go_at_call 45; refine (cWh _).mono ?_; rintro e w3 ⟨rfl, hb3⟩; have HB3 := hidb hb3; obtain ⟨z0, z1, z2, z3, z4, y0, y1, y2, y3, y4, _⟩ := HX2.out.keep hb3)))
      all_goals (refine bodyPost_ret (v := .tuple #[.agg #[.int .i64 (k), .string (x), .int .i64 (n), .float .f64 (f), .int .i64 (0)], .int .i64 er]) (by simp [results, Tryz.results28, go_sem, z0, z1, z2, z3, z4]) rfl ⟨rfl, Duo.set5 (Duo.keep HS2.out HB3.out) (by omega) _ _ _ _ _, (HB2.out.trans (But.of_below HB3.out)).set5 (fun h => absurd h (Nat.lt_irrefl _)) _ _ _ _ _⟩)
end Go.Proofs.YtdpfmmbfidknfaaGreatDoor


/- Floats by their bits. -/
namespace Go.Proofs.YtdpfmmbfidknfaaGreatDoor
open Go.RowKit Go.Lib
attribute [local go_sem] store_float f64bits
attribute [local go_sem ↓] Go.wp_at_zero Go.wp_at_succ

theorem hexd_lt {b d : Nat} (h : hexd b = some d) : d < 16 := by
  unfold hexd at h
  split at h
  · rename_i hd; simp [pDigit] at hd; cases h; omega
  · split at h
    · cases h; omega
    · cases h
theorem hexAt_lt {s : ByteArray} {p d : Nat} (h : hexAt s p = some d) : d < 16 := by
  unfold hexAt at h
  split at h
  · exact hexd_lt h
  · cases h
theorem hexN_lt (s : ByteArray) : ∀ k p u v, hexN s k p u = some v → v < (u + 1) * 16 ^ k := by
  intro k
  induction k with
  | zero => intro p u v h; simp [hexN] at h; omega
  | succ k ih =>
    intro p u v h
    cases ha : hexAt s p with
    | none => rw [hexN_none s k p u ha] at h; cases h
    | some d =>
      rw [hexN_some s k p u d ha] at h
      have h1 := ih _ _ _ h
      have h2 := hexAt_lt ha
      have h3 : (u * 16 + d + 1) * 16 ^ k ≤ ((u + 1) * 16) * 16 ^ k := Nat.mul_le_mul_right _ (by omega)
      have h4 : (u + 1) * 16 ^ (k + 1) = ((u + 1) * 16) * 16 ^ k := by rw [Nat.pow_succ, Nat.mul_assoc, Nat.mul_comm (16 ^ k) 16]
      omega
theorem hexN_in (s : ByteArray) : ∀ k p u v, hexN s (k + 1) p u = some v → p + k + 1 ≤ s.size := by
  intro k
  induction k with
  | zero =>
    intro p u v h
    cases ha : hexAt s p with
    | none => rw [hexN_none s 0 p u ha] at h; cases h
    | some d => unfold hexAt at ha; split at ha; omega; cases ha
  | succ k ih =>
    intro p u v h
    cases ha : hexAt s p with
    | none => rw [hexN_none s (k + 1) p u ha] at h; cases h
    | some d =>
      rw [hexN_some s (k + 1) p u d ha] at h
      have := ih _ _ _ h
      omega

def bitsV (s : ByteArray) (i : Nat) : Value :=
  match hexN s 16 (i + 1) 0 with
  | some u => if Flt.fin u = true then .tuple #[.agg #[.int .i64 (4), .string (⟨#[]⟩), .int .i64 (0), .float .f64 (u), .int .i64 (0)], .int .i64 0] else badV 22
  | none => badV 22

/-- Whether a token is told. -/
def okV : Value → Bool
  | .tuple #[_, .int .i64 e] => e == 0
  | _ => false

set_option maxHeartbeats 1000000 in
theorem bits_any (s : ByteArray) (i b : Nat) (hi : i < s.size) (h35 : bt s i = 35) (hs : s.size ≤ 65536) (w : World) (h : Sc w b s i) (hT : Lib.Utf8Tabs G1 G2 w) (hg : GB ≤ b) :
    Calls Tryz.prog 29 #[.pointer (some ⟨b, 0, none⟩)] w fun e w' => e = .returned (bitsV s i) ∧ But (· = b) w w' ∧ ∃ j, i ≤ j ∧ j ≤ s.size ∧ Sc w' b s j ∧ (okV (bitsV s i) = true → j = i + 17) := by
  have hlt := h.lt
  have GT1 : ∀ {w1 : World}, But (· = b) w w1 → Lib.Utf8Tabs G1 G2 w1 := fun hb => Utf8Tabs_but hT hb (fun e => by unfold GB at hg; unfold G1 at e; omega) (fun e => by unfold GB at hg; unfold G2 at e; omega)
  have cN := next_any s i b (by omega) hs (wbox w) (Duo.keep h (wbox_below w)) (GT1 (But.of_below (wbox_below w)))
  have hnx := nx_low hi (by omega)
  rw [hnx.1, hnx.2] at cN
  have cH := fun W h1 h2 => hex_any s (i + 1) b 16 (by omega) (by omega) hs W h1 h2 (by unfold GB at hg; unfold G1; omega) (by unfold GB at hg; unfold G2; omega)
  unfold bitsV
  obtain ⟨o, ho⟩ : ∃ o, hexN s 16 (i + 1) 0 = o := ⟨_, rfl⟩
  have hbd : o.getD 0 < 18446744073709551616 := by
    cases o with
    | none => simp
    | some v => have := hexN_lt s 16 (i + 1) 0 v ho; simpa using this
  rw [ho] at cH ⊢
  have cB := numBits_any (o.getD 0) hbd
  clear hnx h35 ho hT hbd
  cases o with
  | none =>
    simp only [Option.getD_none, Option.isSome_none] at cH cB ⊢
    have h0 : Flt.fin 0 = true := by decide
    have e0 : numBits 0 = ⟨2, 0, 0, 0⟩ := by simp [numBits, h0]
    simp only [e0] at cB
    go_enter Tryz.func29, Tryz.ntmps29
    go_wp2_with (first
      | (go_at_call 40; refine cN.mono ?_; rintro e w1 ⟨rfl, hs1, hb1⟩; have HS1 := hidb hs1; have HB1 := hidb ((But.of_below (wbox_below w)).trans hb1); have HX1 := hidb ((wbox_box w).but hb1 (by omega)))
      | (go_at_call 47; refine (cH _ HS1.out (GT1 HB1.out)).mono ?_; rintro e w2 ⟨rfl, hb2, j, hj1, hj2, hs2, hj3⟩; have HS2 := hidb hs2; have HB2 := hidb (HB1.out.trans hb2); have HX2 := hidb (HX1.out.but hb2 (by omega)); have HJ := hidb (And.intro hj1 (And.intro hj2 hj3)); clear hj1 hj2 hj3)
      | (go_at_call 48; refine (cB _).mono ?_; rintro e w3 ⟨rfl, hb3⟩; have HB3 := hidb hb3; obtain ⟨z0, z1, z2, z3, z4, y0, y1, y2, y3, y4, _⟩ := (HX2.out.keep hb3).alloc (.cells #[.int .i64 2, .int .i64 0, .float .f64 0, .string ⟨#[]⟩, .slice none 0 0] 79)))
    refine bodyPost_ret (v := badV 22) (by simp [results, Tryz.results29, go_sem, z0, z1, z2, z3, z4]) rfl ⟨rfl, ((HB2.out.trans (But.of_below HB3.out)).alloc _).set5 (fun h => absurd h (Nat.lt_irrefl _)) _ _ _ _ _, j, by have := HJ.out.1; omega, HJ.out.2.1, Duo.set5 ((Duo.keep HS2.out HB3.out).keep (below_new _ _)) (by omega) _ _ _ _ _, fun h => by cases h⟩
  | some u =>
    simp only [Option.getD_some, Option.isSome_some] at cH cB ⊢
    cases hf : Flt.fin u
    · have e0 : numBits u = ⟨0, 0, 0, 11⟩ := by simp [numBits, hf]
      simp only [e0] at cB
      simp only [Bool.false_eq_true, if_false]
      go_enter Tryz.func29, Tryz.ntmps29
      go_wp2_with (first
        | (go_at_call 40; refine cN.mono ?_; rintro e w1 ⟨rfl, hs1, hb1⟩; have HS1 := hidb hs1; have HB1 := hidb ((But.of_below (wbox_below w)).trans hb1); have HX1 := hidb ((wbox_box w).but hb1 (by omega)))
        | (go_at_call 47; refine (cH _ HS1.out (GT1 HB1.out)).mono ?_; rintro e w2 ⟨rfl, hb2, j, hj1, hj2, hs2, hj3⟩; have HS2 := hidb hs2; have HB2 := hidb (HB1.out.trans hb2); have HX2 := hidb (HX1.out.but hb2 (by omega)); have HJ := hidb (And.intro hj1 (And.intro hj2 hj3)); clear hj1 hj2 hj3)
        | (go_at_call 48; refine (cB _).mono ?_; rintro e w3 ⟨rfl, hb3⟩; have HB3 := hidb hb3; obtain ⟨z0, z1, z2, z3, z4, y0, y1, y2, y3, y4, _⟩ := (HX2.out.keep hb3).alloc (.cells #[.int .i64 0, .int .i64 0, .float .f64 0, .string ⟨#[]⟩, .slice none 0 0] 79)))
      refine bodyPost_ret (v := badV 22) (by simp [results, Tryz.results29, go_sem, z0, z1, z2, z3, z4]) rfl ⟨rfl, ((HB2.out.trans (But.of_below HB3.out)).alloc _).set5 (fun h => absurd h (Nat.lt_irrefl _)) _ _ _ _ _, j, by have := HJ.out.1; omega, HJ.out.2.1, Duo.set5 ((Duo.keep HS2.out HB3.out).keep (below_new _ _)) (by omega) _ _ _ _ _, fun h => by cases h⟩
    · have e0 : numBits u = ⟨2, 0, u, 0⟩ := by simp [numBits, hf]
      simp only [e0] at cB
      simp only [if_true]
      go_enter Tryz.func29, Tryz.ntmps29
      go_wp2_with (first
        | (go_at_call 40; refine cN.mono ?_; rintro e w1 ⟨rfl, hs1, hb1⟩; have HS1 := hidb hs1; have HB1 := hidb ((But.of_below (wbox_below w)).trans hb1); have HX1 := hidb ((wbox_box w).but hb1 (by omega)))
        | (go_at_call 47; refine (cH _ HS1.out (GT1 HB1.out)).mono ?_; rintro e w2 ⟨rfl, hb2, j, hj1, hj2, hs2, hj3⟩; have HS2 := hidb hs2; have HB2 := hidb (HB1.out.trans hb2); have HX2 := hidb (HX1.out.but hb2 (by omega)); have HJ := hidb (And.intro hj1 (And.intro hj2 hj3)); clear hj1 hj2 hj3)
        | (go_at_call 48; refine (cB _).mono ?_; rintro e w3 ⟨rfl, hb3⟩; have HB3 := hidb hb3; obtain ⟨z0, z1, z2, z3, z4, y0, y1, y2, y3, y4, _⟩ := (HX2.out.keep hb3).alloc (.cells #[.int .i64 2, .int .i64 0, .float .f64 u, .string ⟨#[]⟩, .slice none 0 0] 79)))
      refine bodyPost_ret (v := .tuple #[.agg #[.int .i64 (4), .string (⟨#[]⟩), .int .i64 (0), .float .f64 (u), .int .i64 (0)], .int .i64 0]) (by simp [results, Tryz.results29, go_sem, z0, z1, z2, z3, z4]) rfl ⟨rfl, ((HB2.out.trans (But.of_below HB3.out)).alloc _).set5 (fun h => absurd h (Nat.lt_irrefl _)) _ _ _ _ _, j, by have := HJ.out.1; omega, HJ.out.2.1, Duo.set5 ((Duo.keep HS2.out HB3.out).keep (below_new _ _)) (by omega) _ _ _ _ _, fun h => by have := HJ.out.2.2 trivial; omega⟩
end Go.Proofs.YtdpfmmbfidknfaaGreatDoor


