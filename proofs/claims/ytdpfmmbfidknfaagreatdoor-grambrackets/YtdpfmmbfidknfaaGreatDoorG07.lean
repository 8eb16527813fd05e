import Derived.Test.YtdpfmmbfidknfaaGreatDoorG06
/- Numbers: whole ones, floats, what stands behind a point. -/
namespace Go.Proofs.YtdpfmmbfidknfaaGreatDoor
open Go.RowKit Go.Lib Ieee
attribute [local go_sem] store_float f64bits
attribute [local go_sem ↓] Go.wp_at_zero Go.wp_at_succ

theorem quo_some (a b : Nat) (ha : ∃ s m p, double.read a = .number s m p) (hb : ∃ s m p, double.read b = .number s m p ∧ m ≠ 0) : ∃ q, double.div a b = some q := by
  obtain ⟨s, m, p, ha⟩ := ha
  obtain ⟨t, n, q, hb, hn⟩ := hb
  unfold Format.div
  rw [ha, hb]
  simp only [Datum.quotient]
  rw [if_neg hn]
  exact ⟨_, rfl⟩

def isNum : Datum → Bool
  | .number _ m _ => m != 0
  | _ => false

theorem num_of {x : Nat} (h : isNum (double.read x) = true) : ∃ s m p, double.read x = .number s m p ∧ m ≠ 0 := by
  cases hd : double.read x with
  | number s m p => rw [hd] at h; exact ⟨s, m, p, rfl, by simpa [isNum] using h⟩
  | infinity s => rw [hd] at h; cases h
  | nan => rw [hd] at h; cases h

theorem p10_read (k x : Nat) (h : p10L[k]? = some x) : ∃ s m p, double.read x = .number s m p ∧ m ≠ 0 := by
  have hk : k < 16 := (List.getElem?_eq_some_iff.1 h).1
  match k, hk, h with
  | 0, _, h => cases h; exact num_of (by kernel_rfl)
  | 1, _, h => cases h; exact num_of (by kernel_rfl)
  | 2, _, h => cases h; exact num_of (by kernel_rfl)
  | 3, _, h => cases h; exact num_of (by kernel_rfl)
  | 4, _, h => cases h; exact num_of (by kernel_rfl)
  | 5, _, h => cases h; exact num_of (by kernel_rfl)
  | 6, _, h => cases h; exact num_of (by kernel_rfl)
  | 7, _, h => cases h; exact num_of (by kernel_rfl)
  | 8, _, h => cases h; exact num_of (by kernel_rfl)
  | 9, _, h => cases h; exact num_of (by kernel_rfl)
  | 10, _, h => cases h; exact num_of (by kernel_rfl)
  | 11, _, h => cases h; exact num_of (by kernel_rfl)
  | 12, _, h => cases h; exact num_of (by kernel_rfl)
  | 13, _, h => cases h; exact num_of (by kernel_rfl)
  | 14, _, h => cases h; exact num_of (by kernel_rfl)
  | 15, _, h => cases h; exact num_of (by kernel_rfl)

theorem near_read (V : Nat) (hV : V ≤ 1152921504606846976) : ∃ s m p, double.read (floatOfInt .f64 (V : Int)) = .number s m p := by
  have hf : Flt.fin (floatOfInt .f64 (V : Int)) = true := by
    have := Flt.near_fin false (n := V) hV
    have e : floatOfInt .f64 (V : Int) = double.nearest false V 0 := by
      unfold floatOfInt FloatKind.nearest
      have h1 : decide ((V : Int) < 0) = false := by simp
      simp only [h1, Int.natAbs_natCast]
      rfl
    rw [e]; exact this
  have hl : floatOfInt .f64 (V : Int) < 18446744073709551616 := by
    have := floatOfInt_wf .f64 (V : Int)
    simpa [Lit.wf] using this
  obtain ⟨m, p, h, _⟩ := Flt.read_canon hl hf
  exact ⟨_, m, p, h⟩

/-- One division of floats by the exact power. -/
def fq (V k : Nat) : Nat := (floatBits .quo .f64 (floatOfInt .f64 (V : Int)) (p10 k)).getD 0

theorem fq_some (V k : Nat) (hV : V ≤ 1152921504606846976) (hk : k < 16) : floatBits .quo .f64 (floatOfInt .f64 (V : Int)) (p10 k) = some (fq V k) := by
  obtain ⟨q, hq⟩ := quo_some _ _ (near_read V hV) (p10_read k _ (p10_at k hk))
  have e : floatBits .quo .f64 (floatOfInt .f64 (V : Int)) (p10 k) = some q := hq
  unfold fq
  rw [e]
  rfl

def fracOk (s : ByteArray) (e : Nat) : Bool := decide (e < s.size) && bt s e == 46 && decide (e + 1 < s.size) && pDigit (bt s (e + 1))
def fracEnd (s : ByteArray) (e : Nat) : Nat := if fracOk s e = true then goes pDigit s (e + 1) else e
def fracS (s : ByteArray) (e : Nat) : ByteArray := if fracOk s e = true then s.extract (e + 1) (goes pDigit s (e + 1)) else ⟨#[]⟩

theorem nx_eq (s : ByteArray) (e c : Nat) (hc : c < 128) : (nxR s e = (c : Int)) ↔ (e < s.size ∧ bt s e = c) := by
  rcases Nat.lt_or_ge e s.size with hl | hl
  · rcases Nat.lt_or_ge (bt s e) 128 with hb | hb
    · rw [(nx_low hl hb).1]; omega
    · have := (nx_high hl hb).1; omega
  · rw [(nx_end hl).1]; omega

theorem nx_digit (s : ByteArray) (e : Nat) : zDigit (nxR s e) = (decide (e < s.size) && pDigit (bt s e)) := by
  rcases Nat.lt_or_ge e s.size with hl | hl
  · rcases Nat.lt_or_ge (bt s e) 128 with hb | hb
    · rw [(nx_low hl hb).1, zDigit_nat]; simp [hl]
    · have := (nx_high hl hb).1; rw [flat_digit _ hb]; simp [zDigit]; omega
  · have hn : ¬ e < s.size := by omega
    rw [(nx_end hl).1]; simp [hn]; decide

theorem frac_no1 (s : ByteArray) (e : Nat) (h : nxR s e ≠ 46) : fracOk s e = false := by
  have := nx_eq s e 46 (by omega)
  simp only [fracOk]
  by_cases h1 : e < s.size
  · by_cases h2 : bt s e = 46
    · exact absurd (this.2 ⟨h1, h2⟩) h
    · simp [h2]
  · simp [h1]
theorem frac_eq (s : ByteArray) (e : Nat) (h : nxR s e = 46) : fracOk s e = zDigit (nxR s (e + 1)) ∧ nxK s e = 1 ∧ e < s.size := by
  have h1 := (nx_eq s e 46 (by omega)).1 h
  refine ⟨?_, (nx_low h1.1 (by omega)).2, h1.1⟩
  rw [nx_digit]
  simp [fracOk, h1.1, h1.2]

set_option maxHeartbeats 1000000 in
set_option maxRecDepth 1000000 in
theorem fraction_any (s : ByteArray) (i b : Nat) (hi : i ≤ s.size) (hs : s.size ≤ 65536) (w : World) (h : Sc w b s i) (hT : Lib.Utf8Tabs G1 G2 w) :
    Calls Tryz.prog 44 #[.pointer (some ⟨b, 0, none⟩)] w fun e w' => e = .returned (.string (fracS s i)) ∧ Sc w' b s (fracEnd s i) ∧ But (· = b) w w' := by
  have c0 := h.c0; have c1 := h.c1; have f0 := h.f0; have f1 := h.f1; have hlt := h.lt
  have hal : Below w.heap.size w (w.alloc (.cells #[.string s, .int .i64 i] 52)) := (Below.refl _ _).alloc (Nat.le_refl _) _
  have cN := next_any s i w.heap.size hi hs _ (Duo.new w 52 (.string s) (.int .i64 i)) (Utf8Tabs_below hT hal)
  have h46 := frac_no1 s i
  have h47 := frac_eq s i
  obtain ⟨r, hr⟩ : ∃ r, nxR s i = r := ⟨_, rfl⟩
  rw [hr] at cN h46 h47
  have hwb : ∀ {w1 : World}, But (· = w.heap.size) (w.alloc (.cells #[.string s, .int .i64 i] 52)) w1 → Below w.heap.size w w1 := fun hbut => hal.trans (hbut.below (by simp) (fun k hk => by omega))
  by_cases he : r = 46
  · have hz : (r != 46) = false := by simpa using he
    obtain ⟨hok, hk, hlt1⟩ := h47 he
    rw [hk] at cN
    have hi1 : i + 1 ≤ s.size := by omega
    obtain ⟨r2, hr2⟩ : ∃ r2, nxR s (i + 1) = r2 := ⟨_, rfl⟩
    rw [hr2] at hok
    have cP := fun W h1 h2 => peek_any s (i + 1) w.heap.size hi1 hs W h1 h2
    rw [hr2] at cP
    have HT := hidb hT
    have HH := hidb h
    clear h46 h47 hr hr2 hk he hT
    cases hd : zDigit r2
    · rw [hd] at hok
      simp only [fracS, fracEnd, hok, Bool.false_eq_true, if_false]
      go_enter Tryz.func44, Tryz.ntmps44
      go_wp2_with (first
        | (go_at_call 40; refine cN.mono ?_; rintro e w1 ⟨rfl, hsc, hbut⟩; have HS := hidb hsc; have HB := hidb (hwb hbut))
        | (go_at_call 21; refine (cP _ HS.out (Utf8Tabs_below HT.out HB.out)).mono ?_; rintro e w2 ⟨rfl, hb2⟩; have HB2 := hidb hb2)
        | (go_at_call 24; refine (isDigit_any _ _).mono ?_; rintro e w' ⟨rfl, hw'⟩; obtain rfl := hw'.symm; rw [hd]))
      have HB3 : Below w.heap.size w w2 := HB.out.trans (HB2.out.mono HB.out.size)
      go_ret
      exact ⟨rfl, Duo.keep h HB3, But.of_below HB3⟩
    · rw [hd] at hok
      simp only [fracS, fracEnd, hok, if_true]
      go_enter Tryz.func44, Tryz.ntmps44
      go_wp2_with (first
        | (go_at_call 40; refine cN.mono ?_; rintro e w1 ⟨rfl, hsc, hbut⟩; have HS := hidb hsc; have HB := hidb (hwb hbut))
        | (go_at_call 21; refine (cP _ HS.out (Utf8Tabs_below HT.out HB.out)).mono ?_; rintro e w2 ⟨rfl, hb2⟩; have HB2 := hidb hb2; have HB3 : Hid (Below w.heap.size w w2) := hidb (HB.out.trans (HB2.out.mono HB.out.size)); obtain ⟨a0, a1, a2, a3, a4⟩ := Duo.keep HS.out hb2; obtain ⟨e0, e1, e2, e3, e4⟩ := Duo.keep HH.out HB3.out; have hne : w.heap.size ≠ b := by omega)
        | (go_at_call 24; refine (isDigit_any _ _).mono ?_; rintro e w' ⟨rfl, hw'⟩; obtain rfl := hw'.symm; rw [hd]))
      have hD4 : Sc ((w2.setCell ⟨b, 0, none⟩ (.string s)).setCell ⟨b, 1, none⟩ (.int .i64 ((i : Int) + 1))) b s (i + 1) := ((Duo.keep HH.out HB3.out).set0 (.string s)).set1 (.int .i64 ((i : Int) + 1))
      refine (take_digit s (i + 1) b hi1 hs _ hD4).mono ?_
      rintro e w4 ⟨rfl, hsc4, hbut4⟩
      go_wp2_with fail
      go_ret
      exact ⟨rfl, hsc4, (((But.of_below (S := (· = b)) HB3.out).setCell (p := ⟨b, 0, none⟩) (fun _ => rfl) _).setCell (p := ⟨b, 1, none⟩) (fun _ => rfl) _).trans hbut4⟩
  · have hz : (r != 46) = true := by simpa using he
    have hno := h46 he
    simp only [fracS, fracEnd, hno, Bool.false_eq_true, if_false]
    clear hno h46 h47 hr
    go_enter Tryz.func44, Tryz.ntmps44
    go_wp2_with (go_at_call 40; refine cN.mono ?_; rintro e w' ⟨rfl, hsc, hbut⟩; have HS := hidb hsc; have HB := hidb hbut)
    go_ret
    exact ⟨rfl, Duo.keep h (hwb HB.out), But.of_below (hwb HB.out)⟩
end Go.Proofs.YtdpfmmbfidknfaaGreatDoor


/- Numbers: the tokens. -/
namespace Go.Proofs.YtdpfmmbfidknfaaGreatDoor
open Go.RowKit Go.Lib
attribute [local go_sem] store_float f64bits
attribute [local go_sem ↓] Go.wp_at_zero Go.wp_at_succ

/-- A token that is none, with its error. -/
abbrev badV (e : Int) : Value := .tuple #[.agg #[.int .i64 (0), .string (⟨#[]⟩), .int .i64 (0), .float .f64 (0), .int .i64 (0)], .int .i64 e]

def wholeV (D : ByteArray) : Value := if 18 < D.size then badV 22 else if 576460752303423487 < wor D D.size then badV 22 else .tuple #[.agg #[.int .i64 (3), .string (⟨#[]⟩), .int .i64 ((wor D D.size : Nat)), .float .f64 (0), .int .i64 (0)], .int .i64 0]

theorem below_chain {a b c d : World} (h1 : Below a.heap.size a b) (h2 : Below b.heap.size b c) (h3 : Below c.heap.size c d) : Below a.heap.size a d :=
  (h1.trans (h2.mono h1.size)).trans (h3.mono (Nat.le_trans h1.size h2.size))

set_option maxHeartbeats 1000000 in
theorem wholeNumber_any (D : ByteArray) (h : Digs D) (hs : D.size ≤ 65536) (w : World) :
    Calls Tryz.prog 45 #[.string D] w fun e w' => e = .returned (wholeV D) ∧ Below w.heap.size w w' := by
  unfold wholeV
  by_cases h18 : 18 < D.size
  · have h1 : (18 : Int) < (D.size : Int) := by omega
    rw [if_pos h18]
    go_enter Tryz.func45, Tryz.ntmps45
    go_wp2_with fail
    exact bodyPost_ret (v := badV 22) (by simp [results, Tryz.results45, go_sem]) rfl ⟨rfl, by (repeat (first | exact Below.refl _ _ | assumption | refine Below.drew ?_ | refine below_drewN ?_ _ | refine Below.setCell ?_ (by simp) _ | refine Below.alloc ?_ (by (first | exact Nat.le_refl _ | (simp; done) | (simp; omega) | omega)) _ | refine Below.trans ?_ (Below.mono (by assumption) (by first | exact Nat.le_refl _ | (simp; done) | (simp; omega) | omega))))⟩
  · have h1 : ¬ (18 : Int) < (D.size : Int) := by omega
    rw [if_neg h18]
    have cW := worth_any D h (by omega)
    have hv := wor_lt18 D h (by omega) D.size (Nat.le_refl _)
    obtain ⟨V, hV⟩ : ∃ V, wor D D.size = V := ⟨_, rfl⟩
    rw [hV] at cW hv ⊢
    have cI := numInt_any (V : Int)
    by_cases hm : 576460752303423487 < V
    · have e : numInt (V : Int) = ⟨0, 0, 0, 12⟩ := by
        have : whB (V : Int) = false := by simp [whB]; omega
        simp [numInt, this]
      rw [if_pos hm]
      simp only [e] at cI
      clear hV hm e hv
      go_enter Tryz.func45, Tryz.ntmps45
      go_wp2_with (first
        | (go_at_call 59; refine (cW _).mono ?_; rintro e w1 ⟨rfl, hb1⟩; have HB1 := hidb hb1)
        | (go_at_call 58; refine (cI _).mono ?_; rintro e w2 ⟨rfl, hb2⟩; have HB2 := hidb hb2; obtain ⟨d0, d1, d2, d3, d4, g0, g1, g2, g3, g4, _⟩ := (((wbox_box w).keep HB1.out).keep hb2).alloc (.cells #[.int .i64 0, .int .i64 0, .float .f64 0, .string ⟨#[]⟩, .slice none 0 0] 79)))
      exact bodyPost_ret (v := badV 22) (by simp [results, Tryz.results45, go_sem, d0, d1, d2, d3, d4]) rfl ⟨rfl, below_set5 ((below_chain (wbox_below w) HB1.out HB2.out).alloc (Nat.le_trans (Nat.le_trans (wbox_below w).size HB1.out.size) HB2.out.size) _) (Nat.le_refl _) _ _ _ _ _⟩
    · have e : numInt (V : Int) = ⟨1, V, 0, 0⟩ := by
        have : whB (V : Int) = true := by simp [whB]; omega
        simp [numInt, this]
      rw [if_neg hm]
      simp only [e] at cI
      clear hV hm e hv
      go_enter Tryz.func45, Tryz.ntmps45
      go_wp2_with (first
        | (go_at_call 59; refine (cW _).mono ?_; rintro e w1 ⟨rfl, hb1⟩; have HB1 := hidb hb1)
        | (go_at_call 58; refine (cI _).mono ?_; rintro e w2 ⟨rfl, hb2⟩; have HB2 := hidb hb2; obtain ⟨d0, d1, d2, d3, d4, g0, g1, g2, g3, g4, _⟩ := (((wbox_box w).keep HB1.out).keep hb2).alloc (.cells #[.int .i64 1, .int .i64 (V : Int), .float .f64 0, .string ⟨#[]⟩, .slice none 0 0] 79)))
      exact bodyPost_ret (v := .tuple #[.agg #[.int .i64 (3), .string (⟨#[]⟩), .int .i64 ((V : Nat)), .float .f64 (0), .int .i64 (0)], .int .i64 0]) (by simp [results, Tryz.results45, go_sem, d0, d1, d2, d3, d4]) rfl ⟨rfl, below_set5 ((below_chain (wbox_below w) HB1.out HB2.out).alloc (Nat.le_trans (Nat.le_trans (wbox_below w).size HB1.out.size) HB2.out.size) _) (Nat.le_refl _) _ _ _ _ _⟩
end Go.Proofs.YtdpfmmbfidknfaaGreatDoor


