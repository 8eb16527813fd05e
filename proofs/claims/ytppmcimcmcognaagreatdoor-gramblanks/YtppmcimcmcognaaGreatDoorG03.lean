import Derived.Test.YtppmcimcmcognaaGreatDoorG02
/- next, peek, and the classes. -/
namespace Go.Proofs.YtppmcimcmcognaaGreatDoor
open Go.RowKit Go.Lib
attribute [local go_sem] store_float f64bits
attribute [local go_sem ↓] Go.wp_at_zero Go.wp_at_succ

/-- The rune that stands there (-1: none), and its width. -/
def nxR (s : ByteArray) (i : Nat) : Int := if i < s.size then ((Utf8.decode s i).1 : Int) else -1
def nxK (s : ByteArray) (i : Nat) : Nat := if i < s.size then (Utf8.decode s i).2 else 0

theorem nx_end {s : ByteArray} {i : Nat} (h : s.size ≤ i) : nxR s i = -1 ∧ nxK s i = 0 := by
  have h1 : ¬ i < s.size := by omega
  simp [nxR, nxK, h1]
theorem nx_low {s : ByteArray} {i : Nat} (h : i < s.size) (hb : bt s i < 128) : nxR s i = (bt s i : Int) ∧ nxK s i = 1 := by
  simp [nxR, nxK, h, decode_low s i hb]
theorem nx_high {s : ByteArray} {i : Nat} (h : i < s.size) (hb : 128 ≤ bt s i) : 128 ≤ nxR s i ∧ i + nxK s i ≤ s.size ∧ 1 ≤ nxK s i := by
  obtain ⟨h1, h2, h3, _⟩ := decode_high' s i h hb
  simp only [nxR, nxK, h, if_true]
  omega
theorem nx_in (s : ByteArray) (i : Nat) (h : i ≤ s.size) : i + nxK s i ≤ s.size := by
  unfold nxK
  split
  · exact decode_in s i (by assumption)
  · omega
theorem nx_le (s : ByteArray) (i : Nat) : -1 ≤ nxR s i ∧ nxR s i ≤ 1114111 := by
  unfold nxR
  split
  · have := Lib.rune_le s i; omega
  · omega

abbrev G1 : Nat := 5
abbrev G2 : Nat := 6

set_option maxHeartbeats 1000000 in
set_option maxRecDepth 1000000 in
theorem next_any (s : ByteArray) (i b : Nat) (hi : i ≤ s.size) (hs : s.size ≤ 65536) (w : World) (h : Sc w b s i) (hT : Lib.Utf8Tabs G1 G2 w) :
    Calls Tryz.prog 65 #[.pointer (some ⟨b, 0, none⟩)] w fun e w' => e = .returned (.int .i32 (nxR s i)) ∧ Sc w' b s (i + nxK s i) ∧ But (· = b) w w' := by
  have c0 := h.c0; have c1 := h.c1; have f1 := h.f1
  have hdg : Lib.decodeGo (s.extract i s.size) = if i < s.size then Utf8.decode s i else (65533, 0) := by
    unfold Lib.decodeGo
    rw [size_ext, decode_ext]
    by_cases hl : i < s.size
    · rw [if_neg (by omega), if_pos hl]; rfl
    · rw [if_pos (by omega), if_neg hl]
  have cD := Tryz.utf8_DecodeRuneInString (s.extract i s.size) w.drew hT
  rw [hdg] at cD
  have hin := nx_in s i hi
  have h0 : (0 : Int) ≤ (i : Int) := by omega
  have h1 : (i : Int) ≤ (s.size : Int) := by omega
  by_cases hl : i < s.size
  · have eR : nxR s i = ((Utf8.decode s i).1 : Int) := by simp [nxR, hl]
    have eK : nxK s i = (Utf8.decode s i).2 := by simp [nxK, hl]
    have hk := Lib.width_pos s i
    rw [if_pos hl] at cD
    rw [eK] at hin
    rw [eR, eK]
    obtain ⟨r, hr⟩ : ∃ r, (Utf8.decode s i).1 = r := ⟨_, rfl⟩
    obtain ⟨K, hK⟩ : ∃ K, (Utf8.decode s i).2 = K := ⟨_, rfl⟩
    rw [hr, hK] at cD ⊢
    rw [hK] at hin hk
    have hz : ((K : Int) == 0) = false := by simp; omega
    have hw : wrap64 ((i : Int) + (K : Int)) = (i : Int) + (K : Int) := by unfold wrap64; omega
    clear hdg hr hK eR eK
    go_enter Tryz.func65, Tryz.ntmps65
    go_wp2_with fail
    go_region_held3 (fun w' => w'.cell? ⟨b, 0, none⟩ = some (.string s) ∧ w'.cell? ⟨b, 1, none⟩ = some (.int .i64 i))
      (first | with_reducible exact ⟨z0, z1⟩ | go_keep)
      (first | (go_at_call 88; refine cD.mono ?_; rintro e wz ⟨rfl, hbz⟩; have HBZ := hidb (undrew hbz); have HDZ := hidb (Duo.keep h HBZ.out); have z0 := HDZ.out.c0; have z1 := HDZ.out.c1; have zf := HDZ.out.f1))
    go_wp2_with fail
    go_ret
    refine ⟨rfl, ?_, (But.of_below (S := (· = b)) HBZ.out).setCell (fun _ => rfl) _⟩
    have := HDZ.out.set1 (.int .i64 ((i : Int) + (K : Int)))
    simpa [Sc] using this
  · have e2 := nx_end (s := s) (i := i) (by omega)
    rw [if_neg hl] at cD
    rw [e2.1, e2.2]
    clear hdg e2 hin
    go_enter Tryz.func65, Tryz.ntmps65
    go_wp2_with fail
    go_region_held3 (fun w' => w'.cell? ⟨b, 0, none⟩ = some (.string s) ∧ w'.cell? ⟨b, 1, none⟩ = some (.int .i64 i))
      (first | with_reducible exact ⟨z0, z1⟩ | go_keep)
      (first | (go_at_call 88; refine cD.mono ?_; rintro e wz ⟨rfl, hbz⟩; have HBZ := hidb (undrew hbz); have HDZ := hidb (Duo.keep h HBZ.out); have z0 := HDZ.out.c0; have z1 := HDZ.out.c1; have zf := HDZ.out.f1))
    go_wp2_with fail
    go_ret
    exact ⟨rfl, HDZ.out, But.of_below HBZ.out⟩

theorem Utf8Tabs_but {S : Nat → Prop} {w w' : World} (h : Lib.Utf8Tabs G1 G2 w) (hb : But S w w') (h1 : ¬ S G1) (h2 : ¬ S G2) : Lib.Utf8Tabs G1 G2 w' := by
  have lt : ∀ {a : Addr} {v : Value}, w.cell? a = some v → a.block < w.heap.size := fun {a v} hc => by
    rcases Nat.lt_or_ge a.block w.heap.size with h' | h'
    · exact h'
    · simp [World.cell?, Array.getElem?_eq_none h'] at hc
  exact ⟨fun c hc => (hb.cell (lt (h.1 c hc)) h1).trans (h.1 c hc), fun i hi => ⟨(hb.cell (lt (h.2 i hi).1) h2).trans (h.2 i hi).1, (hb.cell (lt (h.2 i hi).2) h2).trans (h.2 i hi).2⟩⟩

set_option maxHeartbeats 1000000 in
set_option maxRecDepth 1000000 in
theorem peek_any (s : ByteArray) (i b : Nat) (hi : i ≤ s.size) (hs : s.size ≤ 65536) (w : World) (h : Sc w b s i) (hT : Lib.Utf8Tabs G1 G2 w) :
    Calls Tryz.prog 35 #[.pointer (some ⟨b, 0, none⟩)] w fun e w' => e = .returned (.int .i32 (nxR s i)) ∧ Below w.heap.size w w' := by
  have c0 := h.c0; have c1 := h.c1
  have hal : Below w.heap.size w (w.alloc (.cells #[.string s, .int .i64 i] 55)) := (Below.refl _ _).alloc (Nat.le_refl _) _
  have cN := next_any s i w.heap.size hi hs _ (Duo.new w 55 (.string s) (.int .i64 i)) (Utf8Tabs_below hT hal)
  go_enter Tryz.func35, Tryz.ntmps35
  go_wp2_with (go_at_call 65; refine cN.mono ?_; rintro e w' ⟨rfl, hsc, hbut⟩)
  go_ret
  exact ⟨rfl, hal.trans (hbut.below (by simp) (fun k hk => by omega))⟩

def zSmall (r : Int) : Bool := decide (97 ≤ r) && decide (r ≤ 122)
def zCapital (r : Int) : Bool := decide (65 ≤ r) && decide (r ≤ 90)
def zDigit (r : Int) : Bool := decide (48 ≤ r) && decide (r ≤ 57)

theorem zSmall_nat (n : Nat) : zSmall n = pSmall n := by simp only [zSmall, pSmall]; congr 1 <;> (apply decide_eq_decide.2; omega)
theorem zCapital_nat (n : Nat) : zCapital n = pCapital n := by simp only [zCapital, pCapital]; congr 1 <;> (apply decide_eq_decide.2; omega)
theorem zDigit_nat (n : Nat) : zDigit n = pDigit n := by simp only [zDigit, pDigit]; congr 1 <;> (apply decide_eq_decide.2; omega)

theorem isSmall_any (r : Int) (w : World) : Calls Tryz.prog 36 #[.int .i32 r] w fun e w' => e = .returned (.bool (zSmall r)) ∧ w' = w := by
  unfold zSmall
  by_cases h1 : 97 ≤ r <;> by_cases h2 : r ≤ 122 <;> (go_enter Tryz.func36, Tryz.ntmps36; go_wp2; go_ret; refine ⟨?_, rfl⟩; simp [h1, h2])
theorem isCapital_any (r : Int) (w : World) : Calls Tryz.prog 37 #[.int .i32 r] w fun e w' => e = .returned (.bool (zCapital r)) ∧ w' = w := by
  unfold zCapital
  by_cases h1 : 65 ≤ r <;> by_cases h2 : r ≤ 90 <;> (go_enter Tryz.func37, Tryz.ntmps37; go_wp2; go_ret; refine ⟨?_, rfl⟩; simp [h1, h2])
theorem isDigit_any (r : Int) (w : World) : Calls Tryz.prog 38 #[.int .i32 r] w fun e w' => e = .returned (.bool (zDigit r)) ∧ w' = w := by
  unfold zDigit
  by_cases h1 : 48 ≤ r <;> by_cases h2 : r ≤ 57 <;> (go_enter Tryz.func38, Tryz.ntmps38; go_wp2; go_ret; refine ⟨?_, rfl⟩; simp [h1, h2])
theorem isBlank_any (n : Nat) (w : World) : Calls Tryz.prog 34 #[.int .i32 (n : Int)] w fun e w' => e = .returned (.bool (pBlank n)) ∧ w' = w := by
  unfold pBlank
  go_enter Tryz.func34, Tryz.ntmps34
  go_wp2
  all_goals (go_ret; refine ⟨?_, rfl⟩; simp_all)
  all_goals (first | omega | (rw [Bool.eq_iff_iff]; simp; omega))
theorem isInLine_any (n : Nat) (w : World) : Calls Tryz.prog 39 #[.int .i32 (n : Int)] w fun e w' => e = .returned (.bool (pLine n)) ∧ w' = w := by
  unfold pLine
  go_enter Tryz.func39, Tryz.ntmps39
  go_wp2
  all_goals (go_ret; refine ⟨?_, rfl⟩; simp_all)
  all_goals (first | omega | (rw [Bool.eq_iff_iff]; simp; omega))
theorem isInName_any (n : Nat) (w : World) : Calls Tryz.prog 90 #[.int .i32 (n : Int)] w fun e w' => e = .returned (.bool (pName n)) ∧ w' = w := by
  unfold pName
  cases h1 : pSmall n <;> cases h2 : pCapital n <;> cases h3 : pDigit n
  all_goals (go_enter Tryz.func90, Tryz.ntmps90)
  all_goals (go_wp2_with (first | (go_at_call 36; refine (isSmall_any _ _).mono ?_; rintro e w' ⟨rfl, rfl⟩; rw [zSmall_nat, h1]) | (go_at_call 37; refine (isCapital_any _ _).mono ?_; rintro e w' ⟨rfl, rfl⟩; rw [zCapital_nat, h2]) | (go_at_call 38; refine (isDigit_any _ _).mono ?_; rintro e w' ⟨rfl, rfl⟩; rw [zDigit_nat, h3])))
  all_goals (go_ret; refine ⟨?_, rfl⟩; simp_all)
  all_goals (first | omega | (rw [Bool.eq_iff_iff]; simp; omega))
end Go.Proofs.YtppmcimcmcognaaGreatDoor


/- Kept words, names, atoms, words, variables. -/
namespace Go.Proofs.YtppmcimcmcognaaGreatDoor
open Go.RowKit Go.Lib
attribute [local go_sem] store_float f64bits
attribute [local go_sem ↓] Go.wp_at_zero Go.wp_at_succ

def keptL : List (List UInt8) := [[97, 102, 116, 101, 114], [97, 110, 100, 97, 108, 115, 111], [98, 101, 103, 105, 110], [99, 97, 115, 101], [99, 97, 116, 99, 104], [100, 105, 118], [101, 110, 100], [102, 117, 110], [110, 111, 116], [111, 102], [111, 114, 101, 108, 115, 101], [114, 101, 99, 101, 105, 118, 101], [114, 101, 109], [116, 114, 121], [119, 104, 101, 110]]

def kept (s : ByteArray) : Bool := keptL.any fun k => s.data.toList == k

set_option maxHeartbeats 1000000 in
theorem kept_any (s : ByteArray) (w : World) : Calls Tryz.prog 67 #[.string s] w fun e w' => e = .returned (.bool (kept s)) ∧ w' = w := by
  unfold kept keptL
  simp only [← ByteArray.toList_eq]
  go_enter Tryz.func67, Tryz.ntmps67
  go_wp2
  all_goals (go_ret; refine ⟨?_, rfl⟩; simp_all)

set_option maxHeartbeats 1000000 in
theorem refKept_any (s : ByteArray) (w : World) : Calls Tryz.prog 81 #[.string s] w fun e w' => e = .returned (.bool (kept s)) ∧ w' = w := by
  unfold kept keptL
  simp only [← ByteArray.toList_eq]
  go_enter Tryz.func81, Tryz.ntmps81
  go_wp2
  all_goals (go_ret; refine ⟨?_, rfl⟩; simp_all)

theorem refKept5_any (s : ByteArray) (w : World) : Calls Tryz.prog 55 #[.string s] w fun e w' => e = .returned (.bool (kept s)) ∧ w' = w := by
  go_enter Tryz.func55, Tryz.ntmps55
  go_wp2_with (go_at_call 81; refine (refKept_any _ _).mono ?_; rintro e w' ⟨rfl, rfl⟩)
  go_ret
  exact ⟨rfl, rfl⟩

theorem atom_any (s : ByteArray) (hs : s.size ≤ 65536) (w : World) : Calls Tryz.prog 68 #[.string s] w fun e w' => e = .returned (if 64 < s.size then .tuple #[.agg #[.int .i64 (0), .string (⟨#[]⟩), .int .i64 (0), .float .f64 (0), .int .i64 (0)], .int .i64 23] else .tuple #[.agg #[.int .i64 (1), .string (s), .int .i64 (0), .float .f64 (0), .int .i64 (0)], .int .i64 0]) ∧ Below w.heap.size w w' := by
  by_cases h : 64 < s.size
  · have h1 : (64 : Int) < (s.size : Int) := by omega
    rw [if_pos h]
    go_enter Tryz.func68, Tryz.ntmps68
    go_wp2
    exact bodyPost_ret (v := .tuple #[.agg #[.int .i64 (0), .string (⟨#[]⟩), .int .i64 (0), .float .f64 (0), .int .i64 (0)], .int .i64 23]) (by simp [results, Tryz.results68, go_sem]) rfl ⟨rfl, by (repeat (first | exact Below.refl _ _ | assumption | refine Below.drew ?_ | refine below_drewN ?_ _ | refine Below.setCell ?_ (by simp) _ | refine Below.alloc ?_ (by (first | exact Nat.le_refl _ | (simp; done) | (simp; omega) | omega)) _ | refine Below.trans ?_ (Below.mono (by assumption) (by first | exact Nat.le_refl _ | (simp; done) | (simp; omega) | omega))))⟩
  · have h1 : ¬ (64 : Int) < (s.size : Int) := by omega
    rw [if_neg h]
    go_enter Tryz.func68, Tryz.ntmps68
    go_wp2
    exact bodyPost_ret (v := .tuple #[.agg #[.int .i64 (1), .string (s), .int .i64 (0), .float .f64 (0), .int .i64 (0)], .int .i64 0]) (by simp [results, Tryz.results68, go_sem]) rfl ⟨rfl, by (repeat (first | exact Below.refl _ _ | assumption | refine Below.drew ?_ | refine below_drewN ?_ _ | refine Below.setCell ?_ (by simp) _ | refine Below.alloc ?_ (by (first | exact Nat.le_refl _ | (simp; done) | (simp; omega) | omega)) _ | refine Below.trans ?_ (Below.mono (by assumption) (by first | exact Nat.le_refl _ | (simp; done) | (simp; omega) | omega))))⟩

theorem clone_any (s : ByteArray) (hs : s.size ≤ 65536) (w : World) : Calls Tryz.prog 89 #[.string s] w fun e w' => e = .returned (.string s) ∧ Below w.heap.size w w' := by
  go_enter Tryz.func89, Tryz.ntmps89
  go_wp2_with (go_at_call 109; refine (Tryz.stringslite_Clone s _ (by omega)).mono ?_; rintro e w' ⟨rfl, hb⟩)
  go_ret
  exact ⟨rfl, hb⟩

theorem e_isInName : ∀ args w, (callFunc 90 args).run Tryz.prog w = .ok (.enter 90 args) w := enters_of Tryz.func90 (by kernel_rfl) rfl
theorem e_isBlank : ∀ args w, (callFunc 34 args).run Tryz.prog w = .ok (.enter 34 args) w := enters_of Tryz.func34 (by kernel_rfl) rfl
theorem e_isInLine : ∀ args w, (callFunc 39 args).run Tryz.prog w = .ok (.enter 39 args) w := enters_of Tryz.func39 (by kernel_rfl) rfl
theorem e_isDigit : ∀ args w, (callFunc 38 args).run Tryz.prog w = .ok (.enter 38 args) w := enters_of Tryz.func38 (by kernel_rfl) rfl

theorem take_name (s : ByteArray) (i b : Nat) (hi : i ≤ s.size) (hs : s.size ≤ 65536) (w : World) (h : Sc w b s i) :
    Calls Tryz.prog 33 #[.pointer (some ⟨b, 0, none⟩), .func (.func 90) #[] #[]] w fun e w' => e = .returned (.string (s.extract i (goes pName s i))) ∧ Sc w' b s (goes pName s i) ∧ But (· = b) w w' :=
  take_any _ #[] e_isInName pName false flat_name s i b hi hs w h (fun W x _ _ => isInName_any x W)
theorem take_blank (s : ByteArray) (i b : Nat) (hi : i ≤ s.size) (hs : s.size ≤ 65536) (w : World) (h : Sc w b s i) :
    Calls Tryz.prog 33 #[.pointer (some ⟨b, 0, none⟩), .func (.func 34) #[] #[]] w fun e w' => e = .returned (.string (s.extract i (goes pBlank s i))) ∧ Sc w' b s (goes pBlank s i) ∧ But (· = b) w w' :=
  take_any _ #[] e_isBlank pBlank false flat_blank s i b hi hs w h (fun W x _ _ => isBlank_any x W)
theorem take_line (s : ByteArray) (i b : Nat) (hi : i ≤ s.size) (hs : s.size ≤ 65536) (w : World) (h : Sc w b s i) :
    Calls Tryz.prog 33 #[.pointer (some ⟨b, 0, none⟩), .func (.func 39) #[] #[]] w fun e w' => e = .returned (.string (s.extract i (goes pLine s i))) ∧ Sc w' b s (goes pLine s i) ∧ But (· = b) w w' :=
  take_any _ #[] e_isInLine pLine true flat_line s i b hi hs w h (fun W x _ _ => isInLine_any x W)
theorem take_digit (s : ByteArray) (i b : Nat) (hi : i ≤ s.size) (hs : s.size ≤ 65536) (w : World) (h : Sc w b s i) :
    Calls Tryz.prog 33 #[.pointer (some ⟨b, 0, none⟩), .func (.func 38) #[] #[]] w fun e w' => e = .returned (.string (s.extract i (goes pDigit s i))) ∧ Sc w' b s (goes pDigit s i) ∧ But (· = b) w w' :=
  take_any _ #[] e_isDigit pDigit false flat_digit s i b hi hs w h (fun W x _ _ => by have := isDigit_any (x : Int) W; rw [zDigit_nat] at this; exact this)

theorem sub_size (s : ByteArray) (i j : Nat) (hs : s.size ≤ 65536) : (s.extract i j).size ≤ 65536 := by rw [size_ext]; omega

theorem name_any (s : ByteArray) (i b : Nat) (hi : i ≤ s.size) (hs : s.size ≤ 65536) (w : World) (h : Sc w b s i) :
    Calls Tryz.prog 66 #[.pointer (some ⟨b, 0, none⟩)] w fun e w' => e = .returned (.string (s.extract i (goes pName s i))) ∧ Sc w' b s (goes pName s i) ∧ But (· = b) w w' := by
  have cT := take_name s i b hi hs w h
  have hz := sub_size s i (goes pName s i) hs
  go_enter Tryz.func66, Tryz.ntmps66
  go_wp2_with (first | (go_at_call 33; refine cT.mono ?_; rintro e w' ⟨rfl, hsc, hbut⟩) | (go_at_call 89; refine (clone_any _ hz _).mono ?_; rintro e w2 ⟨rfl, hb2⟩))
  go_ret
  exact ⟨rfl, Duo.keep hsc hb2, hbut.trans (But.of_below hb2)⟩

theorem But.set5 {S : Nat → Prop} {a w : World} (h : But S a w) {b : Nat} (hb : b < a.heap.size → S b) (u0 u1 u2 u3 u4 : Value) : But S a (set5 w b u0 u1 u2 u3 u4) :=
  ((((h.setCell (p := ⟨b, 0, none⟩) hb u0).setCell (p := ⟨b, 1, none⟩) hb u1).setCell (p := ⟨b, 2, none⟩) hb u2).setCell (p := ⟨b, 3, none⟩) hb u3).setCell (p := ⟨b, 4, none⟩) hb u4

theorem Duo.set5 {w : World} {b c : Nat} {v0 v1 : Value} (h : Duo w b v0 v1) (hne : c ≠ b) (u0 u1 u2 u3 u4 : Value) : Duo (set5 w c u0 u1 u2 u3 u4) b v0 v1 :=
  ⟨(set5_other _ _ _ _ _ _ _ _ _ hne).trans h.c0, (set5_other _ _ _ _ _ _ _ _ _ hne).trans h.c1, (set5_frozen _ _ _ _ _ _ _ _).trans h.f0, (set5_frozen _ _ _ _ _ _ _ _).trans h.f1, by rw [set5_size]; exact h.lt⟩

/-- The world behind a result's box. -/
abbrev wbox (w : World) : World := w.alloc (.cells #[.int .i64 0, .string ⟨#[]⟩, .int .i64 0, .float .f64 0, .int .i64 0] 41)
theorem wbox_below (w : World) : Below w.heap.size w (wbox w) := (Below.refl _ _).alloc (Nat.le_refl _) _
theorem wbox_box (w : World) : Box (wbox w) w.heap.size (.int .i64 0) (.string ⟨#[]⟩) (.int .i64 0) (.float .f64 0) (.int .i64 0) := Box.new w _ _ _ _ _ _

set_option maxHeartbeats 1000000 in
theorem variable_any (s : ByteArray) (i b : Nat) (hi : i ≤ s.size) (hs : s.size ≤ 65536) (w : World) (h : Sc w b s i) :
    Calls Tryz.prog 41 #[.pointer (some ⟨b, 0, none⟩)] w fun e w' => e = .returned (.tuple #[.agg #[.int .i64 (2), .string (s.extract i (goes pName s i)), .int .i64 (0), .float .f64 (0), .int .i64 (0)], .int .i64 0]) ∧ Sc w' b s (goes pName s i) ∧ But (· = b) w w' := by
  have cN := name_any s i b hi hs (wbox w) (Duo.keep h (wbox_below w))
  have hlt := h.lt
  obtain ⟨X, hX⟩ : ∃ X, s.extract i (goes pName s i) = X := ⟨_, rfl⟩
  rw [hX] at cN ⊢
  go_enter Tryz.func41, Tryz.ntmps41
  go_wp2_with (go_at_call 66; refine cN.mono ?_; rintro e w' ⟨rfl, hsc, hbut⟩; have HB := hidb hbut; obtain ⟨d0, d1, d2, d3, d4, g0, g1, g2, g3, g4, _⟩ := (wbox_box w).but hbut (by omega))
  refine bodyPost_ret (v := .tuple #[.agg #[.int .i64 (2), .string (X), .int .i64 (0), .float .f64 (0), .int .i64 (0)], .int .i64 0]) (by simp [results, Tryz.results41, go_sem, d0, d1, d2, d3, d4]) rfl ⟨rfl, ?_, ?_⟩
  · exact Duo.set5 hsc (by omega) _ _ _ _ _
  · exact ((But.of_below (wbox_below w)).trans HB.out).set5 (fun h => absurd h (by omega)) _ _ _ _ _

set_option maxHeartbeats 1000000 in
theorem word_any (s : ByteArray) (i b : Nat) (hi : i ≤ s.size) (hs : s.size ≤ 65536) (w : World) (h : Sc w b s i) :
    Calls Tryz.prog 40 #[.pointer (some ⟨b, 0, none⟩)] w fun e w' => e = .returned (if kept (s.extract i (goes pName s i)) = true then .tuple #[.agg #[.int .i64 (7), .string (s.extract i (goes pName s i)), .int .i64 (0), .float .f64 (0), .int .i64 (0)], .int .i64 0] else if 64 < (s.extract i (goes pName s i)).size then .tuple #[.agg #[.int .i64 (0), .string (⟨#[]⟩), .int .i64 (0), .float .f64 (0), .int .i64 (0)], .int .i64 23] else .tuple #[.agg #[.int .i64 (1), .string (s.extract i (goes pName s i)), .int .i64 (0), .float .f64 (0), .int .i64 (0)], .int .i64 0]) ∧ Sc w' b s (goes pName s i) ∧ But (· = b) w w' := by
  have cN := name_any s i b hi hs (wbox w) (Duo.keep h (wbox_below w))
  have hlt := h.lt
  have hz := sub_size s i (goes pName s i) hs
  obtain ⟨X, hX⟩ : ∃ X, s.extract i (goes pName s i) = X := ⟨_, rfl⟩
  rw [hX] at cN hz ⊢
  have cA := atom_any X hz
  cases hk : kept X
  · simp only [Bool.false_eq_true, if_false]
    by_cases h64 : 64 < X.size
    · simp only [h64, if_true] at cA ⊢
      go_enter Tryz.func40, Tryz.ntmps40
      go_wp2_with (first
        | (go_at_call 66; refine cN.mono ?_; rintro e w' ⟨rfl, hsc, hbut⟩; have HB := hidb hbut; have HX := hidb ((wbox_box w).but hbut (by omega)))
        | (go_at_call 67; refine (kept_any _ _).mono ?_; rintro e w' ⟨rfl, hw'⟩; obtain rfl := hw'.symm; rw [hk])
        | (go_at_call 68; refine (cA _).mono ?_; rintro e w2 ⟨rfl, hb2⟩; have HB2 := hidb hb2; obtain ⟨d0, d1, d2, d3, d4, g0, g1, g2, g3, g4, _⟩ := HX.out.keep hb2))
      refine bodyPost_ret (v := .tuple #[.agg #[.int .i64 (0), .string (⟨#[]⟩), .int .i64 (0), .float .f64 (0), .int .i64 (0)], .int .i64 23]) (by simp [results, Tryz.results40, go_sem, d0, d1, d2, d3, d4]) rfl ⟨rfl, ?_, ?_⟩
      · exact Duo.set5 (Duo.keep hsc HB2.out) (by omega) _ _ _ _ _
      · exact (((But.of_below (wbox_below w)).trans HB.out).trans (But.of_below HB2.out)).set5 (fun h => absurd h (by omega)) _ _ _ _ _
    · simp only [h64, if_false] at cA ⊢
      go_enter Tryz.func40, Tryz.ntmps40
      go_wp2_with (first
        | (go_at_call 66; refine cN.mono ?_; rintro e w' ⟨rfl, hsc, hbut⟩; have HB := hidb hbut; have HX := hidb ((wbox_box w).but hbut (by omega)))
        | (go_at_call 67; refine (kept_any _ _).mono ?_; rintro e w' ⟨rfl, hw'⟩; obtain rfl := hw'.symm; rw [hk])
        | (go_at_call 68; refine (cA _).mono ?_; rintro e w2 ⟨rfl, hb2⟩; have HB2 := hidb hb2; obtain ⟨d0, d1, d2, d3, d4, g0, g1, g2, g3, g4, _⟩ := HX.out.keep hb2))
      refine bodyPost_ret (v := .tuple #[.agg #[.int .i64 (1), .string (X), .int .i64 (0), .float .f64 (0), .int .i64 (0)], .int .i64 0]) (by simp [results, Tryz.results40, go_sem, d0, d1, d2, d3, d4]) rfl ⟨rfl, ?_, ?_⟩
      · exact Duo.set5 (Duo.keep hsc HB2.out) (by omega) _ _ _ _ _
      · exact (((But.of_below (wbox_below w)).trans HB.out).trans (But.of_below HB2.out)).set5 (fun h => absurd h (by omega)) _ _ _ _ _
  · simp only [if_true]
    go_enter Tryz.func40, Tryz.ntmps40
    go_wp2_with (first
      | (go_at_call 66; refine cN.mono ?_; rintro e w' ⟨rfl, hsc, hbut⟩; have HB := hidb hbut; obtain ⟨d0, d1, d2, d3, d4, g0, g1, g2, g3, g4, _⟩ := (wbox_box w).but hbut (by omega))
      | (go_at_call 67; refine (kept_any _ _).mono ?_; rintro e w' ⟨rfl, hw'⟩; obtain rfl := hw'.symm; rw [hk]))
    refine bodyPost_ret (v := .tuple #[.agg #[.int .i64 (7), .string (X), .int .i64 (0), .float .f64 (0), .int .i64 (0)], .int .i64 0]) (by simp [results, Tryz.results40, go_sem, d0, d1, d2, d3, d4]) rfl ⟨rfl, ?_, ?_⟩
    · exact Duo.set5 hsc (by omega) _ _ _ _ _
    · exact ((But.of_below (wbox_below w)).trans HB.out).set5 (fun h => absurd h (by omega)) _ _ _ _ _
end Go.Proofs.YtppmcimcmcognaaGreatDoor


