import Derived.Test.YtdpfmmbfidknfaaGreatDoorG03
/- Kept words, names, atoms, words, variables. -/
namespace Go.Proofs.YtdpfmmbfidknfaaGreatDoor
open Go.RowKit Go.Lib
attribute [local go_sem] store_float f64bits
attribute [local go_sem ↓] Go.wp_at_zero Go.wp_at_succ

def keptL : List (List UInt8) := [[97, 102, 116, 101, 114], [97, 110, 100, 97, 108, 115, 111], [98, 101, 103, 105, 110], [99, 97, 115, 101], [99, 97, 116, 99, 104], [100, 105, 118], [101, 110, 100], [102, 117, 110], [110, 111, 116], [111, 102], [111, 114, 101, 108, 115, 101], [114, 101, 99, 101, 105, 118, 101], [114, 101, 109], [116, 114, 121], [119, 104, 101, 110]]

def kept (s : ByteArray) : Bool := keptL.any fun k => s.data.toList == k

set_option maxHeartbeats 1000000 in
theorem kept_any (s : ByteArray) (w : World) : Calls Tryz.prog 42 #[.string s] w fun e w' => e = .returned (.bool (kept s)) ∧ w' = w := by
  unfold kept keptL
  simp only [← ByteArray.toList_eq]
  go_enter Tryz.func42, Tryz.ntmps42
  go_wp2
  all_goals (go_ret; refine ⟨?_, rfl⟩; simp_all)

theorem atom_any (s : ByteArray) (hs : s.size ≤ 65536) (w : World) : Calls Tryz.prog 43 #[.string s] w fun e w' => e = .returned (if 64 < s.size then .tuple #[.agg #[.int .i64 (0), .string (⟨#[]⟩), .int .i64 (0), .float .f64 (0), .int .i64 (0)], .int .i64 23] else .tuple #[.agg #[.int .i64 (1), .string (s), .int .i64 (0), .float .f64 (0), .int .i64 (0)], .int .i64 0]) ∧ Below w.heap.size w w' := by
  by_cases h : 64 < s.size
  · have h1 : (64 : Int) < (s.size : Int) := by omega
    rw [if_pos h]
    go_enter Tryz.func43, Tryz.ntmps43
    go_wp2
    exact bodyPost_ret (v := .tuple #[.agg #[.int .i64 (0), .string (⟨#[]⟩), .int .i64 (0), .float .f64 (0), .int .i64 (0)], .int .i64 23]) (by simp [results, Tryz.results43, go_sem]) rfl ⟨rfl, by (repeat (first | exact Below.refl _ _ | assumption | refine Below.drew ?_ | refine below_drewN ?_ _ | refine Below.setCell ?_ (by simp) _ | refine Below.alloc ?_ (by (first | exact Nat.le_refl _ | (simp; done) | (simp; omega) | omega)) _ | refine Below.trans ?_ (Below.mono (by assumption) (by first | exact Nat.le_refl _ | (simp; done) | (simp; omega) | omega))))⟩
  · have h1 : ¬ (64 : Int) < (s.size : Int) := by omega
    rw [if_neg h]
    go_enter Tryz.func43, Tryz.ntmps43
    go_wp2
    exact bodyPost_ret (v := .tuple #[.agg #[.int .i64 (1), .string (s), .int .i64 (0), .float .f64 (0), .int .i64 (0)], .int .i64 0]) (by simp [results, Tryz.results43, go_sem]) rfl ⟨rfl, by (repeat (first | exact Below.refl _ _ | assumption | refine Below.drew ?_ | refine below_drewN ?_ _ | refine Below.setCell ?_ (by simp) _ | refine Below.alloc ?_ (by (first | exact Nat.le_refl _ | (simp; done) | (simp; omega) | omega)) _ | refine Below.trans ?_ (Below.mono (by assumption) (by first | exact Nat.le_refl _ | (simp; done) | (simp; omega) | omega))))⟩

theorem clone_any (s : ByteArray) (hs : s.size ≤ 65536) (w : World) : Calls Tryz.prog 56 #[.string s] w fun e w' => e = .returned (.string s) ∧ Below w.heap.size w w' := by
  go_enter Tryz.func56, Tryz.ntmps56
  go_wp2_with (go_at_call 73; refine (Tryz.stringslite_Clone s _ (by omega)).mono ?_; rintro e w' ⟨rfl, hb⟩)
  go_ret
  exact ⟨rfl, hb⟩

theorem e_isInName : ∀ args w, (callFunc 57 args).run Tryz.prog w = .ok (.enter 57 args) w := enters_of Tryz.func57 (by kernel_rfl) rfl
theorem e_isBlank : ∀ args w, (callFunc 20 args).run Tryz.prog w = .ok (.enter 20 args) w := enters_of Tryz.func20 (by kernel_rfl) rfl
theorem e_isInLine : ∀ args w, (callFunc 25 args).run Tryz.prog w = .ok (.enter 25 args) w := enters_of Tryz.func25 (by kernel_rfl) rfl
theorem e_isDigit : ∀ args w, (callFunc 24 args).run Tryz.prog w = .ok (.enter 24 args) w := enters_of Tryz.func24 (by kernel_rfl) rfl

theorem take_name (s : ByteArray) (i b : Nat) (hi : i ≤ s.size) (hs : s.size ≤ 65536) (w : World) (h : Sc w b s i) :
    Calls Tryz.prog 19 #[.pointer (some ⟨b, 0, none⟩), .func (.func 57) #[] #[]] w fun e w' => e = .returned (.string (s.extract i (goes pName s i))) ∧ Sc w' b s (goes pName s i) ∧ But (· = b) w w' :=
  take_any _ #[] e_isInName pName false flat_name s i b hi hs w h (fun W x _ _ => isInName_any x W)
theorem take_blank (s : ByteArray) (i b : Nat) (hi : i ≤ s.size) (hs : s.size ≤ 65536) (w : World) (h : Sc w b s i) :
    Calls Tryz.prog 19 #[.pointer (some ⟨b, 0, none⟩), .func (.func 20) #[] #[]] w fun e w' => e = .returned (.string (s.extract i (goes pBlank s i))) ∧ Sc w' b s (goes pBlank s i) ∧ But (· = b) w w' :=
  take_any _ #[] e_isBlank pBlank false flat_blank s i b hi hs w h (fun W x _ _ => isBlank_any x W)
theorem take_line (s : ByteArray) (i b : Nat) (hi : i ≤ s.size) (hs : s.size ≤ 65536) (w : World) (h : Sc w b s i) :
    Calls Tryz.prog 19 #[.pointer (some ⟨b, 0, none⟩), .func (.func 25) #[] #[]] w fun e w' => e = .returned (.string (s.extract i (goes pLine s i))) ∧ Sc w' b s (goes pLine s i) ∧ But (· = b) w w' :=
  take_any _ #[] e_isInLine pLine true flat_line s i b hi hs w h (fun W x _ _ => isInLine_any x W)
theorem take_digit (s : ByteArray) (i b : Nat) (hi : i ≤ s.size) (hs : s.size ≤ 65536) (w : World) (h : Sc w b s i) :
    Calls Tryz.prog 19 #[.pointer (some ⟨b, 0, none⟩), .func (.func 24) #[] #[]] w fun e w' => e = .returned (.string (s.extract i (goes pDigit s i))) ∧ Sc w' b s (goes pDigit s i) ∧ But (· = b) w w' :=
  take_any _ #[] e_isDigit pDigit false flat_digit s i b hi hs w h (fun W x _ _ => by have := isDigit_any (x : Int) W; rw [zDigit_nat] at this; exact this)

theorem sub_size (s : ByteArray) (i j : Nat) (hs : s.size ≤ 65536) : (s.extract i j).size ≤ 65536 := by rw [size_ext]; omega

theorem name_any (s : ByteArray) (i b : Nat) (hi : i ≤ s.size) (hs : s.size ≤ 65536) (w : World) (h : Sc w b s i) :
    Calls Tryz.prog 41 #[.pointer (some ⟨b, 0, none⟩)] w fun e w' => e = .returned (.string (s.extract i (goes pName s i))) ∧ Sc w' b s (goes pName s i) ∧ But (· = b) w w' := by
  have cT := take_name s i b hi hs w h
  have hz := sub_size s i (goes pName s i) hs
  go_enter Tryz.func41, Tryz.ntmps41
  go_wp2_with (first | (go_at_call 19; refine cT.mono ?_; rintro e w' ⟨rfl, hsc, hbut⟩) | (go_at_call 56; refine (clone_any _ hz _).mono ?_; rintro e w2 ⟨rfl, hb2⟩))
  go_ret
  exact ⟨rfl, Duo.keep hsc hb2, hbut.trans (But.of_below hb2)⟩

theorem But.set5 {S : Nat → Prop} {a w : World} (h : But S a w) {b : Nat} (hb : b < a.heap.size → S b) (u0 u1 u2 u3 u4 : Value) : But S a (set5 w b u0 u1 u2 u3 u4) :=
  ((((h.setCell (p := ⟨b, 0, none⟩) hb u0).setCell (p := ⟨b, 1, none⟩) hb u1).setCell (p := ⟨b, 2, none⟩) hb u2).setCell (p := ⟨b, 3, none⟩) hb u3).setCell (p := ⟨b, 4, none⟩) hb u4

theorem Duo.set5 {w : World} {b c : Nat} {v0 v1 : Value} (h : Duo w b v0 v1) (hne : c ≠ b) (u0 u1 u2 u3 u4 : Value) : Duo (set5 w c u0 u1 u2 u3 u4) b v0 v1 :=
  ⟨(set5_other _ _ _ _ _ _ _ _ _ hne).trans h.c0, (set5_other _ _ _ _ _ _ _ _ _ hne).trans h.c1, (set5_frozen _ _ _ _ _ _ _ _).trans h.f0, (set5_frozen _ _ _ _ _ _ _ _).trans h.f1, by rw [set5_size]; exact h.lt⟩

/-- The world behind a result's box. -/
abbrev wbox (w : World) : World := w.alloc (.cells #[.int .i64 0, .string ⟨#[]⟩, .int .i64 0, .float .f64 0, .int .i64 0] 59)
theorem wbox_below (w : World) : Below w.heap.size w (wbox w) := (Below.refl _ _).alloc (Nat.le_refl _) _
theorem wbox_box (w : World) : Box (wbox w) w.heap.size (.int .i64 0) (.string ⟨#[]⟩) (.int .i64 0) (.float .f64 0) (.int .i64 0) := Box.new w _ _ _ _ _ _

set_option maxHeartbeats 1000000 in
theorem variable_any (s : ByteArray) (i b : Nat) (hi : i ≤ s.size) (hs : s.size ≤ 65536) (w : World) (h : Sc w b s i) :
    Calls Tryz.prog 27 #[.pointer (some ⟨b, 0, none⟩)] w fun e w' => e = .returned (.tuple #[.agg #[.int .i64 (2), .string (s.extract i (goes pName s i)), .int .i64 (0), .float .f64 (0), .int .i64 (0)], .int .i64 0]) ∧ Sc w' b s (goes pName s i) ∧ But (· = b) w w' := by
  have cN := name_any s i b hi hs (wbox w) (Duo.keep h (wbox_below w))
  have hlt := h.lt
  obtain ⟨X, hX⟩ : ∃ X, s.extract i (goes pName s i) = X := ⟨_, rfl⟩
  rw [hX] at cN ⊢
  go_enter Tryz.func27, Tryz.ntmps27
  go_wp2_with (go_at_call 41; refine cN.mono ?_; rintro e w' ⟨rfl, hsc, hbut⟩; have HB := hidb hbut; obtain ⟨d0, d1, d2, d3, d4, g0, g1, g2, g3, g4, _⟩ := (wbox_box w).but hbut (by omega))
  refine bodyPost_ret (v := .tuple #[.agg #[.int .i64 (2), .string (X), .int .i64 (0), .float .f64 (0), .int .i64 (0)], .int .i64 0]) (by simp [results, Tryz.results27, go_sem, d0, d1, d2, d3, d4]) rfl ⟨rfl, ?_, ?_⟩
  · exact Duo.set5 hsc (by omega) _ _ _ _ _
  · exact ((But.of_below (wbox_below w)).trans HB.out).set5 (fun h => absurd h (by omega)) _ _ _ _ _

set_option maxHeartbeats 1000000 in
theorem word_any (s : ByteArray) (i b : Nat) (hi : i ≤ s.size) (hs : s.size ≤ 65536) (w : World) (h : Sc w b s i) :
    Calls Tryz.prog 26 #[.pointer (some ⟨b, 0, none⟩)] w fun e w' => e = .returned (if kept (s.extract i (goes pName s i)) = true then .tuple #[.agg #[.int .i64 (7), .string (s.extract i (goes pName s i)), .int .i64 (0), .float .f64 (0), .int .i64 (0)], .int .i64 0] else if 64 < (s.extract i (goes pName s i)).size then .tuple #[.agg #[.int .i64 (0), .string (⟨#[]⟩), .int .i64 (0), .float .f64 (0), .int .i64 (0)], .int .i64 23] else .tuple #[.agg #[.int .i64 (1), .string (s.extract i (goes pName s i)), .int .i64 (0), .float .f64 (0), .int .i64 (0)], .int .i64 0]) ∧ Sc w' b s (goes pName s i) ∧ But (· = b) w w' := by
  have cN := name_any s i b hi hs (wbox w) (Duo.keep h (wbox_below w))
  have hlt := h.lt
  have hz := sub_size s i (goes pName s i) hs
  obtain ⟨X, hX⟩ : ∃ X, s.extract i (goes pName s i) = X := ⟨_, rfl⟩
  rw [hX] at cN hz ⊢
  have cA := atom_any X hz
  cases hk : kept X
  · simp only [Bool.false_eq_true, if_false]
    by_cases h64 : 64 < X.size
    · simp only [h64, if_true] at cA ⊢
      go_enter Tryz.func26, Tryz.ntmps26
      go_wp2_with (first
        | (go_at_call 41; refine cN.mono ?_; rintro e w' ⟨rfl, hsc, hbut⟩; have HB := hidb hbut; have HX := hidb ((wbox_box w).but hbut (by omega)))
        | (go_at_call 42; refine (kept_any _ _).mono ?_; rintro e w' ⟨rfl, hw'⟩; obtain rfl := hw'.symm; rw [hk])
        | (go_at_call 43; refine (cA _).mono ?_; rintro e w2 ⟨rfl, hb2⟩; have HB2 := hidb hb2; obtain ⟨d0, d1, d2, d3, d4, g0, g1, g2, g3, g4, _⟩ := HX.out.keep hb2))
      refine bodyPost_ret (v := .tuple #[.agg #[.int .i64 (0), .string (⟨#[]⟩), .int .i64 (0), .float .f64 (0), .int .i64 (0)], .int .i64 23]) (by simp [results, Tryz.results26, go_sem, d0, d1, d2, d3, d4]) rfl ⟨rfl, ?_, ?_⟩
      · exact Duo.set5 (Duo.keep hsc HB2.out) (by omega) _ _ _ _ _
      · exact (((But.of_below (wbox_below w)).trans HB.out).trans (But.of_below HB2.out)).set5 (fun h => absurd h (by omega)) _ _ _ _ _
    · simp only [h64, if_false] at cA ⊢
      go_enter Tryz.func26, Tryz.ntmps26
      go_wp2_with (first
        | (go_at_call 41; refine cN.mono ?_; rintro e w' ⟨rfl, hsc, hbut⟩; have HB := hidb hbut; have HX := hidb ((wbox_box w).but hbut (by omega)))
        | (go_at_call 42; refine (kept_any _ _).mono ?_; rintro e w' ⟨rfl, hw'⟩; obtain rfl := hw'.symm; rw [hk])
        | (go_at_call 43; refine (cA _).mono ?_; rintro e w2 ⟨rfl, hb2⟩; have HB2 := hidb hb2; obtain ⟨d0, d1, d2, d3, d4, g0, g1, g2, g3, g4, _⟩ := HX.out.keep hb2))
      refine bodyPost_ret (v := .tuple #[.agg #[.int .i64 (1), .string (X), .int .i64 (0), .float .f64 (0), .int .i64 (0)], .int .i64 0]) (by simp [results, Tryz.results26, go_sem, d0, d1, d2, d3, d4]) rfl ⟨rfl, ?_, ?_⟩
      · exact Duo.set5 (Duo.keep hsc HB2.out) (by omega) _ _ _ _ _
      · exact (((But.of_below (wbox_below w)).trans HB.out).trans (But.of_below HB2.out)).set5 (fun h => absurd h (by omega)) _ _ _ _ _
  · simp only [if_true]
    go_enter Tryz.func26, Tryz.ntmps26
    go_wp2_with (first
      | (go_at_call 41; refine cN.mono ?_; rintro e w' ⟨rfl, hsc, hbut⟩; have HB := hidb hbut; obtain ⟨d0, d1, d2, d3, d4, g0, g1, g2, g3, g4, _⟩ := (wbox_box w).but hbut (by omega))
      | (go_at_call 42; refine (kept_any _ _).mono ?_; rintro e w' ⟨rfl, hw'⟩; obtain rfl := hw'.symm; rw [hk]))
    refine bodyPost_ret (v := .tuple #[.agg #[.int .i64 (7), .string (X), .int .i64 (0), .float .f64 (0), .int .i64 (0)], .int .i64 0]) (by simp [results, Tryz.results26, go_sem, d0, d1, d2, d3, d4]) rfl ⟨rfl, ?_, ?_⟩
    · exact Duo.set5 hsc (by omega) _ _ _ _ _
    · exact ((But.of_below (wbox_below w)).trans HB.out).set5 (fun h => absurd h (by omega)) _ _ _ _ _
end Go.Proofs.YtdpfmmbfidknfaaGreatDoor


/- Digits: what they are worth. -/
namespace Go.Proofs.YtdpfmmbfidknfaaGreatDoor
open Go.RowKit Go.Lib
attribute [local go_sem] store_float f64bits
attribute [local go_sem ↓] Go.wp_at_zero Go.wp_at_succ

/-- What the first k digits are worth. -/
def wor (D : ByteArray) : Nat → Nat
  | 0 => 0
  | k + 1 => wor D k * 10 + (bt D k - 48)

def Digs (D : ByteArray) : Prop := ∀ j, j < D.size → pDigit (bt D j) = true

theorem wor_lt (D : ByteArray) (h : Digs D) : ∀ k, k ≤ D.size → wor D k < 10 ^ k := by
  intro k
  induction k with
  | zero => intro _; simp [wor]
  | succ k ih =>
    intro hk
    have h1 := ih (by omega)
    have h2 := h k (by omega)
    simp [pDigit] at h2
    simp only [wor, Nat.pow_succ]
    omega

theorem wor_lt18 (D : ByteArray) (h : Digs D) (hs : D.size ≤ 18) (k : Nat) (hk : k ≤ D.size) : wor D k < 1000000000000000000 := by
  have h1 := wor_lt D h k hk
  have h2 : 10 ^ k ≤ 10 ^ 18 := Nat.pow_le_pow_right (by omega) (by omega)
  omega

set_option maxHeartbeats 1000000 in
set_option maxRecDepth 1000000 in
theorem worth_any (D : ByteArray) (h : Digs D) (hs : D.size ≤ 18) (w : World) :
    Calls Tryz.prog 59 #[.string D] w fun e w' => e = .returned (.int .i64 (wor D D.size)) ∧ Below w.heap.size w w' := by
  have hb0 : Below w.heap.size w (w.iter D 0) := (Below.refl _ _).alloc (Nat.le_refl _) _
  have hit0 := World.iter_heap w D 0
  go_enter Tryz.func59, Tryz.ntmps59
  go_wp2_with fail
  go_loopg [3] D.size (fun gf s3 wx => ∃ pos, s3 = .int .i64 (wor D pos : Nat) ∧ wx.heap[w.heap.size]? = some (.stringIter D pos) ∧ Below w.heap.size w wx ∧ pos + gf = D.size)
  case atStart => exact ⟨0, rfl, hit0, hb0, by omega⟩
  case round =>
    obtain ⟨pos, rfl, hit, hbw, hgf⟩ := hrel
    by_cases hlt : pos < D.size
    · obtain ⟨g', rfl⟩ : ∃ g', gk = g' + 1 := ⟨gk - 1, by omega⟩
      have hd := h pos hlt
      simp [pDigit] at hd
      have hnx : ∀ ty, (Instr.next (.pointer (some ⟨w.heap.size, 0, none⟩)) true ty).run Tryz.prog wr = _ := fun ty => Lib.run_next_any_at wr w.heap.size D pos ty hit hlt
      rw [decode_low D pos (by omega)] at hnx
      have hit2 := Lib.iterAt_heap wr w.heap.size D pos (pos + 1) hit
      have hbw2 := Lib.below_iterAt hbw (k := w.heap.size) (Nat.le_refl _) D (pos + 1)
      simp only at hnx
      obtain ⟨W, hWd⟩ : ∃ W, wr.iterAt w.heap.size D (pos + 1) = W := ⟨_, rfl⟩
      rw [hWd] at hnx hit2 hbw2
      have hv : wor D pos < 100000000000000000 := by
        have h1 := wor_lt D h pos (by omega)
        have h2 : 10 ^ pos ≤ 10 ^ 17 := Nat.pow_le_pow_right (by omega) (by omega)
        omega
      have hsu : wor D (pos + 1) = wor D pos * 10 + (bt D pos - 48) := rfl
      obtain ⟨V, hV⟩ : ∃ V, wor D pos = V := ⟨_, rfl⟩
      obtain ⟨c, hc⟩ : ∃ c, bt D pos = c := ⟨_, rfl⟩
      rw [hV] at hv hsu ⊢
      rw [hc] at hd hsu hnx
      obtain ⟨X, hX⟩ : ∃ X : Int, (V : Int) = X := ⟨_, rfl⟩
      obtain ⟨Y, hY⟩ : ∃ Y : Int, (c : Int) = Y := ⟨_, rfl⟩
      rw [hX]
      rw [hY] at hnx
      have x0 : 0 ≤ X := by omega
      have x1 : X < 100000000000000000 := by omega
      have y0 : 48 ≤ Y := by omega
      have y1 : Y ≤ 57 := by omega
      have HR : Hid ((wor D (pos + 1) : Int) = X * 10 + (Y - 48)) := hidb (by omega)
      clear hWd hv hsu hX hY hd hV hc hit hbw
      go_wp2_with fail
      go_roundg g'
      case measure => omega
      case rel => exact ⟨pos + 1, by rw [HR.out], hit2, hbw2, by omega⟩
    · obtain rfl : pos = D.size := by omega
      have hnx : ∀ ty, (Instr.next (.pointer (some ⟨w.heap.size, 0, none⟩)) true ty).run Tryz.prog wr = _ := fun ty => Lib.run_next_end_at wr w.heap.size D D.size ty hit hlt
      go_wp2_with fail
      go_ret
      exact ⟨rfl, hbw⟩

/-- A digit of sixteen. -/
def hexd (b : Nat) : Option Nat := if pDigit b = true then some (b - 48) else if 97 ≤ b ∧ b ≤ 102 then some (b - 87) else none
def hexAt (s : ByteArray) (p : Nat) : Option Nat := if p < s.size then hexd (bt s p) else none
def hexN (s : ByteArray) : Nat → Nat → Nat → Option Nat
  | 0, _, u => some u
  | k + 1, p, u => (hexAt s p).bind fun d => hexN s k (p + 1) (u * 16 + d)

theorem hex_cases (s : ByteArray) (p : Nat) :
    (zDigit (nxR s p) = true ∧ p < s.size ∧ nxK s p = 1 ∧ 48 ≤ nxR s p ∧ nxR s p ≤ 57 ∧ hexAt s p = some (nxR s p - 48).toNat) ∨
    (zDigit (nxR s p) = false ∧ p < s.size ∧ nxK s p = 1 ∧ 97 ≤ nxR s p ∧ nxR s p ≤ 102 ∧ hexAt s p = some (nxR s p - 87).toNat) ∨
    (zDigit (nxR s p) = false ∧ ¬ (97 ≤ nxR s p) ∧ hexAt s p = none) ∨ (zDigit (nxR s p) = false ∧ 97 ≤ nxR s p ∧ ¬ (nxR s p ≤ 102) ∧ hexAt s p = none) := by
  rcases Nat.lt_or_ge p s.size with hl | hl
  · rcases Nat.lt_or_ge (bt s p) 128 with hb | hb
    · obtain ⟨h1, h2⟩ := nx_low hl hb
      rw [h1, h2, zDigit_nat]
      simp only [hexAt, hl, if_true, hexd]
      cases hd : pDigit (bt s p)
      · simp
        by_cases h97 : 97 ≤ bt s p
        · by_cases h102 : bt s p ≤ 102
          · left; refine ⟨by omega, by omega, by omega, by omega⟩
          · right; right; omega
        · right; left; omega
      · simp [pDigit] at hd
        left
        refine ⟨by first | rfl | trivial, by first | trivial | exact hl, by first | rfl | trivial, by omega, by omega, ?_⟩
        simp
        omega
    · obtain ⟨h1, h2, h3⟩ := nx_high hl hb
      right; right; right
      refine ⟨by simp [zDigit]; omega, by omega, by omega, ?_⟩
      simp only [hexAt, hl, if_true, hexd, flat_digit _ hb]
      simp; omega
  · obtain ⟨h1, h2⟩ := nx_end hl
    have hn : ¬ p < s.size := by omega
    right; right; left
    rw [h1]
    exact ⟨by decide, by decide, by simp [hexAt, hn]⟩

theorem or16 (k t : Int) (h0 : 0 ≤ k) (h1 : k < 1152921504606846976) (h2 : 0 ≤ t) (h3 : t < 16) : bits .or .u64 (k * 16) t = k * 16 + t := by
  obtain ⟨A, rfl⟩ := Int.eq_ofNat_of_zero_le h0
  obtain ⟨B, rfl⟩ := Int.eq_ofNat_of_zero_le h2
  have h := u64_or_nat (A * 16) B (by omega) (by omega)
  have e : A * 16 ||| B = A * 16 + B := by
    have := Nat.two_pow_add_eq_or_of_lt (i := 4) (b := B) (by omega) A
    rw [Nat.mul_comm A 16]
    exact this.symm
  rw [e] at h
  simpa using h

theorem hexN_none (s : ByteArray) (k p u : Nat) (h : hexAt s p = none) : hexN s (k + 1) p u = none := by simp [hexN, h]
theorem hexN_some (s : ByteArray) (k p u d : Nat) (h : hexAt s p = some d) : hexN s (k + 1) p u = hexN s k (p + 1) (u * 16 + d) := by simp [hexN, h]

set_option maxHeartbeats 1000000 in
set_option maxRecDepth 1000000 in
theorem hex_any (s : ByteArray) (i b n : Nat) (hn : n ≤ 16) (hi : i ≤ s.size) (hs : s.size ≤ 65536) (w : World) (h : Sc w b s i) (hT : Lib.Utf8Tabs G1 G2 w) (hb1 : b ≠ G1) (hb2 : b ≠ G2) :
    Calls Tryz.prog 47 #[.pointer (some ⟨b, 0, none⟩), .int .i64 (n : Int)] w fun e w' => e = .returned (.tuple #[.int .u64 ((hexN s n i 0).getD 0 : Nat), .bool (hexN s n i 0).isSome]) ∧ But (· = b) w w' ∧ ∃ j, i ≤ j ∧ j ≤ s.size ∧ Sc w' b s j ∧ ((hexN s n i 0).isSome = true → j = i + n) := by
  obtain ⟨o, ho⟩ : ∃ o, hexN s n i 0 = o := ⟨_, rfl⟩
  rw [ho]
  go_enter Tryz.func47, Tryz.ntmps47
  go_wp2_with fail
  go_loopg [6, 9] n (fun gf s6 s9 wx => ∃ m V : Nat, s6 = .int .u64 (V : Int) ∧ s9 = .int .i64 (m : Int) ∧ m + gf = n ∧ Sc wx b s (i + m) ∧ But (· = b) w wx ∧ hexN s gf (i + m) V = o ∧ V < 16 ^ m ∧ i + m ≤ s.size)
  case atStart => exact ⟨0, 0, rfl, rfl, by omega, h, But.refl _ _, ho, by simp, hi⟩
  case round =>
    obtain ⟨m, V, rfl, rfl, hgf, hsc, hbw, hx, hV, him⟩ := hrel
    have cN := next_any s (i + m) b him hs wr hsc (Utf8Tabs_but hT hbw (fun e => hb1 e.symm) (fun e => hb2 e.symm))
    have HN := hidb (nx_in s (i + m) him)
    by_cases hm : m < n
    · obtain ⟨g', rfl⟩ : ∃ g', gk = g' + 1 := ⟨gk - 1, by omega⟩
      have hlt : (m : Int) < (n : Int) := by omega
      have hV60 : V < 1152921504606846976 := by
        have h1 : 16 ^ m ≤ 16 ^ 15 := Nat.pow_le_pow_right (by omega) (by omega)
        omega
      have hcs := hex_cases s (i + m)
      obtain ⟨r, hr⟩ : ∃ r, nxR s (i + m) = r := ⟨_, rfl⟩
      rw [hr] at cN hcs
      have H16 : Hid (16 ^ (m + 1) = 16 ^ m * 16) := hidb (Nat.pow_succ _ _)
      obtain ⟨X, hX⟩ : ∃ X : Int, (V : Int) = X := ⟨_, rfl⟩
      have HX := hidb hX
      have x0 : 0 ≤ X := by omega
      have x1 : X < 1152921504606846976 := by omega
      have HV := hidb hV
      have HBW := hidb hbw
      have HXX := hidb hx
      rw [hX]
      have e1 : IntKind.u64.wrap (X * 16) = X * 16 := by rw [IntKind.wrap_u64]; omega
      clear hX hV60 hr hV hbw hx hsc h ho hT
      rcases hcs with ⟨hz, hp, hk, r0, r1, ha⟩ | ⟨hz, hp, hk, r0, r1, ha⟩ | ⟨hz, r0, ha⟩ | ⟨hz, r0, r1, ha⟩
      · rw [hk] at cN
        have HA := hidb (hexN_some s g' (i + m) V _ ha)
        have e2 := or16 X (r - 48) x0 x1 (by omega) (by omega)
        clear ha hk
        go_wp2_with (first | (go_at_call 40; refine cN.mono ?_; rintro e w1 ⟨rfl, hsc1, hbut1⟩; have HS1 := hidb hsc1; have HB1 := hidb hbut1) | (go_at_call 24; refine (isDigit_any _ _).mono ?_; rintro e w' ⟨rfl, hw'⟩; obtain rfl := hw'.symm; rw [hz]))
        have HJ := HX.out
        have HVV := HV.out
        have HPW := H16.out
        have HRR : (X * 16 + (r - 48)) = ((V * 16 + (r - 48).toNat : Nat) : Int) := by omega
        go_roundg g'
        case measure => omega
        case rel => exact ⟨m + 1, V * 16 + (r - 48).toNat, by rw [HRR], by simp, by omega, HS1.out, HBW.out.trans HB1.out, by rw [← HXX.out, HA.out]; rfl, by omega, by omega⟩
      · rw [hk] at cN
        have HA := hidb (hexN_some s g' (i + m) V _ ha)
        have e2 := or16 X (r - 87) x0 x1 (by omega) (by omega)
        have e3 : r - 97 + 10 = r - 87 := by omega
        clear ha hk
        go_wp2_with (first | (go_at_call 40; refine cN.mono ?_; rintro e w1 ⟨rfl, hsc1, hbut1⟩; have HS1 := hidb hsc1; have HB1 := hidb hbut1) | (go_at_call 24; refine (isDigit_any _ _).mono ?_; rintro e w' ⟨rfl, hw'⟩; obtain rfl := hw'.symm; rw [hz]))
        have HJ := HX.out
        have HVV := HV.out
        have HPW := H16.out
        have HRR : (X * 16 + (r - 87)) = ((V * 16 + (r - 87).toNat : Nat) : Int) := by omega
        go_roundg g'
        case measure => omega
        case rel => exact ⟨m + 1, V * 16 + (r - 87).toNat, by rw [HRR], by simp, by omega, HS1.out, HBW.out.trans HB1.out, by rw [← HXX.out, HA.out]; rfl, by omega, by omega⟩
      · have HO : Hid (none = o) := hidb (by rw [← HXX.out, hexN_none _ _ _ _ ha])
        clear ha
        go_wp2_with (first | (go_at_call 40; refine cN.mono ?_; rintro e w1 ⟨rfl, hsc1, hbut1⟩; have HS1 := hidb hsc1; have HB1 := hidb hbut1) | (go_at_call 24; refine (isDigit_any _ _).mono ?_; rintro e w' ⟨rfl, hw'⟩; obtain rfl := hw'.symm; rw [hz]))
        refine bodyPost_ret (v := .tuple #[.int .u64 0, .bool false]) (by simp [results, Tryz.results47, go_sem]) rfl ⟨by rw [← HO.out]; rfl, HBW.out.trans HB1.out, i + m + nxK s (i + m), by omega, HN.out, HS1.out, by rw [← HO.out]; intro h; cases h⟩
      · have HO : Hid (none = o) := hidb (by rw [← HXX.out, hexN_none _ _ _ _ ha])
        clear ha
        go_wp2_with (first | (go_at_call 40; refine cN.mono ?_; rintro e w1 ⟨rfl, hsc1, hbut1⟩; have HS1 := hidb hsc1; have HB1 := hidb hbut1) | (go_at_call 24; refine (isDigit_any _ _).mono ?_; rintro e w' ⟨rfl, hw'⟩; obtain rfl := hw'.symm; rw [hz]))
        refine bodyPost_ret (v := .tuple #[.int .u64 0, .bool false]) (by simp [results, Tryz.results47, go_sem]) rfl ⟨by rw [← HO.out]; rfl, HBW.out.trans HB1.out, i + m + nxK s (i + m), by omega, HN.out, HS1.out, by rw [← HO.out]; intro h; cases h⟩
    · obtain rfl : m = n := by omega
      obtain rfl : gk = 0 := by omega
      obtain rfl : some V = o := hx
      go_wp2_with fail
      exact bodyPost_ret (v := .tuple #[.int .u64 (V : Int), .bool true]) (by simp [results, Tryz.results47, go_sem]) rfl ⟨rfl, hbw, i + m, by omega, him, hsc, fun _ => rfl⟩
end Go.Proofs.YtdpfmmbfidknfaaGreatDoor


