/- Kept words, names, atoms, words, variables. -/
import Derived.Test.YtecgddiohoeboaaDoorLx3
namespace Go.Proofs.YtecgddiohoeboaaDoor
open Go.RowKit Go.Lib
attribute [local go_sem] store_float f64bits
attribute [local go_sem ↓] Go.wp_at_zero Go.wp_at_succ

def keptL : List (List UInt8) := [[97, 102, 116, 101, 114], [97, 110, 100, 97, 108, 115, 111], [98, 101, 103, 105, 110], [99, 97, 115, 101], [99, 97, 116, 99, 104], [100, 105, 118], [101, 110, 100], [102, 117, 110], [110, 111, 116], [111, 102], [111, 114, 101, 108, 115, 101], [114, 101, 99, 101, 105, 118, 101], [114, 101, 109], [116, 114, 121], [119, 104, 101, 110]]

def kept (s : ByteArray) : Bool := keptL.any fun k => s.data.toList == k

set_option maxHeartbeats 1000000 in
theorem kept_any (s : ByteArray) (w : World) : Calls Tryd.prog 13 #[.string s] w fun e w' => e = .returned (.bool (kept s)) ∧ w' = w := by
  unfold kept keptL
  simp only [← ByteArray.toList_eq]
  go_enter Tryd.func13, Tryd.ntmps13
  go_wp2
  all_goals (go_ret; refine ⟨?_, rfl⟩; simp_all)

set_option maxHeartbeats 1000000 in
theorem refKept_any (s : ByteArray) (w : World) : Calls Tryd.prog 24 #[.string s] w fun e w' => e = .returned (.bool (kept s)) ∧ w' = w := by
  unfold kept keptL
  simp only [← ByteArray.toList_eq]
  go_enter Tryd.func24, Tryd.ntmps24
  go_wp2
  all_goals (go_ret; refine ⟨?_, rfl⟩; simp_all)

theorem refKept5_any (s : ByteArray) (w : World) : Calls Tryd.prog 14 #[.string s] w fun e w' => e = .returned (.bool (kept s)) ∧ w' = w := by
  go_enter Tryd.func14, Tryd.ntmps14
  go_wp2_with (go_at_call 24; refine (refKept_any _ _).mono ?_; rintro e w' ⟨rfl, rfl⟩)
  go_ret
  exact ⟨rfl, rfl⟩

theorem atom_any (s : ByteArray) (hs : s.size ≤ 65536) (w : World) : Calls Tryd.prog 57 #[.string s] w fun e w' => e = .returned (if 64 < s.size then .tuple #[.agg #[.int .i64 (0), .string (⟨#[]⟩), .int .i64 (0), .float .f64 (0), .int .i64 (0)], .int .i64 23] else .tuple #[.agg #[.int .i64 (1), .string (s), .int .i64 (0), .float .f64 (0), .int .i64 (0)], .int .i64 0]) ∧ Below w.heap.size w w' := by
  by_cases h : 64 < s.size
  · have h1 : (64 : Int) < (s.size : Int) := by omega
    rw [if_pos h]
    go_enter Tryd.func57, Tryd.ntmps57
    go_wp2
    exact bodyPost_ret (v := .tuple #[.agg #[.int .i64 (0), .string (⟨#[]⟩), .int .i64 (0), .float .f64 (0), .int .i64 (0)], .int .i64 23]) (by simp [results, Tryd.results57, go_sem]) rfl ⟨rfl, by (repeat (first | exact Below.refl _ _ | assumption | refine Below.drew ?_ | refine below_drewN ?_ _ | refine Below.setCell ?_ (by simp) _ | refine Below.alloc ?_ (by (first | exact Nat.le_refl _ | (simp; done) | (simp; omega) | omega)) _ | refine Below.trans ?_ (Below.mono (by assumption) (by first | exact Nat.le_refl _ | (simp; done) | (simp; omega) | omega))))⟩
  · have h1 : ¬ (64 : Int) < (s.size : Int) := by omega
    rw [if_neg h]
    go_enter Tryd.func57, Tryd.ntmps57
    go_wp2
    exact bodyPost_ret (v := .tuple #[.agg #[.int .i64 (1), .string (s), .int .i64 (0), .float .f64 (0), .int .i64 (0)], .int .i64 0]) (by simp [results, Tryd.results57, go_sem]) rfl ⟨rfl, by (repeat (first | exact Below.refl _ _ | assumption | refine Below.drew ?_ | refine below_drewN ?_ _ | refine Below.setCell ?_ (by simp) _ | refine Below.alloc ?_ (by (first | exact Nat.le_refl _ | (simp; done) | (simp; omega) | omega)) _ | refine Below.trans ?_ (Below.mono (by assumption) (by first | exact Nat.le_refl _ | (simp; done) | (simp; omega) | omega))))⟩

theorem clone_any (s : ByteArray) (hs : s.size ≤ 65536) (w : World) : Calls Tryd.prog 72 #[.string s] w fun e w' => e = .returned (.string s) ∧ Below w.heap.size w w' := by
  go_enter Tryd.func72, Tryd.ntmps72
  go_wp2_with (go_at_call 87; refine (Tryd.stringslite_Clone s _ (by omega)).mono ?_; rintro e w' ⟨rfl, hb⟩)
  go_ret
  exact ⟨rfl, hb⟩

theorem e_isInName : ∀ args w, (callFunc 73 args).run Tryd.prog w = .ok (.enter 73 args) w := enters_of Tryd.func73 (by kernel_rfl) rfl
theorem e_isBlank : ∀ args w, (callFunc 31 args).run Tryd.prog w = .ok (.enter 31 args) w := enters_of Tryd.func31 (by kernel_rfl) rfl
theorem e_isInLine : ∀ args w, (callFunc 36 args).run Tryd.prog w = .ok (.enter 36 args) w := enters_of Tryd.func36 (by kernel_rfl) rfl
theorem e_isDigit : ∀ args w, (callFunc 35 args).run Tryd.prog w = .ok (.enter 35 args) w := enters_of Tryd.func35 (by kernel_rfl) rfl

theorem take_name (s : ByteArray) (i b : Nat) (hi : i ≤ s.size) (hs : s.size ≤ 65536) (w : World) (h : Sc w b s i) :
    Calls Tryd.prog 30 #[.pointer (some ⟨b, 0, none⟩), .func (.func 73) #[] #[]] w fun e w' => e = .returned (.string (s.extract i (goes pName s i))) ∧ Sc w' b s (goes pName s i) ∧ But (· = b) w w' :=
  take_any _ #[] e_isInName pName false flat_name s i b hi hs w h (fun W x _ _ => isInName_any x W)
theorem take_blank (s : ByteArray) (i b : Nat) (hi : i ≤ s.size) (hs : s.size ≤ 65536) (w : World) (h : Sc w b s i) :
    Calls Tryd.prog 30 #[.pointer (some ⟨b, 0, none⟩), .func (.func 31) #[] #[]] w fun e w' => e = .returned (.string (s.extract i (goes pBlank s i))) ∧ Sc w' b s (goes pBlank s i) ∧ But (· = b) w w' :=
  take_any _ #[] e_isBlank pBlank false flat_blank s i b hi hs w h (fun W x _ _ => isBlank_any x W)
theorem take_line (s : ByteArray) (i b : Nat) (hi : i ≤ s.size) (hs : s.size ≤ 65536) (w : World) (h : Sc w b s i) :
    Calls Tryd.prog 30 #[.pointer (some ⟨b, 0, none⟩), .func (.func 36) #[] #[]] w fun e w' => e = .returned (.string (s.extract i (goes pLine s i))) ∧ Sc w' b s (goes pLine s i) ∧ But (· = b) w w' :=
  take_any _ #[] e_isInLine pLine true flat_line s i b hi hs w h (fun W x _ _ => isInLine_any x W)
theorem take_digit (s : ByteArray) (i b : Nat) (hi : i ≤ s.size) (hs : s.size ≤ 65536) (w : World) (h : Sc w b s i) :
    Calls Tryd.prog 30 #[.pointer (some ⟨b, 0, none⟩), .func (.func 35) #[] #[]] w fun e w' => e = .returned (.string (s.extract i (goes pDigit s i))) ∧ Sc w' b s (goes pDigit s i) ∧ But (· = b) w w' :=
  take_any _ #[] e_isDigit pDigit false flat_digit s i b hi hs w h (fun W x _ _ => by have := isDigit_any (x : Int) W; rw [zDigit_nat] at this; exact this)

theorem sub_size (s : ByteArray) (i j : Nat) (hs : s.size ≤ 65536) : (s.extract i j).size ≤ 65536 := by rw [size_ext]; omega

theorem name_any (s : ByteArray) (i b : Nat) (hi : i ≤ s.size) (hs : s.size ≤ 65536) (w : World) (h : Sc w b s i) :
    Calls Tryd.prog 56 #[.pointer (some ⟨b, 0, none⟩)] w fun e w' => e = .returned (.string (s.extract i (goes pName s i))) ∧ Sc w' b s (goes pName s i) ∧ But (· = b) w w' := by
  have cT := take_name s i b hi hs w h
  have hz := sub_size s i (goes pName s i) hs
  go_enter Tryd.func56, Tryd.ntmps56
  go_wp2_with (first | (go_at_call 30; refine cT.mono ?_; rintro e w' ⟨rfl, hsc, hbut⟩) | (go_at_call 72; refine (clone_any _ hz _).mono ?_; rintro e w2 ⟨rfl, hb2⟩))
  go_ret
  exact ⟨rfl, Duo.keep hsc hb2, hbut.trans (But.of_below hb2)⟩

theorem But.set5 {S : Nat → Prop} {a w : World} (h : But S a w) {b : Nat} (hb : b < a.heap.size → S b) (u0 u1 u2 u3 u4 : Value) : But S a (set5 w b u0 u1 u2 u3 u4) :=
  ((((h.setCell (p := ⟨b, 0, none⟩) hb u0).setCell (p := ⟨b, 1, none⟩) hb u1).setCell (p := ⟨b, 2, none⟩) hb u2).setCell (p := ⟨b, 3, none⟩) hb u3).setCell (p := ⟨b, 4, none⟩) hb u4

theorem Duo.set5 {w : World} {b c : Nat} {v0 v1 : Value} (h : Duo w b v0 v1) (hne : c ≠ b) (u0 u1 u2 u3 u4 : Value) : Duo (set5 w c u0 u1 u2 u3 u4) b v0 v1 :=
  ⟨(set5_other _ _ _ _ _ _ _ _ _ hne).trans h.c0, (set5_other _ _ _ _ _ _ _ _ _ hne).trans h.c1, (set5_frozen _ _ _ _ _ _ _ _).trans h.f0, (set5_frozen _ _ _ _ _ _ _ _).trans h.f1, by rw [set5_size]; exact h.lt⟩

/-- The world behind a result's box. -/
abbrev wbox (w : World) : World := w.alloc (.cells #[.int .i64 0, .string ⟨#[]⟩, .int .i64 0, .float .f64 0, .int .i64 0] 35)
theorem wbox_below (w : World) : Below w.heap.size w (wbox w) := (Below.refl _ _).alloc (Nat.le_refl _) _
theorem wbox_box (w : World) : Box (wbox w) w.heap.size (.int .i64 0) (.string ⟨#[]⟩) (.int .i64 0) (.float .f64 0) (.int .i64 0) := Box.new w _ _ _ _ _ _

set_option maxHeartbeats 1000000 in
theorem variable_any (s : ByteArray) (i b : Nat) (hi : i ≤ s.size) (hs : s.size ≤ 65536) (w : World) (h : Sc w b s i) :
    Calls Tryd.prog 38 #[.pointer (some ⟨b, 0, none⟩)] w fun e w' => e = .returned (.tuple #[.agg #[.int .i64 (2), .string (s.extract i (goes pName s i)), .int .i64 (0), .float .f64 (0), .int .i64 (0)], .int .i64 0]) ∧ Sc w' b s (goes pName s i) ∧ But (· = b) w w' := by
  have cN := name_any s i b hi hs (wbox w) (Duo.keep h (wbox_below w))
  have hlt := h.lt
  obtain ⟨X, hX⟩ : ∃ X, s.extract i (goes pName s i) = X := ⟨_, rfl⟩
  rw [hX] at cN ⊢
  go_enter Tryd.func38, Tryd.ntmps38
  go_wp2_with (go_at_call 56; refine cN.mono ?_; rintro e w' ⟨rfl, hsc, hbut⟩; have HB := hidb hbut; obtain ⟨d0, d1, d2, d3, d4, g0, g1, g2, g3, g4, _⟩ := (wbox_box w).but hbut (by omega))
  refine bodyPost_ret (v := .tuple #[.agg #[.int .i64 (2), .string (X), .int .i64 (0), .float .f64 (0), .int .i64 (0)], .int .i64 0]) (by simp [results, Tryd.results38, go_sem, d0, d1, d2, d3, d4]) rfl ⟨rfl, ?_, ?_⟩
  · exact Duo.set5 hsc (by omega) _ _ _ _ _
  · exact ((But.of_below (wbox_below w)).trans HB.out).set5 (fun h => absurd h (by omega)) _ _ _ _ _

set_option maxHeartbeats 1000000 in
theorem word_any (s : ByteArray) (i b : Nat) (hi : i ≤ s.size) (hs : s.size ≤ 65536) (w : World) (h : Sc w b s i) :
    Calls Tryd.prog 37 #[.pointer (some ⟨b, 0, none⟩)] w fun e w' => e = .returned (if kept (s.extract i (goes pName s i)) = true then .tuple #[.agg #[.int .i64 (7), .string (s.extract i (goes pName s i)), .int .i64 (0), .float .f64 (0), .int .i64 (0)], .int .i64 0] else if 64 < (s.extract i (goes pName s i)).size then .tuple #[.agg #[.int .i64 (0), .string (⟨#[]⟩), .int .i64 (0), .float .f64 (0), .int .i64 (0)], .int .i64 23] else .tuple #[.agg #[.int .i64 (1), .string (s.extract i (goes pName s i)), .int .i64 (0), .float .f64 (0), .int .i64 (0)], .int .i64 0]) ∧ Sc w' b s (goes pName s i) ∧ But (· = b) w w' := by
  have cN := name_any s i b hi hs (wbox w) (Duo.keep h (wbox_below w))
  have hlt := h.lt
  have hz := sub_size s i (goes pName s i) hs
  obtain ⟨X, hX⟩ : ∃ X, s.extract i (goes pName s i) = X := ⟨_, rfl⟩
  rw [hX] at cN hz ⊢
  have cA := atom_any X hz
  cases hk : kept X
  · simp only [Bool.false_eq_true, if_false]
    by_cases h64 : 64 < X.size
    · simp only [h64, if_true] at cA ⊢
      go_enter Tryd.func37, Tryd.ntmps37
      go_wp2_with (first
        | (go_at_call 56; refine cN.mono ?_; rintro e w' ⟨rfl, hsc, hbut⟩; have HB := hidb hbut; have HX := hidb ((wbox_box w).but hbut (by omega)))
        | (go_at_call 13; refine (kept_any _ _).mono ?_; rintro e w' ⟨rfl, hw'⟩; obtain rfl := hw'.symm; rw [hk])
        | (go_at_call 57; refine (cA _).mono ?_; rintro e w2 ⟨rfl, hb2⟩; have HB2 := hidb hb2; obtain ⟨d0, d1, d2, d3, d4, g0, g1, g2, g3, g4, _⟩ := HX.out.keep hb2))
      refine bodyPost_ret (v := .tuple #[.agg #[.int .i64 (0), .string (⟨#[]⟩), .int .i64 (0), .float .f64 (0), .int .i64 (0)], .int .i64 23]) (by simp [results, Tryd.results37, go_sem, d0, d1, d2, d3, d4]) rfl ⟨rfl, ?_, ?_⟩
      · exact Duo.set5 (Duo.keep hsc HB2.out) (by omega) _ _ _ _ _
      · exact (((But.of_below (wbox_below w)).trans HB.out).trans (But.of_below HB2.out)).set5 (fun h => absurd h (by omega)) _ _ _ _ _
    · simp only [h64, if_false] at cA ⊢
      go_enter Tryd.func37, Tryd.ntmps37
      go_wp2_with (first
        | (go_at_call 56; refine cN.mono ?_; rintro e w' ⟨rfl, hsc, hbut⟩; have HB := hidb hbut; have HX := hidb ((wbox_box w).but hbut (by omega)))
        | (go_at_call 13; refine (kept_any _ _).mono ?_; rintro e w' ⟨rfl, hw'⟩; obtain rfl := hw'.symm; rw [hk])
        | (go_at_call 57; refine (cA _).mono ?_; rintro e w2 ⟨rfl, hb2⟩; have HB2 := hidb hb2; obtain ⟨d0, d1, d2, d3, d4, g0, g1, g2, g3, g4, _⟩ := HX.out.keep hb2))
      refine bodyPost_ret (v := .tuple #[.agg #[.int .i64 (1), .string (X), .int .i64 (0), .float .f64 (0), .int .i64 (0)], .int .i64 0]) (by simp [results, Tryd.results37, go_sem, d0, d1, d2, d3, d4]) rfl ⟨rfl, ?_, ?_⟩
      · exact Duo.set5 (Duo.keep hsc HB2.out) (by omega) _ _ _ _ _
      · exact (((But.of_below (wbox_below w)).trans HB.out).trans (But.of_below HB2.out)).set5 (fun h => absurd h (by omega)) _ _ _ _ _
  · simp only [if_true]
    go_enter Tryd.func37, Tryd.ntmps37
    go_wp2_with (first
      | (go_at_call 56; refine cN.mono ?_; rintro e w' ⟨rfl, hsc, hbut⟩; have HB := hidb hbut; obtain ⟨d0, d1, d2, d3, d4, g0, g1, g2, g3, g4, _⟩ := (wbox_box w).but hbut (by omega))
      | (go_at_call 13; refine (kept_any _ _).mono ?_; rintro e w' ⟨rfl, hw'⟩; obtain rfl := hw'.symm; rw [hk]))
    refine bodyPost_ret (v := .tuple #[.agg #[.int .i64 (7), .string (X), .int .i64 (0), .float .f64 (0), .int .i64 (0)], .int .i64 0]) (by simp [results, Tryd.results37, go_sem, d0, d1, d2, d3, d4]) rfl ⟨rfl, ?_, ?_⟩
    · exact Duo.set5 hsc (by omega) _ _ _ _ _
    · exact ((But.of_below (wbox_below w)).trans HB.out).set5 (fun h => absurd h (by omega)) _ _ _ _ _
end Go.Proofs.YtecgddiohoeboaaDoor
