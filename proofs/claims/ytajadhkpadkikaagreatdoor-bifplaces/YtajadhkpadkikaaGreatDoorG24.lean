import Derived.Test.YtajadhkpadkikaaGreatDoorG23
import Derived.Test.YtajadhkpadkikaaGreatDoorG15
import Derived.Deep.DrawnRows
import Derived.Test.YtajadhkpadkikaaGreatDoorG19
import Derived.Test.YtajadhkpadkikaaGreatDoorG07
import Derived.Deep.LoopGhost
/- Cmp and Same of right numbers: by their values; by their fields. -/
namespace Go.Proofs.YtajadhkpadkikaaGreatDoor
open Go.RowKit
open Flt (ordI exactV)
attribute [local go_sem] store_float
attribute [local go_sem ↓] Go.wp_at_zero Go.wp_at_succ

/-- a right number's value in units -/
def valU (k n : Int) (f : Nat) : Int := if k = 1 then n * Flt.P else Flt.U f

theorem valU_1 (n : Int) (f : Nat) : valU 1 n f = n * Flt.P := rfl
theorem valU_2 (n : Int) (f : Nat) : valU 2 n f = Flt.U f := rfl

/-- behind the first call of two that are handed boxed terms -/
theorem after2 {w w1 : World} {o1 : Obj} {t2 : TypeId} {b0 b1 b2 b3 b4 : Value}
    (hb : Below ((w.alloc o1).alloc (.cells #[b0, b1, b2, b3, b4] t2)).heap.size ((w.alloc o1).alloc (.cells #[b0, b1, b2, b3, b4] t2)) w1) :
    Box w1 (w.heap.size + 1) b0 b1 b2 b3 b4 ∧ Below w.heap.size w w1 := by
  have e1 : (w.alloc o1).heap.size = w.heap.size + 1 := by simp
  refine ⟨?_, ((below_new w o1).alloc (by simp) _).trans (hb.mono (by simp; omega))⟩
  rw [← e1]; exact (Box.new _ _ _ _ _ _ _).keep hb

theorem ord_neg (a b : Int) : -ordI (compare a b) = ordI (compare b a) := by
  rw [swap_compare b a]; cases compare b a <;> rfl

theorem compare_i (x y : Int) : (if x < y then (-1 : Int) else if y < x then 1 else 0) = ordI (compare (x * Flt.P) (y * Flt.P)) := by
  rw [compare_P]
  rcases Int.lt_trichotomy x y with h | h | h
  · rw [if_pos h, Int.compare_eq_lt.2 h]; rfl
  · subst h; rw [if_neg (by omega), if_neg (by omega)]; simp [ordI]
  · rw [if_neg (by omega), if_pos h, Int.compare_eq_gt.2 h]; rfl
theorem below_a1 {w w2 : World} (h : Below w.heap.size w w2) (o : Obj) : Below w.heap.size w (w2.alloc o) := h.alloc h.size o
theorem below_a2 {w w2 : World} (h : Below w.heap.size w w2) (o o' : Obj) : Below w.heap.size w ((w2.alloc o).alloc o') := (below_a1 h o).alloc (below_a1 h o).size o'
theorem below_a3 {w w2 : World} (h : Below w.heap.size w w2) (o o' o'' : Obj) : Below w.heap.size w (((w2.alloc o).alloc o').alloc o'') := (below_a2 h o o').alloc (below_a2 h o o').size o''

theorem int_wide {n : Int} {f l : Nat} {s : ByteArray} (h : rightB 1 n f s l = true) : -576460752303423488 ≤ n ∧ n ≤ 576460752303423487 := by
  simp only [rightB, Bool.and_eq_true, Bool.or_eq_true, beq_iff_eq] at h
  rcases h.1.1 with ⟨⟨_, hn⟩, _⟩ | ⟨⟨h2, _⟩, _⟩
  · exact whB_yes hn
  · exact absurd h2 (by omega)

theorem flt_fin {n : Int} {f l : Nat} {s : ByteArray} (h : rightB 2 n f s l = true) : Flt.fin f = true := by
  simp only [rightB, Bool.and_eq_true, Bool.or_eq_true, beq_iff_eq] at h
  rcases h.1.1 with ⟨⟨h2, _⟩, _⟩ | ⟨_, hn⟩
  · exact absurd h2 (by omega)
  · exact hn

set_option maxHeartbeats 1000000 in
theorem cmp_11 (n n' : Int) (f f' : Nat) (s s' : ByteArray) (a a' : Option Addr) (l c l' c' : Nat) (hf : f < 18446744073709551616) (hf' : f' < 18446744073709551616) (h : rightB 1 n f s l = true) (h' : rightB 1 n' f' s' l' = true) (w : World) :
    Calls Tryz.prog 264 #[.agg #[.int .i64 1, .int .i64 n, .float .f64 f, .string s, .slice a l c], .agg #[.int .i64 1, .int .i64 n', .float .f64 f', .string s', .slice a' l' c']] w fun e w' =>
      e = .returned (.int .i64 (ordI (compare (valU 1 n f) (valU 1 n' f')))) ∧ Below w.heap.size w w' := by
  rw [valU_1, valU_1, ← compare_i n n']
  have HR := hid h
  have HR' := hid h'
  clear h h'
  go_enter Tryz.func264, Tryz.ntmps264
  go_wp2_with fail
  refine (valueOf_yes 1 n f s a l c hf HR.out _).mono ?_
  rintro e w1 ⟨rfl, hb1⟩
  obtain ⟨⟨c0, c1, c2, c3, c4, _, _, _, _, _, lt⟩, hW⟩ := after2 hb1
  clear hb1
  go_wp2_with fail
  refine (valueOf_yes 1 n' f' s' a' l' c' hf' HR'.out _).mono ?_
  rintro e w2 ⟨rfl, hb2⟩
  clear c0 c1 c2 c3 c4 lt
  obtain ⟨⟨x0, x1, x2, ltx⟩, hk, hW2⟩ := later3 hW hb2
  clear hb2 hk hW
  go_wp2_with (go_at_call 166; refine (compare_ints _ _ _).mono ?_; rintro e w' ⟨rfl, rfl⟩)
  all_goals
    go_ret
    exact ⟨rfl, by
      (repeat (first | refine Below.drew ?_ | refine below_drewN ?_ _))
      (first | exact below_a1 hW2 _ | exact below_a2 hW2 _ _ | exact below_a3 hW2 _ _ _)⟩

set_option maxHeartbeats 1000000 in
theorem cmp_21 (n n' : Int) (f f' : Nat) (s s' : ByteArray) (a a' : Option Addr) (l c l' c' : Nat) (hf : f < 18446744073709551616) (hf' : f' < 18446744073709551616) (h : rightB 2 n f s l = true) (h' : rightB 1 n' f' s' l' = true) (w : World) :
    Calls Tryz.prog 264 #[.agg #[.int .i64 2, .int .i64 n, .float .f64 f, .string s, .slice a l c], .agg #[.int .i64 1, .int .i64 n', .float .f64 f', .string s', .slice a' l' c']] w fun e w' =>
      e = .returned (.int .i64 (ordI (compare (valU 2 n f) (valU 1 n' f')))) ∧ Below w.heap.size w w' := by
  have hw := int_wide h'
  have EX := hidE (exact_val f n' hf (flt_fin h) (by omega) (by omega))
  rw [valU_2, valU_1]
  clear hw
  have HR := hid h
  have HR' := hid h'
  clear h h'
  go_enter Tryz.func264, Tryz.ntmps264
  go_wp2_with fail
  refine (valueOf_yes 2 n f s a l c hf HR.out _).mono ?_
  rintro e w1 ⟨rfl, hb1⟩
  obtain ⟨⟨c0, c1, c2, c3, c4, _, _, _, _, _, lt⟩, hW⟩ := after2 hb1
  clear hb1
  go_wp2_with fail
  refine (valueOf_yes 1 n' f' s' a' l' c' hf' HR'.out _).mono ?_
  rintro e w2 ⟨rfl, hb2⟩
  clear c0 c1 c2 c3 c4 lt
  obtain ⟨⟨x0, x1, x2, ltx⟩, hk, hW2⟩ := later3 hW hb2
  clear hb2 hk hW
  go_wp2_with fail
  go_region_with (first | (go_at_call 130; refine (real_at _ _ _ _).mono ?_; rintro e w' ⟨rfl, rfl⟩) | (go_at_call 137; refine (EX.out _).mono ?_; rintro e w' ⟨rfl, rfl⟩))
  all_goals go_wp2
  all_goals
    go_ret
    exact ⟨rfl, by
      (repeat (first | refine Below.drew ?_ | refine below_drewN ?_ _))
      (first | exact below_a1 hW2 _ | exact below_a2 hW2 _ _ | exact below_a3 hW2 _ _ _)⟩

set_option maxHeartbeats 1000000 in
theorem cmp_12 (n n' : Int) (f f' : Nat) (s s' : ByteArray) (a a' : Option Addr) (l c l' c' : Nat) (hf : f < 18446744073709551616) (hf' : f' < 18446744073709551616) (h : rightB 1 n f s l = true) (h' : rightB 2 n' f' s' l' = true) (w : World) :
    Calls Tryz.prog 264 #[.agg #[.int .i64 1, .int .i64 n, .float .f64 f, .string s, .slice a l c], .agg #[.int .i64 2, .int .i64 n', .float .f64 f', .string s', .slice a' l' c']] w fun e w' =>
      e = .returned (.int .i64 (ordI (compare (valU 1 n f) (valU 2 n' f')))) ∧ Below w.heap.size w w' := by
  have hw := int_wide h
  have EX := hidE (exact_val f' n hf' (flt_fin h') (by omega) (by omega))
  rw [valU_2, valU_1, ← ord_neg]
  have hob : ∃ o : Int, ordI (compare (Flt.U f') (n * Flt.P)) = o ∧ -1 ≤ o ∧ o ≤ 1 := ⟨_, rfl, by cases compare (Flt.U f') (n * Flt.P) <;> decide, by cases compare (Flt.U f') (n * Flt.P) <;> decide⟩
  obtain ⟨o, ho, o1, o2⟩ := hob
  rw [ho] at EX ⊢
  have hng : IntKind.i64.wrap (-o) = -o := by rw [IntKind.wrap_i64]; omega
  clear ho hw
  have HR := hid h
  have HR' := hid h'
  clear h h'
  go_enter Tryz.func264, Tryz.ntmps264
  go_wp2_with fail
  refine (valueOf_yes 1 n f s a l c hf HR.out _).mono ?_
  rintro e w1 ⟨rfl, hb1⟩
  obtain ⟨⟨c0, c1, c2, c3, c4, _, _, _, _, _, lt⟩, hW⟩ := after2 hb1
  clear hb1
  go_wp2_with fail
  refine (valueOf_yes 2 n' f' s' a' l' c' hf' HR'.out _).mono ?_
  rintro e w2 ⟨rfl, hb2⟩
  clear c0 c1 c2 c3 c4 lt
  obtain ⟨⟨x0, x1, x2, ltx⟩, hk, hW2⟩ := later3 hW hb2
  clear hb2 hk hW
  go_wp2_with fail
  go_region_with (first | (go_at_call 130; refine (real_at _ _ _ _).mono ?_; rintro e w' ⟨rfl, rfl⟩) | (go_at_call 137; refine (EX.out _).mono ?_; rintro e w' ⟨rfl, rfl⟩))
  all_goals go_wp2
  all_goals
    go_ret
    exact ⟨rfl, by
      (repeat (first | refine Below.drew ?_ | refine below_drewN ?_ _))
      (first | exact below_a1 hW2 _ | exact below_a2 hW2 _ _ | exact below_a3 hW2 _ _ _)⟩

set_option maxHeartbeats 1000000 in
theorem cmp_22 (n n' : Int) (f f' : Nat) (s s' : ByteArray) (a a' : Option Addr) (l c l' c' : Nat) (hf : f < 18446744073709551616) (hf' : f' < 18446744073709551616) (h : rightB 2 n f s l = true) (h' : rightB 2 n' f' s' l' = true) (w : World) :
    Calls Tryz.prog 264 #[.agg #[.int .i64 2, .int .i64 n, .float .f64 f, .string s, .slice a l c], .agg #[.int .i64 2, .int .i64 n', .float .f64 f', .string s', .slice a' l' c']] w fun e w' =>
      e = .returned (.int .i64 (ordI (compare (valU 2 n f) (valU 2 n' f')))) ∧ Below w.heap.size w w' := by
  have k1 := flt_fin h
  have k2 := flt_fin h'
  have EX := hidE (compare_floats f f' (compare (Flt.U f) (Flt.U f')) (by show Ieee.double.order f f = _; rw [Flt.order_U hf hf k1 k1]; simp) (by show Ieee.double.order f' f' = _; rw [Flt.order_U hf' hf' k2 k2]; simp) (Flt.order_U hf hf' k1 k2) (by show Ieee.double.order f' f = _; rw [Flt.order_U hf' hf k2 k1, swap_compare]))
  rw [valU_2, valU_2]
  clear k1 k2
  have HR := hid h
  have HR' := hid h'
  clear h h'
  go_enter Tryz.func264, Tryz.ntmps264
  go_wp2_with fail
  refine (valueOf_yes 2 n f s a l c hf HR.out _).mono ?_
  rintro e w1 ⟨rfl, hb1⟩
  obtain ⟨⟨c0, c1, c2, c3, c4, _, _, _, _, _, lt⟩, hW⟩ := after2 hb1
  clear hb1
  go_wp2_with fail
  refine (valueOf_yes 2 n' f' s' a' l' c' hf' HR'.out _).mono ?_
  rintro e w2 ⟨rfl, hb2⟩
  clear c0 c1 c2 c3 c4 lt
  obtain ⟨⟨x0, x1, x2, ltx⟩, hk, hW2⟩ := later3 hW hb2
  clear hb2 hk hW
  go_wp2_with fail
  go_region_with (first | (go_at_call 130; refine (real_at _ _ _ _).mono ?_; rintro e w' ⟨rfl, rfl⟩) | (go_at_call 167; refine (EX.out _).mono ?_; rintro e w' ⟨rfl, rfl⟩))
  all_goals go_wp2
  all_goals
    go_ret
    exact ⟨rfl, by
      (repeat (first | refine Below.drew ?_ | refine below_drewN ?_ _))
      (first | exact below_a1 hW2 _ | exact below_a2 hW2 _ _ | exact below_a3 hW2 _ _ _)⟩

theorem right_kind {k n : Int} {f : Nat} {s : ByteArray} {l : Nat} (h : rightB k n f s l = true) : k = 1 ∨ k = 2 := by
  simp only [rightB, Bool.and_eq_true, Bool.or_eq_true, beq_iff_eq] at h
  rcases h.1.1 with ⟨⟨h2, _⟩, _⟩ | ⟨⟨h2, _⟩, _⟩
  · exact Or.inl h2
  · exact Or.inr h2

theorem cmp_any (k n k' n' : Int) (f f' : Nat) (s s' : ByteArray) (a a' : Option Addr) (l c l' c' : Nat) (hf : f < 18446744073709551616) (hf' : f' < 18446744073709551616) (h : rightB k n f s l = true) (h' : rightB k' n' f' s' l' = true) (w : World) :
    Calls Tryz.prog 264 #[.agg #[.int .i64 k, .int .i64 n, .float .f64 f, .string s, .slice a l c], .agg #[.int .i64 k', .int .i64 n', .float .f64 f', .string s', .slice a' l' c']] w fun e w' =>
      e = .returned (.int .i64 (ordI (compare (valU k n f) (valU k' n' f')))) ∧ Below w.heap.size w w' := by
  rcases right_kind h with rfl | rfl <;> rcases right_kind h' with rfl | rfl
  · exact cmp_11 n n' f f' s s' a a' l c l' c' hf hf' h h' w
  · exact cmp_12 n n' f f' s s' a a' l c l' c' hf hf' h h' w
  · exact cmp_21 n n' f f' s s' a a' l c l' c' hf hf' h h' w
  · exact cmp_22 n n' f f' s s' a a' l c l' c' hf hf' h h' w

end Go.Proofs.YtajadhkpadkikaaGreatDoor


/- term.Cmp and term.Same of 1 and 1.0. -/
namespace Go.Proofs.YtajadhkpadkikaaGreatDoor
open Go.RowKit Go.Lib Go.Deep
attribute [local go_sem] store_float f64bits
attribute [local go_sem ↓] Go.wp_at_zero Go.wp_at_succ

set_option maxHeartbeats 2000000 in
theorem checkAll_ok (k n : Int) (f : Nat) (s : ByteArray) (a : Option Addr) (c : Nat) (kids : List Tr) (w : World) (hin : (Tr.mk k n f s a c kids).In w 0) (hsm : Small (.mk k n f s a c kids)) (hok : ∀ t, t ∈ kids → errT t = 0) : Calls Tryz.prog 23 #[.slice a kids.length c] w fun e w' => e = .returned (.int .i64 0) ∧ Below w.heap.size w w' := by
  have hlen := len_small hin
  have HIN := hidb hin
  have HSM := hidb hsm
  have HOK := hidb hok
  obtain ⟨M, hM⟩ : ∃ M, kids.length = M := ⟨_, rfl⟩
  have HM := hidb hM
  rw [hM] at hlen ⊢
  clear hin hsm hok hM
  go_enter Tryz.func23, Tryz.ntmps23
  go_wp2_with fail
  go_loopw [8] (fun iv wr => ∃ (m : Nat), m ≤ M ∧ iv = .int .i64 m ∧ Below w.heap.size w wr) (fun iv _ => M - (RowKit.intOf iv).toNat)
  case atStart => exact ⟨0, by omega, rfl, Below.refl _ _⟩
  case round =>
  obtain ⟨m, hm, rfl, hby⟩ := hrel
  have HBY := hidb hby
  by_cases hml : m < M
  · have hmb : (m : Int) < (M : Int) := by omega
    have hmz : (0 : Int) ≤ (m : Int) := by omega
    obtain ⟨b, o, rfl, hat⟩ := kid_at (in_below hby HIN.out) (by have := HM.out; omega)
    obtain ⟨k', n', f', s', a', c', kids', hu, hin', c0, c1, c2, c3, c4⟩ := hat m (by have := HM.out; omega)
    have hmem := List.mem_of_getElem? hu
    have CK := hidb (fun (w' : World) (hb : Below wr.heap.size wr w') => check_t (.mk k' n' f' s' a' c' kids') w' (in_below hb hin') (smallAll_get (by have := HSM.out; unfold Small at this; exact this.2) hmem))
    rw [HOK.out _ hmem] at CK
    simp only [Tr.val, Tr.cells] at CK
    generalize kids'.length = tl' at *
    clear hat hu hin' hby hmem
    go_wp2_with (go_at_call 18; refine (CK.out _ (below_new wr _)).mono ?_; rintro e w1 ⟨rfl, hb1⟩; have HB1 := hidb (HBY.out.trans (((below_new wr _).mono HBY.out.size).trans (hb1.mono (Nat.le_trans HBY.out.size (below_new wr _).size)))); clear hb1)
    go_roundw
    case rel => exact ⟨m + 1, by omega, by go_num, HB1.out⟩
    case measure => simp [RowKit.intOf]; omega
  · have hmn : ¬ (m : Int) < (M : Int) := by omega
    clear hby
    go_wp2_with fail
    go_ret
    exact ⟨rfl, HBY.out⟩


theorem method_rank1 (w : World) : (method 348 (kt 1) (.agg #[]) "exitwave/term.rank").run Tryz.prog w = .ok (261, .agg #[]) w := by kernel_rfl
theorem method_rank2 (w : World) : (method 348 (kt 2) (.agg #[]) "exitwave/term.rank").run Tryz.prog w = .ok (261, .agg #[]) w := by kernel_rfl
theorem method_cmp1 (w : World) : (method 348 (kt 1) (.agg #[]) "exitwave/term.compare").run Tryz.prog w = .ok (260, .agg #[]) w := by kernel_rfl

abbrev one : Value := .agg #[.int .i64 1, .int .i64 1, .float .f64 0, .string ⟨#[]⟩, .slice none 0 0]
abbrev oneF : Value := .agg #[.int .i64 2, .int .i64 0, .float .f64 4607182418800017408, .string ⟨#[]⟩, .slice none 0 0]

set_option maxHeartbeats 8000000 in
set_option maxRecDepth 100000 in
theorem compare_one (w : World) : Calls Tryz.prog 24 #[one, oneF] w fun e w' => e = .returned (.int .i64 0) ∧ Below w.heap.size w w' := by
  have K1 := hidb (kindOf_any 1 1 0 ⟨#[]⟩ none 0 0)
  have K2 := hidb (kindOf_any 2 0 4607182418800017408 ⟨#[]⟩ none 0 0)
  have hv : Flt.ordI (compare (valU 1 1 0) (valU 2 0 4607182418800017408)) = 0 := by kernel_rfl
  have NC := hidb (cmp_any 1 1 2 0 0 4607182418800017408 ⟨#[]⟩ ⟨#[]⟩ none none 0 0 0 0 (by decide) (by decide) (by simp [rightB, whB, ByteArray.toList_eq]) (by simp [rightB, Flt.fin, ByteArray.toList_eq]))
  rw [hv] at NC
  clear hv
  have e1 := method_rank1
  have e2 := method_rank2
  have e3 := method_cmp1
  have CI : Hid (∀ w, Calls Tryz.prog 32 #[.int .i64 0, .int .i64 0] w fun e w' => e = .returned (.int .i64 0) ∧ w' = w) := hidb (fun w => by
    have IN : ∀ w, Calls Tryz.prog 85 #[.int .i64 0] w fun e w' => e = .returned (.bool false) ∧ w' = w := fun w => by
      go_enter Tryz.func85, Tryz.ntmps85
      go_wp2_with fail
      go_ret
      exact ⟨rfl, rfl⟩
    go_enter Tryz.func32, Tryz.ntmps32
    go_wp2_with (go_at_call 85; refine (IN _).mono ?_; rintro e w3 ⟨rfl, rfl⟩)
    go_ret
    exact ⟨rfl, rfl⟩)
  have NM : Hid (∀ w, Calls Tryz.prog 260 #[.agg #[], one, oneF] w fun e w' => e = .returned (.int .i64 0) ∧ Below w.heap.size w w') := hidb (fun w => by
    have HBW : Hid (Below w.heap.size w ((w.alloc (.cells #[.int .i64 1, .int .i64 1, .float .f64 0, .string ⟨#[]⟩, .slice none 0 0] 25)).alloc (.cells #[.int .i64 2, .int .i64 0, .float .f64 4607182418800017408, .string ⟨#[]⟩, .slice none 0 0] 25))) := hidb ((below_new w _).alloc (by simp) _)
    go_enter Tryz.func260, Tryz.ntmps260
    go_wp2_with fail
    refine (NC.out _).mono ?_
    rintro e w1 ⟨rfl, hb1⟩
    have HB1 := hidb hb1
    clear hb1
    go_wp2_with fail
    go_ret
    refine ⟨rfl, ?_⟩
    exact ((((Below.refl _ w).alloc (Nat.le_refl _) _).alloc (by simp) _).alloc (by simp; omega) _).trans (HB1.out.mono (by simp; omega)))
  have RK : Hid (∀ w, Calls Tryz.prog 261 #[.agg #[]] w fun e w' => e = .returned (.int .i64 0) ∧ Below w.heap.size w w') := hidb (fun w => by
    go_enter Tryz.func261, Tryz.ntmps261
    go_wp2_with fail
    go_ret
    exact ⟨rfl, by first | exact Below.refl _ _ | exact below_new _ _⟩)
  obtain ⟨V, hV⟩ : ∃ V, (w.alloc (.cells #[.int .i64 1, .int .i64 1, .float .f64 0, .string ⟨#[]⟩, .slice none 0 0] 25)).alloc (.cells #[.int .i64 2, .int .i64 0, .float .f64 4607182418800017408, .string ⟨#[]⟩, .slice none 0 0] 25) = V := ⟨_, rfl⟩
  have HBV : Hid (Below w.heap.size w V) := hidb (by rw [← hV]; exact (below_new w _).alloc (by simp) _)
  have HB1 : Hid (Box V w.heap.size (.int .i64 1) (.int .i64 1) (.float .f64 0) (.string ⟨#[]⟩) (.slice none 0 0)) := hidb (by rw [← hV]; exact (Box.new w _ _ _ _ _ _).keep (below_new _ _))
  have HB2 : Hid (Box V (w.heap.size + 1) (.int .i64 2) (.int .i64 0) (.float .f64 4607182418800017408) (.string ⟨#[]⟩) (.slice none 0 0)) := hidb (by
    rw [← hV]
    have := Box.new (w.alloc (.cells #[.int .i64 1, .int .i64 1, .float .f64 0, .string ⟨#[]⟩, .slice none 0 0] 25)) 25 (.int .i64 2) (.int .i64 0) (.float .f64 4607182418800017408) (.string ⟨#[]⟩) (.slice none 0 0)
    simpa using this)
  have HV := hidb hV
  clear hV
  have HS : Hid (∀ W, Below V.heap.size V W → W.cell? ⟨w.heap.size, 0, none⟩ = some (.int .i64 1) ∧ W.cell? ⟨w.heap.size, 1, none⟩ = some (.int .i64 1) ∧ W.cell? ⟨w.heap.size, 2, none⟩ = some (.float .f64 0) ∧ W.cell? ⟨w.heap.size, 3, none⟩ = some (.string ⟨#[]⟩) ∧ W.cell? ⟨w.heap.size, 4, none⟩ = some (.slice none 0 0) ∧ W.cell? ⟨w.heap.size + 1, 0, none⟩ = some (.int .i64 2) ∧ W.cell? ⟨w.heap.size + 1, 1, none⟩ = some (.int .i64 0) ∧ W.cell? ⟨w.heap.size + 1, 2, none⟩ = some (.float .f64 4607182418800017408) ∧ W.cell? ⟨w.heap.size + 1, 3, none⟩ = some (.string ⟨#[]⟩) ∧ W.cell? ⟨w.heap.size + 1, 4, none⟩ = some (.slice none 0 0)) := hidb (fun W hb => ⟨(HB1.out.keep hb).c0, (HB1.out.keep hb).c1, (HB1.out.keep hb).c2, (HB1.out.keep hb).c3, (HB1.out.keep hb).c4, (HB2.out.keep hb).c0, (HB2.out.keep hb).c1, (HB2.out.keep hb).c2, (HB2.out.keep hb).c3, (HB2.out.keep hb).c4⟩)
  have HS0 := hidb (HS.out V.drew (Below.refl _ _).drew)
  have C1 : Hid (Calls Tryz.prog 31 #[one] V.drew fun e w1 => e = .returned (.iface (kt 1) (.agg #[])) ∧ Hid (w1.cell? ⟨w.heap.size, 0, none⟩ = some (.int .i64 1) ∧ w1.cell? ⟨w.heap.size, 1, none⟩ = some (.int .i64 1) ∧ w1.cell? ⟨w.heap.size, 2, none⟩ = some (.float .f64 0) ∧ w1.cell? ⟨w.heap.size, 3, none⟩ = some (.string ⟨#[]⟩) ∧ w1.cell? ⟨w.heap.size, 4, none⟩ = some (.slice none 0 0) ∧ w1.cell? ⟨w.heap.size + 1, 0, none⟩ = some (.int .i64 2) ∧ w1.cell? ⟨w.heap.size + 1, 1, none⟩ = some (.int .i64 0) ∧ w1.cell? ⟨w.heap.size + 1, 2, none⟩ = some (.float .f64 4607182418800017408) ∧ w1.cell? ⟨w.heap.size + 1, 3, none⟩ = some (.string ⟨#[]⟩) ∧ w1.cell? ⟨w.heap.size + 1, 4, none⟩ = some (.slice none 0 0)) ∧ Hid (Calls Tryz.prog 31 #[oneF] w1 fun e w2 => e = .returned (.iface (kt 2) (.agg #[])) ∧ Hid (w2.cell? ⟨w.heap.size, 0, none⟩ = some (.int .i64 1) ∧ w2.cell? ⟨w.heap.size, 1, none⟩ = some (.int .i64 1) ∧ w2.cell? ⟨w.heap.size, 2, none⟩ = some (.float .f64 0) ∧ w2.cell? ⟨w.heap.size, 3, none⟩ = some (.string ⟨#[]⟩) ∧ w2.cell? ⟨w.heap.size, 4, none⟩ = some (.slice none 0 0) ∧ w2.cell? ⟨w.heap.size + 1, 0, none⟩ = some (.int .i64 2) ∧ w2.cell? ⟨w.heap.size + 1, 1, none⟩ = some (.int .i64 0) ∧ w2.cell? ⟨w.heap.size + 1, 2, none⟩ = some (.float .f64 4607182418800017408) ∧ w2.cell? ⟨w.heap.size + 1, 3, none⟩ = some (.string ⟨#[]⟩) ∧ w2.cell? ⟨w.heap.size + 1, 4, none⟩ = some (.slice none 0 0)) ∧ Hid (Below V.heap.size V w2))) := hidb (by
    refine (K1.out _).mono ?_
    rintro e w1 ⟨rfl, hb1⟩
    have q1 := undrew hb1
    refine ⟨rfl, hidb (HS.out w1 q1), hidb ((K2.out _).mono ?_)⟩
    rintro e w2 ⟨rfl, hb2⟩
    have q2 := q1.trans (hb2.mono q1.size)
    exact ⟨rfl, hidb (HS.out w2 q2), hidb q2⟩)
  clear K1 K2
  go_enter Tryz.func24, Tryz.ntmps24
  go_wp2_with fail
  rw [HV.out]
  go_region_held3 (fun w' => w'.cell? ⟨w.heap.size, 0, none⟩ = some (.int .i64 1) ∧ w'.cell? ⟨w.heap.size, 1, none⟩ = some (.int .i64 1) ∧ w'.cell? ⟨w.heap.size, 2, none⟩ = some (.float .f64 0) ∧ w'.cell? ⟨w.heap.size, 3, none⟩ = some (.string ⟨#[]⟩) ∧ w'.cell? ⟨w.heap.size, 4, none⟩ = some (.slice none 0 0) ∧ w'.cell? ⟨w.heap.size + 1, 0, none⟩ = some (.int .i64 2) ∧ w'.cell? ⟨w.heap.size + 1, 1, none⟩ = some (.int .i64 0) ∧ w'.cell? ⟨w.heap.size + 1, 2, none⟩ = some (.float .f64 4607182418800017408) ∧ w'.cell? ⟨w.heap.size + 1, 3, none⟩ = some (.string ⟨#[]⟩) ∧ w'.cell? ⟨w.heap.size + 1, 4, none⟩ = some (.slice none 0 0)) (first | with_reducible exact HS0.out | with_reducible exact HS1.out | with_reducible exact HS2.out) (first
    | (go_at_call 31; refine C1.out.mono ?_; clear C1; rintro e w1 ⟨rfl, HS1, C2⟩)
    | (go_at_call 31; refine C2.out.mono ?_; clear C2; rintro e w2 ⟨rfl, HS2, HB⟩))
  go_wp2_with (go_at_call 261; refine (RK.out _).mono ?_; rintro e w3 ⟨rfl, hb3⟩; have HB := hidb (HB.out.trans (hb3.mono HB.out.size)); clear hb3)
  refine (CI.out _).mono ?_
  rintro e w4 ⟨rfl, rfl⟩
  obtain ⟨z0, z1, z2, z3, z4, z5, z6, z7, z8, z9⟩ := HS.out _ HB.out
  go_wp2_with fail
  refine (NM.out _).mono ?_
  rintro e w5 ⟨rfl, hb5⟩
  have HB5 := hidb (HBV.out.trans ((HB.out.trans (hb5.mono HB.out.size)).mono HBV.out.size))
  clear hb5
  go_wp2_with fail
  go_ret
  exact ⟨rfl, HB5.out⟩

theorem one_in (w : World) : (Tr.mk 1 1 0 ⟨#[]⟩ none 0 []).In w 0 ∧ (Tr.mk 2 0 4607182418800017408 ⟨#[]⟩ none 0 []).In w 0 := by
  constructor
  · unfold Tr.In
    exact ⟨⟨by decide, by decide, by decide, by show 0 ≤ maxLen; omega, by simp, by simp, fun _ => rfl⟩, fun ad h => by simp at h⟩
  · unfold Tr.In
    exact ⟨⟨by decide, by decide, by decide, by show 0 ≤ maxLen; omega, by simp, by simp, fun _ => rfl⟩, fun ad h => by simp at h⟩
end Go.Proofs.YtajadhkpadkikaaGreatDoor


