import Derived.Test.YtggpbfmdhenjdaaG18
import Derived.Test.YtggpbfmdhenjdaaLIT
import Derived.Test.YtggpbfmdhenjdaaG28
import Derived.Test.YtggpbfmdhenjdaaG33
/- Put: which number the message gets. -/
namespace Go.Proofs.Ytggpbfmdhenjdaa
open Go.RowKit Go.Deep
attribute [local go_sem] store_float f64bits
attribute [local go_sem ↓] Go.wp_at_zero Go.wp_at_succ
variable {w : World} {bb place most puts : Nat} {ms : List Msg} {R : Nat → Prop}


/-- add of a message that has just been laid. -/
theorem add_putN {w w4 : World} {t : Tr} {k' n' : Int} {f' : Nat} {s' : ByteArray} {a' : Option Addr} {c' : Nat} {kids' : List Tr} {wd num : Nat} (h : BX w bb ms place most puts R) (hb : Below w.heap.size w w4) (hin : (Tr.mk k' n' f' s' a' c' kids').In w4 w.heap.size) (hst : Sm t (.mk k' n' f' s' a' c' kids')) (hl : ms.length ≤ 1000000) (hwd : wds ms + wd ≤ 1000000000000) :
    Calls Try.prog 22 #[.pointer (some ⟨bb, 0, none⟩), .pointer (some ⟨w4.heap.size, 0, none⟩)] (w4.alloc (.cells #[.pointer none, .pointer none, .int .i64 k', .int .i64 n', .float .f64 f', .string s', .slice a' kids'.length c', .int .i64 (wd : Int), .int .i64 (num : Int), .bool false] GT)) fun e w' => e = .returned (.tuple #[]) ∧
      ∃ (m : Msg) (R' : Nat → Prop), BX w' bb (ms ++ [m]) place most puts R' ∧ Sm t m.t ∧ (m.wd = wd ∧ m.num = num) ∧ w.heap.size ≤ m.b ∧ (∀ q, R' q → R q ∨ w.heap.size ≤ q) ∧ But (BS bb ms) w w' := by
  obtain ⟨m, R', hm, h1, h2, h3, h4, h5, h6, h7, h8, h9⟩ := put_facts (wd := wd) (num := num) (ty := GT) h hb rfl hin hst
  have A := addB h1 h2 h3 h4 h5 h6 h7 hl (by rw [hm]; exact hwd)
  subst hm
  refine A.mono ?_
  rintro e w' ⟨rfl, hx, hbt⟩
  refine ⟨rfl, _, R', hx, h8, ⟨rfl, rfl⟩, hb.size, h9, ?_⟩
  refine ⟨hbt.os.trans hb.os, hbt.tape.trans hb.tape, hbt.output.trans hb.output, Nat.le_trans hb.size (Nat.le_trans (below_new w4 _).size hbt.size), fun q hq hS => ?_⟩
  refine (hbt.block q (Nat.lt_of_lt_of_le hq (Nat.le_trans hb.size (below_new w4 _).size)) ?_).trans (((below_new w4 _).block q (Nat.lt_of_lt_of_le hq hb.size)).trans (hb.block q hq))
  rintro (e | ⟨x, hx, e⟩)
  · exact hS (.inl e)
  · rcases List.mem_append.1 hx with hx | hx
    · exact hS (.inr ⟨x, hx, e⟩)
    · simp at hx
      subst hx
      have h10 : q = w4.heap.size := e
      have := hb.size
      omega

set_option maxHeartbeats 1000000 in
set_option maxRecDepth 100000 in
theorem putBN (t : Tr) (W2 : Nat) {T : Nat → Prop} (h : BX w bb ms place most puts R) (hin : t.In w 0) (hon : t.On T) (hT : ∀ q, T q → ¬ BS bb ms q) (hs : Small t) (hcn : cnT t ≤ 1000000000) (he : errT t = 0) (hw2 : wordsT t = (W2 : Int)) (hfit : wds ms + (W2 + 2) ≤ most) (hmost : most ≤ 16777216) (hp : puts ≤ 1000000) (hl : ms.length ≤ 1000000) :
    Calls Try.prog 9 #[.pointer (some ⟨bb, 0, none⟩), t.val] w fun e w' => e = .returned (.int .i64 0) ∧ ∃ (m : Msg) (R' : Nat → Prop), BX w' bb (ms ++ [m]) place most (puts + 1) R' ∧ Sm t m.t ∧ (m.wd = W2 + 2 ∧ m.num = puts + 1) ∧ w.heap.size ≤ m.b ∧ (∀ q, R' q → R q ∨ w.heap.size ≤ q) ∧ But (BS bb ms) w w' := by
  have WD := hidb (fun w' hb => words_t t w' (in_below (w := w) hb hin) hs)
  have CP := hidb (fun w' h => copy_any t w' h hs hcn)
  rw [he, hw2] at WD
  have HB := hidb h
  have HIN := hidb hin
  have HON := hidb hon
  have HTB : Hid (¬ T bb) := hidb (fun e => hT bb e (.inl rfl))
  have hbl : bb < w.heap.size := h.box.2
  have HML : Hid (¬ BS bb ms w.heap.size) := hidb (by
    rintro (e | ⟨x, hx, e⟩)
    · omega
    · obtain ⟨i, hi⟩ := List.getElem?_of_mem hx
      have := (h.msg i x hi).2
      omega)
  have hbb : ¬ bb = w.heap.size := by omega
  have hbb' : ¬ w.heap.size = bb := by omega
  obtain ⟨k, n, f, s, a, c, kids⟩ := t
  clear hin hs hcn he hw2 h hon hT
  show Calls Try.prog 9 #[.pointer (some ⟨bb, 0, none⟩), .agg #[.int .i64 k, .int .i64 n, .float .f64 f, .string s, .slice a kids.length c]] w _
  go_enter Try.func9, Try.ntmps9
  have hW : IntKind.i64.wrap ((W2 : Int) + 2) = (W2 : Int) + 2 := by rw [IntKind.wrap_i64]; omega
  have hsub : IntKind.i64.wrap ((most : Int) - (wds ms : Int)) = (most : Int) - (wds ms : Int) := by rw [IntKind.wrap_i64]; omega
  have hcmp : ¬ (most : Int) - (wds ms : Int) < (W2 : Int) + 2 := by omega
  go_wp2_with (first
    | (go_at_call 21; refine (WD.out _ (below_new w _)).mono ?_; rintro e w1 ⟨rfl, hb1⟩; have B2 := box_then (Below.refl _ _) hb1; have HB2 : Hid _ := B2; obtain ⟨d0, d1, d2, d3, d4⟩ := box_at B2; clear B2 hb1 WD))
  have HX1 := hidb (HB.out.keep (box_below HB2.out))
  obtain ⟨c4, -⟩ := HX1.out.box.1 4 _ rfl
  obtain ⟨c5, -⟩ := HX1.out.box.1 5 _ rfl
  go_region_held3 (fun w' => w'.cell? ⟨bb, 4, none⟩ = some (.int .i64 (wds ms : Int)) ∧ w'.cell? ⟨bb, 5, none⟩ = some (.int .i64 (most : Int))) (first | go_keep) (first | fail)
  have HX2 := hidb (HX1.out.keep ((Below.refl _ _).drew))
  have HB3 := hidb (box_then HB2.out ((Below.refl _ _).drew))
  clear d0 d1 d2 d3 d4 c4 c5 HX1 HB2 HB
  generalize w1.drew = W1 at *
  obtain ⟨c6, f6⟩ := HX2.out.box.1 6 _ rfl
  have hpw : IntKind.i64.wrap ((puts : Int) + 1) = (puts : Int) + 1 := by rw [IntKind.wrap_i64]; omega
  have HX3 := HX2.out.bump
  rw [show ((puts + 1 : Nat) : Int) = (puts : Int) + 1 from rfl] at HX3
  have HX3 := hidb (HX3.keep ((Below.refl _ _).drew))
  have HT3 := hidb (in_below ((Below.refl _ _).drew) (in_set1 (in_below (box_below HB3.out) HIN.out) HON.out (p := ⟨bb, 6, none⟩) HTB.out (.int .i64 ((puts : Int) + 1))))
  obtain ⟨d0, d1, d2, d3, d4⟩ := box_at HB3.out
  have HBT3 : Hid (But (BS bb ms) w (W1.setCell ⟨bb, 6, none⟩ (.int .i64 ((puts : Int) + 1))).drew) := hidb (((But.of_below (S := BS bb ms) (box_below HB3.out)).setCell (p := ⟨bb, 6, none⟩) (fun _ => .inl rfl) _).drew)
  go_wp2_with fail
  have x0 : (W1.setCell ⟨bb, 6, none⟩ (.int .i64 ((puts : Int) + 1))).cell? ⟨w.heap.size, 0, none⟩ = some (.int .i64 k) := by rw [World.cell?_setCell_other _ _ _ _ (fun q => hbb (congrArg Addr.block q))]; exact d0
  have x1 : (W1.setCell ⟨bb, 6, none⟩ (.int .i64 ((puts : Int) + 1))).cell? ⟨w.heap.size, 1, none⟩ = some (.int .i64 n) := by rw [World.cell?_setCell_other _ _ _ _ (fun q => hbb (congrArg Addr.block q))]; exact d1
  have x2 : (W1.setCell ⟨bb, 6, none⟩ (.int .i64 ((puts : Int) + 1))).cell? ⟨w.heap.size, 2, none⟩ = some (.float .f64 f) := by rw [World.cell?_setCell_other _ _ _ _ (fun q => hbb (congrArg Addr.block q))]; exact d2
  have x3 : (W1.setCell ⟨bb, 6, none⟩ (.int .i64 ((puts : Int) + 1))).cell? ⟨w.heap.size, 3, none⟩ = some (.string s) := by rw [World.cell?_setCell_other _ _ _ _ (fun q => hbb (congrArg Addr.block q))]; exact d3
  have x4 : (W1.setCell ⟨bb, 6, none⟩ (.int .i64 ((puts : Int) + 1))).cell? ⟨w.heap.size, 4, none⟩ = some (.slice a kids.length c) := by rw [World.cell?_setCell_other _ _ _ _ (fun q => hbb (congrArg Addr.block q))]; exact d4
  have x6 : (W1.setCell ⟨bb, 6, none⟩ (.int .i64 ((puts : Int) + 1))).cell? ⟨bb, 6, none⟩ = some (.int .i64 ((puts : Int) + 1)) := World.cell?_setCell_same _ _ _ c6
  have hxl : w.heap.size < (W1.setCell ⟨bb, 6, none⟩ (.int .i64 ((puts : Int) + 1))).heap.size := World.block_lt_of_cell? _ _ x0
  clear d0 d1 d2 d3 d4 c6 f6
  generalize W1.setCell ⟨bb, 6, none⟩ (.int .i64 ((puts : Int) + 1)) = W3 at *
  have HS : Hid (W3.drew.cell? ⟨w.heap.size, 0, none⟩ = some (.int .i64 k) ∧ W3.drew.cell? ⟨w.heap.size, 1, none⟩ = some (.int .i64 n) ∧ W3.drew.cell? ⟨w.heap.size, 2, none⟩ = some (.float .f64 f) ∧ W3.drew.cell? ⟨w.heap.size, 3, none⟩ = some (.string s) ∧ W3.drew.cell? ⟨w.heap.size, 4, none⟩ = some (.slice a kids.length c) ∧ W3.drew.cell? ⟨bb, 6, none⟩ = some (.int .i64 ((puts : Int) + 1))) := hidb ⟨x0, x1, x2, x3, x4, x6⟩
  have CP3 : Hid (Calls Try.prog 23 #[.agg #[.int .i64 k, .int .i64 n, .float .f64 f, .string s, .slice a kids.length c]] W3.drew fun e w' => ∃ (k' n' : Int) (f' : Nat) (s' : ByteArray) (a' : Option Addr) (c' : Nat) (kids' : List Tr), e = .returned (.agg #[.int .i64 k', .int .i64 n', .float .f64 f', .string s', .slice a' kids'.length c']) ∧ Sm (.mk k n f s a c kids) (.mk k' n' f' s' a' c' kids') ∧ (Tr.mk k' n' f' s' a' c' kids').In w' W3.drew.heap.size ∧ Below W3.drew.heap.size W3.drew w') := hidb ((CP.out _ HT3.out).mono (by rintro e w' ⟨⟨k', n', f', s', a', c', kids'⟩, rfl, h⟩; exact ⟨k', n', f', s', a', c', kids', rfl, h⟩))
  clear x0 x1 x2 x3 x4 x6 CP HT3
  go_region_held3 (fun w' => w'.cell? ⟨w.heap.size, 0, none⟩ = some (.int .i64 k) ∧ w'.cell? ⟨w.heap.size, 1, none⟩ = some (.int .i64 n) ∧ w'.cell? ⟨w.heap.size, 2, none⟩ = some (.float .f64 f) ∧ w'.cell? ⟨w.heap.size, 3, none⟩ = some (.string s) ∧ w'.cell? ⟨w.heap.size, 4, none⟩ = some (.slice a kids.length c) ∧ w'.cell? ⟨bb, 6, none⟩ = some (.int .i64 ((puts : Int) + 1)))
    (first | with_reducible exact HS.out | with_reducible exact HS4.out | with_reducible exact HS5.out | with_reducible exact HS6.out) (first
    | (go_at_call 23; refine CP3.out.mono ?_; rintro e w4 ⟨k', n', f', s', a', c', kids', rfl, hst, hti, hb4⟩; have HS4 : Hid (w4.cell? ⟨w.heap.size, 0, none⟩ = some (.int .i64 k) ∧ w4.cell? ⟨w.heap.size, 1, none⟩ = some (.int .i64 n) ∧ w4.cell? ⟨w.heap.size, 2, none⟩ = some (.float .f64 f) ∧ w4.cell? ⟨w.heap.size, 3, none⟩ = some (.string s) ∧ w4.cell? ⟨w.heap.size, 4, none⟩ = some (.slice a kids.length c) ∧ w4.cell? ⟨bb, 6, none⟩ = some (.int .i64 ((puts : Int) + 1))) := hidb ⟨(hb4.cell (p := ⟨w.heap.size, 0, none⟩) hxl).trans HS.out.1, (hb4.cell (p := ⟨w.heap.size, 1, none⟩) hxl).trans HS.out.2.1, (hb4.cell (p := ⟨w.heap.size, 2, none⟩) hxl).trans HS.out.2.2.1, (hb4.cell (p := ⟨w.heap.size, 3, none⟩) hxl).trans HS.out.2.2.2.1, (hb4.cell (p := ⟨w.heap.size, 4, none⟩) hxl).trans HS.out.2.2.2.2.1, (hb4.cell (p := ⟨bb, 6, none⟩) (Nat.lt_trans hbl hxl)).trans HS.out.2.2.2.2.2⟩; have hx4 : w.heap.size < w4.heap.size := Nat.lt_of_lt_of_le hxl hb4.size; have HA := hidb (below_new w4 (.cells #[.pointer none, .pointer none, .int .i64 k', .int .i64 n', .float .f64 f', .string s', .slice a' kids'.length c', .int .i64 ((W2 : Int) + 2), .int .i64 ((puts : Int) + 1), .bool false] GT)); have HS5 : Hid ((w4.alloc (.cells #[.pointer none, .pointer none, .int .i64 k', .int .i64 n', .float .f64 f', .string s', .slice a' kids'.length c', .int .i64 ((W2 : Int) + 2), .int .i64 ((puts : Int) + 1), .bool false] GT)).cell? ⟨w.heap.size, 0, none⟩ = some (.int .i64 k) ∧ (w4.alloc (.cells #[.pointer none, .pointer none, .int .i64 k', .int .i64 n', .float .f64 f', .string s', .slice a' kids'.length c', .int .i64 ((W2 : Int) + 2), .int .i64 ((puts : Int) + 1), .bool false] GT)).cell? ⟨w.heap.size, 1, none⟩ = some (.int .i64 n) ∧ (w4.alloc (.cells #[.pointer none, .pointer none, .int .i64 k', .int .i64 n', .float .f64 f', .string s', .slice a' kids'.length c', .int .i64 ((W2 : Int) + 2), .int .i64 ((puts : Int) + 1), .bool false] GT)).cell? ⟨w.heap.size, 2, none⟩ = some (.float .f64 f) ∧ (w4.alloc (.cells #[.pointer none, .pointer none, .int .i64 k', .int .i64 n', .float .f64 f', .string s', .slice a' kids'.length c', .int .i64 ((W2 : Int) + 2), .int .i64 ((puts : Int) + 1), .bool false] GT)).cell? ⟨w.heap.size, 3, none⟩ = some (.string s) ∧ (w4.alloc (.cells #[.pointer none, .pointer none, .int .i64 k', .int .i64 n', .float .f64 f', .string s', .slice a' kids'.length c', .int .i64 ((W2 : Int) + 2), .int .i64 ((puts : Int) + 1), .bool false] GT)).cell? ⟨w.heap.size, 4, none⟩ = some (.slice a kids.length c) ∧ (w4.alloc (.cells #[.pointer none, .pointer none, .int .i64 k', .int .i64 n', .float .f64 f', .string s', .slice a' kids'.length c', .int .i64 ((W2 : Int) + 2), .int .i64 ((puts : Int) + 1), .bool false] GT)).cell? ⟨bb, 6, none⟩ = some (.int .i64 ((puts : Int) + 1))) := hidb ⟨(HA.out.cell (p := ⟨w.heap.size, 0, none⟩) hx4).trans HS4.out.1, (HA.out.cell (p := ⟨w.heap.size, 1, none⟩) hx4).trans HS4.out.2.1, (HA.out.cell (p := ⟨w.heap.size, 2, none⟩) hx4).trans HS4.out.2.2.1, (HA.out.cell (p := ⟨w.heap.size, 3, none⟩) hx4).trans HS4.out.2.2.2.1, (HA.out.cell (p := ⟨w.heap.size, 4, none⟩) hx4).trans HS4.out.2.2.2.2.1, (HA.out.cell (p := ⟨bb, 6, none⟩) (Nat.lt_trans hbl hx4)).trans HS4.out.2.2.2.2.2⟩; have AD := hidb (add_putN (wd := W2 + 2) (num := puts + 1) HX3.out hb4 hti hst hl (by omega)); clear CP3)
    | (go_at_call 22; refine AD.out.mono ?_; rintro e w6 ⟨rfl, m, R', hx6, hs6, hw6, hm6, hr6, hb6⟩; have HS6 : Hid (w6.cell? ⟨w.heap.size, 0, none⟩ = some (.int .i64 k) ∧ w6.cell? ⟨w.heap.size, 1, none⟩ = some (.int .i64 n) ∧ w6.cell? ⟨w.heap.size, 2, none⟩ = some (.float .f64 f) ∧ w6.cell? ⟨w.heap.size, 3, none⟩ = some (.string s) ∧ w6.cell? ⟨w.heap.size, 4, none⟩ = some (.slice a kids.length c) ∧ w6.cell? ⟨bb, 6, none⟩ = some (.int .i64 ((puts : Int) + 1))) := hidb ⟨(hb6.cell (p := ⟨w.heap.size, 0, none⟩) hxl HML.out).trans HS.out.1, (hb6.cell (p := ⟨w.heap.size, 1, none⟩) hxl HML.out).trans HS.out.2.1, (hb6.cell (p := ⟨w.heap.size, 2, none⟩) hxl HML.out).trans HS.out.2.2.1, (hb6.cell (p := ⟨w.heap.size, 3, none⟩) hxl HML.out).trans HS.out.2.2.2.1, (hb6.cell (p := ⟨w.heap.size, 4, none⟩) hxl HML.out).trans HS.out.2.2.2.2.1, (hx6.box.1 6 _ rfl).1⟩; have HR := hidb (show BX w6 bb (ms ++ [m]) place most (puts + 1) R' ∧ Sm (.mk k n f s a c kids) m.t ∧ (m.wd = W2 + 2 ∧ m.num = puts + 1) ∧ w.heap.size ≤ m.b ∧ (∀ q, R' q → R q ∨ w.heap.size ≤ q) ∧ But (BS bb ms) w w6 from ⟨hx6, hs6, hw6, Nat.le_trans (Nat.le_of_lt hxl) hm6, fun q hq => (hr6 q hq).imp id (fun e => Nat.le_trans (Nat.le_of_lt hxl) e), HBT3.out.trans hb6⟩); clear hx6 hs6 hw6 hm6 hr6 hb6))
  go_wp2_with fail
  go_ret
  exact ⟨rfl, m, R', HR.out⟩
end Go.Proofs.Ytggpbfmdhenjdaa


/- InboxOwn: a copy is put, and then written over. -/
namespace Go.Proofs.Ytggpbfmdhenjdaa
open Go.RowKit Go.Deep

theorem meas_sm : ∀ t u : Tr, Sm t u → ∀ d m, meas u d m = meas t d m := by
  refine Tr.ind fun k n f s a c kids hk u hs => ?_
  obtain ⟨k', n', f', s', a', c', kids'⟩ := u
  unfold Sm at hs
  obtain ⟨rfl, rfl, rfl, rfl, hsa⟩ := hs
  have hl := smA_len hsa
  have hall : ∀ (l l' : List Tr), (∀ t, t ∈ l → t ∈ kids) → SmA l l' → ∀ d m n, measAll l' d m n = measAll l d m n := by
    intro l
    induction l with
    | nil => intro l' _ h d m n; cases l' with
      | nil => rfl
      | cons _ _ => unfold SmA at h; exact h.elim
    | cons t r ih => intro l' hm h d m n; cases l' with
      | nil => unfold SmA at h; exact h.elim
      | cons t' r' =>
        unfold SmA at h
        simp only [measAll]
        rw [hk t (hm t (List.mem_cons_self ..)) t' h.1]
        split
        · rfl
        · exact ih r' (fun u hu => hm u (List.mem_cons_of_mem _ hu)) h.2 _ _ _
  intro d m
  simp only [meas]
  rw [show kids'.length = kids.length by omega]
  split
  · rfl
  · exact hall kids kids' (fun _ h => h) hsa _ _ _
theorem good_sm : ∀ t u : Tr, Sm t u → allT goodT u = allT goodT t := by
  refine Tr.ind fun k n f s a c kids hk u hs => ?_
  obtain ⟨k', n', f', s', a', c', kids'⟩ := u
  unfold Sm at hs
  obtain ⟨rfl, rfl, rfl, rfl, hsa⟩ := hs
  have hl := smA_len hsa
  have hall : ∀ (l l' : List Tr), (∀ t, t ∈ l → t ∈ kids) → SmA l l' → allAll goodT l' = allAll goodT l := by
    intro l
    induction l with
    | nil => intro l' _ h; cases l' with
      | nil => rfl
      | cons _ _ => unfold SmA at h; exact h.elim
    | cons t r ih => intro l' hm h; cases l' with
      | nil => unfold SmA at h; exact h.elim
      | cons t' r' =>
        unfold SmA at h
        simp only [allAll]
        rw [hk t (hm t (List.mem_cons_self ..)) t' h.1, ih r' (fun u hu => hm u (List.mem_cons_of_mem _ hu)) h.2]
  simp only [allT, goodT]
  rw [show kids'.length = kids.length by omega, hall kids kids' (fun _ h => h) hsa]
theorem err_sm {t u : Tr} (h : Sm t u) : errT u = errT t := by
  unfold errT
  rw [meas_sm t u h, good_sm t u h]

variable {w wr : World} {bb place puts : Nat} {ms : List Msg} {ts : List Tr} {R : Nat → Prop}
theorem TI.spoilt {S : Nat → Prop} {w' : World} (h : TI w wr bb ms ts place puts R) (hb : But S wr w') (h1 : ∀ q, BS bb ms q → ¬ S q) (h2 : ∀ q, R q → ¬ S q) (hl : ∀ q, S q → w.heap.size ≤ q) : TI w w' bb ms ts place puts R :=
  ⟨h.bx.but hb h1 h2, h.len, h.sm, h.wd, h.low, h.bel.trans (hb.below h.bel.size hl)⟩

/-- A term of memory that came after the box is put. -/
theorem ownPut {w6 : World} (h : TI w wr bb ms ts 0 puts R) (hb : Below wr.heap.size wr w6) {t t' : Tr} (hsm : Sm t t') (hin : t'.In w6 wr.heap.size) (hs : Small t) (hcn : cnT t ≤ 60001) (he : errT t = 0) (hl : ms.length < 100) (hp : puts ≤ 1000) :
    Calls Try.prog 9 #[.pointer (some ⟨bb, 0, none⟩), t'.val] w6 fun e w' => e = .returned (.int .i64 0) ∧ ∃ (m : Msg) (R' : Nat → Prop), TI w w' bb (ms ++ [m]) (ts ++ [t]) 0 (puts + 1) R' ∧ But (BS bb ms) w6 w' ∧ w6.heap.size ≤ m.b ∧ (∀ q, R' q → R q ∨ w6.heap.size ≤ q) ∧ m.num = puts + 1 := by
  have he' : errT t' = 0 := (err_sm hsm).trans he
  obtain ⟨z1, z2⟩ := sm_small t t' hsm
  have hm0 : ¬ meas t' 200 65536 < 0 := by
    intro hlt
    unfold errT at he'
    rw [if_pos hlt] at he'
    omega
  have hm1 := (meas_bounds t' 200 65536).2 (by omega)
  have hwt : wordsT t' = ((meas t' 200 65536).toNat : Int) := by unfold wordsT; rw [if_pos he']; omega
  have hwd := wds_le ms h.wd
  have h6 := h.keep hb
  refine (putBN t' (meas t' 200 65536).toNat (T := fun q => wr.heap.size ≤ q) h6.bx (in_base (Nat.zero_le _) _ hin) (on_mono (fun q hq => hq.2) _ (on_in t' hin)) (fun q hq hbs => by
    have : q < wr.heap.size := by
      rcases hbs with rfl | ⟨m, hm, rfl⟩
      · exact h.bx.box.2
      · obtain ⟨i, hi⟩ := List.getElem?_of_mem hm
        exact (h.bx.msg i m hi).2
    omega) (z1 hs) (by omega) he' hwt (by omega) (by omega) (by omega) (by omega)).mono ?_
  rintro e w' ⟨rfl, m, R', hx, hsm2, hw, hmb, hR, ht⟩
  exact ⟨rfl, m, R', h6.put hx (sm_trans _ _ _ hsm hsm2) (by have := hw.1; omega) hmb ht, ht, hmb, hR, hw.2⟩
end Go.Proofs.Ytggpbfmdhenjdaa


