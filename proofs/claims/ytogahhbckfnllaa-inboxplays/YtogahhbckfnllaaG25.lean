import Derived.Test.YtogahhbckfnllaaG18
import Derived.Test.YtogahhbckfnllaaG08
import Derived.Lib.SmallJoins
/- Put: which number the message gets. -/
namespace Go.Proofs.Ytogahhbckfnllaa
open Go.RowKit Go.Deep
attribute [local go_sem] store_float f64bits
attribute [local go_sem ↓] Go.wp_at_zero Go.wp_at_succ
variable {w : World} {bb place most puts : Nat} {ms : List Msg} {R : Nat → Prop}


/-- add of a message that has just been laid. -/
theorem add_putN {w w4 : World} {t : Tr} {k' n' : Int} {f' : Nat} {s' : ByteArray} {a' : Option Addr} {c' : Nat} {kids' : List Tr} {wd num : Nat} (h : BX w bb ms place most puts R) (hb : Below w.heap.size w w4) (hin : (Tr.mk k' n' f' s' a' c' kids').In w4 w.heap.size) (hst : Sm t (.mk k' n' f' s' a' c' kids')) (hl : ms.length ≤ 1000000) (hwd : wds ms + wd ≤ 1000000000000) :
    Calls Try.prog 32 #[.pointer (some ⟨bb, 0, none⟩), .pointer (some ⟨w4.heap.size, 0, none⟩)] (w4.alloc (.cells #[.pointer none, .pointer none, .int .i64 k', .int .i64 n', .float .f64 f', .string s', .slice a' kids'.length c', .int .i64 (wd : Int), .int .i64 (num : Int), .bool false] GT)) fun e w' => e = .returned (.tuple #[]) ∧
      ∃ (m : Msg) (R' : Nat → Prop), BX w' bb (ms ++ [m]) place most puts R' ∧ Sm t m.t ∧ (m.wd = wd ∧ m.num = num) ∧ w.heap.size ≤ m.b ∧ (∀ q, R' q → R q ∨ w.heap.size ≤ q) ∧ But (BS bb ms) w w' := by
  obtain ⟨m, R', hm, h1, h2, h3, h4, h5, h6, h7, h8, h9⟩ := put_facts (wd := wd) (num := num) (ty := GT) h hb rfl hin hst
  have A := addB h1 h2 h3 h4 h5 h6 h7 hl (by rw [hm]; exact hwd)
  subst hm
  refine A.mono ?_
  rintro e w' ⟨rfl, hx, hbt⟩
  refine ⟨rfl, _, R', hx, h8, ⟨rfl, rfl⟩, hb.size, h9, ?_⟩
  refine ⟨hbt.os.trans hb.os, hbt.tape.trans hb.tape, hbt.output.trans hb.output, Nat.le_trans hb.size (Nat.le_trans (below_new w4 _).size hbt.size), fun q hq hS => ?_⟩
  refine (hbt.block q (Nat.lt_of_lt_of_le hq (Nat.le_trans hb.size (below_new w4 _).size)) ?_).trans (((below_new w4 _).block q (Nat.lt_of_lt_of_le hq hb.size)).trans (hb.block q hq))
  rintro (e | ⟨x, hx, e⟩)
  · exact hS (.inl e)
  · rcases List.mem_append.1 hx with hx | hx
    · exact hS (.inr ⟨x, hx, e⟩)
    · simp at hx
      subst hx
      have h10 : q = w4.heap.size := e
      have := hb.size
      omega

set_option maxHeartbeats 1000000 in
set_option maxRecDepth 100000 in
theorem putBN (t : Tr) (W2 : Nat) {T : Nat → Prop} (h : BX w bb ms place most puts R) (hin : t.In w 0) (hon : t.On T) (hT : ∀ q, T q → ¬ BS bb ms q) (hs : Small t) (hcn : cnT t ≤ 1000000000) (he : errT t = 0) (hw2 : wordsT t = (W2 : Int)) (hfit : wds ms + (W2 + 2) ≤ most) (hmost : most ≤ 16777216) (hp : puts ≤ 1000000) (hl : ms.length ≤ 1000000) :
    Calls Try.prog 13 #[.pointer (some ⟨bb, 0, none⟩), t.val] w fun e w' => e = .returned (.int .i64 0) ∧ ∃ (m : Msg) (R' : Nat → Prop), BX w' bb (ms ++ [m]) place most (puts + 1) R' ∧ Sm t m.t ∧ (m.wd = W2 + 2 ∧ m.num = puts + 1) ∧ w.heap.size ≤ m.b ∧ (∀ q, R' q → R q ∨ w.heap.size ≤ q) ∧ But (BS bb ms) w w' := by
  have WD := hidb (fun w' hb => words_t t w' (in_below (w := w) hb hin) hs)
  have CP := hidb (fun w' h => copy_any t w' h hs hcn)
  rw [he, hw2] at WD
  have HB := hidb h
  have HIN := hidb hin
  have HON := hidb hon
  have HTB : Hid (¬ T bb) := hidb (fun e => hT bb e (.inl rfl))
  have hbl : bb < w.heap.size := h.box.2
  have HML : Hid (¬ BS bb ms w.heap.size) := hidb (by
    rintro (e | ⟨x, hx, e⟩)
    · omega
    · obtain ⟨i, hi⟩ := List.getElem?_of_mem hx
      have := (h.msg i x hi).2
      omega)
  have hbb : ¬ bb = w.heap.size := by omega
  have hbb' : ¬ w.heap.size = bb := by omega
  obtain ⟨k, n, f, s, a, c, kids⟩ := t
  clear hin hs hcn he hw2 h hon hT
  show Calls Try.prog 13 #[.pointer (some ⟨bb, 0, none⟩), .agg #[.int .i64 k, .int .i64 n, .float .f64 f, .string s, .slice a kids.length c]] w _
  go_enter Try.func13, Try.ntmps13
  have hW : IntKind.i64.wrap ((W2 : Int) + 2) = (W2 : Int) + 2 := by rw [IntKind.wrap_i64]; omega
  have hsub : IntKind.i64.wrap ((most : Int) - (wds ms : Int)) = (most : Int) - (wds ms : Int) := by rw [IntKind.wrap_i64]; omega
  have hcmp : ¬ (most : Int) - (wds ms : Int) < (W2 : Int) + 2 := by omega
  go_wp2_with (first
    | (go_at_call 31; refine (WD.out _ (below_new w _)).mono ?_; rintro e w1 ⟨rfl, hb1⟩; have B2 := box_then (Below.refl _ _) hb1; have HB2 : Hid _ := B2; obtain ⟨d0, d1, d2, d3, d4⟩ := box_at B2; clear B2 hb1 WD))
  have HX1 := hidb (HB.out.keep (box_below HB2.out))
  obtain ⟨c4, -⟩ := HX1.out.box.1 4 _ rfl
  obtain ⟨c5, -⟩ := HX1.out.box.1 5 _ rfl
  go_region_held3 (fun w' => w'.cell? ⟨bb, 4, none⟩ = some (.int .i64 (wds ms : Int)) ∧ w'.cell? ⟨bb, 5, none⟩ = some (.int .i64 (most : Int))) (first | go_keep) (first | fail)
  have HX2 := hidb (HX1.out.keep ((Below.refl _ _).drew))
  have HB3 := hidb (box_then HB2.out ((Below.refl _ _).drew))
  clear d0 d1 d2 d3 d4 c4 c5 HX1 HB2 HB
  generalize w1.drew = W1 at *
  obtain ⟨c6, f6⟩ := HX2.out.box.1 6 _ rfl
  have hpw : IntKind.i64.wrap ((puts : Int) + 1) = (puts : Int) + 1 := by rw [IntKind.wrap_i64]; omega
  have HX3 := HX2.out.bump
  rw [show ((puts + 1 : Nat) : Int) = (puts : Int) + 1 from rfl] at HX3
  have HX3 := hidb (HX3.keep ((Below.refl _ _).drew))
  have HT3 := hidb (in_below ((Below.refl _ _).drew) (in_set1 (in_below (box_below HB3.out) HIN.out) HON.out (p := ⟨bb, 6, none⟩) HTB.out (.int .i64 ((puts : Int) + 1))))
  obtain ⟨d0, d1, d2, d3, d4⟩ := box_at HB3.out
  have HBT3 : Hid (But (BS bb ms) w (W1.setCell ⟨bb, 6, none⟩ (.int .i64 ((puts : Int) + 1))).drew) := hidb (((But.of_below (S := BS bb ms) (box_below HB3.out)).setCell (p := ⟨bb, 6, none⟩) (fun _ => .inl rfl) _).drew)
  go_wp2_with fail
  have x0 : (W1.setCell ⟨bb, 6, none⟩ (.int .i64 ((puts : Int) + 1))).cell? ⟨w.heap.size, 0, none⟩ = some (.int .i64 k) := by rw [World.cell?_setCell_other _ _ _ _ (fun q => hbb (congrArg Addr.block q))]; exact d0
  have x1 : (W1.setCell ⟨bb, 6, none⟩ (.int .i64 ((puts : Int) + 1))).cell? ⟨w.heap.size, 1, none⟩ = some (.int .i64 n) := by rw [World.cell?_setCell_other _ _ _ _ (fun q => hbb (congrArg Addr.block q))]; exact d1
  have x2 : (W1.setCell ⟨bb, 6, none⟩ (.int .i64 ((puts : Int) + 1))).cell? ⟨w.heap.size, 2, none⟩ = some (.float .f64 f) := by rw [World.cell?_setCell_other _ _ _ _ (fun q => hbb (congrArg Addr.block q))]; exact d2
  have x3 : (W1.setCell ⟨bb, 6, none⟩ (.int .i64 ((puts : Int) + 1))).cell? ⟨w.heap.size, 3, none⟩ = some (.string s) := by rw [World.cell?_setCell_other _ _ _ _ (fun q => hbb (congrArg Addr.block q))]; exact d3
  have x4 : (W1.setCell ⟨bb, 6, none⟩ (.int .i64 ((puts : Int) + 1))).cell? ⟨w.heap.size, 4, none⟩ = some (.slice a kids.length c) := by rw [World.cell?_setCell_other _ _ _ _ (fun q => hbb (congrArg Addr.block q))]; exact d4
  have x6 : (W1.setCell ⟨bb, 6, none⟩ (.int .i64 ((puts : Int) + 1))).cell? ⟨bb, 6, none⟩ = some (.int .i64 ((puts : Int) + 1)) := World.cell?_setCell_same _ _ _ c6
  have hxl : w.heap.size < (W1.setCell ⟨bb, 6, none⟩ (.int .i64 ((puts : Int) + 1))).heap.size := World.block_lt_of_cell? _ _ x0
  clear d0 d1 d2 d3 d4 c6 f6
  generalize W1.setCell ⟨bb, 6, none⟩ (.int .i64 ((puts : Int) + 1)) = W3 at *
  have HS : Hid (W3.drew.cell? ⟨w.heap.size, 0, none⟩ = some (.int .i64 k) ∧ W3.drew.cell? ⟨w.heap.size, 1, none⟩ = some (.int .i64 n) ∧ W3.drew.cell? ⟨w.heap.size, 2, none⟩ = some (.float .f64 f) ∧ W3.drew.cell? ⟨w.heap.size, 3, none⟩ = some (.string s) ∧ W3.drew.cell? ⟨w.heap.size, 4, none⟩ = some (.slice a kids.length c) ∧ W3.drew.cell? ⟨bb, 6, none⟩ = some (.int .i64 ((puts : Int) + 1))) := hidb ⟨x0, x1, x2, x3, x4, x6⟩
  have CP3 : Hid (Calls Try.prog 29 #[.agg #[.int .i64 k, .int .i64 n, .float .f64 f, .string s, .slice a kids.length c]] W3.drew fun e w' => ∃ (k' n' : Int) (f' : Nat) (s' : ByteArray) (a' : Option Addr) (c' : Nat) (kids' : List Tr), e = .returned (.agg #[.int .i64 k', .int .i64 n', .float .f64 f', .string s', .slice a' kids'.length c']) ∧ Sm (.mk k n f s a c kids) (.mk k' n' f' s' a' c' kids') ∧ (Tr.mk k' n' f' s' a' c' kids').In w' W3.drew.heap.size ∧ Below W3.drew.heap.size W3.drew w') := hidb ((CP.out _ HT3.out).mono (by rintro e w' ⟨⟨k', n', f', s', a', c', kids'⟩, rfl, h⟩; exact ⟨k', n', f', s', a', c', kids', rfl, h⟩))
  clear x0 x1 x2 x3 x4 x6 CP HT3
  go_region_held3 (fun w' => w'.cell? ⟨w.heap.size, 0, none⟩ = some (.int .i64 k) ∧ w'.cell? ⟨w.heap.size, 1, none⟩ = some (.int .i64 n) ∧ w'.cell? ⟨w.heap.size, 2, none⟩ = some (.float .f64 f) ∧ w'.cell? ⟨w.heap.size, 3, none⟩ = some (.string s) ∧ w'.cell? ⟨w.heap.size, 4, none⟩ = some (.slice a kids.length c) ∧ w'.cell? ⟨bb, 6, none⟩ = some (.int .i64 ((puts : Int) + 1)))
    (first | with_reducible exact HS.out | with_reducible exact HS4.out | with_reducible exact HS5.out | with_reducible exact HS6.out) (first
    | (go_at_call 29; refine CP3.out.mono ?_; rintro e w4 ⟨k', n', f', s', a', c', kids', rfl, hst, hti, hb4⟩; have HS4 : Hid (w4.cell? ⟨w.heap.size, 0, none⟩ = some (.int .i64 k) ∧ w4.cell? ⟨w.heap.size, 1, none⟩ = some (.int .i64 n) ∧ w4.cell? ⟨w.heap.size, 2, none⟩ = some (.float .f64 f) ∧ w4.cell? ⟨w.heap.size, 3, none⟩ = some (.string s) ∧ w4.cell? ⟨w.heap.size, 4, none⟩ = some (.slice a kids.length c) ∧ w4.cell? ⟨bb, 6, none⟩ = some (.int .i64 ((puts : Int) + 1))) := hidb ⟨(hb4.cell (p := ⟨w.heap.size, 0, none⟩) hxl).trans HS.out.1, (hb4.cell (p := ⟨w.heap.size, 1, none⟩) hxl).trans HS.out.2.1, (hb4.cell (p := ⟨w.heap.size, 2, none⟩) hxl).trans HS.out.2.2.1, (hb4.cell (p := ⟨w.heap.size, 3, none⟩) hxl).trans HS.out.2.2.2.1, (hb4.cell (p := ⟨w.heap.size, 4, none⟩) hxl).trans HS.out.2.2.2.2.1, (hb4.cell (p := ⟨bb, 6, none⟩) (Nat.lt_trans hbl hxl)).trans HS.out.2.2.2.2.2⟩; have hx4 : w.heap.size < w4.heap.size := Nat.lt_of_lt_of_le hxl hb4.size; have HA := hidb (below_new w4 (.cells #[.pointer none, .pointer none, .int .i64 k', .int .i64 n', .float .f64 f', .string s', .slice a' kids'.length c', .int .i64 ((W2 : Int) + 2), .int .i64 ((puts : Int) + 1), .bool false] GT)); have HS5 : Hid ((w4.alloc (.cells #[.pointer none, .pointer none, .int .i64 k', .int .i64 n', .float .f64 f', .string s', .slice a' kids'.length c', .int .i64 ((W2 : Int) + 2), .int .i64 ((puts : Int) + 1), .bool false] GT)).cell? ⟨w.heap.size, 0, none⟩ = some (.int .i64 k) ∧ (w4.alloc (.cells #[.pointer none, .pointer none, .int .i64 k', .int .i64 n', .float .f64 f', .string s', .slice a' kids'.length c', .int .i64 ((W2 : Int) + 2), .int .i64 ((puts : Int) + 1), .bool false] GT)).cell? ⟨w.heap.size, 1, none⟩ = some (.int .i64 n) ∧ (w4.alloc (.cells #[.pointer none, .pointer none, .int .i64 k', .int .i64 n', .float .f64 f', .string s', .slice a' kids'.length c', .int .i64 ((W2 : Int) + 2), .int .i64 ((puts : Int) + 1), .bool false] GT)).cell? ⟨w.heap.size, 2, none⟩ = some (.float .f64 f) ∧ (w4.alloc (.cells #[.pointer none, .pointer none, .int .i64 k', .int .i64 n', .float .f64 f', .string s', .slice a' kids'.length c', .int .i64 ((W2 : Int) + 2), .int .i64 ((puts : Int) + 1), .bool false] GT)).cell? ⟨w.heap.size, 3, none⟩ = some (.string s) ∧ (w4.alloc (.cells #[.pointer none, .pointer none, .int .i64 k', .int .i64 n', .float .f64 f', .string s', .slice a' kids'.length c', .int .i64 ((W2 : Int) + 2), .int .i64 ((puts : Int) + 1), .bool false] GT)).cell? ⟨w.heap.size, 4, none⟩ = some (.slice a kids.length c) ∧ (w4.alloc (.cells #[.pointer none, .pointer none, .int .i64 k', .int .i64 n', .float .f64 f', .string s', .slice a' kids'.length c', .int .i64 ((W2 : Int) + 2), .int .i64 ((puts : Int) + 1), .bool false] GT)).cell? ⟨bb, 6, none⟩ = some (.int .i64 ((puts : Int) + 1))) := hidb ⟨(HA.out.cell (p := ⟨w.heap.size, 0, none⟩) hx4).trans HS4.out.1, (HA.out.cell (p := ⟨w.heap.size, 1, none⟩) hx4).trans HS4.out.2.1, (HA.out.cell (p := ⟨w.heap.size, 2, none⟩) hx4).trans HS4.out.2.2.1, (HA.out.cell (p := ⟨w.heap.size, 3, none⟩) hx4).trans HS4.out.2.2.2.1, (HA.out.cell (p := ⟨w.heap.size, 4, none⟩) hx4).trans HS4.out.2.2.2.2.1, (HA.out.cell (p := ⟨bb, 6, none⟩) (Nat.lt_trans hbl hx4)).trans HS4.out.2.2.2.2.2⟩; have AD := hidb (add_putN (wd := W2 + 2) (num := puts + 1) HX3.out hb4 hti hst hl (by omega)); clear CP3)
    | (go_at_call 32; refine AD.out.mono ?_; rintro e w6 ⟨rfl, m, R', hx6, hs6, hw6, hm6, hr6, hb6⟩; have HS6 : Hid (w6.cell? ⟨w.heap.size, 0, none⟩ = some (.int .i64 k) ∧ w6.cell? ⟨w.heap.size, 1, none⟩ = some (.int .i64 n) ∧ w6.cell? ⟨w.heap.size, 2, none⟩ = some (.float .f64 f) ∧ w6.cell? ⟨w.heap.size, 3, none⟩ = some (.string s) ∧ w6.cell? ⟨w.heap.size, 4, none⟩ = some (.slice a kids.length c) ∧ w6.cell? ⟨bb, 6, none⟩ = some (.int .i64 ((puts : Int) + 1))) := hidb ⟨(hb6.cell (p := ⟨w.heap.size, 0, none⟩) hxl HML.out).trans HS.out.1, (hb6.cell (p := ⟨w.heap.size, 1, none⟩) hxl HML.out).trans HS.out.2.1, (hb6.cell (p := ⟨w.heap.size, 2, none⟩) hxl HML.out).trans HS.out.2.2.1, (hb6.cell (p := ⟨w.heap.size, 3, none⟩) hxl HML.out).trans HS.out.2.2.2.1, (hb6.cell (p := ⟨w.heap.size, 4, none⟩) hxl HML.out).trans HS.out.2.2.2.2.1, (hx6.box.1 6 _ rfl).1⟩; have HR := hidb (show BX w6 bb (ms ++ [m]) place most (puts + 1) R' ∧ Sm (.mk k n f s a c kids) m.t ∧ (m.wd = W2 + 2 ∧ m.num = puts + 1) ∧ w.heap.size ≤ m.b ∧ (∀ q, R' q → R q ∨ w.heap.size ≤ q) ∧ But (BS bb ms) w w6 from ⟨hx6, hs6, hw6, Nat.le_trans (Nat.le_of_lt hxl) hm6, fun q hq => (hr6 q hq).imp id (fun e => Nat.le_trans (Nat.le_of_lt hxl) e), HBT3.out.trans hb6⟩); clear hx6 hs6 hw6 hm6 hr6 hb6))
  go_wp2_with fail
  go_ret
  exact ⟨rfl, m, R', HR.out⟩
end Go.Proofs.Ytogahhbckfnllaa


/- TRows of terms that are a call's own. -/
namespace Go.Proofs.Ytogahhbckfnllaa
open Go.RowKit Go.Deep

/-- A row of terms that is the call's own; none of them lies in the row's own block. -/
def TRows (w : World) (base : Nat) (v : Value) (ds : List Tr) : Prop :=
  w.ownsRow base 36 5 v ds.length (ds.flatMap Tr.cells) ∧ ∀ t, t ∈ ds → t.In w base ∧ t.On (fun b => v.ownBlock ≠ some b ∧ b < w.heap.size ∧ base ≤ b)


theorem flat_get : ∀ (ds : List Tr) (j : Nat) (t : Tr), ds[j]? = some t → ∀ i, i < 5 → (ds.flatMap Tr.cells)[j * 5 + i]? = t.cells[i]? := by
  intro ds
  induction ds with
  | nil => intro j t h; simp at h
  | cons u r ih =>
    intro j t h i hi
    have hu : u.cells.length = 5 := by cases u; rfl
    simp only [List.flatMap_cons]
    rcases j with _ | j
    · obtain rfl : u = t := by simpa using h
      rw [List.getElem?_append_left (by omega)]
      simp
    · rw [List.getElem?_append_right (by omega), hu]
      have e : (j + 1) * 5 + i - 5 = j * 5 + i := by omega
      rw [e]
      exact ih j t (by simpa using h) i hi


theorem flat_len (ds : List Tr) : (ds.flatMap Tr.cells).length = ds.length * 5 := by
  induction ds with
  | nil => rfl
  | cons u r ih =>
    have hu : u.cells.length = 5 := by cases u; rfl
    simp only [List.flatMap_cons, List.length_append, List.length_cons, ih, hu]
    omega


/-- A term of such a row. -/
theorem rows_tree {w : World} {base : Nat} {v : Value} {ds : List Tr} (h : TRows w base v ds) (k n : Int) (f : Nat) (s : ByteArray) (hk : (Lit.int .i64 k).wf = true) (hn : (Lit.int .i64 n).wf = true) (hf : (Lit.float .f64 f).wf = true) (hs : s.size ≤ maxLen) :
    ∃ a c, v = .slice a ds.length c ∧ (Tr.mk k n f s a c ds).In w base := by
  obtain ⟨⟨hlen, ⟨rfl, h0⟩ | ⟨g, cap, cur, rfl, hbg, hobj, hnc, hcm, hcs, htk⟩⟩, hin⟩ := h
  · have e : ds = [] := List.length_eq_zero_iff.1 h0
    subst e
    refine ⟨none, 0, rfl, ?_⟩
    unfold Tr.In
    exact ⟨⟨hk, hn, hf, hs, by simp, by omega, fun _ => rfl⟩, fun ad h => by simp at h⟩
  · refine ⟨some ⟨g, 0, none⟩, cap, rfl, ?_⟩
    unfold Tr.In
    refine ⟨⟨hk, hn, hf, hs, hnc, hcm, fun h => by simp at h⟩, fun ad had => ?_⟩
    obtain rfl : (⟨g, 0, none⟩ : Addr) = ad := by simpa using had
    refine ⟨hbg, inAll_of fun j t hj => ⟨fun i hi => ?_, (hin t (List.mem_of_getElem? hj)).1⟩⟩
    have e : ((⟨g, 0, none⟩ : Addr).add (j * 5)).add i = ⟨g, j * 5 + i, none⟩ := by
      rw [add_add]
      unfold Addr.add
      split
      · rename_i h0; rw [h0]
      · simp
    rw [e, Joins.cell_of_block hobj, ← flat_get ds j t hj i hi, ← htk]
    have hjl := get_lt hj
    rw [List.getElem?_take]
    rw [if_pos (by omega)]
    simp

/-- What lies there lies in its blocks, from the base on. -/
theorem on_in {w : World} {base : Nat} : ∀ t : Tr, t.In w base → t.On (fun b => b < w.heap.size ∧ base ≤ b) := by
  refine Tr.ind fun k n f s a c kids hk h => ?_
  have hall := on_all (.mk k n f s a c kids) h
  unfold Tr.On at hall ⊢
  have h' := h
  unfold Tr.In at h'
  refine ⟨fun h0 ad had => ⟨hall.1 h0 ad had, (h'.2 ad had).1⟩, ?_⟩
  have : ∀ l : List Tr, (∀ t, t ∈ l → t ∈ kids) → Tr.OnAll (fun b => b < w.heap.size ∧ base ≤ b) l := by
    intro l
    induction l with
    | nil => intro _; unfold Tr.OnAll; trivial
    | cons t r ih =>
      intro hl
      unfold Tr.OnAll
      refine ⟨?_, ih fun u hu => hl u (List.mem_cons_of_mem _ hu)⟩
      have ht := hl t (List.mem_cons_self ..)
      obtain ⟨j, hj⟩ := List.getElem?_of_mem ht
      refine hk t ht ?_
      cases a with
      | none =>
        have h0 := h'.1.2.2.2.2.2.2 rfl
        have h1 := h'.1.2.2.2.2.1
        have := get_lt hj
        omega
      | some ad => exact (inAll_get (h'.2 ad rfl).2 j t hj).2
  exact this kids fun t h => h


theorem in_mono {w : World} {base base' : Nat} (hb : base' ≤ base) : ∀ t : Tr, t.In w base → t.In w base' := by
  refine Tr.ind fun k n f s a c kids hk h => ?_
  unfold Tr.In at h ⊢
  refine ⟨h.1, fun ad had => ⟨Nat.le_trans hb (h.2 ad had).1, inAll_of fun j t hj => ?_⟩⟩
  have g := inAll_get (h.2 ad had).2 j t hj
  refine ⟨fun i hi => ?_, hk t (List.mem_of_getElem? hj) g.2⟩
  rw [add_add]
  exact g.1 i hi


theorem rows_nil (w : World) (base : Nat) : TRows w base (.slice none 0 0) [] := ⟨⟨rfl, Or.inl ⟨rfl, rfl⟩⟩, fun t h => by simp at h⟩


theorem ownsRow_block {w w' : World} {base : Nat} {e : TypeId} {v : Value} {n : Nat} {xs : List Value} (h : w.ownsRow base e 5 v n xs) (hb : ∀ g, v.ownBlock = some g → w'.heap[g]? = w.heap[g]?) : w'.ownsRow base e 5 v n xs := by
  obtain ⟨hl, h | ⟨g, cap, cur, rfl, h1, h2, h3, h4, h5, h6⟩⟩ := h
  · exact ⟨hl, Or.inl h⟩
  · exact ⟨hl, Or.inr ⟨g, cap, cur, rfl, h1, (hb g rfl).trans h2, h3, h4, h5, h6⟩⟩


theorem ownsRow_lt {w : World} {base : Nat} {e : TypeId} {v : Value} {n : Nat} {xs : List Value} (h : w.ownsRow base e 5 v n xs) (g : Nat) (hg : v.ownBlock = some g) : base ≤ g ∧ g < w.heap.size := by
  obtain ⟨_, ⟨rfl, _⟩ | ⟨g', cap, cur, rfl, h1, h2, _⟩⟩ := h
  · simp [Value.ownBlock] at hg
  · obtain rfl : g' = g := by simpa [Value.ownBlock] using hg
    refine ⟨h1, ?_⟩
    rcases Nat.lt_or_ge g' w.heap.size with q | q
    · exact q
    · rw [Array.getElem?_eq_none q] at h2; cases h2


/-- Behind a change of blocks ahead of the base, and new ones. -/
theorem TRows.low {w w' : World} {base : Nat} {v : Value} {ds : List Tr} (h : TRows w base v ds) (hs : w.heap.size ≤ w'.heap.size) (hb : ∀ b, base ≤ b → b < w.heap.size → w'.heap[b]? = w.heap[b]?) : TRows w' base v ds := by
  refine ⟨ownsRow_block h.1 (fun g hg => by have := ownsRow_lt h.1 g hg; exact hb g this.1 this.2), fun t ht => ?_⟩
  obtain ⟨h1, h2⟩ := h.2 t ht
  exact ⟨in_on (fun b hS => hb b hS.2.2 hS.2.1) t h1 h2, on_mono (fun b hS => ⟨hS.1, by omega, hS.2.2⟩) t h2⟩


theorem TRows.keep {w w' : World} {base : Nat} {v : Value} {ds : List Tr} (h : TRows w base v ds) (hb : Below w.heap.size w w') : TRows w' base v ds := h.low hb.size (fun b _ hl => hb.block b hl)


theorem TRows.set {w : World} {base : Nat} {v : Value} {ds : List Tr} (h : TRows w base v ds) {p : Addr} (hp : p.block < base) (u : Value) : TRows (w.setCell p u) base v ds :=
  h.low (by simp [World.setCell]) (fun b hb _ => Below.heap_setCell _ _ _ _ (by omega))


/-- Behind an append of one more. -/
theorem TRows.append {w w' : World} {base : Nat} {v v' : Value} {ds : List Tr} {t : Tr} (h : TRows w base v ds) (ho : w'.ownsRow base 36 5 v' (ds.length + 1) (ds.flatMap Tr.cells ++ t.cells)) (hg : w.grownBy w' v.ownBlock) (hv : v'.ownBlock = v.ownBlock ∨ v'.ownBlock = some w.heap.size) (ht : t.In w base) (hn : t.On (fun b => v.ownBlock ≠ some b ∧ b < w.heap.size ∧ base ≤ b)) : TRows w' base v' (ds ++ [t]) := by
  have hall : ∀ u, u ∈ ds ++ [t] → u.In w base ∧ u.On (fun b => v.ownBlock ≠ some b ∧ b < w.heap.size ∧ base ≤ b) := by
    intro u hu
    rcases List.mem_append.1 hu with hu | hu
    · exact h.2 u hu
    · obtain rfl : u = t := by simpa using hu
      exact ⟨ht, hn⟩
  refine ⟨?_, fun u hu => ?_⟩
  · rw [List.length_append, List.flatMap_append]
    simpa using ho
  · obtain ⟨h1, h2⟩ := hall u hu
    refine ⟨in_on (fun b hS => hg.block b hS.2.1 (fun e => hS.1 e.symm)) u h1 h2, on_mono (fun b hS => ⟨?_, by have := hg.size; omega, hS.2.2⟩) u h2⟩
    rcases hv with e | e
    · rw [e]; exact hS.1
    · rw [e]; intro q; have := Option.some.inj q; omega

theorem infoT5 : (Try.prog.info? 36).map (fun i => (i.zero, i.size, i.bytes)) = some (some (.agg #[.int .i64 0, .int .i64 0, .float .f64 0, .string ⟨#[]⟩, .slice none 0 0]), 5, 64) := by kernel_rfl


theorem tr_one (t : Tr) : ∀ u ∈ t.cells, u.oneCell' = true := by
  obtain ⟨k, n, f, s, a, c, kids⟩ := t
  intro y hy
  simp only [Tr.cells, List.mem_cons, List.not_mem_nil, or_false] at hy
  rcases hy with rfl | rfl | rfl | rfl | rfl <;> rfl


theorem tr_len (t : Tr) : t.cells.length = 5 := by cases t; rfl


/-- A term that was told lies in no block of a row that was there. -/
theorem told_off {w w' : World} {base : Nat} {v : Value} {ds : List Tr} {t : Tr} (h : TRows w base v ds) (hb : base ≤ w.heap.size) (ht : t.In w' w.heap.size) : t.In w' base ∧ t.On (fun b => v.ownBlock ≠ some b ∧ b < w'.heap.size ∧ base ≤ b) := by
  refine ⟨in_mono hb t ht, on_mono (fun b hS => ⟨fun e => ?_, hS.1, by omega⟩) t (on_in t ht)⟩
  have := ownsRow_lt h.1 b e
  omega


end Go.Proofs.Ytogahhbckfnllaa


