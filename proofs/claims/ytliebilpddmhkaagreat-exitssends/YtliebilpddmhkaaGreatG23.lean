import Derived.Test.YtliebilpddmhkaaGreatG22
/- exits.message of an exit signal. -/
namespace Go.Proofs.YtliebilpddmhkaaGreat
open Go.RowKit Go.Lib Go.Deep
attribute [local go_sem] store_float f64bits
attribute [local go_sem ↓] Go.wp_at_zero Go.wp_at_succ

theorem TupR.yes {t : Tr} {w4 w5 : World} {e : Ending} (h0 : errT t = 0) (h : TupR t w4 e w5) : (fun e w5 => ∃ (k2 n2 : Int) (f2 : Nat) (s2 : ByteArray) (a2 : Option Addr) (c2 : Nat) (kids2 : List Tr), e = .returned (.tuple #[.agg #[.int .i64 k2, .int .i64 n2, .float .f64 f2, .string s2, .slice a2 kids2.length c2], .int .i64 0]) ∧ Sm (t) (.mk k2 n2 f2 s2 a2 c2 kids2) ∧ (Tr.mk k2 n2 f2 s2 a2 c2 kids2).In w5 w4.heap.size ∧ Below w4.heap.size w4 w5) e w5 := by
  obtain ⟨hb, ⟨-, ⟨k2, n2, f2, s2, a2, c2, kids2⟩, rfl, hs, hi⟩ | ⟨h1, -⟩⟩ := h
  · exact ⟨k2, n2, f2, s2, a2, c2, kids2, rfl, hs, hi, hb⟩
  · exact absurd h0 h1
theorem TupR.no {t : Tr} {w4 w5 : World} {e : Ending} (h0 : ¬ errT t = 0) (h : TupR t w4 e w5) : e = .returned (.tuple #[.agg #[.int .i64 0, .int .i64 0, .float .f64 0, .string ⟨#[]⟩, .slice none 0 0], .int .i64 12]) ∧ Below w4.heap.size w4 w5 := by
  obtain ⟨hb, ⟨h1, -⟩ | ⟨-, rfl⟩⟩ := h
  · exact absurd h1 h0
  · exact ⟨rfl, hb⟩
section
variable {x0 : Int} {t : Tr} {ad : Addr} {w w4 : World} {v' : Value} {B : Nat}
theorem flat_snoc (fs : List Tr) (t : Tr) : (fs ++ [t]).flatMap Tr.cells = fs.flatMap Tr.cells ++ t.cells := by simp
theorem MsgIn.tupA (h : MsgIn x0 t ad w) (h0 : errT (msgOf x0 t) = 0) (hb : Below w.heap.size w w4) (ho : w4.ownsRow B 25 5 v' 3 ([aTr ⟨#[69, 88, 73, 84]⟩, pTr x0].flatMap Tr.cells ++ t.cells)) : ∃ a c, v' = .slice a 3 c ∧ Calls Tryz.prog 40 #[v'] w4 (fun e w5 => ∃ (k2 n2 : Int) (f2 : Nat) (s2 : ByteArray) (a2 : Option Addr) (c2 : Nat) (kids2 : List Tr), e = .returned (.tuple #[.agg #[.int .i64 k2, .int .i64 n2, .float .f64 f2, .string s2, .slice a2 kids2.length c2], .int .i64 0]) ∧ Sm (msgOf x0 t) (.mk k2 n2 f2 s2 a2 c2 kids2) ∧ (Tr.mk k2 n2 f2 s2 a2 c2 kids2).In w5 w4.heap.size ∧ Below w4.heap.size w4 w5) := by
  rw [← flat_snoc] at ho
  obtain ⟨a, c, e1, e2⟩ := tup_of (ds := [aTr ⟨#[69, 88, 73, 84]⟩, pTr x0] ++ [t]) ho (h.all hb) (by simp) (by rw [cn_fs]; have := h.cn; omega)
  exact ⟨a, c, e1, e2.mono fun e w5 hh => TupR.yes (t := msgOf x0 t) h0 hh⟩
theorem MsgIn.tupB (h : MsgIn x0 t ad w) (h0 : ¬ errT (msgOf x0 t) = 0) (hb : Below w.heap.size w w4) (ho : w4.ownsRow B 25 5 v' 3 ([aTr ⟨#[69, 88, 73, 84]⟩, pTr x0].flatMap Tr.cells ++ t.cells)) : ∃ a c, v' = .slice a 3 c ∧ Calls Tryz.prog 40 #[v'] w4 (fun e w5 => e = .returned (.tuple #[.agg #[.int .i64 0, .int .i64 0, .float .f64 0, .string ⟨#[]⟩, .slice none 0 0], .int .i64 12]) ∧ Below w4.heap.size w4 w5) := by
  rw [← flat_snoc] at ho
  obtain ⟨a, c, e1, e2⟩ := tup_of (ds := [aTr ⟨#[69, 88, 73, 84]⟩, pTr x0] ++ [t]) ho (h.all hb) (by simp) (by rw [cn_fs]; have := h.cn; omega)
  exact ⟨a, c, e1, e2.mono fun e w5 hh => TupR.no (t := msgOf x0 t) h0 hh⟩
theorem MsgIn.tupS (h : MsgIn x0 t ad w) (hb : Below w.heap.size w w4) (ho : w4.ownsRow B 25 5 v' 3 ([aTr ⟨#[69, 88, 73, 84]⟩, pTr x0].flatMap Tr.cells ++ sysT.cells)) : ∃ a c, v' = .slice a 3 c ∧ Calls Tryz.prog 40 #[v'] w4 (fun e w5 => ∃ (k2 n2 : Int) (f2 : Nat) (s2 : ByteArray) (a2 : Option Addr) (c2 : Nat) (kids2 : List Tr), e = .returned (.tuple #[.agg #[.int .i64 k2, .int .i64 n2, .float .f64 f2, .string s2, .slice a2 kids2.length c2], .int .i64 0]) ∧ Sm (msgOf x0 sysT) (.mk k2 n2 f2 s2 a2 c2 kids2) ∧ (Tr.mk k2 n2 f2 s2 a2 c2 kids2).In w5 w4.heap.size ∧ Below w4.heap.size w4 w5) := by
  rw [← flat_snoc] at ho
  obtain ⟨a, c, e1, e2⟩ := tup_of (ds := [aTr ⟨#[69, 88, 73, 84]⟩, pTr x0] ++ [sysT]) ho (h.alls hb) (by simp) (by rw [cn_fs]; simp [sysT, aTr, cnT, cnA])
  exact ⟨a, c, e1, e2.mono fun e w5 hh => TupR.yes (t := msgOf x0 sysT) (err_msgs h.lo h.hi) hh⟩
theorem MsgIn.olds (h : MsgIn x0 t ad w) (hb : Below w.heap.size w w4) : ∀ b, some ad = some b → ∀ j u, ([aTr ⟨#[69, 88, 73, 84]⟩, pTr x0].flatMap Tr.cells)[j]? = some u → w4.cell? (b.add j) = some u := by
  intro b e j u hj
  obtain rfl : ad = b := by simpa using e
  have hc := flat_cells _ _ h.fr j u hj
  exact (hb.cell (World.block_lt_of_cell? _ _ hc)).trans hc
end
def MsgP (x0 : Int) (t : Tr) (w : World) (e : Ending) (w' : World) : Prop := ∃ (k2 n2 : Int) (f2 : Nat) (s2 : ByteArray) (a2 : Option Addr) (c2 : Nat) (kids2 : List Tr), e = .returned (.agg #[.int .i64 1, .int .i64 k2, .int .i64 n2, .float .f64 f2, .string s2, .slice a2 kids2.length c2]) ∧ Sm (if errT (msgOf x0 t) = 0 then msgOf x0 t else msgOf x0 sysT) (.mk k2 n2 f2 s2 a2 c2 kids2) ∧ (Tr.mk k2 n2 f2 s2 a2 c2 kids2).In w' w.heap.size ∧ Below w.heap.size w w'
theorem MsgP.mk {x0 : Int} {t T : Tr} {w w' : World} {k2 n2 : Int} {f2 : Nat} {s2 : ByteArray} {a2 : Option Addr} {c2 : Nat} {kids2 : List Tr} (hT : (if errT (msgOf x0 t) = 0 then msgOf x0 t else msgOf x0 sysT) = T) (hs : Sm T (.mk k2 n2 f2 s2 a2 c2 kids2)) (hi : (Tr.mk k2 n2 f2 s2 a2 c2 kids2).In w' w.heap.size) (hb : Below w.heap.size w w') : MsgP x0 t w (.returned (.agg #[.int .i64 1, .int .i64 k2, .int .i64 n2, .float .f64 f2, .string s2, .slice a2 kids2.length c2])) w' := by
  refine ⟨k2, n2, f2, s2, a2, c2, kids2, rfl, ?_, hi, hb⟩
  rw [hT]
  exact hs
theorem cell_old {w : World} {o : Obj} {b i : Nat} (h : b < w.heap.size) : (w.alloc o).cell? ⟨b, i, none⟩ = w.cell? ⟨b, i, none⟩ := (below_new w o).cell (p := ⟨b, i, none⟩) h
theorem in_alloc {t : Tr} {w : World} {B : Nat} (h : t.In w B) (o : Obj) : t.In (w.alloc o) B := in_below (below_new w o) h
theorem if_A {x0 : Int} {t : Tr} (h : errT (msgOf x0 t) = 0) : (if errT (msgOf x0 t) = 0 then msgOf x0 t else msgOf x0 sysT) = msgOf x0 t := if_pos h
theorem if_B {x0 : Int} {t : Tr} (h : ¬ errT (msgOf x0 t) = 0) : (if errT (msgOf x0 t) = 0 then msgOf x0 t else msgOf x0 sysT) = msgOf x0 sysT := if_neg h

set_option maxRecDepth 100000 in
set_option maxHeartbeats 8000000 in
theorem message_A (x0 : Int) (ad : Addr) (tk tn : Int) (tf : Nat) (ts : ByteArray) (ta : Option Addr) (tc : Nat) (kids : List Tr) (w : World) (h : MsgIn x0 (.mk tk tn tf ts ta tc kids) ad w) (h0 : errT (msgOf x0 (.mk tk tn tf ts ta tc kids)) = 0) : Calls Tryz.prog 64 #[.agg #[.int .i64 tk, .int .i64 tn, .float .f64 tf, .string ts, .slice ta kids.length tc], .slice (some ad) 2 2] w (MsgP x0 (.mk tk tn tf ts ta tc kids) w) := by
  obtain ⟨i0, hi, hz0, hz1, hz2⟩ := info_parts infoT5
  have HIF := hidb (if_A h0)
  have HT := hidb (fun (v' : Value) (w4 : World) (B : Nat) (hb : Below w.heap.size w w4) ho => h.tupA h0 (w4 := w4) (v' := v') (B := B) hb ho)
  have HTS := hidb (fun (v' : Value) (w4 : World) (B : Nat) (hb : Below w.heap.size w w4) ho => h.tupS (w4 := w4) (v' := v') (B := B) hb ho)
  have HOC := hidb (fun (w4 : World) (hb : Below w.heap.size w w4) => h.olds (w4 := w4) hb)
  have HOL : Hid (([aTr ⟨#[69, 88, 73, 84]⟩, pTr x0].flatMap Tr.cells).length = 2 * 5) := hidb rfl
  generalize hFL : ([aTr ⟨#[69, 88, 73, 84]⟩, pTr x0].flatMap Tr.cells) = OLDS at HT HTS HOC HOL
  simp only [Tr.cells] at HT
  simp only [sysT, aTr, Tr.cells, List.length_nil] at HTS
  clear hFL
  generalize hTT : Tr.mk tk tn tf ts ta tc kids = T0 at *
  clear hTT
  generalize kids.length = tl at *
  have HS : Hid (((w.alloc (.cells #[.int .i64 tk, .int .i64 tn, .float .f64 tf, .string ts, .slice ta tl tc] 25)).alloc (.cells #[.int .i64 0, .int .i64 0, .int .i64 0, .float .f64 0, .string ⟨#[]⟩, .slice none 0 0] 31)).heap[w.heap.size]? = some (.cells #[.int .i64 tk, .int .i64 tn, .float .f64 tf, .string ts, .slice ta tl tc] 25)) := hidb (at_keep (at_new w _) (below_new _ _))
  have HR : Hid (((w.alloc (.cells #[.int .i64 tk, .int .i64 tn, .float .f64 tf, .string ts, .slice ta tl tc] 25)).alloc (.cells #[.int .i64 0, .int .i64 0, .int .i64 0, .float .f64 0, .string ⟨#[]⟩, .slice none 0 0] 31)).heap[w.heap.size + 1]? = some (.cells #[.int .i64 0, .int .i64 0, .int .i64 0, .float .f64 0, .string ⟨#[]⟩, .slice none 0 0] 31)) := hidb (by have := at_new (w.alloc (.cells #[.int .i64 tk, .int .i64 tn, .float .f64 tf, .string ts, .slice ta tl tc] 25)) (.cells #[.int .i64 0, .int .i64 0, .int .i64 0, .float .f64 0, .string ⟨#[]⟩, .slice none 0 0] 31); simpa using this)
  have HB : Hid (Below w.heap.size w ((w.alloc (.cells #[.int .i64 tk, .int .i64 tn, .float .f64 tf, .string ts, .slice ta tl tc] 25)).alloc (.cells #[.int .i64 0, .int .i64 0, .int .i64 0, .float .f64 0, .string ⟨#[]⟩, .slice none 0 0] 31))) := hidb ((below_new w _).alloc (by simp) _)
  clear h h0
  go_enter Tryz.func64, Tryz.ntmps64
  go_wp2_with (first
    | (at_builtin; refine wpList_append_grows _ rfl _ _ 23 rfl 25 i0 (.agg #[.int .i64 0, .int .i64 0, .float .f64 0, .string ⟨#[]⟩, .slice none 0 0]) 5 64 Tryz.underlying23 hi hz0 hz1 hz2 rfl (by decide) (some ad) 2 2 OLDS rfl (fun h => by cases h) HOL.out ?e11 ⟨w.heap.size + 1 + 1, 0, none⟩ 1 1 [.int .i64 tk, .int .i64 tn, .float .f64 tf, .string ts, .slice ta tl tc] rfl rfl ?e12 ?e13 (by decide) (by decide) (by decide) ?_))
  case e11 => exact HOC.out _ (HB.out.alloc HB.out.size _)
  case e12 => have := one_cells ((w.alloc (.cells #[.int .i64 tk, .int .i64 tn, .float .f64 tf, .string ts, .slice ta tl tc] 25)).alloc (.cells #[.int .i64 0, .int .i64 0, .int .i64 0, .float .f64 0, .string ⟨#[]⟩, .slice none 0 0] 31)) (.int .i64 tk) (.int .i64 tn) (.float .f64 tf) (.string ts) (.slice ta tl tc) 25; simpa using this
  case e13 => simp [Value.oneCell']
  intro v' w4 hown hgrow
  have hb4 := grown_below hgrow
  have HR4 := hidb (at_keep (at_keep HR.out (below_new _ _)) hb4)
  have HB4 := hidb ((HB.out.alloc HB.out.size _).trans (hb4.mono (HB.out.alloc HB.out.size _).size))
  obtain ⟨a3, c3, rfl, TU⟩ := HT.out v' w4 _ HB4.out hown
  have HTU := hidb TU
  clear TU hown hgrow hb4 HR HB HS HT
  clear HTS HOC
  go_wp2_with (go_at_call 40; refine HTU.out.mono ?_; rintro e w5 ⟨k2, n2, f2, s2, a2, c2, kids2, rfl, hs5, hi5, hb5⟩; have HSM := hidb hs5; have HIN := hidb hi5; have HLT := hidb ((show w.heap.size + 1 < _ from (Array.getElem?_eq_some_iff.1 HR4.out).1)); have HB := hidb (HB4.out.trans (hb5.mono HB4.out.size)); have hlt5 : w.heap.size + 1 < w5.heap.size := Nat.lt_of_lt_of_le HLT.out hb5.size; have hne5 : w.heap.size + 1 ≠ w5.heap.size := Nat.ne_of_lt hlt5; obtain ⟨r0, r1, r2, r3, r4, r5⟩ := box6 (at_keep HR4.out hb5); obtain ⟨g0, g1, g2, g3, g4, g5⟩ := fro6 (at_keep HR4.out hb5); clear hb5 hs5 hi5)
  exact bodyPost_ret (v := .agg #[.int .i64 1, .int .i64 k2, .int .i64 n2, .float .f64 f2, .string s2, .slice a2 kids2.length c2]) (by simp [results, Tryz.results64, go_sem, r0, r1, r2, r3, r4, r5, cell_old, hlt5]) rfl (MsgP.mk HIF.out HSM.out (in_base (Nat.le_of_lt (Nat.lt_of_le_of_lt (Nat.le_succ _) HLT.out)) _ (by exact in_alloc (in_set (in_set (in_set (in_set (in_set (in_set HIN.out HLT.out _) HLT.out _) HLT.out _) HLT.out _) HLT.out _) HLT.out _) _)) (by refine Below.alloc ?_ (by simp; exact HB.out.size) _; (repeat (refine Below.setCell ?_ (by simp) _)); exact HB.out))
end Go.Proofs.YtliebilpddmhkaaGreat


/- exits.message where the message would be too great. -/
namespace Go.Proofs.YtliebilpddmhkaaGreat
open Go.RowKit Go.Lib Go.Deep
attribute [local go_sem] store_float f64bits
attribute [local go_sem ↓] Go.wp_at_zero Go.wp_at_succ

set_option maxRecDepth 100000 in
set_option maxHeartbeats 1000000 in
theorem message_B (x0 : Int) (ad : Addr) (tk tn : Int) (tf : Nat) (ts : ByteArray) (ta : Option Addr) (tc : Nat) (kids : List Tr) (w : World) (h : MsgIn x0 (.mk tk tn tf ts ta tc kids) ad w) (h0 : ¬ errT (msgOf x0 (.mk tk tn tf ts ta tc kids)) = 0) : Calls Tryz.prog 64 #[.agg #[.int .i64 tk, .int .i64 tn, .float .f64 tf, .string ts, .slice ta kids.length tc], .slice (some ad) 2 2] w (MsgP x0 (.mk tk tn tf ts ta tc kids) w) := by
  obtain ⟨i0, hi, hz0, hz1, hz2⟩ := info_parts infoT5
  have SL := hidb systemLimit_val
  have HIF := hidb (if_B h0)
  have HT := hidb (fun (v' : Value) (w4 : World) (B : Nat) (hb : Below w.heap.size w w4) ho => h.tupB h0 (w4 := w4) (v' := v') (B := B) hb ho)
  have HTS := hidb (fun (v' : Value) (w4 : World) (B : Nat) (hb : Below w.heap.size w w4) ho => h.tupS (w4 := w4) (v' := v') (B := B) hb ho)
  have HOC := hidb (fun (w4 : World) (hb : Below w.heap.size w w4) => h.olds (w4 := w4) hb)
  have HOL : Hid (([aTr ⟨#[69, 88, 73, 84]⟩, pTr x0].flatMap Tr.cells).length = 2 * 5) := hidb rfl
  generalize hFL : ([aTr ⟨#[69, 88, 73, 84]⟩, pTr x0].flatMap Tr.cells) = OLDS at HT HTS HOC HOL
  simp only [Tr.cells] at HT
  simp only [sysT, aTr, Tr.cells, List.length_nil] at HTS
  clear hFL
  generalize hTT : Tr.mk tk tn tf ts ta tc kids = T0 at *
  clear hTT
  generalize kids.length = tl at *
  have HS : Hid (((w.alloc (.cells #[.int .i64 tk, .int .i64 tn, .float .f64 tf, .string ts, .slice ta tl tc] 25)).alloc (.cells #[.int .i64 0, .int .i64 0, .int .i64 0, .float .f64 0, .string ⟨#[]⟩, .slice none 0 0] 31)).heap[w.heap.size]? = some (.cells #[.int .i64 tk, .int .i64 tn, .float .f64 tf, .string ts, .slice ta tl tc] 25)) := hidb (at_keep (at_new w _) (below_new _ _))
  have HR : Hid (((w.alloc (.cells #[.int .i64 tk, .int .i64 tn, .float .f64 tf, .string ts, .slice ta tl tc] 25)).alloc (.cells #[.int .i64 0, .int .i64 0, .int .i64 0, .float .f64 0, .string ⟨#[]⟩, .slice none 0 0] 31)).heap[w.heap.size + 1]? = some (.cells #[.int .i64 0, .int .i64 0, .int .i64 0, .float .f64 0, .string ⟨#[]⟩, .slice none 0 0] 31)) := hidb (by have := at_new (w.alloc (.cells #[.int .i64 tk, .int .i64 tn, .float .f64 tf, .string ts, .slice ta tl tc] 25)) (.cells #[.int .i64 0, .int .i64 0, .int .i64 0, .float .f64 0, .string ⟨#[]⟩, .slice none 0 0] 31); simpa using this)
  have HB : Hid (Below w.heap.size w ((w.alloc (.cells #[.int .i64 tk, .int .i64 tn, .float .f64 tf, .string ts, .slice ta tl tc] 25)).alloc (.cells #[.int .i64 0, .int .i64 0, .int .i64 0, .float .f64 0, .string ⟨#[]⟩, .slice none 0 0] 31))) := hidb ((below_new w _).alloc (by simp) _)
  clear h h0
  go_enter Tryz.func64, Tryz.ntmps64
  go_wp2_with (first
    | (at_builtin; refine wpList_append_grows _ rfl _ _ 23 rfl 25 i0 (.agg #[.int .i64 0, .int .i64 0, .float .f64 0, .string ⟨#[]⟩, .slice none 0 0]) 5 64 Tryz.underlying23 hi hz0 hz1 hz2 rfl (by decide) (some ad) 2 2 OLDS rfl (fun h => by cases h) HOL.out ?e11 ⟨w.heap.size + 1 + 1, 0, none⟩ 1 1 [.int .i64 tk, .int .i64 tn, .float .f64 tf, .string ts, .slice ta tl tc] rfl rfl ?e12 ?e13 (by decide) (by decide) (by decide) ?_))
  case e11 => exact HOC.out _ (HB.out.alloc HB.out.size _)
  case e12 => have := one_cells ((w.alloc (.cells #[.int .i64 tk, .int .i64 tn, .float .f64 tf, .string ts, .slice ta tl tc] 25)).alloc (.cells #[.int .i64 0, .int .i64 0, .int .i64 0, .float .f64 0, .string ⟨#[]⟩, .slice none 0 0] 31)) (.int .i64 tk) (.int .i64 tn) (.float .f64 tf) (.string ts) (.slice ta tl tc) 25; simpa using this
  case e13 => simp [Value.oneCell']
  intro v' w4 hown hgrow
  have hb4 := grown_below hgrow
  have HR4 := hidb (at_keep (at_keep HR.out (below_new _ _)) hb4)
  have HB4 := hidb ((HB.out.alloc HB.out.size _).trans (hb4.mono (HB.out.alloc HB.out.size _).size))
  obtain ⟨a3, c3, rfl, TU⟩ := HT.out v' w4 _ HB4.out hown
  have HTU := hidb TU
  clear TU hown hgrow hb4 HR HB HS HT
  go_wp2_with (first
    | (go_at_call 40; refine HTU.out.mono ?_; rintro e w5 ⟨rfl, hb5⟩; have HT5 := hidb (at_new w5 (.cells #[.int .i64 0, .int .i64 0, .float .f64 0, .string ⟨#[]⟩, .slice none 0 0] 25)); have HB5 := hidb (HB4.out.trans (hb5.mono HB4.out.size)); have hlt5 : w.heap.size + 1 < w5.heap.size := Nat.lt_of_lt_of_le (Array.getElem?_eq_some_iff.1 HR4.out).1 hb5.size; have hne5 : w.heap.size + 1 ≠ w5.heap.size := Nat.ne_of_lt hlt5; have HR5 := hidb (at_keep (at_keep HR4.out hb5) (below_new w5 (.cells #[.int .i64 0, .int .i64 0, .float .f64 0, .string ⟨#[]⟩, .slice none 0 0] 25))); clear hb5 HTU HR4)
    | (go_at_call 42; refine (SL.out _).mono ?_; rintro e w6 ⟨rfl, hb6⟩; have HR6 := hidb (at_keep HR5.out hb6); have HT6 := hidb (at_keep HT5.out hb6); have HB6 := hidb ((HB5.out.alloc HB5.out.size _).trans (hb6.mono (HB5.out.alloc HB5.out.size _).size)); clear hb6 HR5 HT5)
    | (at_builtin; refine wpList_append_grows _ rfl _ _ 23 rfl 25 i0 (.agg #[.int .i64 0, .int .i64 0, .float .f64 0, .string ⟨#[]⟩, .slice none 0 0]) 5 64 Tryz.underlying23 hi hz0 hz1 hz2 rfl (by decide) (some ad) 2 2 OLDS rfl (fun h => by cases h) HOL.out ?e21 ⟨w6.heap.size, 0, none⟩ 1 1 [.int .i64 3, .int .i64 0, .float .f64 0, .string ⟨#[115, 121, 115, 116, 101, 109, 95, 108, 105, 109, 105, 116]⟩, .slice none 0 0] rfl rfl ?e22 ?e23 (by decide) (by decide) (by decide) ?_))
  case e21 => exact HOC.out _ (HB6.out.alloc HB6.out.size _)
  case e22 => exact one_cells w6 _ _ _ _ _ _
  case e23 => simp [Value.oneCell']
  intro v' w7 hown hgrow
  have hb7 := grown_below hgrow
  have HR7 := hidb (at_keep (at_keep HR6.out (below_new _ _)) hb7)
  have HT7 := hidb (at_keep (at_keep HT6.out (below_new _ _)) hb7)
  have HB7 := hidb ((HB6.out.alloc HB6.out.size _).trans (hb7.mono (HB6.out.alloc HB6.out.size _).size))
  obtain ⟨a4, c4, rfl, TU⟩ := HTS.out v' w7 _ HB7.out hown
  have HTU := hidb TU
  clear TU hown hgrow hb7 HR6 HT6 HB6 HTS HOC HB5 SL
  go_wp2_with (go_at_call 40; refine HTU.out.mono ?_; rintro e w8 ⟨k2, n2, f2, s2, a2, c2, kids2, rfl, hs8, hi8, hb8⟩; have HSM := hidb hs8; have HIN := hidb hi8; have HLT := hidb ((show w.heap.size + 1 < _ from (Array.getElem?_eq_some_iff.1 HR7.out).1)); have HL2 := hidb ((show w5.heap.size < _ from (Array.getElem?_eq_some_iff.1 HT7.out).1)); have HB := hidb (HB7.out.trans (hb8.mono HB7.out.size)); have HG5 := hidb (show w.heap.size ≤ w5.heap.size by omega); obtain ⟨r0, r1, r2, r3, r4, r5⟩ := box6 (at_keep HR7.out hb8); obtain ⟨g0, g1, g2, g3, g4, g5⟩ := fro6 (at_keep HR7.out hb8); obtain ⟨o0, o1, o2, o3, o4⟩ := box5 (at_keep HT7.out hb8); obtain ⟨p0, p1, p2, p3, p4⟩ := fro5 (at_keep HT7.out hb8); clear hb8 hs8 hi8)
  refine bodyPost_ret (v := .agg #[.int .i64 1, .int .i64 k2, .int .i64 n2, .float .f64 f2, .string s2, .slice a2 kids2.length c2]) ?_ rfl (MsgP.mk HIF.out HSM.out ?_ ?_)
  · simp [results, Tryz.results64, go_sem, r0, r1, r2, r3, r4, r5]
  · exact in_base (Nat.le_of_lt (Nat.lt_of_le_of_lt (Nat.le_succ _) HLT.out)) _ (in_set (in_set (in_set (in_set (in_set (in_set (in_set (in_set (in_set (in_set (in_set HIN.out HL2.out _) HL2.out _) HL2.out _) HL2.out _) HL2.out _) HLT.out _) HLT.out _) HLT.out _) HLT.out _) HLT.out _) HLT.out _)
  · exact ((((((((((HB.out.setCell HG5.out _).setCell HG5.out _).setCell HG5.out _).setCell HG5.out _).setCell HG5.out _).setCell (by simp) _).setCell (by simp) _).setCell (by simp) _).setCell (by simp) _).setCell (by simp) _).setCell (by simp) _

theorem message_any (x0 : Int) (ad : Addr) (tk tn : Int) (tf : Nat) (ts : ByteArray) (ta : Option Addr) (tc : Nat) (kids : List Tr) (w : World) (h : MsgIn x0 (.mk tk tn tf ts ta tc kids) ad w) : Calls Tryz.prog 64 #[.agg #[.int .i64 tk, .int .i64 tn, .float .f64 tf, .string ts, .slice ta kids.length tc], .slice (some ad) 2 2] w (MsgP x0 (.mk tk tn tf ts ta tc kids) w) := by
  by_cases h0 : errT (msgOf x0 (.mk tk tn tf ts ta tc kids)) = 0
  · exact message_A x0 ad tk tn tf ts ta tc kids w h h0
  · exact message_B x0 ad tk tn tf ts ta tc kids w h h0
end Go.Proofs.YtliebilpddmhkaaGreat


