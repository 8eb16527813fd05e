import Derived.Test.YtdpfmmbfidknfaaGreatDoorG13
import Derived.Test.YtdpfmmbfidknfaaGreatDoorG01
import Derived.Lib.OthersKept
import Derived.Deep.LoopGhost
import Derived.Deep.DeepMust
import Derived.RegionTactic
import Derived.Deep.RegionHeld3
import Derived.Deep.DrawnRows
import Derived.Shelf.Abstract
import Derived.WalkLawsBesides
import Derived.Maps.AppendAt
import Derived.Deep.RegionLaw
import Derived.Deep.AppendLies
/- The parser's state in memory, and its smallest steps. -/
namespace Go.Proofs.YtdpfmmbfidknfaaGreatDoor
open Go.RowKit Go.Lib
attribute [local go_sem] store_float f64bits
attribute [local go_sem ↓] Go.wp_at_zero Go.wp_at_succ

abbrev Tk.val (t : Tk) : Value := .agg #[.int .i64 t.k, .string t.x, .int .i64 t.n, .float .f64 t.f, .int .i64 (t.p : Int)]
def Tk.row (t : Tk) : List Value := [.int .i64 t.k, .string t.x, .int .i64 t.n, .float .f64 t.f, .int .i64 (t.p : Int)]

theorem tk_k (k n p : Int) (x : ByteArray) (f : Nat) (w : World) : (Instr.field 59 (.agg #[.int .i64 k, .string x, .int .i64 n, .float .f64 f, .int .i64 p]) 0).run Tryz.prog w = .ok (.int .i64 k) w := by kernel_rfl
theorem tk_x (k n p : Int) (x : ByteArray) (f : Nat) (w : World) : (Instr.field 59 (.agg #[.int .i64 k, .string x, .int .i64 n, .float .f64 f, .int .i64 p]) 1).run Tryz.prog w = .ok (.string x) w := by kernel_rfl
theorem tk_n (k n p : Int) (x : ByteArray) (f : Nat) (w : World) : (Instr.field 59 (.agg #[.int .i64 k, .string x, .int .i64 n, .float .f64 f, .int .i64 p]) 2).run Tryz.prog w = .ok (.int .i64 n) w := by kernel_rfl
theorem tk_f (k n p : Int) (x : ByteArray) (f : Nat) (w : World) : (Instr.field 59 (.agg #[.int .i64 k, .string x, .int .i64 n, .float .f64 f, .int .i64 p]) 3).run Tryz.prog w = .ok (.float .f64 f) w := by kernel_rfl
theorem tk_p (k n p : Int) (x : ByteArray) (f : Nat) (w : World) : (Instr.field 59 (.agg #[.int .i64 k, .string x, .int .i64 n, .float .f64 f, .int .i64 p]) 4).run Tryz.prog w = .ok (.int .i64 p) w := by kernel_rfl
attribute [local go_sem] tk_k tk_x tk_n tk_f tk_p
/-- Tokens that lie in a block from a cell on. -/
def Tks (w : World) (b : Nat) : Nat → List Tk → Prop
  | _, [] => True
  | i, t :: r => (w.cell? ⟨b, i, none⟩ = some (.int .i64 t.k) ∧ w.cell? ⟨b, i + 1, none⟩ = some (.string t.x) ∧ w.cell? ⟨b, i + 2, none⟩ = some (.int .i64 t.n) ∧ w.cell? ⟨b, i + 3, none⟩ = some (.float .f64 t.f) ∧ w.cell? ⟨b, i + 4, none⟩ = some (.int .i64 (t.p : Int))) ∧ Tks w b (i + 5) r

theorem Tks.but {S : Nat → Prop} {w w' : World} {b : Nat} (hb : But S w w') (hl : b < w.heap.size) (hs : ¬ S b) : ∀ {i : Nat} {l : List Tk}, Tks w b i l → Tks w' b i l
  | _, [], _ => trivial
  | i, _ :: _, ⟨⟨h0, h1, h2, h3, h4⟩, hr⟩ =>
    ⟨⟨(hb.cell (p := ⟨b, i, none⟩) hl hs).trans h0, (hb.cell (p := ⟨b, i + 1, none⟩) hl hs).trans h1, (hb.cell (p := ⟨b, i + 2, none⟩) hl hs).trans h2, (hb.cell (p := ⟨b, i + 3, none⟩) hl hs).trans h3, (hb.cell (p := ⟨b, i + 4, none⟩) hl hs).trans h4⟩, Tks.but hb hl hs hr⟩

/-- The parser's box: the tokens that are left lie in block b from cell i on. -/
structure PB (w : World) (g b : Nat) (ts : List Tk) (V : Value) (o : Nat) : Prop where
  ex : ∃ i cap, Tri w g (.slice (some ⟨b, i, none⟩) ts.length cap) V (.int .i64 (o : Int)) ∧ ts.length ≤ cap ∧ Tks w b i ts
  ne : b ≠ g
  lt : b < w.heap.size

theorem PB.but {S : Nat → Prop} {w w' : World} {g b o : Nat} {ts : List Tk} {V : Value} (h : PB w g b ts V o) (hb : But S w w') (h1 : ¬ S g) (h2 : ¬ S b) : PB w' g b ts V o := by
  obtain ⟨⟨i, cap, hT, hc, hts⟩, hne, hlt⟩ := h
  exact ⟨⟨i, cap, hT.but hb h1, hc, hts.but hb hlt h2⟩, hne, Nat.lt_of_lt_of_le hlt hb.size⟩
theorem PB.keep {w w' : World} {g b o : Nat} {ts : List Tk} {V : Value} (h : PB w g b ts V o) (hb : Below w.heap.size w w') : PB w' g b ts V o :=
  h.but (But.of_below (S := fun _ => False) hb) (fun h => h) (fun h => h)
theorem PB.glt {w : World} {g b o : Nat} {ts : List Tk} {V : Value} (h : PB w g b ts V o) : g < w.heap.size := by
  obtain ⟨⟨i, cap, hT, _⟩, _⟩ := h
  exact hT.lt

set_option maxHeartbeats 1000000 in
theorem pHere_any {w : World} {g b : Nat} {s : PS} {V : Value} (h : PB w g b s.ts V s.o) (hn : Ne s) :
    Calls Tryz.prog 32 #[.pointer (some ⟨g, 0, none⟩)] w fun e w' => e = .returned (Gm.hd s).val ∧ Below w.heap.size w w' := by
  obtain ⟨⟨i, cap, hT, hcap, hts⟩, hne, hlt⟩ := h
  obtain ⟨r, hr⟩ := Gm.ne_hd hn
  generalize Gm.hd s = t at hr ⊢
  rw [hr] at hts hT hcap
  obtain ⟨⟨h0, h1, h2, h3, h4⟩, -⟩ := hts
  obtain ⟨tk, tx, tn, tf, tp⟩ := t
  have c0 := hT.c0
  have hg := hT.lt
  obtain ⟨n, hl⟩ : ∃ n, (((⟨tk, tx, tn, tf, tp⟩ : Tk) :: r)).length = n + 1 := ⟨r.length, rfl⟩
  rw [hl] at c0
  have hl0 : (0 : Int) < ((n + 1 : Nat) : Int) := by omega
  clear hT hn hr hcap hl
  go_enter Tryz.func32, Tryz.ntmps32
  go_wp2_with fail
  exact bodyPost_ret (v := Tk.val ⟨tk, tx, tn, tf, tp⟩) (by simp [results, Tryz.results32, go_sem, Tk.val]) rfl ⟨rfl, (Below.refl _ _).alloc (Nat.le_refl _) _⟩

set_option maxHeartbeats 1000000 in
theorem pNext_any {w : World} {g b : Nat} {s : PS} {V : Value} (h : PB w g b s.ts V s.o) (hn : Ne s) (hk : (Gm.hd s).k ≠ 8) :
    Calls Tryz.prog 36 #[.pointer (some ⟨g, 0, none⟩)] w fun e w' => e = .returned (Gm.hd s).val ∧ PB w' g b (Gm.cut s).ts V s.o ∧ But (· = g) w w' := by
  obtain ⟨⟨i, cap, hT, hcap, hts⟩, hne, hlt⟩ := h
  obtain ⟨r, hr⟩ := Gm.ne_hd2 hn hk
  have hcut : (Gm.cut s).ts = Gm.hd2 s :: r := by simp [Gm.cut, hr]
  rw [hcut]
  clear hk
  generalize Gm.hd s = t at hr ⊢
  generalize Gm.hd2 s = t2 at hr ⊢
  rw [hr] at hts hT hcap
  obtain ⟨⟨h0, h1, h2, h3, h4⟩, hrest⟩ := hts
  obtain ⟨tk, tx, tn, tf, tp⟩ := t
  have c0 := hT.c0
  have f0 := hT.f0
  have hg := hT.lt
  obtain ⟨n, hl⟩ : ∃ n, (t2 :: r).length = n + 1 := ⟨_, rfl⟩
  have hl2 : (((⟨tk, tx, tn, tf, tp⟩ : Tk) :: t2 :: r)).length = n + 2 := by simp at hl ⊢; omega
  rw [hl2] at c0 hcap
  obtain ⟨c, rfl⟩ : ∃ c, cap = c + 2 := ⟨cap - 2, by omega⟩
  have hl0 : (0 : Int) < ((n + 2 : Nat) : Int) := by omega
  have hl1 : (1 : Int) ≤ ((n + 2 : Nat) : Int) := by omega
  have HT := hidb hT
  have HR := hidb hrest
  clear hT hn hr hcut hrest
  go_enter Tryz.func36, Tryz.ntmps36
  go_wp2_with fail
  refine bodyPost_ret (v := Tk.val ⟨tk, tx, tn, tf, tp⟩) (by simp [results, Tryz.results36, go_sem, Tk.val]) rfl ⟨rfl, ?_, ?_⟩
  · have hB : But (· = g) w (((w.setCell ⟨g, 0, none⟩ (.slice (some ⟨b, i + 5, none⟩) (n + 1) (c + 1))).alloc (Obj.cells #[.int .i64 tk, .string tx, .int .i64 tn, .float .f64 tf, .int .i64 (tp : Int)] 59)).alloc (Obj.cells #[.int .i64 tk, .string tx, .int .i64 tn, .float .f64 tf, .int .i64 (tp : Int)] 59)) :=
      ((But.setCell (But.refl (· = g) w) (p := ⟨g, 0, none⟩) (fun _ => rfl) _).alloc _).alloc _
    have hT2 := HT.out.set0 (.slice (some ⟨b, i + 5, none⟩) (n + 1) (c + 1))
    have hZ : ∀ o1 o2, Below (w.setCell ⟨g, 0, none⟩ (.slice (some ⟨b, i + 5, none⟩) (n + 1) (c + 1))).heap.size (w.setCell ⟨g, 0, none⟩ (.slice (some ⟨b, i + 5, none⟩) (n + 1) (c + 1))) (((w.setCell ⟨g, 0, none⟩ (.slice (some ⟨b, i + 5, none⟩) (n + 1) (c + 1))).alloc o1).alloc o2) := fun o1 o2 => ((Below.refl _ _).alloc (Nat.le_refl _) _).alloc (by simp) _
    refine ⟨⟨i + 5, c + 1, ?_, ?_, Tks.but hB hlt hne HR.out⟩, hne, Nat.lt_of_lt_of_le hlt hB.size⟩
    · rw [hl]; exact hT2.keep (hZ _ _)
    · rw [hl]; omega
  · exact ((But.setCell (But.refl (· = g) w) (p := ⟨g, 0, none⟩) (fun _ => rfl) _).alloc _).alloc _

theorem str_eq (a b : ByteArray) : (a.toList == b.toList) = decide (a = b) := by
  rw [ByteArray.toList_eq, ByteArray.toList_eq]
  by_cases h : a = b
  · subst h; simp
  · have : a.data ≠ b.data := fun e => h (by cases a; cases b; simp at e; simp [e])
    simp [h, this]

set_option maxHeartbeats 1000000 in
theorem pMark_any (t : Tk) (x : ByteArray) (w : World) : Calls Tryz.prog 77 #[t.val, .string x] w fun e w' => e = .returned (.bool (Gm.isM t x)) ∧ Below w.heap.size w w' := by
  obtain ⟨tk, tx, tn, tf, tp⟩ := t
  simp only [Tk.val, Gm.isM]
  go_enter Tryz.func77, Tryz.ntmps77
  go_wp2_with fail
  · rename_i h
    exact bodyPost_ret (v := .bool (tx.toList == x.toList)) (by simp [results, Tryz.results77, go_sem]) rfl ⟨by rw [str_eq]; simp [h], (Below.refl _ _).alloc (Nat.le_refl _) _⟩
  · rename_i h h'
    exact bodyPost_ret (v := .bool (tx.toList == x.toList)) (by simp [results, Tryz.results77, go_sem]) rfl ⟨by rw [str_eq]; simp [h'], (Below.refl _ _).alloc (Nat.le_refl _) _⟩
  · rename_i h h'
    exact bodyPost_ret (v := .bool false) (by simp [results, Tryz.results77, go_sem]) rfl ⟨by simp [h, h'], (Below.refl _ _).alloc (Nat.le_refl _) _⟩

set_option maxHeartbeats 1000000 in
theorem pAtom_any (t : Tk) (x : ByteArray) (w : World) : Calls Tryz.prog 34 #[t.val, .string x] w fun e w' => e = .returned (.bool (Gm.isA t x)) ∧ Below w.heap.size w w' := by
  obtain ⟨tk, tx, tn, tf, tp⟩ := t
  simp only [Tk.val, Gm.isA]
  go_enter Tryz.func34, Tryz.ntmps34
  go_wp2_with fail
  · rename_i h
    exact bodyPost_ret (v := .bool (tx.toList == x.toList)) (by simp [results, Tryz.results34, go_sem]) rfl ⟨by rw [str_eq]; simp [h], (Below.refl _ _).alloc (Nat.le_refl _) _⟩
  · rename_i h
    exact bodyPost_ret (v := .bool false) (by simp [results, Tryz.results34, go_sem]) rfl ⟨by simp [h], (Below.refl _ _).alloc (Nat.le_refl _) _⟩

abbrev FT : Nat := 28
/-- The fault that a parser gives up with. -/
abbrev gaveUp (e : Int) (p : Nat) : Ending := .panicked [{ v := .iface FT (.agg #[.int .i64 e, .int .i64 (p : Int)]), recovered := false }]

set_option maxHeartbeats 1000000 in
theorem pGiveUpAt_any (er : Int) (p : Nat) (w : World) : Calls Tryz.prog 52 #[.int .i64 er, .int .i64 (p : Int)] w fun e w' => e = gaveUp er p ∧ Below w.heap.size w w' := by
  go_enter Tryz.func52, Tryz.ntmps52
  go_wp2_with fail
  exact ⟨rfl, rfl, Below.refl _ _⟩

set_option maxHeartbeats 1000000 in
set_option maxRecDepth 100000 in
theorem pGiveUp_any (er : Int) {w : World} {g b : Nat} {s : PS} {V : Value} (h : PB w g b s.ts V s.o) (hn : Ne s) :
    Calls Tryz.prog 35 #[.pointer (some ⟨g, 0, none⟩), .int .i64 er] w fun e w' => e = gaveUp er (Gm.hd s).p ∧ Below w.heap.size w w' := by
  have cH := pHere_any h hn
  generalize Gm.hd s = t at cH ⊢
  clear h hn
  go_enter Tryz.func35, Tryz.ntmps35
  go_wp2_with (first
    | (go_at_call 32; refine cH.mono ?_; rintro e w1 ⟨rfl, hb1⟩; have HB1 := hidb hb1)
    | (go_at_call 52; refine (pGiveUpAt_any _ _ _).mono ?_; rintro e w2 ⟨rfl, hb2⟩; have HB2 := hidb hb2))
  exact ⟨rfl, rfl, HB1.out.trans (HB2.out.mono HB1.out.size)⟩

set_option maxHeartbeats 1000000 in
theorem pIs_any (x : ByteArray) {w : World} {g b : Nat} {s : PS} {V : Value} (h : PB w g b s.ts V s.o) (hn : Ne s) :
    Calls Tryz.prog 69 #[.pointer (some ⟨g, 0, none⟩), .string x] w fun e w' => e = .returned (.bool (Gm.isM (Gm.hd s) x)) ∧ Below w.heap.size w w' := by
  have cH := pHere_any h hn
  generalize Gm.hd s = t at cH ⊢
  clear h hn
  go_enter Tryz.func69, Tryz.ntmps69
  go_wp2_with (first
    | (go_at_call 32; refine cH.mono ?_; rintro e w1 ⟨rfl, hb1⟩; have HB1 := hidb hb1)
    | (go_at_call 77; refine (pMark_any _ _ _).mono ?_; rintro e w2 ⟨rfl, hb2⟩; have HB2 := hidb hb2))
  exact bodyPost_ret (v := .bool (Gm.isM t x)) (by simp [results, Tryz.results69, go_sem]) rfl ⟨rfl, HB1.out.trans (HB2.out.mono HB1.out.size)⟩

set_option maxHeartbeats 1000000 in
theorem pAhead_any (x : ByteArray) {w : World} {g b : Nat} {s : PS} {V : Value} (h : PB w g b s.ts V s.o) (hn : Ne s) (hk : (Gm.hd s).k ≠ 8) :
    Calls Tryz.prog 98 #[.pointer (some ⟨g, 0, none⟩), .string x] w fun e w' => e = .returned (.bool (Gm.isM (Gm.hd2 s) x)) ∧ Below w.heap.size w w' := by
  obtain ⟨⟨i, cap, hT, hcap, hts⟩, hne, hlt⟩ := h
  obtain ⟨r, hr⟩ := Gm.ne_hd2 hn hk
  clear hk
  generalize Gm.hd s = t at hr
  generalize Gm.hd2 s = t2 at hr ⊢
  rw [hr] at hts hT hcap
  obtain ⟨-, ⟨⟨h0, h1, h2, h3, h4⟩, -⟩⟩ := hts
  have c0 := hT.c0
  have hg := hT.lt
  obtain ⟨n, hl⟩ : ∃ n, (t :: t2 :: r).length = n + 2 := ⟨r.length, rfl⟩
  rw [hl] at c0
  have hl0 : (1 : Int) < ((n + 2 : Nat) : Int) := by omega
  clear hT hn hr hcap hl
  go_enter Tryz.func98, Tryz.ntmps98
  go_wp2_with (go_at_call 77; refine (pMark_any t2 _ _).mono ?_; rintro e w2 ⟨rfl, hb2⟩; have HB2 := hidb hb2)
  exact bodyPost_ret (v := .bool (Gm.isM t2 x)) (by simp [results, Tryz.results98, go_sem]) rfl ⟨rfl, HB2.out⟩

set_option maxHeartbeats 1000000 in
theorem pTake_any (x : ByteArray) {w : World} {g b : Nat} {s : PS} {V : Value} (h : PB w g b s.ts V s.o) (hn : Ne s) :
    Calls Tryz.prog 51 #[.pointer (some ⟨g, 0, none⟩), .string x] w fun e w' => ∃ y s', Gm.take x s = .ok (y, s') ∧ e = .returned (.bool y) ∧ PB w' g b s'.ts V s'.o ∧ But (· = g) w w' := by
  have cI := pIs_any x h hn
  by_cases hx : Gm.isM (Gm.hd s) x = true
  · have hk := Gm.isM_k hx
    rw [hx] at cI
    have cN : ∀ w1, Below w.heap.size w w1 → _ := fun w1 hb => pNext_any (h.keep hb) hn hk
    simp only [Gm.take, if_pos hx]
    clear h hn hk hx
    go_enter Tryz.func51, Tryz.ntmps51
    go_wp2_with (first
      | (go_at_call 69; refine cI.mono ?_; rintro e w1 ⟨rfl, hb1⟩; have HB1 := hidb hb1)
      | (go_at_call 36; refine (cN _ HB1.out).mono ?_; rintro e w2 ⟨rfl, hp2, hb2⟩; have HP2 := hidb hp2; have HB2 := hidb hb2))
    exact bodyPost_ret (v := .bool true) (by simp [results, Tryz.results51, go_sem]) rfl ⟨_, _, rfl, rfl, HP2.out, (But.of_below HB1.out).trans HB2.out⟩
  · have hx' : Gm.isM (Gm.hd s) x = false := by simpa using hx
    rw [hx'] at cI
    have HP := hidb h
    simp only [Gm.take, if_neg hx]
    clear h hn hx hx'
    go_enter Tryz.func51, Tryz.ntmps51
    go_wp2_with (first
      | (go_at_call 69; refine cI.mono ?_; rintro e w1 ⟨rfl, hb1⟩; have HB1 := hidb hb1))
    exact bodyPost_ret (v := .bool false) (by simp [results, Tryz.results51, go_sem]) rfl ⟨_, _, rfl, rfl, HP.out.keep HB1.out, But.of_below HB1.out⟩

set_option maxHeartbeats 1000000 in
theorem pNeed_any (x : ByteArray) {w : World} {g b : Nat} {s : PS} {V : Value} (h : PB w g b s.ts V s.o) (hn : Ne s) :
    Calls Tryz.prog 33 #[.pointer (some ⟨g, 0, none⟩), .string x] w fun e w' =>
      (∃ er p, Gm.need x s = .error (er, p) ∧ e = gaveUp er p ∧ But (· = g) w w') ∨ (∃ s', Gm.need x s = .ok ((), s') ∧ e = .returned (.tuple #[]) ∧ PB w' g b s'.ts V s'.o ∧ But (· = g) w w') := by
  have cT := pTake_any x h hn
  by_cases hx : Gm.isM (Gm.hd s) x = true
  · have ht : Gm.take x s = .ok (true, Gm.cut s) := by simp only [Gm.take, if_pos hx]
    have hN : Gm.need x s = .ok ((), Gm.cut s) := by simp only [Gm.need, if_pos hx]
    rw [ht] at cT
    clear h hn hx ht
    go_enter Tryz.func33, Tryz.ntmps33
    go_wp2_with (first
      | (go_at_call 51; refine cT.mono ?_; rintro e w1 ⟨y, s', hys, rfl, hp, hb⟩; cases hys; have HP := hidb hp; have HB := hidb hb))
    go_end0
    exact .inr ⟨_, hN, rfl, HP.out, HB.out⟩
  · have ht : Gm.take x s = .ok (false, s) := by simp only [Gm.take, if_neg hx]
    have hN : Gm.need x s = .error (24, (Gm.hd s).p) := by simp only [Gm.need, if_neg hx]
    rw [ht] at cT
    have cG : ∀ w1, PB w1 g b s.ts V s.o → _ := fun w1 h1 => pGiveUp_any 24 h1 hn
    clear h hx ht
    go_enter Tryz.func33, Tryz.ntmps33
    go_wp2_with (first
      | (go_at_call 51; refine cT.mono ?_; rintro e w1 ⟨y, s', hys, rfl, hp, hb⟩; cases hys; have HP := hidb hp; have HB := hidb hb)
      | (go_at_call 35; refine (cG _ HP.out).mono ?_; rintro e w2 ⟨rfl, hb2⟩))
    exact ⟨rfl, .inl ⟨24, _, hN, rfl, HB.out.trans (But.of_below hb2)⟩⟩

set_option maxHeartbeats 1000000 in
theorem pNeedKind_any {k : Int} (hk8 : k ≠ 8) {w : World} {g b : Nat} {s : PS} {V : Value} (h : PB w g b s.ts V s.o) (hn : Ne s) :
    Calls Tryz.prog 37 #[.pointer (some ⟨g, 0, none⟩), .int .i64 k] w fun e w' =>
      (∃ er p, Gm.needK k s = .error (er, p) ∧ e = gaveUp er p ∧ But (· = g) w w') ∨ (∃ t s', Gm.needK k s = .ok (t, s') ∧ e = .returned t.val ∧ PB w' g b s'.ts V s'.o ∧ But (· = g) w w') := by
  have HP := hidb (h.keep (wbox_below w))
  have hg := h.glt
  have hgb : b < w.heap.size := h.lt
  have cH : ∀ w1, PB w1 g b s.ts V s.o → _ := fun w1 h1 => pHere_any h1 hn
  have HL : (wbox w).heap.size = w.heap.size + 1 := by simp
  by_cases hx : (Gm.hd s).k = k
  · have hN : Gm.needK k s = .ok (Gm.hd s, Gm.cut s) := by simp only [Gm.needK, if_pos hx]
    have cN : ∀ w1, PB w1 g b s.ts V s.o → _ := fun w1 h1 => pNext_any h1 hn (by omega)
    generalize Gm.hd s = t at *
    obtain ⟨tk, tx, tn, tf, tp⟩ := t
    simp only at hx
    subst hx
    clear h
    go_enter Tryz.func37, Tryz.ntmps37
    go_wp2_with (first
      | (go_at_call 32; refine (cH _ HP.out).mono ?_; rintro e w1 ⟨rfl, hb1⟩; have HB1 := hidb hb1; have HX1 := hidb ((wbox_box w).keep hb1))
      | (go_at_call 36; refine (cN _ (HP.out.keep HB1.out)).mono ?_; rintro e w2 ⟨rfl, hp2, hb2⟩; have HP2 := hidb hp2; have HB2 := hidb hb2; obtain ⟨d0, d1, d2, d3, d4, g0, g1, g2, g3, g4, _⟩ := HX1.out.but hb2 (by omega)))
    refine bodyPost_ret (v := Tk.val ⟨tk, tx, tn, tf, tp⟩) (by simp [results, Tryz.results37, go_sem, d0, d1, d2, d3, d4]) rfl (.inr ⟨_, _, hN, rfl, ?_, ?_⟩)
    · exact HP2.out.but ((But.refl (· = w.heap.size) w2).set5 (fun _ => rfl) _ _ _ _ _) (by omega) (by omega)
    · exact (((But.of_below (wbox_below w)).trans (But.of_below HB1.out)).trans HB2.out).set5 (fun h => absurd h (Nat.lt_irrefl _)) _ _ _ _ _
  · have hN : Gm.needK k s = .error (24, (Gm.hd s).p) := by simp only [Gm.needK, if_neg hx]
    have cG : ∀ w1, PB w1 g b s.ts V s.o → _ := fun w1 h1 => pGiveUp_any 24 h1 hn
    clear h
    go_enter Tryz.func37, Tryz.ntmps37
    go_wp2_with (first
      | (go_at_call 32; refine (cH _ HP.out).mono ?_; rintro e w1 ⟨rfl, hb1⟩; have HB1 := hidb hb1)
      | (go_at_call 35; refine (cG _ (HP.out.keep HB1.out)).mono ?_; rintro e w2 ⟨rfl, hb2⟩))
    exact ⟨rfl, .inl ⟨24, _, hN, rfl, ((But.of_below (wbox_below w)).trans (But.of_below HB1.out)).trans (But.of_below hb2)⟩⟩
end Go.Proofs.YtdpfmmbfidknfaaGreatDoor


/- The parser's nodes in memory; lay. -/
namespace Go.Proofs.YtdpfmmbfidknfaaGreatDoor
open Go.RowKit Go.Lib
attribute [local go_sem] store_float f64bits
attribute [local go_sem ↓] Go.wp_at_zero Go.wp_at_succ

abbrev NT : Nat := 34
def Nd.cells (n : Nd) (v : Value) : List Value := [.int .i64 n.k, .string n.x, .int .i64 n.n, .float .f64 n.f, v, .int .i64 (n.p : Int)]
def ndCells : List Nd → List Value → List Value
  | n :: r, v :: vs => n.cells v ++ ndCells r vs
  | _, _ => []

theorem ndCells_length : ∀ (l : List Nd) (vs : List Value), vs.length = l.length → (ndCells l vs).length = l.length * 6
  | [], _, _ => by simp [ndCells]
  | _ :: _, [], h => by simp at h
  | _ :: r, _ :: vs, h => by
    have := ndCells_length r vs (by simpa using h)
    simp only [ndCells, List.length_append, this, Nd.cells, List.length_cons, List.length_nil]
    omega
theorem ndCells_snoc : ∀ (l : List Nd) (vs : List Value) (n : Nd) (v : Value), vs.length = l.length → ndCells (l ++ [n]) (vs ++ [v]) = ndCells l vs ++ n.cells v
  | [], [], n, v, _ => by simp [ndCells]
  | [], _ :: _, _, _, h => by simp at h
  | _ :: _, [], _, _, h => by simp at h
  | _ :: r, _ :: vs, n, v, h => by
    simp only [List.cons_append, ndCells, ndCells_snoc r vs n v (by simpa using h), List.append_assoc]

/-- A row of places in memory. -/
def LRow (w : World) (v : Value) (l : List Nat) : Prop :=
  (v = .slice none 0 0 ∧ l = []) ∨ ∃ b cap, v = .slice (some ⟨b, 0, none⟩) l.length cap ∧ b < w.heap.size ∧ ∀ (j n : Nat), l[j]? = some n → w.cell? ⟨b, j, none⟩ = some (.int .i64 (n : Int))

theorem LRow.but {S : Nat → Prop} {w w' : World} {v : Value} {l : List Nat} (h : LRow w v l) (hb : But S w w') (hs : ∀ k, v.ownBlock = some k → ¬ S k) : LRow w' v l := by
  rcases h with h | ⟨b, cap, rfl, hl, hc⟩
  · exact .inl h
  · exact .inr ⟨b, cap, rfl, Nat.lt_of_lt_of_le hl hb.size, fun j n hj => (hb.cell (p := ⟨b, j, none⟩) hl (hs b rfl)).trans (hc j n hj)⟩
theorem LRow.lt {w : World} {v : Value} {l : List Nat} (h : LRow w v l) : ∀ k, v.ownBlock = some k → k < w.heap.size := by
  intro k hk
  rcases h with ⟨rfl, _⟩ | ⟨b, cap, rfl, hl, _⟩
  · simp [Value.ownBlock] at hk
  · simp [Value.ownBlock] at hk; omega

/-- The nodes that are laid: their row is V, of the call's own memory (from B on), and no node's row lies in its block or in the parser's. -/
structure NS (w : World) (B g b : Nat) (P : Nat → Prop) (V : Value) (ns : List Nd) : Prop where
  ex : ∃ vs : List Value, vs.length = ns.length ∧ w.ownsRow B NT 6 V ns.length (ndCells ns vs) ∧
    ∀ (i : Nat) (n : Nd) (v : Value), ns[i]? = some n → vs[i]? = some v → LRow w v n.l ∧ v.ownBlock ≠ some g ∧ ∀ k, v.ownBlock = some k → V.ownBlock ≠ some k ∧ ¬ P k
  ng : V.ownBlock ≠ some g
  nb : V.ownBlock ≠ some b
  few : ns.length ≤ 16384

variable {P : Nat → Prop}
theorem NS.but {S : Nat → Prop} {w w' : World} {B g b : Nat} {V : Value} {ns : List Nd} (h : NS w B g b P V ns) (hb : But S w w') (hV : ∀ k, V.ownBlock = some k → ¬ S k) (hs : ∀ k, S k → k = g ∨ w.heap.size ≤ k ∨ P k) : NS w' B g b P V ns := by
  obtain ⟨⟨vs, hl, ho, hr⟩, h1, h2, h3⟩ := h
  refine ⟨⟨vs, hl, ?_, fun i n v hi hv => ?_⟩, h1, h2, h3⟩
  · refine ⟨ho.1, ?_⟩
    rcases ho.2 with hn | ⟨q, cap, cur, rfl, hB, hq, rest⟩
    · exact .inl hn
    · exact .inr ⟨q, cap, cur, rfl, hB, (hb.block q (Array.getElem?_eq_some_iff.1 hq).1 (hV q rfl)).trans hq, rest⟩
  · obtain ⟨a1, a2, a3⟩ := hr i n v hi hv
    refine ⟨a1.but hb fun k hk hS => ?_, a2, a3⟩
    rcases hs k hS with rfl | hS | hS
    · exact a2 hk
    · have := a1.lt k hk; omega
    · exact (a3 k hk).2 hS

/-- What a step of the parser has done: it gave up with the grammar's fault, or it told what the grammar tells, and memory holds the state behind it. -/
def Tell {α : Type} (w : World) (B g b : Nat) (P : Nat → Prop) (V : Value) (r : Except (Int × Nat) (α × PS)) (val : α → Value) (e : Ending) (w' : World) : Prop :=
  (∃ er p, r = .error (er, p) ∧ e = gaveUp er p ∧ But (fun k => k = g ∨ V.ownBlock = some k) w w') ∨
  (∃ x s' V', r = .ok (x, s') ∧ e = .returned (val x) ∧ PB w' g b s'.ts V' s'.o ∧ NS w' B g b P V' s'.ns ∧ But (fun k => k = g ∨ V.ownBlock = some k) w w' ∧ (V'.ownBlock = V.ownBlock ∨ ∀ k, V'.ownBlock = some k → w.heap.size ≤ k))

/-- One step, and another one behind it. -/
theorem but_then {w w1 w2 : World} {g : Nat} {V V1 : Value} (h : But (fun k => k = g ∨ V.ownBlock = some k) w w1) (hV : V1.ownBlock = V.ownBlock ∨ ∀ k, V1.ownBlock = some k → w.heap.size ≤ k) (h' : But (fun k => k = g ∨ V1.ownBlock = some k) w1 w2) :
    But (fun k => k = g ∨ V.ownBlock = some k) w w2 := by
  refine ⟨h'.os.trans h.os, h'.tape.trans h.tape, h'.output.trans h.output, Nat.le_trans h.size h'.size, fun k hk hs => ?_⟩
  refine (h'.block k (Nat.lt_of_lt_of_le hk h.size) ?_).trans (h.block k hk hs)
  rintro (rfl | h1)
  · exact hs (.inl rfl)
  · rcases hV with e | e
    · exact hs (.inr (e ▸ h1))
    · have := e k h1; omega
theorem own_then {w w1 : World} {V V1 V2 : Value} (hs : w.heap.size ≤ w1.heap.size) (hV : V1.ownBlock = V.ownBlock ∨ ∀ k, V1.ownBlock = some k → w.heap.size ≤ k) (hV' : V2.ownBlock = V1.ownBlock ∨ ∀ k, V2.ownBlock = some k → w1.heap.size ≤ k) :
    V2.ownBlock = V.ownBlock ∨ ∀ k, V2.ownBlock = some k → w.heap.size ≤ k := by
  rcases hV' with e | e
  · rcases hV with e2 | e2
    · exact .inl (e.trans e2)
    · exact .inr fun k hk => e2 k (e ▸ hk)
  · exact .inr fun k hk => Nat.le_trans hs (e k hk)
theorem Tell.from {α : Type} {w w1 w' : World} {B g b : Nat} {V V1 : Value} {r : Except (Int × Nat) (α × PS)} {val : α → Value} {e : Ending} (h : But (fun k => k = g ∨ V.ownBlock = some k) w w1) (hV : V1.ownBlock = V.ownBlock ∨ ∀ k, V1.ownBlock = some k → w.heap.size ≤ k)
    (ht : Tell w1 B g b P V1 r val e w') : Tell w B g b P V r val e w' := by
  rcases ht with ⟨er, p, h1, h2, h3⟩ | ⟨x, s', V', h1, h2, h3, h4, h5, h6⟩
  · exact .inl ⟨er, p, h1, h2, but_then h hV h3⟩
  · exact .inr ⟨x, s', V', h1, h2, h3, h4, but_then h hV h5, own_then h.size hV h6⟩

theorem nd_p (k n p : Int) (x : ByteArray) (f : Nat) (v : Value) (w : World) : (Instr.field NT (.agg #[.int .i64 k, .string x, .int .i64 n, .float .f64 f, v, .int .i64 p]) 5).run Tryz.prog w = .ok (.int .i64 p) w := by kernel_rfl
attribute [local go_sem] nd_p tk_k tk_x tk_n tk_f tk_p

theorem grown_but {X w' : World} {row : Option Nat} (h : X.grownBy w' row) : But (fun k => row = some k) X w' := ⟨h.os, h.tape, h.output, h.size, fun k hk hs => h.block k hk (fun e => hs e.symm)⟩

theorem step_app6 {ops : Array Oper} {o : Oper} {a : Act} {w : World} {K : Act → World → Prop} {Q : Exit → Act → World → Prop} {E : Prop} (hg : o.guard = none) (s x : Operand)
    (hop : o.op = Op.call { callee := .builtin .append, args := #[s, x], argTypes := #[23, 23] }) (base : Nat) (v : Value) (n : Nat) (xs : List Value) (hs : a.eval s = v) (how : w.ownsRow base NT 6 v n xs)
    (ad : Addr) (news : List Value) (hl : news.length = 6) (hx : a.eval x = .slice (some ad) 1 1) (hc : ∀ j u, news[j]? = some u → w.cell? (ad.add j) = some u) (h1 : ∀ u ∈ news, u.oneCell' = true) (z1 : n + 1 ≤ maxLen) (z2 : (n + 1) * 72 ≤ 140737488355328) (hb : base ≤ w.heap.size)
    (h : ∀ g cap w', w'.ownsRow base NT 6 (.slice (some ⟨g, 0, none⟩) (n + 1) cap) (n + 1) (xs ++ news) → w.grownBy w' v.ownBlock → (v.ownBlock = some g ∨ g = w.heap.size) → K (a.put o.dst (.slice (some ⟨g, 0, none⟩) (n + 1) cap)) w') :
    if Region.wanted o (yielded ops a.tmps) = true then Oper.wp Tryz.prog o a w K Q else E := by
  obtain ⟨i0, hi, hz0, hz1, hz2⟩ := info_parts (P := Tryz.prog) (e := NT) (z := .agg #[.int .i64 0, .string ⟨#[]⟩, .int .i64 0, .float .f64 0, .slice none 0 0, .int .i64 0]) (size := 6) (bytes := 72) (by kernel_rfl)
  exact step_append_lies w hg s x 23 hop base NT i0 (.agg #[.int .i64 0, .string ⟨#[]⟩, .int .i64 0, .float .f64 0, .slice none 0 0, .int .i64 0]) 6 72 Tryz.underlying23 hi hz0 hz1 hz2 rfl (by decide) v n xs hs how ad 1 1 news hx (by omega)
    hc h1 (by decide) z1 z2 hb _ rfl (fun g cap w' h2 h3 h4 _ => h g cap w' h2 h3 h4)

theorem row_but {S : Nat → Prop} {w w' : World} {B e size n : Nat} {V : Value} {xs : List Value} (h : w.ownsRow B e size V n xs) (hb : But S w w') (hV : ∀ k, V.ownBlock = some k → ¬ S k) : w'.ownsRow B e size V n xs := by
  refine ⟨h.1, ?_⟩
  rcases h.2 with hn | ⟨q, cap, cur, rfl, hB, hq, rest⟩
  · exact .inl hn
  · exact .inr ⟨q, cap, cur, rfl, hB, (hb.block q (Array.getElem?_eq_some_iff.1 hq).1 (hV q rfl)).trans hq, rest⟩

theorem lay_done {w X w3 : World} {B g b i cap gq cq o N : Nat} {ts : List Tk} {ns : List Nd} {vs : List Value} {n : Nd} {v V : Value} (hX : Below w.heap.size w X) (hg : g < w.heap.size) (hne : b ≠ g) (hlt : b < w.heap.size) (hcap : ts.length ≤ cap) (hts : Tks w b i ts)
    (hT : Tri w3 g (.slice (some ⟨b, i, none⟩) ts.length cap) V (.int .i64 (o : Int))) (hG : X.grownBy w3 V.ownBlock) (hN : ns.length = N) (hfew : ns.length + 1 ≤ 16384) (hvl : vs.length = ns.length) (hO : w3.ownsRow B NT 6 (.slice (some ⟨gq, 0, none⟩) (N + 1) cq) (N + 1) (ndCells ns vs ++ n.cells v)) (hA : V.ownBlock = some gq ∨ gq = X.heap.size)
    (hVg : V.ownBlock ≠ some g) (hVb : V.ownBlock ≠ some b) (hr : ∀ (i : Nat) (n : Nd) (v : Value), ns[i]? = some n → vs[i]? = some v → LRow w v n.l ∧ v.ownBlock ≠ some g ∧ ∀ k, v.ownBlock = some k → V.ownBlock ≠ some k ∧ ¬ P k)
    (hv : LRow w v n.l) (hvg : v.ownBlock ≠ some g) (hvV : ∀ k, v.ownBlock = some k → V.ownBlock ≠ some k ∧ ¬ P k) :
    PB (w3.setCell ⟨g, 1, none⟩ (.slice (some ⟨gq, 0, none⟩) (N + 1) cq)) g b ts (.slice (some ⟨gq, 0, none⟩) (N + 1) cq) o ∧ NS (w3.setCell ⟨g, 1, none⟩ (.slice (some ⟨gq, 0, none⟩) (N + 1) cq)) B g b P (.slice (some ⟨gq, 0, none⟩) (N + 1) cq) (ns ++ [n]) ∧
      But (fun k => k = g ∨ V.ownBlock = some k) w (w3.setCell ⟨g, 1, none⟩ (.slice (some ⟨gq, 0, none⟩) (N + 1) cq)) ∧ ((Value.slice (some ⟨gq, 0, none⟩) (N + 1) cq).ownBlock = V.ownBlock ∨ ∀ k, (Value.slice (some ⟨gq, 0, none⟩) (N + 1) cq).ownBlock = some k → w.heap.size ≤ k) := by
  have hXs := hX.size
  have hB3 : But (fun k => V.ownBlock = some k) w w3 := (But.of_below hX).trans (grown_but hG)
  have hB4 : But (fun k => k = g ∨ V.ownBlock = some k) w (w3.setCell ⟨g, 1, none⟩ (.slice (some ⟨gq, 0, none⟩) (N + 1) cq)) := (hB3.mono (fun k _ h => .inr h)).setCell (fun _ => .inl rfl) _
  have hgq : gq ≠ g := by
    rintro rfl
    rcases hA with h | h
    · exact hVg h
    · omega
  have hgb : gq ≠ b := by
    rintro rfl
    rcases hA with h | h
    · exact hVb h
    · omega
  have hin : ∀ (u : Value) (l : List Nat), LRow w u l → u.ownBlock ≠ some g → (∀ k, u.ownBlock = some k → V.ownBlock ≠ some k ∧ ¬ P k) → LRow (w3.setCell ⟨g, 1, none⟩ (.slice (some ⟨gq, 0, none⟩) (N + 1) cq)) u l ∧ u.ownBlock ≠ some g ∧ ∀ k, u.ownBlock = some k → (Value.slice (some ⟨gq, 0, none⟩) (N + 1) cq).ownBlock ≠ some k ∧ ¬ P k := by
    intro u l h1 h2 h3
    refine ⟨h1.but hB4 ?_, h2, ?_⟩
    · rintro k hk (rfl | hS)
      · exact h2 hk
      · exact (h3 k hk).1 hS
    · intro k hk
      refine ⟨fun he => ?_, (h3 k hk).2⟩
      have he2 : gq = k := by simpa [Value.ownBlock] using he
      rcases hA with h | h
      · exact (h3 k hk).1 (he2 ▸ h)
      · have := h1.lt k hk; omega
  refine ⟨⟨⟨i, cap, hT.set1 _, hcap, hts.but hB4 hlt ?_⟩, hne, Nat.lt_of_lt_of_le hlt hB4.size⟩, ⟨⟨vs ++ [v], by simp [hvl], ?_, ?_⟩, ?_, ?_, by simpa using hfew⟩, hB4, ?_⟩
  · rintro (h | h)
    · exact hne h
    · exact hVb h
  · have := row_but hO ((But.refl (· = g) w3).setCell (p := ⟨g, 1, none⟩) (fun _ => rfl) (.slice (some ⟨gq, 0, none⟩) (N + 1) cq)) (fun k hk => by simp [Value.ownBlock] at hk; omega)
    rw [ndCells_snoc ns vs n v hvl]
    simpa [hN] using this
  · intro j m u hm hu
    by_cases hj : j < ns.length
    · rw [List.getElem?_append_left hj] at hm
      rw [List.getElem?_append_left (by omega)] at hu
      obtain ⟨a1, a2, a3⟩ := hr j m u hm hu
      exact hin u _ a1 a2 a3
    · rw [List.getElem?_append_right (by omega)] at hm
      rw [List.getElem?_append_right (by omega)] at hu
      have hj0 : j - ns.length = 0 := by
        cases hd : j - ns.length with
        | zero => rfl
        | succ d => simp [hd] at hm
      rw [hvl] at hu
      simp [hj0] at hm hu
      subst hm hu
      exact hin v _ hv hvg hvV
  · simp [Value.ownBlock, hgq]
  · simp [Value.ownBlock, hgb]
  · rcases hA with h | h
    · exact .inl h.symm
    · exact .inr fun k hk => by simp [Value.ownBlock] at hk; omega

set_option maxHeartbeats 2000000 in
set_option maxRecDepth 100000 in
theorem pLay_any (n : Nd) (v : Value) {w : World} {B g b : Nat} {s : PS} {V : Value} (h : PB w g b s.ts V s.o) (hN : NS w B g b P V s.ns) (hB : B ≤ w.heap.size) (hv : LRow w v n.l) (hvg : v.ownBlock ≠ some g) (hvV : ∀ k, v.ownBlock = some k → V.ownBlock ≠ some k ∧ ¬ P k) :
    Calls Tryz.prog 39 #[.pointer (some ⟨g, 0, none⟩), .agg #[.int .i64 n.k, .string n.x, .int .i64 n.n, .float .f64 n.f, v, .int .i64 (n.p : Int)]] w fun e w' =>
      Tell w B g b P V (Gm.lay n s) (fun x => .int .i64 (x : Int)) e w' := by
  obtain ⟨⟨i, cap, hT, hcap, hts⟩, hne, hlt⟩ := h
  obtain ⟨⟨vs, hvl, ho, hr⟩, hVg, hVb, hlen⟩ := hN
  have c1 := hT.c1; have f1 := hT.f1; have hg := hT.lt
  by_cases hm : s.ns.length = 16384
  · have hL : Gm.lay n s = .error (2, n.p) := by simp only [Gm.lay, if_pos hm]
    have hVs : ∃ q cap, V = .slice q 16384 cap := by
      rcases ho.2 with ⟨_, h0⟩ | ⟨q, cap, cur, rfl, _⟩
      · omega
      · exact ⟨_, _, by rw [hm]⟩
    obtain ⟨q, cap, rfl⟩ := hVs
    clear hT hts ho hr hv hvV hVg hVb hm hvl hlen
    go_enter Tryz.func39, Tryz.ntmps39
    go_wp2_with (go_at_call 52; refine (pGiveUpAt_any _ _ _).mono ?_; rintro e w2 ⟨rfl, hb2⟩)
    exact ⟨rfl, .inl ⟨2, _, hL, rfl, (But.of_below (below_new w _)).trans (But.of_below hb2)⟩⟩
  · have hL : Gm.lay n s = .ok (s.ns.length, { s with ns := s.ns ++ [n] }) := by simp only [Gm.lay, if_neg hm]
    obtain ⟨q, cap', hVs⟩ : ∃ q cap, V = .slice q s.ns.length cap := by
      rcases ho.2 with ⟨h0, h1⟩ | ⟨q, cap, cur, h0, _⟩
      · exact ⟨none, 0, by rw [h0, h1]⟩
      · exact ⟨_, _, h0⟩
    obtain ⟨N, hNN⟩ : ∃ N, s.ns.length = N := ⟨_, rfl⟩
    have hm1 : ((N : Nat) : Int) ≠ 16384 := by omega
    rw [hNN] at hVs
    subst hVs
    have HO := hidb ho
    have HR := hidb hr
    have HT := hidb hT
    have HS := hidb hts
    have HV := hidb hv
    clear hT hts ho hr hv hm
    have hX1 : ∀ o1 o2 : Obj, Below w.heap.size w ((w.alloc o1).alloc o2).drew := fun o1 o2 => Below.drew (((Below.refl _ w).alloc (Nat.le_refl _) o1).alloc (by simp) o2)
    have HT2 := hidb (HT.out.keep (hX1 (Obj.cells #[.int .i64 n.k, .string n.x, .int .i64 n.n, .float .f64 n.f, v, .int .i64 (n.p : Int)] NT) (Obj.cells #[.int .i64 n.k, .string n.x, .int .i64 n.n, .float .f64 n.f, v, .int .i64 (n.p : Int)] NT)))
    have ow : (((w.alloc (Obj.cells #[.int .i64 n.k, .string n.x, .int .i64 n.n, .float .f64 n.f, v, .int .i64 (n.p : Int)] NT)).alloc (Obj.cells #[.int .i64 n.k, .string n.x, .int .i64 n.n, .float .f64 n.f, v, .int .i64 (n.p : Int)] NT)).drew).ownsRow B NT 6 (.slice q N cap') N (ndCells s.ns vs) := by
      have := ((HO.out.alloc (Obj.cells #[.int .i64 n.k, .string n.x, .int .i64 n.n, .float .f64 n.f, v, .int .i64 (n.p : Int)] NT)).alloc (Obj.cells #[.int .i64 n.k, .string n.x, .int .i64 n.n, .float .f64 n.f, v, .int .i64 (n.p : Int)] NT)).drew
      rw [hNN] at this
      exact this
    have nw : ∀ j u, (n.cells v)[j]? = some u → (((w.alloc (Obj.cells #[.int .i64 n.k, .string n.x, .int .i64 n.n, .float .f64 n.f, v, .int .i64 (n.p : Int)] NT)).alloc (Obj.cells #[.int .i64 n.k, .string n.x, .int .i64 n.n, .float .f64 n.f, v, .int .i64 (n.p : Int)] NT)).drew).cell? ((⟨w.heap.size + 1, 0, none⟩ : Addr).add j) = some u := by
      have e1 : (w.alloc (Obj.cells #[.int .i64 n.k, .string n.x, .int .i64 n.n, .float .f64 n.f, v, .int .i64 (n.p : Int)] NT)).heap.size = w.heap.size + 1 := by simp
      intro j y hj
      rw [← e1]
      match j, hj with
      | 0, hj => simp [Nd.cells] at hj; subst hj; simp [Addr.add]
      | 1, hj => simp [Nd.cells] at hj; subst hj; simp [Addr.add]
      | 2, hj => simp [Nd.cells] at hj; subst hj; simp [Addr.add]
      | 3, hj => simp [Nd.cells] at hj; subst hj; simp [Addr.add]
      | 4, hj => simp [Nd.cells] at hj; subst hj; simp [Addr.add]
      | 5, hj => simp [Nd.cells] at hj; subst hj; simp [Addr.add]
      | j + 6, hj => simp [Nd.cells] at hj
    have h1c : ∀ u ∈ n.cells v, u.oneCell' = true := by
      intro y hy
      simp only [Nd.cells, List.mem_cons, List.not_mem_nil, or_false] at hy
      rcases hy with rfl | rfl | rfl | rfl | rfl | rfl
      · rfl
      · rfl
      · rfl
      · rfl
      · rcases HV.out with ⟨rfl, _⟩ | ⟨_, _, rfl, _⟩ <;> rfl
      · rfl
    have z1 : N + 1 ≤ maxLen := by unfold maxLen; omega
    have z2 : (N + 1) * 72 ≤ 140737488355328 := by omega
    have z4 : B ≤ (((w.alloc (Obj.cells #[.int .i64 n.k, .string n.x, .int .i64 n.n, .float .f64 n.f, v, .int .i64 (n.p : Int)] NT)).alloc (Obj.cells #[.int .i64 n.k, .string n.x, .int .i64 n.n, .float .f64 n.f, v, .int .i64 (n.p : Int)] NT)).drew).heap.size := by simp; omega
    have hsl : (n.cells v).length = 6 := rfl
    go_enter Tryz.func39, Tryz.ntmps39
    go_wp2_with fail
    go_region_law (first
      | (refine step_app6 rfl (.tmp 18) (.tmp 20) rfl B (.slice q N cap') N (ndCells s.ns vs) rfl ow ⟨w.heap.size + 1, 0, none⟩ (n.cells v) hsl rfl nw h1c z1 z2 z4 ?_; intro gq cq w3 hown' hgrow hat; have HT3 := hidb (HT2.out.but (grown_but hgrow) hVg); have d1 := HT3.out.c1; have e1 := HT3.out.f1; have HG := hidb hgrow; have HO3 := hidb hown'; have HA := hidb hat; clear hgrow hown' hat))
    all_goals (
      obtain ⟨k1, k2, k3, k4⟩ := lay_done (hX1 _ _) hg hne hlt hcap HS.out HT3.out HG.out hNN (by omega) hvl HO3.out HA.out hVg hVb HR.out HV.out hvg hvV
      have k0 : (w3.setCell ⟨g, 1, none⟩ (.slice (some ⟨gq, 0, none⟩) (N + 1) cq)).cell? ⟨g, 1, none⟩ = some (.slice (some ⟨gq, 0, none⟩) (N + 1) cq) := World.cell?_setCell_same _ _ _ d1
      have hw : IntKind.i64.wrap (((N + 1 : Nat) : Int) - 1) = (N : Int) := by rw [IntKind.wrap_i64]; omega
      have K1 := hidb k1
      have K2 := hidb k2
      have K3 := hidb k3
      have K4 := hidb k4
      clear k1 k2 k3 k4 HT HT2 HT3 HG HO HO3 HR HS HV ow nw
      go_wp2_with fail
      exact bodyPost_ret (v := .int .i64 (N : Int)) (by simp [results, Tryz.results39, go_sem]) rfl (.inr ⟨N, { s with ns := s.ns ++ [n] }, _, by rw [hL, hNN], rfl, K1.out, K2.out, K3.out, K4.out⟩))

set_option maxHeartbeats 1000000 in
set_option maxRecDepth 100000 in
theorem pLayNone_any (k : Int) {w : World} {B g b : Nat} {s : PS} {V : Value} (h : PB w g b s.ts V s.o) (hN : NS w B g b P V s.ns) (hn : Ne s) (hB : B ≤ w.heap.size) :
    Calls Tryz.prog 82 #[.pointer (some ⟨g, 0, none⟩), .int .i64 k] w fun e w' => Tell w B g b P V (Gm.layNone k s) (fun x => .int .i64 (x : Int)) e w' := by
  have cH := pHere_any h hn
  have hL : Gm.layNone k s = Gm.lay ⟨k, ⟨#[]⟩, 0, 0, [], (Gm.hd s).p⟩ s := rfl
  have hlt := hN.ex
  have cL : ∀ w1, Below w.heap.size w w1 → _ := fun w1 hb => pLay_any ⟨k, ⟨#[]⟩, 0, 0, [], (Gm.hd s).p⟩ (.slice none 0 0) (h.keep hb) (hN.but (But.of_below (S := fun _ => False) hb) (fun _ _ h => h) (fun _ h => h.elim)) (Nat.le_trans hB hb.size) (.inl ⟨rfl, rfl⟩) (by simp [Value.ownBlock]) (by simp [Value.ownBlock])
  rw [hL]
  generalize Gm.hd s = t at *
  clear h hn hN hL hlt
  go_enter Tryz.func82, Tryz.ntmps82
  go_wp2_with (first
    | (go_at_call 32; refine cH.mono ?_; rintro e w1 ⟨rfl, hb1⟩; have HB1 := hidb hb1)
    | (go_at_call 39; refine (cL _ HB1.out).mono ?_; rintro e w2 (⟨er, p, hr, rfl, hbu⟩ | ⟨x, s', V', hr, rfl, h3, h4, h5, h6⟩)))
  · exact ⟨rfl, .inl ⟨er, p, hr, rfl, but_then (But.of_below HB1.out) (.inl rfl) hbu⟩⟩
  · exact bodyPost_ret (v := .int .i64 (x : Int)) (by simp [results, Tryz.results82, go_sem]) rfl (Tell.from (But.of_below HB1.out) (.inl rfl) (.inr ⟨x, s', V', hr, rfl, h3, h4, h5, h6⟩))
end Go.Proofs.YtdpfmmbfidknfaaGreatDoor


