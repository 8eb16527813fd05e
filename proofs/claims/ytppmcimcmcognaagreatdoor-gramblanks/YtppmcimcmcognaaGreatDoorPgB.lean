import Derived.Test.YtppmcimcmcognaaGreatDoorPgA
import Derived.Test.YtppmcimcmcognaaGreatDoorG01
import Derived.Lib.OthersKept
import Derived.Deep.LoopGhost
import Derived.Deep.DeepMust
import Derived.RegionTactic
import Derived.Deep.RegionHeld3
import Derived.Deep.DrawnRows
import Derived.Shelf.Abstract
import Derived.WalkLawsBesides
/- The parser's state in memory, and its smallest steps. -/
namespace Go.Proofs.YtppmcimcmcognaaGreatDoor
open Go.RowKit Go.Lib
attribute [local go_sem] store_float f64bits
attribute [local go_sem ↓] Go.wp_at_zero Go.wp_at_succ

abbrev Tk.val (t : Tk) : Value := .agg #[.int .i64 t.k, .string t.x, .int .i64 t.n, .float .f64 t.f, .int .i64 (t.p : Int)]
def Tk.row (t : Tk) : List Value := [.int .i64 t.k, .string t.x, .int .i64 t.n, .float .f64 t.f, .int .i64 (t.p : Int)]

theorem tk_k (k n p : Int) (x : ByteArray) (f : Nat) (w : World) : (Instr.field 41 (.agg #[.int .i64 k, .string x, .int .i64 n, .float .f64 f, .int .i64 p]) 0).run Tryz.prog w = .ok (.int .i64 k) w := by kernel_rfl
theorem tk_x (k n p : Int) (x : ByteArray) (f : Nat) (w : World) : (Instr.field 41 (.agg #[.int .i64 k, .string x, .int .i64 n, .float .f64 f, .int .i64 p]) 1).run Tryz.prog w = .ok (.string x) w := by kernel_rfl
theorem tk_n (k n p : Int) (x : ByteArray) (f : Nat) (w : World) : (Instr.field 41 (.agg #[.int .i64 k, .string x, .int .i64 n, .float .f64 f, .int .i64 p]) 2).run Tryz.prog w = .ok (.int .i64 n) w := by kernel_rfl
theorem tk_f (k n p : Int) (x : ByteArray) (f : Nat) (w : World) : (Instr.field 41 (.agg #[.int .i64 k, .string x, .int .i64 n, .float .f64 f, .int .i64 p]) 3).run Tryz.prog w = .ok (.float .f64 f) w := by kernel_rfl
theorem tk_p (k n p : Int) (x : ByteArray) (f : Nat) (w : World) : (Instr.field 41 (.agg #[.int .i64 k, .string x, .int .i64 n, .float .f64 f, .int .i64 p]) 4).run Tryz.prog w = .ok (.int .i64 p) w := by kernel_rfl
attribute [local go_sem] tk_k tk_x tk_n tk_f tk_p
/-- Tokens that lie in a block from a cell on. -/
def Tks (w : World) (b : Nat) : Nat → List Tk → Prop
  | _, [] => True
  | i, t :: r => (w.cell? ⟨b, i, none⟩ = some (.int .i64 t.k) ∧ w.cell? ⟨b, i + 1, none⟩ = some (.string t.x) ∧ w.cell? ⟨b, i + 2, none⟩ = some (.int .i64 t.n) ∧ w.cell? ⟨b, i + 3, none⟩ = some (.float .f64 t.f) ∧ w.cell? ⟨b, i + 4, none⟩ = some (.int .i64 (t.p : Int))) ∧ Tks w b (i + 5) r

theorem Tks.but {S : Nat → Prop} {w w' : World} {b : Nat} (hb : But S w w') (hl : b < w.heap.size) (hs : ¬ S b) : ∀ {i : Nat} {l : List Tk}, Tks w b i l → Tks w' b i l
  | _, [], _ => trivial
  | i, _ :: _, ⟨⟨h0, h1, h2, h3, h4⟩, hr⟩ =>
    ⟨⟨(hb.cell (p := ⟨b, i, none⟩) hl hs).trans h0, (hb.cell (p := ⟨b, i + 1, none⟩) hl hs).trans h1, (hb.cell (p := ⟨b, i + 2, none⟩) hl hs).trans h2, (hb.cell (p := ⟨b, i + 3, none⟩) hl hs).trans h3, (hb.cell (p := ⟨b, i + 4, none⟩) hl hs).trans h4⟩, Tks.but hb hl hs hr⟩

/-- The parser's box: the tokens that are left lie in block b from cell i on. -/
structure PB (w : World) (g b : Nat) (ts : List Tk) (V : Value) (o : Nat) : Prop where
  ex : ∃ i cap, Tri w g (.slice (some ⟨b, i, none⟩) ts.length cap) V (.int .i64 (o : Int)) ∧ ts.length ≤ cap ∧ Tks w b i ts
  ne : b ≠ g
  lt : b < w.heap.size

theorem PB.but {S : Nat → Prop} {w w' : World} {g b o : Nat} {ts : List Tk} {V : Value} (h : PB w g b ts V o) (hb : But S w w') (h1 : ¬ S g) (h2 : ¬ S b) : PB w' g b ts V o := by
  obtain ⟨⟨i, cap, hT, hc, hts⟩, hne, hlt⟩ := h
  exact ⟨⟨i, cap, hT.but hb h1, hc, hts.but hb hlt h2⟩, hne, Nat.lt_of_lt_of_le hlt hb.size⟩
theorem PB.keep {w w' : World} {g b o : Nat} {ts : List Tk} {V : Value} (h : PB w g b ts V o) (hb : Below w.heap.size w w') : PB w' g b ts V o :=
  h.but (But.of_below (S := fun _ => False) hb) (fun h => h) (fun h => h)
theorem PB.glt {w : World} {g b o : Nat} {ts : List Tk} {V : Value} (h : PB w g b ts V o) : g < w.heap.size := by
  obtain ⟨⟨i, cap, hT, _⟩, _⟩ := h
  exact hT.lt

set_option maxHeartbeats 1000000 in
theorem pHere_any {w : World} {g b : Nat} {s : PS} {V : Value} (h : PB w g b s.ts V s.o) (hn : Ne s) :
    Calls Tryz.prog 46 #[.pointer (some ⟨g, 0, none⟩)] w fun e w' => e = .returned (Gm.hd s).val ∧ Below w.heap.size w w' := by
  obtain ⟨⟨i, cap, hT, hcap, hts⟩, hne, hlt⟩ := h
  obtain ⟨r, hr⟩ := Gm.ne_hd hn
  generalize Gm.hd s = t at hr ⊢
  rw [hr] at hts hT hcap
  obtain ⟨⟨h0, h1, h2, h3, h4⟩, -⟩ := hts
  obtain ⟨tk, tx, tn, tf, tp⟩ := t
  have c0 := hT.c0
  have hg := hT.lt
  obtain ⟨n, hl⟩ : ∃ n, (((⟨tk, tx, tn, tf, tp⟩ : Tk) :: r)).length = n + 1 := ⟨r.length, rfl⟩
  rw [hl] at c0
  have hl0 : (0 : Int) < ((n + 1 : Nat) : Int) := by omega
  clear hT hn hr hcap hl
  go_enter Tryz.func46, Tryz.ntmps46
  go_wp2_with fail
  exact bodyPost_ret (v := Tk.val ⟨tk, tx, tn, tf, tp⟩) (by simp [results, Tryz.results46, go_sem, Tk.val]) rfl ⟨rfl, (Below.refl _ _).alloc (Nat.le_refl _) _⟩

set_option maxHeartbeats 1000000 in
theorem pNext_any {w : World} {g b : Nat} {s : PS} {V : Value} (h : PB w g b s.ts V s.o) (hn : Ne s) (hk : (Gm.hd s).k ≠ 8) :
    Calls Tryz.prog 50 #[.pointer (some ⟨g, 0, none⟩)] w fun e w' => e = .returned (Gm.hd s).val ∧ PB w' g b (Gm.cut s).ts V s.o ∧ But (· = g) w w' := by
  obtain ⟨⟨i, cap, hT, hcap, hts⟩, hne, hlt⟩ := h
  obtain ⟨r, hr⟩ := Gm.ne_hd2 hn hk
  have hcut : (Gm.cut s).ts = Gm.hd2 s :: r := by simp [Gm.cut, hr]
  rw [hcut]
  clear hk
  generalize Gm.hd s = t at hr ⊢
  generalize Gm.hd2 s = t2 at hr ⊢
  rw [hr] at hts hT hcap
  obtain ⟨⟨h0, h1, h2, h3, h4⟩, hrest⟩ := hts
  obtain ⟨tk, tx, tn, tf, tp⟩ := t
  have c0 := hT.c0
  have f0 := hT.f0
  have hg := hT.lt
  obtain ⟨n, hl⟩ : ∃ n, (t2 :: r).length = n + 1 := ⟨_, rfl⟩
  have hl2 : (((⟨tk, tx, tn, tf, tp⟩ : Tk) :: t2 :: r)).length = n + 2 := by simp at hl ⊢; omega
  rw [hl2] at c0 hcap
  obtain ⟨c, rfl⟩ : ∃ c, cap = c + 2 := ⟨cap - 2, by omega⟩
  have hl0 : (0 : Int) < ((n + 2 : Nat) : Int) := by omega
  have hl1 : (1 : Int) ≤ ((n + 2 : Nat) : Int) := by omega
  have HT := hidb hT
  have HR := hidb hrest
  clear hT hn hr hcut hrest
  go_enter Tryz.func50, Tryz.ntmps50
  go_wp2_with fail
  refine bodyPost_ret (v := Tk.val ⟨tk, tx, tn, tf, tp⟩) (by simp [results, Tryz.results50, go_sem, Tk.val]) rfl ⟨rfl, ?_, ?_⟩
  · have hB : But (· = g) w (((w.setCell ⟨g, 0, none⟩ (.slice (some ⟨b, i + 5, none⟩) (n + 1) (c + 1))).alloc (Obj.cells #[.int .i64 tk, .string tx, .int .i64 tn, .float .f64 tf, .int .i64 (tp : Int)] 41)).alloc (Obj.cells #[.int .i64 tk, .string tx, .int .i64 tn, .float .f64 tf, .int .i64 (tp : Int)] 41)) :=
      ((But.setCell (But.refl (· = g) w) (p := ⟨g, 0, none⟩) (fun _ => rfl) _).alloc _).alloc _
    have hT2 := HT.out.set0 (.slice (some ⟨b, i + 5, none⟩) (n + 1) (c + 1))
    have hZ : ∀ o1 o2, Below (w.setCell ⟨g, 0, none⟩ (.slice (some ⟨b, i + 5, none⟩) (n + 1) (c + 1))).heap.size (w.setCell ⟨g, 0, none⟩ (.slice (some ⟨b, i + 5, none⟩) (n + 1) (c + 1))) (((w.setCell ⟨g, 0, none⟩ (.slice (some ⟨b, i + 5, none⟩) (n + 1) (c + 1))).alloc o1).alloc o2) := fun o1 o2 => ((Below.refl _ _).alloc (Nat.le_refl _) _).alloc (by simp) _
    refine ⟨⟨i + 5, c + 1, ?_, ?_, Tks.but hB hlt hne HR.out⟩, hne, Nat.lt_of_lt_of_le hlt hB.size⟩
    · rw [hl]; exact hT2.keep (hZ _ _)
    · rw [hl]; omega
  · exact ((But.setCell (But.refl (· = g) w) (p := ⟨g, 0, none⟩) (fun _ => rfl) _).alloc _).alloc _

theorem str_eq (a b : ByteArray) : (a.toList == b.toList) = decide (a = b) := by
  rw [ByteArray.toList_eq, ByteArray.toList_eq]
  by_cases h : a = b
  · subst h; simp
  · have : a.data ≠ b.data := fun e => h (by cases a; cases b; simp at e; simp [e])
    simp [h, this]

set_option maxHeartbeats 1000000 in
theorem pMark_any (t : Tk) (x : ByteArray) (w : World) : Calls Tryz.prog 113 #[t.val, .string x] w fun e w' => e = .returned (.bool (Gm.isM t x)) ∧ Below w.heap.size w w' := by
  obtain ⟨tk, tx, tn, tf, tp⟩ := t
  simp only [Tk.val, Gm.isM]
  go_enter Tryz.func113, Tryz.ntmps113
  go_wp2_with fail
  · rename_i h
    exact bodyPost_ret (v := .bool (tx.toList == x.toList)) (by simp [results, Tryz.results113, go_sem]) rfl ⟨by rw [str_eq]; simp [h], (Below.refl _ _).alloc (Nat.le_refl _) _⟩
  · rename_i h h'
    exact bodyPost_ret (v := .bool (tx.toList == x.toList)) (by simp [results, Tryz.results113, go_sem]) rfl ⟨by rw [str_eq]; simp [h'], (Below.refl _ _).alloc (Nat.le_refl _) _⟩
  · rename_i h h'
    exact bodyPost_ret (v := .bool false) (by simp [results, Tryz.results113, go_sem]) rfl ⟨by simp [h, h'], (Below.refl _ _).alloc (Nat.le_refl _) _⟩

set_option maxHeartbeats 1000000 in
theorem pAtom_any (t : Tk) (x : ByteArray) (w : World) : Calls Tryz.prog 48 #[t.val, .string x] w fun e w' => e = .returned (.bool (Gm.isA t x)) ∧ Below w.heap.size w w' := by
  obtain ⟨tk, tx, tn, tf, tp⟩ := t
  simp only [Tk.val, Gm.isA]
  go_enter Tryz.func48, Tryz.ntmps48
  go_wp2_with fail
  · rename_i h
    exact bodyPost_ret (v := .bool (tx.toList == x.toList)) (by simp [results, Tryz.results48, go_sem]) rfl ⟨by rw [str_eq]; simp [h], (Below.refl _ _).alloc (Nat.le_refl _) _⟩
  · rename_i h
    exact bodyPost_ret (v := .bool false) (by simp [results, Tryz.results48, go_sem]) rfl ⟨by simp [h], (Below.refl _ _).alloc (Nat.le_refl _) _⟩

abbrev FT : Nat := 28
/-- The fault that a parser gives up with. -/
abbrev gaveUp (e : Int) (p : Nat) : Ending := .panicked [{ v := .iface FT (.agg #[.int .i64 e, .int .i64 (p : Int)]), recovered := false }]

set_option maxHeartbeats 1000000 in
theorem pGiveUpAt_any (er : Int) (p : Nat) (w : World) : Calls Tryz.prog 77 #[.int .i64 er, .int .i64 (p : Int)] w fun e w' => e = gaveUp er p ∧ Below w.heap.size w w' := by
  go_enter Tryz.func77, Tryz.ntmps77
  go_wp2_with fail
  exact ⟨rfl, rfl, Below.refl _ _⟩

set_option maxHeartbeats 1000000 in
set_option maxRecDepth 100000 in
theorem pGiveUp_any (er : Int) {w : World} {g b : Nat} {s : PS} {V : Value} (h : PB w g b s.ts V s.o) (hn : Ne s) :
    Calls Tryz.prog 49 #[.pointer (some ⟨g, 0, none⟩), .int .i64 er] w fun e w' => e = gaveUp er (Gm.hd s).p ∧ Below w.heap.size w w' := by
  have cH := pHere_any h hn
  generalize Gm.hd s = t at cH ⊢
  clear h hn
  go_enter Tryz.func49, Tryz.ntmps49
  go_wp2_with (first
    | (go_at_call 46; refine cH.mono ?_; rintro e w1 ⟨rfl, hb1⟩; have HB1 := hidb hb1)
    | (go_at_call 77; refine (pGiveUpAt_any _ _ _).mono ?_; rintro e w2 ⟨rfl, hb2⟩; have HB2 := hidb hb2))
  exact ⟨rfl, rfl, HB1.out.trans (HB2.out.mono HB1.out.size)⟩

set_option maxHeartbeats 1000000 in
theorem pIs_any (x : ByteArray) {w : World} {g b : Nat} {s : PS} {V : Value} (h : PB w g b s.ts V s.o) (hn : Ne s) :
    Calls Tryz.prog 101 #[.pointer (some ⟨g, 0, none⟩), .string x] w fun e w' => e = .returned (.bool (Gm.isM (Gm.hd s) x)) ∧ Below w.heap.size w w' := by
  have cH := pHere_any h hn
  generalize Gm.hd s = t at cH ⊢
  clear h hn
  go_enter Tryz.func101, Tryz.ntmps101
  go_wp2_with (first
    | (go_at_call 46; refine cH.mono ?_; rintro e w1 ⟨rfl, hb1⟩; have HB1 := hidb hb1)
    | (go_at_call 113; refine (pMark_any _ _ _).mono ?_; rintro e w2 ⟨rfl, hb2⟩; have HB2 := hidb hb2))
  exact bodyPost_ret (v := .bool (Gm.isM t x)) (by simp [results, Tryz.results101, go_sem]) rfl ⟨rfl, HB1.out.trans (HB2.out.mono HB1.out.size)⟩

set_option maxHeartbeats 1000000 in
theorem pAhead_any (x : ByteArray) {w : World} {g b : Nat} {s : PS} {V : Value} (h : PB w g b s.ts V s.o) (hn : Ne s) (hk : (Gm.hd s).k ≠ 8) :
    Calls Tryz.prog 152 #[.pointer (some ⟨g, 0, none⟩), .string x] w fun e w' => e = .returned (.bool (Gm.isM (Gm.hd2 s) x)) ∧ Below w.heap.size w w' := by
  obtain ⟨⟨i, cap, hT, hcap, hts⟩, hne, hlt⟩ := h
  obtain ⟨r, hr⟩ := Gm.ne_hd2 hn hk
  clear hk
  generalize Gm.hd s = t at hr
  generalize Gm.hd2 s = t2 at hr ⊢
  rw [hr] at hts hT hcap
  obtain ⟨-, ⟨⟨h0, h1, h2, h3, h4⟩, -⟩⟩ := hts
  have c0 := hT.c0
  have hg := hT.lt
  obtain ⟨n, hl⟩ : ∃ n, (t :: t2 :: r).length = n + 2 := ⟨r.length, rfl⟩
  rw [hl] at c0
  have hl0 : (1 : Int) < ((n + 2 : Nat) : Int) := by omega
  clear hT hn hr hcap hl
  go_enter Tryz.func152, Tryz.ntmps152
  go_wp2_with (go_at_call 113; refine (pMark_any t2 _ _).mono ?_; rintro e w2 ⟨rfl, hb2⟩; have HB2 := hidb hb2)
  exact bodyPost_ret (v := .bool (Gm.isM t2 x)) (by simp [results, Tryz.results152, go_sem]) rfl ⟨rfl, HB2.out⟩

set_option maxHeartbeats 1000000 in
theorem pTake_any (x : ByteArray) {w : World} {g b : Nat} {s : PS} {V : Value} (h : PB w g b s.ts V s.o) (hn : Ne s) :
    Calls Tryz.prog 76 #[.pointer (some ⟨g, 0, none⟩), .string x] w fun e w' => ∃ y s', Gm.take x s = .ok (y, s') ∧ e = .returned (.bool y) ∧ PB w' g b s'.ts V s'.o ∧ But (· = g) w w' := by
  have cI := pIs_any x h hn
  by_cases hx : Gm.isM (Gm.hd s) x = true
  · have hk := Gm.isM_k hx
    rw [hx] at cI
    have cN : ∀ w1, Below w.heap.size w w1 → _ := fun w1 hb => pNext_any (h.keep hb) hn hk
    simp only [Gm.take, if_pos hx]
    clear h hn hk hx
    go_enter Tryz.func76, Tryz.ntmps76
    go_wp2_with (first
      | (go_at_call 101; refine cI.mono ?_; rintro e w1 ⟨rfl, hb1⟩; have HB1 := hidb hb1)
      | (go_at_call 50; refine (cN _ HB1.out).mono ?_; rintro e w2 ⟨rfl, hp2, hb2⟩; have HP2 := hidb hp2; have HB2 := hidb hb2))
    exact bodyPost_ret (v := .bool true) (by simp [results, Tryz.results76, go_sem]) rfl ⟨_, _, rfl, rfl, HP2.out, (But.of_below HB1.out).trans HB2.out⟩
  · have hx' : Gm.isM (Gm.hd s) x = false := by simpa using hx
    rw [hx'] at cI
    have HP := hidb h
    simp only [Gm.take, if_neg hx]
    clear h hn hx hx'
    go_enter Tryz.func76, Tryz.ntmps76
    go_wp2_with (first
      | (go_at_call 101; refine cI.mono ?_; rintro e w1 ⟨rfl, hb1⟩; have HB1 := hidb hb1))
    exact bodyPost_ret (v := .bool false) (by simp [results, Tryz.results76, go_sem]) rfl ⟨_, _, rfl, rfl, HP.out.keep HB1.out, But.of_below HB1.out⟩

set_option maxHeartbeats 1000000 in
theorem pNeed_any (x : ByteArray) {w : World} {g b : Nat} {s : PS} {V : Value} (h : PB w g b s.ts V s.o) (hn : Ne s) :
    Calls Tryz.prog 47 #[.pointer (some ⟨g, 0, none⟩), .string x] w fun e w' =>
      (∃ er p, Gm.need x s = .error (er, p) ∧ e = gaveUp er p ∧ But (· = g) w w') ∨ (∃ s', Gm.need x s = .ok ((), s') ∧ e = .returned (.tuple #[]) ∧ PB w' g b s'.ts V s'.o ∧ But (· = g) w w') := by
  have cT := pTake_any x h hn
  by_cases hx : Gm.isM (Gm.hd s) x = true
  · have ht : Gm.take x s = .ok (true, Gm.cut s) := by simp only [Gm.take, if_pos hx]
    have hN : Gm.need x s = .ok ((), Gm.cut s) := by simp only [Gm.need, if_pos hx]
    rw [ht] at cT
    clear h hn hx ht
    go_enter Tryz.func47, Tryz.ntmps47
    go_wp2_with (first
      | (go_at_call 76; refine cT.mono ?_; rintro e w1 ⟨y, s', hys, rfl, hp, hb⟩; cases hys; have HP := hidb hp; have HB := hidb hb))
    go_end0
    exact .inr ⟨_, hN, rfl, HP.out, HB.out⟩
  · have ht : Gm.take x s = .ok (false, s) := by simp only [Gm.take, if_neg hx]
    have hN : Gm.need x s = .error (24, (Gm.hd s).p) := by simp only [Gm.need, if_neg hx]
    rw [ht] at cT
    have cG : ∀ w1, PB w1 g b s.ts V s.o → _ := fun w1 h1 => pGiveUp_any 24 h1 hn
    clear h hx ht
    go_enter Tryz.func47, Tryz.ntmps47
    go_wp2_with (first
      | (go_at_call 76; refine cT.mono ?_; rintro e w1 ⟨y, s', hys, rfl, hp, hb⟩; cases hys; have HP := hidb hp; have HB := hidb hb)
      | (go_at_call 49; refine (cG _ HP.out).mono ?_; rintro e w2 ⟨rfl, hb2⟩))
    exact ⟨rfl, .inl ⟨24, _, hN, rfl, HB.out.trans (But.of_below hb2)⟩⟩

set_option maxHeartbeats 1000000 in
theorem pNeedKind_any {k : Int} (hk8 : k ≠ 8) {w : World} {g b : Nat} {s : PS} {V : Value} (h : PB w g b s.ts V s.o) (hn : Ne s) :
    Calls Tryz.prog 51 #[.pointer (some ⟨g, 0, none⟩), .int .i64 k] w fun e w' =>
      (∃ er p, Gm.needK k s = .error (er, p) ∧ e = gaveUp er p ∧ But (· = g) w w') ∨ (∃ t s', Gm.needK k s = .ok (t, s') ∧ e = .returned t.val ∧ PB w' g b s'.ts V s'.o ∧ But (· = g) w w') := by
  have HP := hidb (h.keep (wbox_below w))
  have hg := h.glt
  have hgb : b < w.heap.size := h.lt
  have cH : ∀ w1, PB w1 g b s.ts V s.o → _ := fun w1 h1 => pHere_any h1 hn
  have HL : (wbox w).heap.size = w.heap.size + 1 := by simp
  by_cases hx : (Gm.hd s).k = k
  · have hN : Gm.needK k s = .ok (Gm.hd s, Gm.cut s) := by simp only [Gm.needK, if_pos hx]
    have cN : ∀ w1, PB w1 g b s.ts V s.o → _ := fun w1 h1 => pNext_any h1 hn (by omega)
    generalize Gm.hd s = t at *
    obtain ⟨tk, tx, tn, tf, tp⟩ := t
    simp only at hx
    subst hx
    clear h
    go_enter Tryz.func51, Tryz.ntmps51
    go_wp2_with (first
      | (go_at_call 46; refine (cH _ HP.out).mono ?_; rintro e w1 ⟨rfl, hb1⟩; have HB1 := hidb hb1; have HX1 := hidb ((wbox_box w).keep hb1))
      | (go_at_call 50; refine (cN _ (HP.out.keep HB1.out)).mono ?_; rintro e w2 ⟨rfl, hp2, hb2⟩; have HP2 := hidb hp2; have HB2 := hidb hb2; obtain ⟨d0, d1, d2, d3, d4, g0, g1, g2, g3, g4, _⟩ := HX1.out.but hb2 (by omega)))
    refine bodyPost_ret (v := Tk.val ⟨tk, tx, tn, tf, tp⟩) (by simp [results, Tryz.results51, go_sem, d0, d1, d2, d3, d4]) rfl (.inr ⟨_, _, hN, rfl, ?_, ?_⟩)
    · exact HP2.out.but ((But.refl (· = w.heap.size) w2).set5 (fun _ => rfl) _ _ _ _ _) (by omega) (by omega)
    · exact (((But.of_below (wbox_below w)).trans (But.of_below HB1.out)).trans HB2.out).set5 (fun h => absurd h (Nat.lt_irrefl _)) _ _ _ _ _
  · have hN : Gm.needK k s = .error (24, (Gm.hd s).p) := by simp only [Gm.needK, if_neg hx]
    have cG : ∀ w1, PB w1 g b s.ts V s.o → _ := fun w1 h1 => pGiveUp_any 24 h1 hn
    clear h
    go_enter Tryz.func51, Tryz.ntmps51
    go_wp2_with (first
      | (go_at_call 46; refine (cH _ HP.out).mono ?_; rintro e w1 ⟨rfl, hb1⟩; have HB1 := hidb hb1)
      | (go_at_call 49; refine (cG _ (HP.out.keep HB1.out)).mono ?_; rintro e w2 ⟨rfl, hb2⟩))
    exact ⟨rfl, .inl ⟨24, _, hN, rfl, ((But.of_below (wbox_below w)).trans (But.of_below HB1.out)).trans (But.of_below hb2)⟩⟩
end Go.Proofs.YtppmcimcmcognaaGreatDoor


