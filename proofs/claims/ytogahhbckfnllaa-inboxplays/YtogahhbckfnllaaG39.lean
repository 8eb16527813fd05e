import Derived.Test.YtogahhbckfnllaaG35
import Derived.Test.YtogahhbckfnllaaG36
import Derived.Test.YtogahhbckfnllaaG38
import Derived.Test.YtogahhbckfnllaaG21
import Derived.Test.YtogahhbckfnllaaG33
import Derived.Test.YtogahhbckfnllaaG24
import Derived.Test.YtogahhbckfnllaaG25
/- Drop: the first message that is so. -/
namespace Go.Proofs.Ytogahhbckfnllaa
open Go.RowKit Go.Shelf
attribute [local go_sem] store_float f64bits Oper.semAt_some
attribute [local go_sem ↓] Go.wp_at_zero Go.wp_at_succ

/-- An act in memory: its number, its term. -/
structure XA (w : World) (xb : Nat) (op : Int) (x : Tr) (O : Nat → Prop) : Prop where
  at6 : At w xb (.int .i64 op :: x.cells)
  tr : x.In w 0 ∧ x.On O
  far : ∀ q, O q → q < w.heap.size
theorem XA.but {w w' : World} {xb : Nat} {op : Int} {x : Tr} {O S : Nat → Prop} (h : XA w xb op x O) (hb : But S w w') (h1 : ¬ S xb) (h2 : ∀ q, O q → ¬ S q) : XA w' xb op x O :=
  ⟨h.at6.but hb h1, ⟨in_on (S := fun q => q < w.heap.size ∧ ¬ S q) (fun b q => hb.block b q.1 q.2) x h.tr.1 (on_mono (fun q hq => ⟨h.far q hq, h2 q hq⟩) x h.tr.2), h.tr.2⟩, fun q hq => Nat.lt_of_lt_of_le (h.far q hq) hb.size⟩
theorem XA.keep {w w' : World} {xb : Nat} {op : Int} {x : Tr} {O : Nat → Prop} (h : XA w xb op x O) (hb : Below w.heap.size w w') : XA w' xb op x O := h.but (But.of_below (S := fun _ => False) hb) (fun h => h) (fun _ _ h => h)

set_option maxHeartbeats 1000000 in
set_option maxRecDepth 100000 in
/-- Is a message identical to the act's term? -/
theorem is_any {w : World} {xb : Nat} {op : Int} {x : Tr} {O : Nat → Prop} (h : XA w xb op x O) (t : Tr) (hin : t.In w 0) : Calls Try.prog 25 #[t.val, .pointer (some ⟨xb, 0, none⟩)] w fun e w' => e = .returned (.bool (idT t x)) ∧ Below w.heap.size w w' := by
  have ID := hidb (fun W hb => idn_any t x W (in_below (w := w) hb hin) (in_below hb h.tr.1))
  generalize idT t x = r at *
  have hX := h.keep (below_new w (.cells #[] 0))
  obtain ⟨k, n, f, s, a, c, kids⟩ := t
  obtain ⟨k2, n2, f2, s2, a2, c2, kids2⟩ := x
  have HX := hidb (fun o => (h.keep (below_new w o)).at6)
  have hxl := h.at6.2
  clear h hin hX
  show Calls Try.prog 25 #[.agg #[.int .i64 k, .int .i64 n, .float .f64 f, .string s, .slice a kids.length c], .pointer (some ⟨xb, 0, none⟩)] w _
  have x1 := fun o => ((HX.out o).1 1 _ rfl).1
  have x2 := fun o => ((HX.out o).1 2 _ rfl).1
  have x3 := fun o => ((HX.out o).1 3 _ rfl).1
  have x4 := fun o => ((HX.out o).1 4 _ rfl).1
  have x5 := fun o => ((HX.out o).1 5 _ rfl).1
  go_enter Try.func25, Try.ntmps25
  go_wp2_with fail
  refine (ID.out _ (below_new w _)).mono ?_
  rintro e w1 ⟨rfl, hb1⟩
  have HB := hidb (box_below (box_then (Below.refl _ _) hb1))
  clear hb1 ID
  go_wp2_with fail
  go_ret
  exact ⟨rfl, HB.out⟩

theorem rmP_self (i : Nat) : rmP (i + 1) i = i := by unfold rmP; rw [if_pos (Nat.lt_succ_self i)]; omega
theorem removeA {w : World} {bb place most puts : Nat} {ms : List Msg} {R : Nat → Prop} (h : BX w bb ms place most puts R) {i : Nat} {m : Msg} (hm : ms[i]? = some m) (hs : Small m.t) (hcn : cnT m.t ≤ 1000000000) (hl : ms.length ≤ 1000000) (hwd : wds ms ≤ 1000000000000) :
    Calls Try.prog 33 #[.pointer (some ⟨bb, 0, none⟩), .pointer (some ⟨m.b, 0, none⟩)] w fun e w' => ∃ (k' n' : Int) (f' : Nat) (s' : ByteArray) (a' : Option Addr) (c' : Nat) (kids' : List Tr), e = .returned (.agg #[.int .i64 k', .int .i64 n', .float .f64 f', .string s', .slice a' kids'.length c']) ∧ Sm m.t (.mk k' n' f' s' a' c' kids') ∧ (Tr.mk k' n' f' s' a' c' kids').In w' w.heap.size ∧ BX w' bb (ms.eraseIdx i) (rmP place i) most puts R ∧ But (BS bb ms) w w' := by
  by_cases hp : place = i + 1
  · subst hp
    rw [rmP_self]
    exact removeB h hm hs hcn hl hwd
  · exact removeI h hm hp hs hcn hl hwd

theorem own_at {A C : World} {row : Option Nat} {b : Nat} {vs : List Value} (h : At A b vs) (hg : A.grownBy C row) (hr : ∀ r, row = some r → ∃ o : Obj, A.heap[r]? = some o ∧ o.isCells = false) : At C b vs := by
  have hn : ¬ row = some b := fun e => by
    obtain ⟨o, ho, hc⟩ := hr b e
    obtain ⟨cs, t, e2⟩ := h.3
    rw [e2] at ho
    cases ho
    cases hc
  exact h.but (grown_but hg) hn
theorem own_in {A C : World} {row : Option Nat} {base : Nat} {t : Tr} (h : t.In A base) (hg : A.grownBy C row) (hr : ∀ r, row = some r → ∃ o : Obj, A.heap[r]? = some o ∧ o.isCells = false) : t.In C base :=
  in_over (fun _ _ _ hv => cell_kept hv hg hr) t h
theorem own_bx {A C : World} {row : Option Nat} {bb place most puts : Nat} {ms : List Msg} {R : Nat → Prop} (h : BX A bb ms place most puts R) (hg : A.grownBy C row) (hr : ∀ r, row = some r → ∃ o : Obj, A.heap[r]? = some o ∧ o.isCells = false) : BX C bb ms place most puts R :=
  ⟨own_at h.box hg hr, fun i m hm => own_at (h.msg i m hm) hg hr, h.nd, h.nb, fun m hm => ⟨own_in (h.tr m hm).1 hg hr, (h.tr m hm).2⟩, fun q hq => ⟨Nat.lt_of_lt_of_le (h.far q hq).1 hg.size, (h.far q hq).2⟩, h.pl⟩

/-- What stands while the messages are asked. -/
def DI (WL : World) (x : Tr) (pre : List Msg) (W : World) : Prop := (∀ y, y ∈ pre → idT y.t x = false) ∧ But (fun k => WL.heap.size ≤ k) WL W
theorem DI.own {WL : World} {x : Tr} : OwnFrom WL.heap.size (DI WL x) := fun _ _ _ _ hs hg hr => ⟨hs.1, OwnFrom.but (S := fun k => WL.heap.size ≤ k) (B := WL.heap.size) (Nat.le_refl _) () _ _ _ hs.2 hg hr⟩
/-- What stands when one is so. -/
def DX (WL : World) (bb : Nat) (ms : List Msg) (place most puts : Nat) (R : Nat → Prop) (x : Tr) (A : Nat) (c : Code) (_pre : List Msg) (W : World) : Prop :=
  c = .ret ∧ ∃ (i : Nat) (m : Msg), ms[i]? = some m ∧ idT m.t x = true ∧ (∀ j y, j < i → ms[j]? = some y → idT y.t x = false) ∧ ∃ (k' n' : Int) (f' : Nat) (s' : ByteArray) (a' : Option Addr) (c' : Nat) (kids' : List Tr), (At W (A + 2) [.int .i64 k', .int .i64 n', .float .f64 f', .string s', .slice a' kids'.length c'] ∧ At W (A + 3) [.bool true]) ∧ Sm m.t (.mk k' n' f' s' a' c' kids') ∧ (Tr.mk k' n' f' s' a' c' kids').In W A ∧ BX W bb (ms.eraseIdx i) (rmP place i) most puts R ∧ But (fun k => BS bb ms k ∨ A + 2 ≤ k) WL W
theorem DX.own {WL : World} {bb : Nat} {ms : List Msg} {place most puts : Nat} {R : Nat → Prop} {x : Tr} {A : Nat} {c : Code} : OwnFrom WL.heap.size (DX WL bb ms place most puts R x A c) := by
  rintro pre V C row ⟨hc, i, m, h1, h2, h3, k', n', f', s', a', c', kids', ⟨h4, h5⟩, h6, h7, h8, h9⟩ hg hr
  have hr2 := fun r e => (hr r e).2
  exact ⟨hc, i, m, h1, h2, h3, k', n', f', s', a', c', kids', ⟨own_at h4 hg hr2, own_at h5 hg hr2⟩, h6, own_in h7 hg hr2, own_bx h8 hg hr2, OwnFrom.but (S := fun k => BS bb ms k ∨ A + 2 ≤ k) (B := WL.heap.size) (Nat.le_refl _) () _ _ _ h9 hg hr⟩

abbrev DropQ (bb : Nat) (ms : List Msg) (place most puts : Nat) (R : Nat → Prop) (x : Tr) (w : World) (e : Ending) (w' : World) : Prop :=
  (∃ (i : Nat) (m : Msg), ms[i]? = some m ∧ idT m.t x = true ∧ (∀ j y, j < i → ms[j]? = some y → idT y.t x = false) ∧ ∃ (k' n' : Int) (f' : Nat) (s' : ByteArray) (a' : Option Addr) (c' : Nat) (kids' : List Tr), e = .returned (.tuple #[.agg #[.int .i64 k', .int .i64 n', .float .f64 f', .string s', .slice a' kids'.length c'], .bool true]) ∧ Sm m.t (.mk k' n' f' s' a' c' kids') ∧ (Tr.mk k' n' f' s' a' c' kids').In w' w.heap.size ∧ BX w' bb (ms.eraseIdx i) (rmP place i) most puts R ∧ But (BS bb ms) w w') ∨
  ((∀ m, m ∈ ms → idT m.t x = false) ∧ e = .returned (.tuple #[zV, .bool false]) ∧ Below w.heap.size w w')

theorem six_but (W : World) (z : Nat) (u0 u1 u2 u3 u4 v : Value) : But (fun q => q = z ∨ q = z + 1) W ((((((W.setCell ⟨z, 0, none⟩ u0).setCell ⟨z, 1, none⟩ u1).setCell ⟨z, 2, none⟩ u2).setCell ⟨z, 3, none⟩ u3).setCell ⟨z, 4, none⟩ u4).setCell ⟨z + 1, 0, none⟩ v) :=
  ((five_but W z u0 u1 u2 u3 u4).mono (fun _ _ e => .inl e)).setCell (p := ⟨z + 1, 0, none⟩) (fun _ => .inr rfl) _
theorem at_six {W : World} {z : Nat} {v0 v1 v2 v3 v4 v5 : Value} (h : At W z [v0, v1, v2, v3, v4]) (h2 : At W (z + 1) [v5]) (u0 u1 u2 u3 u4 v : Value) : At ((((((W.setCell ⟨z, 0, none⟩ u0).setCell ⟨z, 1, none⟩ u1).setCell ⟨z, 2, none⟩ u2).setCell ⟨z, 3, none⟩ u3).setCell ⟨z, 4, none⟩ u4).setCell ⟨z + 1, 0, none⟩ v) z [u0, u1, u2, u3, u4] ∧ At ((((((W.setCell ⟨z, 0, none⟩ u0).setCell ⟨z, 1, none⟩ u1).setCell ⟨z, 2, none⟩ u2).setCell ⟨z, 3, none⟩ u3).setCell ⟨z, 4, none⟩ u4).setCell ⟨z + 1, 0, none⟩ v) (z + 1) [v] :=
  ⟨(at_five h u0 u1 u2 u3 u4).other (p := ⟨z + 1, 0, none⟩) (by show z + 1 ≠ z; omega) _, (h2.but (five_but W z u0 u1 u2 u3 u4) (by omega)).set (i := 0) (by simp) v⟩
theorem run_clo {f : Nat} (ent : Ent f) {o : Oper} {a : Act} {w : World} (c : Operand) (xs : Array Operand) (ts : Array TypeId) (hop : o.op = Op.call { callee := .value c, args := xs, argTypes := ts }) (lb : Array Value) (hc : a.eval c = .func (.func f) #[] lb) (vs : Array Value) (hx' : xs.toList.map a.eval = vs.toList) :
    (execOp a.eval o).run Try.prog w = .ok (.enter f (vs ++ lb)) w := by
  have hx : xs.map a.eval = vs := by apply Array.ext'; simpa using hx'
  have ent2 := ent (vs ++ lb) w
  unfold execOp
  rw [hop]
  simp only [resolve, hx, hc]
  simp [invoke, go_sem, ent2]
theorem ent_is : Ent 25 := by
  intro args w
  kernel_rfl
theorem ent_copy : Ent 29 := by
  intro args w
  kernel_rfl

set_option maxRecDepth 100000 in
set_option maxHeartbeats 4000000 in
theorem dropB {w : World} {bb place most puts xb : Nat} {op : Int} {ms : List Msg} {R O : Nat → Prop} {x : Tr} (h : BX w bb ms place most puts R) (hx : XA w xb op x O) (hxb : ∀ q, (q = xb ∨ O q) → ¬ BS bb ms q) (hl : ms.length ≤ 100000) (hwd : wds ms ≤ 1000000000000) (hnum : ∀ m : Msg, m ∈ ms → m.num ≤ puts) (hs : ∀ m : Msg, m ∈ ms → Small m.t ∧ cnT m.t ≤ 1000000000) :
    Calls Try.prog 24 #[.pointer (some ⟨bb, 0, none⟩), .func (.func 25) #[] #[.pointer (some ⟨xb, 0, none⟩)]] w (DropQ bb ms place most puts R x w) := by
  have HX := hidb h
  have HA := hidb (And.intro hx hxb)
  have HL := hidb (And.intro hl (And.intro hwd (And.intro hnum hs)))
  have hbl := h.box.2
  clear h hx hxb hl hwd hnum hs
  refine calls_marks Try.func24 rfl ?_
  simp only [Try.ntmps24, List.size_toArray, List.length_cons, List.length_nil, Nat.reduceAdd, Nat.reduceSub, Array.replicate_succ, Array.replicate_zero, List.push_toArray, List.append_toArray, List.nil_append, List.cons_append]
  go_wp2_with fail
  obtain ⟨W4, hW4⟩ : ∃ W4, ((((w.alloc (.cells #[.pointer (some ⟨bb, 0, none⟩)] 25)).alloc (.cells #[.func (.func 25) #[] #[.pointer (some ⟨xb, 0, none⟩)]] 62)).alloc (.cells #[.int .i64 0, .int .i64 0, .float .f64 0, .string ⟨#[]⟩, .slice none 0 0] 36)).alloc (.cells #[.bool false] 4)) = W4 := ⟨_, rfl⟩
  have hb4 : Below w.heap.size w W4 := by rw [← hW4]; exact (((below_new w _).alloc (by simp) _).alloc (by simp; omega) _).alloc (by simp; omega) _
  have hz4 : W4.heap.size = w.heap.size + 4 := by rw [← hW4]; simp
  have hA0 : At W4 w.heap.size [.pointer (some ⟨bb, 0, none⟩)] := by
    rw [← hW4]
    exact (((At.new w [.pointer (some ⟨bb, 0, none⟩)] 25).keep (below_new _ _)).keep (below_new _ _)).keep (below_new _ _)
  have hA1 : At W4 (w.heap.size + 1) [.func (.func 25) #[] #[.pointer (some ⟨xb, 0, none⟩)]] := by
    have h := ((At.new (w.alloc (.cells #[.pointer (some ⟨bb, 0, none⟩)] 25)) [.func (.func 25) #[] #[.pointer (some ⟨xb, 0, none⟩)]] 62).keep (below_new _ (.cells #[.int .i64 0, .int .i64 0, .float .f64 0, .string ⟨#[]⟩, .slice none 0 0] 36))).keep (below_new _ (.cells #[.bool false] 4))
    rw [World.size_alloc] at h
    rw [← hW4]; exact h
  have hA2 : At W4 (w.heap.size + 2) [.int .i64 0, .int .i64 0, .float .f64 0, .string ⟨#[]⟩, .slice none 0 0] := by
    have h := (At.new ((w.alloc (.cells #[.pointer (some ⟨bb, 0, none⟩)] 25)).alloc (.cells #[.func (.func 25) #[] #[.pointer (some ⟨xb, 0, none⟩)]] 62)) [.int .i64 0, .int .i64 0, .float .f64 0, .string ⟨#[]⟩, .slice none 0 0] 36).keep (below_new _ (.cells #[.bool false] 4))
    rw [World.size_alloc, World.size_alloc] at h
    rw [← hW4]; exact h
  have hA3 : At W4 (w.heap.size + 3) [.bool false] := by
    have h := At.new (((w.alloc (.cells #[.pointer (some ⟨bb, 0, none⟩)] 25)).alloc (.cells #[.func (.func 25) #[] #[.pointer (some ⟨xb, 0, none⟩)]] 62)).alloc (.cells #[.int .i64 0, .int .i64 0, .float .f64 0, .string ⟨#[]⟩, .slice none 0 0] 36)) [.bool false] 4
    rw [World.size_alloc, World.size_alloc, World.size_alloc] at h
    rw [← hW4]; exact h
  rw [hW4]
  refine (msgs_call (HX.out.keep hb4)).mono ?_
  rintro e w5 ⟨rfl, hw5⟩
  obtain ⟨WL, hWL⟩ : ∃ WL, w5 = WL := ⟨_, rfl⟩
  have hb5 : Below W4.heap.size W4 WL := by rw [← hWL, hw5]; exact (below_new W4 _).alloc (by simp) _
  have hsz : WL.heap.size = w.heap.size + 6 := by rw [← hWL, hw5]; simp [hz4]
  have hL : Below w.heap.size w WL := hb4.trans (hb5.mono (by omega))
  have c2 : WL.cell? ⟨w.heap.size + 4, 0, none⟩ = some (.pointer (some ⟨bb, 0, none⟩)) := by rw [← hz4, ← hWL, hw5]; simp [go_sem]
  have c3 : WL.cell? ⟨w.heap.size + 4 + 1, 0, none⟩ = some (.int .i64 (puts : Int)) := by rw [show w.heap.size + 4 + 1 = W4.heap.size + 1 by omega, ← hWL, hw5]; simp [go_sem]
  have HD := hidb (And.intro (hA0.keep hb5) (And.intro (hA1.keep hb5) (And.intro (hA2.keep hb5) (hA3.keep hb5))))
  have hBX := HX.out.keep hL
  have HXA := hidb (HA.out.1.keep hL)
  have HBX := hidb hBX
  have HBL := hidb hL
  have HSZ := hidb hsz
  have hMB : ∀ k, BS bb ms k → ¬ WL.heap.size ≤ k := fun k hk => by have := HX.out.lt (.inl hk); omega
  have hseq := msgs_x (M := fun k => WL.heap.size ≤ k) (Mx := fun k => BS bb ms k ∨ w.heap.size + 2 ≤ k) hBX c2 c3 (fun m hm => by have := HL.out.2.2.1 m hm; omega) hMB (by omega) (by omega)
  rw [hz4]
  clear hW4 hb4 hz4 hA0 hA1 hA2 hA3 hw5 hb5 hsz hL c2 c3 hBX hMB
  rw [hWL]
  clear hWL
  go_wp2_with fail
  refine range_x (gf := 39) (lb := #[.pointer (some ⟨w.heap.size + 4, 0, none⟩), .pointer (some ⟨w.heap.size + 4 + 1, 0, none⟩)]) rfl (enters_of Try.func39 (by kernel_rfl) rfl) hseq (fun k hk => hk) (fun k hk => .inr (by have := HSZ.out; omega)) (Below.refl _ _) (fun _ => rfl)
    (DI WL x) (DX WL bb ms place most puts R x w.heap.size) DI.own (fun c => DX.own) ⟨fun y hy => by simp at hy, But.refl _ _⟩ ?round ?done ?stop
  case done =>
    intro D xs W hD hS hI hK
    obtain rfl : xs = ms := hS
    have hz := HSZ.out
    have hB := hI.2
    have g2 := HD.out.2.2.1.but hB (by omega)
    have g3 := HD.out.2.2.2.but hB (by omega)
    have HI := hidb hI
    have HG := hidb (And.intro g2 g3)
    obtain ⟨r0, f0⟩ := g2.1 0 _ rfl
    obtain ⟨r1, f1⟩ := g2.1 1 _ rfl
    obtain ⟨r2, f2⟩ := g2.1 2 _ rfl
    obtain ⟨r3, f3⟩ := g2.1 3 _ rfl
    obtain ⟨r4, f4⟩ := g2.1 4 _ rfl
    obtain ⟨r5, f5⟩ := g3.1 0 _ rfl
    clear g2 g3 hB hI
    go_wp2_with fail
    have hSB := six_but W (w.heap.size + 1 + 1) (.int .i64 0) (.int .i64 0) (.float .f64 0) (.string ⟨#[]⟩) (.slice none 0 0) (.bool false)
    have hAS := at_six HG.out.1 HG.out.2 (.int .i64 0) (.int .i64 0) (.float .f64 0) (.string ⟨#[]⟩) (.slice none 0 0) (.bool false)
    generalize (((((W.setCell ⟨w.heap.size + 1 + 1, 0, none⟩ (.int .i64 0)).setCell ⟨w.heap.size + 1 + 1, 1, none⟩ (.int .i64 0)).setCell ⟨w.heap.size + 1 + 1, 2, none⟩ (.float .f64 0)).setCell ⟨w.heap.size + 1 + 1, 3, none⟩ (.string ⟨#[]⟩)).setCell ⟨w.heap.size + 1 + 1, 4, none⟩ (.slice none 0 0)).setCell ⟨w.heap.size + 1 + 1 + 1, 0, none⟩ (.bool false) = W9 at hSB hAS ⊢
    have hDl := (Array.getElem?_eq_some_iff.1 hK).1
    refine retM [D] rfl (fun E hE => by simp at hE; subst hE; exact (hSB.block E hDl (by omega)).trans hK) (by simp) (fun W' hb => ?_)
    have hA2 := hAS.1.but hb (by simp; omega)
    have hA3 := hAS.2.but hb (by simp; omega)
    obtain ⟨q0, q1, q2, q3, q4⟩ := at_results hA2
    have q5 := (hA3.1 0 _ rfl).1
    have hI := HI.out
    have hbw : But (fun k => w.heap.size ≤ k) w W' := ((((But.of_below HBL.out).trans (hI.2.mono (fun k _ hk => by omega))).trans (hSB.mono (fun k _ hk => by omega))).trans (hb.mono (fun k _ hk => by have : k = D := (by simpa using hk); omega)))
    exact ⟨.tuple #[zV, .bool false], by simp [results, Try.results24, go_sem, q0, q1, q2, q3, q4, q5], .inr ⟨hI.1, rfl, hbw.below (Nat.le_refl _) (fun k hk => hk)⟩⟩
  case stop =>
    rintro D c pre W hD - hX hK
    obtain ⟨rfl, -⟩ := id hX
    have hz := HSZ.out
    go_wp2_with fail
    refine retM [D] rfl (fun E hE => by simp at hE; rw [hE]; exact hK) (by simp) (fun W' hb => ?_)
    obtain ⟨-, i, m, h1, h2, h3, k', n', f', s', a', c', kids', ⟨h4, h5⟩, h6, h7, h8, h9⟩ := OwnFrom.taken DX.own hX hb hD hK
    obtain ⟨q0, q1, q2, q3, q4⟩ := at_results h4
    have q5 := (h5.1 0 _ rfl).1
    have hbw : But (BS bb ms) w W' := (But.of_below HBL.out).new h9 (fun q hq => hq.imp id (fun e => by omega))
    exact ⟨.tuple #[.agg #[.int .i64 k', .int .i64 n', .float .f64 f', .string s', .slice a' kids'.length c'], .bool true], by simp [results, Try.results24, go_sem, q0, q1, q2, q3, q4, q5], .inl ⟨i, m, h1, h2, h3, k', n', f', s', a', c', kids', rfl, h6, h7, h8, hbw⟩⟩
  case round =>
    rintro l pre m W ⟨hpre, hj⟩ hlen
    obtain ⟨j, hjl⟩ : ∃ j, pre.length = j := ⟨_, rfl⟩
    rw [hjl] at hj hpre
    have hok := List.mem_of_getElem? hj
    have HPR := hidb hpre
    clear hpre
    gi_wp2
    refine ⟨trivial, fun W1 hI hsz2 => ?_⟩
    refine wpIn_block ?_
    have hz := HSZ.out
    have hbs : BS bb ms m.b := .inr ⟨m, hok, rfl⟩
    have hml := HX.out.lt (.inl hbs)
    have hB1 := hI.2
    have hK1 : ∀ Wz, Below W1.heap.size W1 Wz → But (fun k => WL.heap.size ≤ k) WL Wz := fun Wz hb => hB1.trans (But.of_below hb)
    have HKS : Hid (∀ Wz, Below W1.heap.size W1 Wz → Wz.cell? ⟨w.heap.size + 1, 0, none⟩ = some (.func (.func 25) #[] #[.pointer (some ⟨xb, 0, none⟩)]) ∧ Wz.cell? ⟨m.b, 2, none⟩ = some (.int .i64 m.k) ∧ Wz.cell? ⟨m.b, 3, none⟩ = some (.int .i64 m.n) ∧ Wz.cell? ⟨m.b, 4, none⟩ = some (.float .f64 m.f) ∧ Wz.cell? ⟨m.b, 5, none⟩ = some (.string m.s) ∧ Wz.cell? ⟨m.b, 6, none⟩ = some (.slice m.a m.kids.length m.c) ∧ Wz.cell? ⟨m.b, 9, none⟩ = some (.bool false)) := hidb (fun Wz hb => by
      have hq := (HBX.out.msg j m hj).but (hK1 Wz hb) (by omega)
      have hp := HD.out.2.1.but (hK1 Wz hb) (by omega)
      exact ⟨(hp.1 0 _ rfl).1, (hq.1 2 _ rfl).1, (hq.1 3 _ rfl).1, (hq.1 4 _ rfl).1, (hq.1 5 _ rfl).1, (hq.1 6 _ rfl).1, (hq.1 9 _ rfl).1⟩)
    have hxO := HA.out.1.far
    have hxl := HA.out.1.at6.2
    have HXW : Hid (∀ Wz, Below W1.heap.size W1 Wz → XA Wz xb op x O) := hidb (fun Wz hb => HXA.out.but (hK1 Wz hb) (by omega) (fun q hq => by have := hxO q hq; omega))
    have HBW : Hid (∀ Wz, Below W1.heap.size W1 Wz → BX Wz bb ms place most puts R) := hidb (fun Wz hb => HBX.out.but (hK1 Wz hb) (fun q hq => by have := HX.out.lt (.inl hq); omega) (fun q hq => by have := HX.out.lt (.inr hq); omega))
    have HDI := hidb hI
    have HM := hidb (And.intro hok hj)
    have CP := hidb (fun Wz hb => copy_out (k := m.k) (n := m.n) (f := m.f) (s := m.s) (a := m.a) (c := m.c) (kids := m.kids) (W := Wz) ((HBW.out Wz hb).tr m hok).1 (HL.out.2.2.2 m hok).1 (HL.out.2.2.2 m hok).2)
    have HSL := hidb hsz2
    clear hB1 hK1 hxO hxl hI hok hj
    have HS0 := hidb (HKS.out W1.drew ((Below.refl _ _).drew))
    gi_wp2
    refine region_round_D l (fun Wz => Wz.cell? ⟨w.heap.size + 1, 0, none⟩ = some (.func (.func 25) #[] #[.pointer (some ⟨xb, 0, none⟩)]) ∧ Wz.cell? ⟨m.b, 2, none⟩ = some (.int .i64 m.k) ∧ Wz.cell? ⟨m.b, 3, none⟩ = some (.int .i64 m.n) ∧ Wz.cell? ⟨m.b, 4, none⟩ = some (.float .f64 m.f) ∧ Wz.cell? ⟨m.b, 5, none⟩ = some (.string m.s) ∧ Wz.cell? ⟨m.b, 6, none⟩ = some (.slice m.a m.kids.length m.c) ∧ Wz.cell? ⟨m.b, 9, none⟩ = some (.bool false)) [] (by kernel_rfl) (by kernel_rfl) (fun ⟨_, _, hh⟩ => hh) ?_
    refine wpAnyD_takeL (i := 0) (v := ?vv0x0) rfl (by kernel_rfl) (by kernel_rfl) (by kernel_rfl) (by kernel_rfl) (fun _ _ _ h => h) HS0.out rfl ?hy0x0 ?_
    case hy0x0 => intro wy hSw; obtain ⟨y0, y1, y2, y3, y4, y5, y6⟩ := hSw; go_simp; try with_reducible rfl
    simp only [Act.put, List.setIfInBounds_toArray, List.set_cons_zero, List.set_cons_succ]
    refine wpAnyD_takeL (i := 1) (v := ?vv1x0) rfl (by kernel_rfl) (by kernel_rfl) (by kernel_rfl) (by kernel_rfl) (fun _ _ _ h => h) HS0.out rfl ?hy1x0 ?_
    case hy1x0 => intro wy hSw; obtain ⟨y0, y1, y2, y3, y4, y5, y6⟩ := hSw; go_simp; try with_reducible rfl
    simp only [Act.put, List.setIfInBounds_toArray, List.set_cons_zero, List.set_cons_succ]
    refine wpAnyD_takeL (i := 2) (v := ?vv2x0) rfl (by kernel_rfl) (by kernel_rfl) (by kernel_rfl) (by kernel_rfl) (fun _ _ _ h => h) HS0.out rfl ?hy2x0 ?_
    case hy2x0 => intro wy hSw; obtain ⟨y0, y1, y2, y3, y4, y5, y6⟩ := hSw; go_simp; try with_reducible rfl
    simp only [Act.put, List.setIfInBounds_toArray, List.set_cons_zero, List.set_cons_succ]
    refine wpAnyD_takeL (i := 3) (v := ?vv3x0) rfl (by kernel_rfl) (by kernel_rfl) (by kernel_rfl) (by kernel_rfl) (fun _ _ _ h => h) HS0.out rfl ?hy3x0 ?_
    case hy3x0 => intro wy hSw; obtain ⟨y0, y1, y2, y3, y4, y5, y6⟩ := hSw; go_simp; try with_reducible rfl
    simp only [Act.put, List.setIfInBounds_toArray, List.set_cons_zero, List.set_cons_succ]
    refine wpAnyD_takeL (i := 4) (v := ?vv4x0) rfl (by kernel_rfl) (by kernel_rfl) (by kernel_rfl) (by kernel_rfl) (fun _ _ _ h => h) HS0.out rfl ?hy4x0 ?_
    case hy4x0 => intro wy hSw; obtain ⟨y0, y1, y2, y3, y4, y5, y6⟩ := hSw; go_simp; try with_reducible rfl
    simp only [Act.put, List.setIfInBounds_toArray, List.set_cons_zero, List.set_cons_succ]
    refine wpAnyD_stepL (i := 5) (by kernel_rfl) rfl (fun K hK => ?_)
    refine step_call rfl (run_call ent_copy #[.tmp 14] _ rfl #[.agg #[.int .i64 m.k, .int .i64 m.n, .float .f64 m.f, .string m.s, .slice m.a m.kids.length m.c]] rfl) (CP.out _ ((Below.refl _ _).drew)) (fun e w7 hh => ?_)
    obtain ⟨k', n', f', s', a', c', kids', rfl, hst, hti, hb7⟩ := hh
    have hb8 : Below W1.heap.size W1 w7 := undrew hb7
    have HS7 := hidb (HKS.out w7 hb8)
    have ISN := hidb (is_any (HXW.out w7 hb8) (.mk k' n' f' s' a' c' kids') (in_base (Nat.zero_le _) _ hti))
    simp only [Tr.val, Tr.cells] at ISN
    have HID := hidb (idT_sm _ _ x hst)
    obtain ⟨r, hr⟩ : ∃ r, idT (.mk k' n' f' s' a' c' kids') x = r := ⟨_, rfl⟩
    rw [hr] at ISN
    have HR := hidb (HID.out.trans hr)
    have HB8 := hidb hb8
    refine hK _ _ (fun _ => HS7.out) ?_
    clear hK K hst hti hb7 hb8 HID hr
    simp only [Act.put, List.setIfInBounds_toArray, List.set_cons_zero, List.set_cons_succ]
    refine wpAnyD_stepL (i := 6) (by kernel_rfl) rfl (fun K hK => ?_)
    refine step_call rfl (run_clo ent_is (.tmp 10) #[.tmp 15] _ rfl #[.pointer (some ⟨xb, 0, none⟩)] rfl #[.agg #[.int .i64 k', .int .i64 n', .float .f64 f', .string s', .slice a' kids'.length c']] rfl) ISN.out (fun e w9 hh => ?_)
    obtain ⟨rfl, hb9⟩ := hh
    have HB9 := hidb (HB8.out.trans (hb9.mono HB8.out.size))
    have HS9 := hidb (HKS.out w9 HB9.out)
    refine hK _ _ (fun _ => HS9.out) ?_
    clear hK K hb9 ISN
    simp only [Act.put, List.setIfInBounds_toArray, List.set_cons_zero, List.set_cons_succ]
    refine wpAnyD_takeL (i := 7) (v := ?vv7x0) rfl (by kernel_rfl) (by kernel_rfl) (by kernel_rfl) (by kernel_rfl) (fun _ _ _ h => h) HS9.out rfl ?hy7x0 ?_
    case hy7x0 => intro wy hSw; obtain ⟨y0, y1, y2, y3, y4, y5, y6⟩ := hSw; go_simp; try with_reducible rfl
    simp only [Act.put, List.setIfInBounds_toArray, List.set_cons_zero, List.set_cons_succ]
    cases r with
    | true =>
      refine wpAnyD_takeG (i := 8) (v := ?vv8x1) rfl (by kernel_rfl) (by kernel_rfl) (by kernel_rfl) (by kernel_rfl) (fun _ _ _ h => h) HS9.out (by simp [Region.wanted, yielded]) ?hy8x1 ?_
      case hy8x1 => intro wy hSw; obtain ⟨y0, y1, y2, y3, y4, y5, y6⟩ := hSw; go_simp; try with_reducible rfl
      simp only [Act.put, List.setIfInBounds_toArray, List.set_cons_zero, List.set_cons_succ]
      refine wpAnyD_takeG (i := 9) (v := ?vv9x1) rfl (by kernel_rfl) (by kernel_rfl) (by kernel_rfl) (by kernel_rfl) (fun _ _ _ h => h) HS9.out (by simp [Region.wanted, yielded]) ?hy9x1 ?_
      case hy9x1 => intro wy hSw; obtain ⟨y0, y1, y2, y3, y4, y5, y6⟩ := hSw; go_simp; try with_reducible rfl
      simp only [Act.put, List.setIfInBounds_toArray, List.set_cons_zero, List.set_cons_succ]
      refine wpAnyD_takeG (i := 10) (v := ?vv10x1) rfl (by kernel_rfl) (by kernel_rfl) (by kernel_rfl) (by kernel_rfl) (fun _ _ _ h => h) HS9.out (by simp [Region.wanted, yielded]) ?hy10x1 ?_
      case hy10x1 => intro wy hSw; obtain ⟨y0, y1, y2, y3, y4, y5, y6⟩ := hSw; go_simp; try with_reducible rfl
      simp only [Act.put, List.setIfInBounds_toArray, List.set_cons_zero, List.set_cons_succ]
      refine wpAnyD_takeG (i := 11) (v := ?vv11x1) rfl (by kernel_rfl) (by kernel_rfl) (by kernel_rfl) (by kernel_rfl) (fun _ _ _ h => h) HS9.out (by simp [Region.wanted, yielded]) ?hy11x1 ?_
      case hy11x1 => intro wy hSw; obtain ⟨y0, y1, y2, y3, y4, y5, y6⟩ := hSw; go_simp; try with_reducible rfl
      simp only [Act.put, List.setIfInBounds_toArray, List.set_cons_zero, List.set_cons_succ]
      refine wpAnyD_takeG (i := 12) (v := ?vv12x1) rfl (by kernel_rfl) (by kernel_rfl) (by kernel_rfl) (by kernel_rfl) (fun _ _ _ h => h) HS9.out (by simp [Region.wanted, yielded]) ?hy12x1 ?_
      case hy12x1 => intro wy hSw; obtain ⟨y0, y1, y2, y3, y4, y5, y6⟩ := hSw; go_simp; try with_reducible rfl
      simp only [Act.put, List.setIfInBounds_toArray, List.set_cons_zero, List.set_cons_succ]
      refine wpAnyD_takeL (i := 13) (v := ?vv13x1) rfl (by kernel_rfl) (by kernel_rfl) (by kernel_rfl) (by kernel_rfl) (fun _ _ _ h => h) HS9.out rfl ?hy13x1 ?_
      case hy13x1 => intro wy hSw; obtain ⟨y0, y1, y2, y3, y4, y5, y6⟩ := hSw; go_simp; try with_reducible rfl
      simp only [Act.put, List.setIfInBounds_toArray, List.set_cons_zero, List.set_cons_succ]
      refine wpAnyD_done (by kernel_rfl) ?_ _
      have hA9 := HD.out.1.but (HDI.out.2.trans (But.of_below HB9.out)) (by show ¬ WL.heap.size ≤ w.heap.size; omega)
      obtain ⟨q0, -⟩ := hA9.1 0 _ rfl
      have RM := hidb (removeA (HBW.out w9 HB9.out) HM.out.2 (HL.out.2.2.2 m HM.out.1).1 (HL.out.2.2.2 m HM.out.1).2 (by have := HL.out.1; omega) HL.out.2.1)
      clear hA9
      gi_wp2
      refine ⟨trivial, rfl, ((callsIn_wide.2 RM.out).inRound l).mono ?_⟩
      rintro e w11 ⟨k2, n2, f2, s2, a2, c2, kids2, rfl, hs2, hi2, hx2, hb2⟩
      have hnb : ∀ q, w.heap.size ≤ q → ¬ BS bb ms q := fun q hq hbq => by have := HX.out.lt (.inl hbq); omega
      have g2 := (HD.out.2.2.1.but (HDI.out.2.trans (But.of_below HB9.out)) (by show ¬ WL.heap.size ≤ w.heap.size + 2; omega)).but hb2 (hnb _ (by omega))
      have g3 := (HD.out.2.2.2.but (HDI.out.2.trans (But.of_below HB9.out)) (by show ¬ WL.heap.size ≤ w.heap.size + 3; omega)).but hb2 (hnb _ (by omega))
      have HG := hidb (And.intro g2 g3)
      have HRE := hidb (And.intro hs2 (And.intro hi2 (And.intro hx2 hb2)))
      have HNB := hidb hnb
      obtain ⟨r0, f0⟩ := g2.1 0 _ rfl
      obtain ⟨r1, f1⟩ := g2.1 1 _ rfl
      obtain ⟨r2, f2'⟩ := g2.1 2 _ rfl
      obtain ⟨r3, f3⟩ := g2.1 3 _ rfl
      obtain ⟨r4, f4⟩ := g2.1 4 _ rfl
      obtain ⟨r5, f5⟩ := g3.1 0 _ rfl
      clear g2 g3 hs2 hi2 hx2 hb2 RM hnb
      gi_wp2
      have hSB := six_but w11 (w.heap.size + 1 + 1) (.int .i64 k2) (.int .i64 n2) (.float .f64 f2) (.string s2) (.slice a2 kids2.length c2) (.bool true)
      have hAS := at_six HG.out.1 HG.out.2 (.int .i64 k2) (.int .i64 n2) (.float .f64 f2) (.string s2) (.slice a2 kids2.length c2) (.bool true)
      have h9s : w.heap.size + 6 ≤ w9.heap.size := by have := HDI.out.2.size; have := HB9.out.size; omega
      have hIN : (Tr.mk k2 n2 f2 s2 a2 c2 kids2).In ((((((w11.setCell ⟨w.heap.size + 1 + 1, 0, none⟩ (.int .i64 k2)).setCell ⟨w.heap.size + 1 + 1, 1, none⟩ (.int .i64 n2)).setCell ⟨w.heap.size + 1 + 1, 2, none⟩ (.float .f64 f2)).setCell ⟨w.heap.size + 1 + 1, 3, none⟩ (.string s2)).setCell ⟨w.heap.size + 1 + 1, 4, none⟩ (.slice a2 kids2.length c2)).setCell ⟨w.heap.size + 1 + 1 + 1, 0, none⟩ (.bool true)) w.heap.size :=
        in_base (by omega) _ (in_set (in_set (in_set (in_set (in_set (in_set HRE.out.2.1 (p := ⟨w.heap.size + 1 + 1, 0, none⟩) (by show _ < _; simp; omega) _) (p := ⟨w.heap.size + 1 + 1, 1, none⟩) (by show _ < _; simp; omega) _) (p := ⟨w.heap.size + 1 + 1, 2, none⟩) (by show _ < _; simp; omega) _) (p := ⟨w.heap.size + 1 + 1, 3, none⟩) (by show _ < _; simp; omega) _) (p := ⟨w.heap.size + 1 + 1, 4, none⟩) (by show _ < _; simp; omega) _) (p := ⟨w.heap.size + 1 + 1 + 1, 0, none⟩) (by show _ < _; simp; omega) _)
      generalize (((((w11.setCell ⟨w.heap.size + 1 + 1, 0, none⟩ (.int .i64 k2)).setCell ⟨w.heap.size + 1 + 1, 1, none⟩ (.int .i64 n2)).setCell ⟨w.heap.size + 1 + 1, 2, none⟩ (.float .f64 f2)).setCell ⟨w.heap.size + 1 + 1, 3, none⟩ (.string s2)).setCell ⟨w.heap.size + 1 + 1, 4, none⟩ (.slice a2 kids2.length c2)).setCell ⟨w.heap.size + 1 + 1 + 1, 0, none⟩ (.bool true) = W9 at hSB hAS hIN ⊢
      have hlt : ∀ q, BS bb ms q → q < w.heap.size := fun q hq => HX.out.lt (.inl hq)
      have hsub : ∀ q, BS bb (ms.eraseIdx j) q → q < w.heap.size := by
        rintro q (e | ⟨y, hy, e⟩)
        · exact hlt q (.inl e)
        · exact hlt q (.inr ⟨y, List.mem_of_mem_eraseIdx hy, e⟩)
      have hRlt : ∀ q, R q → q < w.heap.size := fun q hq => HX.out.lt (.inr hq)
      refine ⟨((But.of_below HB9.out).trans (HRE.out.2.2.2.mono (fun k _ hk => ⟨.inl hk, .inl (by have := hlt k hk; omega)⟩))).trans (hSB.mono (fun k _ hk => ⟨.inr (by omega), .inl (by omega)⟩)), rfl, j, m, HM.out.2, HR.out, fun j' y hj' hy => HDI.out.1 y ?_, k2, n2, f2, s2, a2, c2, kids2, hAS, HRE.out.1, hIN, HRE.out.2.2.1.but hSB (fun q hq => by have := hsub q hq; omega) (fun q hq => by have := hRlt q hq; omega), ((HDI.out.2.mono (fun k _ hk => .inr (by omega))).trans (But.of_below HB9.out)).trans ((HRE.out.2.2.2.mono (fun k _ hk => .inl hk)).trans (hSB.mono (fun k _ hk => .inr (by omega))))⟩
      rw [HPR.out]
      exact List.mem_of_getElem? ((List.getElem?_take_of_lt hj').trans hy)
    | false =>
      refine wpAnyD_skipG (i := 8) rfl (by kernel_rfl) (by kernel_rfl) (by kernel_rfl) (by kernel_rfl) (fun _ _ _ h => h) HS9.out (by simp [Region.wanted, yielded]) ?_
      simp only [Act.put, List.setIfInBounds_toArray, List.set_cons_zero, List.set_cons_succ]
      refine wpAnyD_skipG (i := 9) rfl (by kernel_rfl) (by kernel_rfl) (by kernel_rfl) (by kernel_rfl) (fun _ _ _ h => h) HS9.out (by simp [Region.wanted, yielded]) ?_
      simp only [Act.put, List.setIfInBounds_toArray, List.set_cons_zero, List.set_cons_succ]
      refine wpAnyD_skipG (i := 10) rfl (by kernel_rfl) (by kernel_rfl) (by kernel_rfl) (by kernel_rfl) (fun _ _ _ h => h) HS9.out (by simp [Region.wanted, yielded]) ?_
      simp only [Act.put, List.setIfInBounds_toArray, List.set_cons_zero, List.set_cons_succ]
      refine wpAnyD_skipG (i := 11) rfl (by kernel_rfl) (by kernel_rfl) (by kernel_rfl) (by kernel_rfl) (fun _ _ _ h => h) HS9.out (by simp [Region.wanted, yielded]) ?_
      simp only [Act.put, List.setIfInBounds_toArray, List.set_cons_zero, List.set_cons_succ]
      refine wpAnyD_skipG (i := 12) rfl (by kernel_rfl) (by kernel_rfl) (by kernel_rfl) (by kernel_rfl) (fun _ _ _ h => h) HS9.out (by simp [Region.wanted, yielded]) ?_
      simp only [Act.put, List.setIfInBounds_toArray, List.set_cons_zero, List.set_cons_succ]
      refine wpAnyD_takeL (i := 13) (v := ?vv13x2) rfl (by kernel_rfl) (by kernel_rfl) (by kernel_rfl) (by kernel_rfl) (fun _ _ _ h => h) HS9.out rfl ?hy13x2 ?_
      case hy13x2 => intro wy hSw; obtain ⟨y0, y1, y2, y3, y4, y5, y6⟩ := hSw; go_simp; try with_reducible rfl
      simp only [Act.put, List.setIfInBounds_toArray, List.set_cons_zero, List.set_cons_succ]
      refine wpAnyD_done (by kernel_rfl) ?_ _
      gi_wp2
      refine ⟨(But.of_below HB9.out).mono (S := fun _ => False) (fun k _ h => False.elim h), fun y hy => ?_, HDI.out.2.trans (But.of_below HB9.out)⟩
      rcases List.mem_append.1 hy with hy | hy
      · exact HDI.out.1 y hy
      · obtain rfl : y = m := by simpa using hy
        exact HR.out
end Go.Proofs.Ytogahhbckfnllaa


/- The same terms measure the same; both boxes side by side. -/
namespace Go.Proofs.Ytogahhbckfnllaa
open Go.RowKit Go.Lib Go.Deep

theorem meas_sm : ∀ t u : Tr, Sm t u → ∀ d m, meas u d m = meas t d m := by
  refine Tr.ind fun k n f s a c kids hk u hs => ?_
  obtain ⟨k', n', f', s', a', c', kids'⟩ := u
  unfold Sm at hs
  obtain ⟨rfl, rfl, rfl, rfl, hsa⟩ := hs
  have hl := smA_len hsa
  have hall : ∀ (l l' : List Tr), (∀ t, t ∈ l → t ∈ kids) → SmA l l' → ∀ d m n, measAll l' d m n = measAll l d m n := by
    intro l
    induction l with
    | nil => intro l' _ h d m n; cases l' with
      | nil => rfl
      | cons _ _ => unfold SmA at h; exact h.elim
    | cons t r ih => intro l' hm h d m n; cases l' with
      | nil => unfold SmA at h; exact h.elim
      | cons t' r' =>
        unfold SmA at h
        simp only [measAll]
        rw [hk t (hm t (List.mem_cons_self ..)) t' h.1]
        split
        · rfl
        · exact ih r' (fun u hu => hm u (List.mem_cons_of_mem _ hu)) h.2 _ _ _
  intro d m
  simp only [meas]
  rw [show kids'.length = kids.length by omega]
  split
  · rfl
  · exact hall kids kids' (fun _ h => h) hsa _ _ _
theorem good_sm : ∀ t u : Tr, Sm t u → allT goodT u = allT goodT t := by
  refine Tr.ind fun k n f s a c kids hk u hs => ?_
  obtain ⟨k', n', f', s', a', c', kids'⟩ := u
  unfold Sm at hs
  obtain ⟨rfl, rfl, rfl, rfl, hsa⟩ := hs
  have hl := smA_len hsa
  have hall : ∀ (l l' : List Tr), (∀ t, t ∈ l → t ∈ kids) → SmA l l' → allAll goodT l' = allAll goodT l := by
    intro l
    induction l with
    | nil => intro l' _ h; cases l' with
      | nil => rfl
      | cons _ _ => unfold SmA at h; exact h.elim
    | cons t r ih => intro l' hm h; cases l' with
      | nil => unfold SmA at h; exact h.elim
      | cons t' r' =>
        unfold SmA at h
        simp only [allAll]
        rw [hk t (hm t (List.mem_cons_self ..)) t' h.1, ih r' (fun u hu => hm u (List.mem_cons_of_mem _ hu)) h.2]
  simp only [allT, goodT]
  rw [show kids'.length = kids.length by omega, hall kids kids' (fun _ h => h) hsa]
theorem err_sm {t u : Tr} (h : Sm t u) : errT u = errT t := by
  unfold errT
  rw [meas_sm t u h, good_sm t u h]

theorem words_sm {t u : Tr} (h : Sm t u) : wordsT u = wordsT t := by
  unfold wordsT
  rw [err_sm h, meas_sm t u h]
theorem words_nat {t : Tr} (he : errT t = 0) : ∃ W2 : Nat, wordsT t = (W2 : Int) ∧ W2 ≤ 65536 := by
  have hb := meas_bounds t 200 65536
  have h0 : ¬ meas t 200 65536 < 0 := by
    intro hlt
    unfold errT at he
    rw [if_pos hlt] at he
    omega
  refine ⟨(meas t 200 65536).toNat, ?_, ?_⟩
  · unfold wordsT
    rw [if_pos he]
    omega
  · have := hb.2 (by omega); omega

/-- What both boxes may write. -/
def PS (bb rb : Nat) (ms : List Msg) (lv : Value) (q : Nat) : Prop := BS bb ms q ∨ RS rb lv q

/-- Both boxes, side by side. -/
structure PB (w : World) (bb rb : Nat) (lv : Value) (ms : List Msg) (ds : List Tr) (place most puts : Nat) (R T : Nat → Prop) : Prop where
  hb : BX w bb ms place most puts R
  hr : RY w rb lv ds place (wds ms) most T
  len : ms.length = ds.length
  sm : ∀ (i : Nat) (m : Msg) (t : Tr), ms[i]? = some m → ds[i]? = some t → Sm m.t t
  gd : ∀ m : Msg, m ∈ ms → wordsT m.t + 2 = (m.wd : Int) ∧ errT m.t = 0 ∧ Small m.t ∧ cnT m.t ≤ 60001
  num : ∀ m : Msg, m ∈ ms → m.num ≤ puts
  d1 : ∀ q, (RS rb lv q ∨ T q) → ¬ BS bb ms q
  d2 : ∀ q, (BS bb ms q ∨ R q) → ¬ RS rb lv q
  fit : wds ms ≤ most ∧ most ≤ 16777216

variable {w w' : World} {bb rb place most puts : Nat} {lv : Value} {ms : List Msg} {ds : List Tr} {R T : Nat → Prop}

theorem PB.keep (h : PB w bb rb lv ms ds place most puts R T) (hb : Below w.heap.size w w') : PB w' bb rb lv ms ds place most puts R T :=
  ⟨h.hb.keep hb, h.hr.keep hb, h.len, h.sm, h.gd, h.num, h.d1, h.d2, h.fit⟩
theorem PB.lt (h : PB w bb rb lv ms ds place most puts R T) {q : Nat} (hq : PS bb rb ms lv q) : q < w.heap.size := hq.elim (fun e => h.hb.lt (.inl e)) (fun e => h.hr.lt (.inl e))

/-- What an act leaves. -/
def Nxt (w : World) (bb rb : Nat) (lv : Value) (ms : List Msg) (most puts : Nat) (w' : World) : Prop :=
  ∃ (lv' : Value) (ms' : List Msg) (ds' : List Tr) (place' puts' : Nat) (R' T' : Nat → Prop), PB w' bb rb lv' ms' ds' place' most puts' R' T' ∧ (∀ q, PS bb rb ms' lv' q → PS bb rb ms lv q ∨ w.heap.size ≤ q) ∧ ms'.length ≤ ms.length + 1 ∧ puts' ≤ puts + 1 ∧ But (PS bb rb ms lv) w w'
theorem PB.same (h : PB w bb rb lv ms ds place most puts R T) (hb : Below w.heap.size w w') : Nxt w bb rb lv ms most puts w' :=
  ⟨lv, ms, ds, place, puts, R, T, h.keep hb, fun _ hq => .inl hq, by omega, by omega, But.of_below hb⟩

/-- A message more. -/
theorem PB.put (h : PB w bb rb lv ms ds place most puts R T) {w1 w2 : World} {m : Msg} {t t' : Tr} {R' T' : Nat → Prop} {lv' : Value} {W2 : Nat} (hx : BX w1 bb (ms ++ [m]) place most (puts + 1) R') (hs : Sm t m.t) (hwd : m.wd = W2 + 2 ∧ m.num = puts + 1) (hm : w.heap.size ≤ m.b) (hR : ∀ q, R' q → R q ∨ w.heap.size ≤ q) (hb1 : But (BS bb ms) w w1)
    {w1' : World} (hbe : Below w1.heap.size w1 w1') (hy : RY w2 rb lv' (ds ++ [t']) place (wds ms + (W2 + 2)) most T') (hst : Sm t t') (hT : ∀ q, T' q → T q ∨ w1'.heap.size ≤ q) (hv : ∀ q, lv'.ownBlock = some q → lv.ownBlock = some q ∨ w1'.heap.size ≤ q) (hb2 : But (RS rb lv) w1' w2) (he : errT t = 0) (hw : wordsT t = (W2 : Int)) (hsm : Small t) (hcn : cnT t ≤ 60001) (hfit : wds ms + (W2 + 2) ≤ most) : Nxt w bb rb lv ms most puts w2 := by
  have hz1 := hb1.size
  have hz2 := hbe.size
  have hml : m.b < w1.heap.size := hx.lt (.inl (.inr ⟨m, by simp, rfl⟩))
  have hRS : ∀ q, RS rb lv q → q < w.heap.size := fun q e => h.hr.lt (.inl e)
  have hTl : ∀ q, T q → q < w.heap.size := fun q e => h.hr.lt (.inr e)
  have hBl : ∀ q, BS bb (ms ++ [m]) q → q < w1.heap.size := fun q e => hx.lt (.inl e)
  have hRl : ∀ q, R' q → q < w1.heap.size := fun q e => hx.lt (.inr e)
  have hBS : ∀ q, BS bb (ms ++ [m]) q → BS bb ms q ∨ w.heap.size ≤ q := fun q e => (bs_snoc e).imp id (fun e => by omega)
  have hRS' : ∀ q, RS rb lv' q → RS rb lv q ∨ w1'.heap.size ≤ q := by
    rintro q (e | e)
    · exact .inl (.inl e)
    · exact (hv q e).imp (fun e => .inr e) id
  have hx2 : BX w2 bb (ms ++ [m]) place most (puts + 1) R' := (hx.keep hbe).but hb2 (fun q hq e => by
    rcases hBS q hq with hq' | hq'
    · exact h.d2 q (.inl hq') e
    · have := hRS q e; omega) (fun q hq e => by
    rcases hR q hq with hq' | hq'
    · exact h.d2 q (.inr hq') e
    · have := hRS q e; omega)
  refine ⟨lv', ms ++ [m], ds ++ [t'], place, puts + 1, R', T', ⟨hx2, ?_, by simp [h.len], ?_, ?_, ?_, ?_, ?_, ?_⟩, ?_, by simp, by omega, ?_⟩
  · rw [wds_snoc, hwd.1]; exact hy
  · intro i x u hi hu
    by_cases e : i < ms.length
    · rw [List.getElem?_append_left e] at hi
      rw [List.getElem?_append_left (by have := h.len; omega)] at hu
      exact h.sm i x u hi hu
    · have hl := (List.getElem?_eq_some_iff.1 hi).1
      simp at hl
      have e2 : i = ms.length := by omega
      subst e2
      simp at hi
      rw [h.len] at hu
      simp at hu
      subst hi hu
      exact sm_trans _ _ _ (sm_symm _ _ hs) hst
  · intro x hx
    rcases List.mem_append.1 hx with hx | hx
    · exact h.gd x hx
    · simp at hx
      subst hx
      obtain ⟨z1, z2⟩ := sm_small t x.t hs
      exact ⟨by rw [words_sm hs, hw, hwd.1]; omega, (err_sm hs).trans he, z1 hsm, by omega⟩
  · intro x hx
    rcases List.mem_append.1 hx with hx | hx
    · have := h.num x hx; omega
    · simp at hx
      subst hx
      omega
  · rintro q (hq | hq) hbq
    · rcases hRS' q hq with hq' | hq'
      · rcases hBS q hbq with e | e
        · exact h.d1 q (.inl hq') e
        · have := hRS q hq'; omega
      · have := hBl q hbq; omega
    · rcases hT q hq with hq' | hq'
      · rcases hBS q hbq with e | e
        · exact h.d1 q (.inr hq') e
        · have := hTl q hq'; omega
      · have := hBl q hbq; omega
  · rintro q hq hrq
    rcases hRS' q hrq with e | e
    · rcases hq with hq | hq
      · rcases hBS q hq with hq' | hq'
        · exact h.d2 q (.inl hq') e
        · have := hRS q e; omega
      · rcases hR q hq with hq' | hq'
        · exact h.d2 q (.inr hq') e
        · have := hRS q e; omega
    · rcases hq with hq | hq
      · have := hBl q hq; omega
      · have := hRl q hq; omega
  · rw [wds_snoc, hwd.1]; exact ⟨hfit, h.fit.2⟩
  · rintro q (hq | hq)
    · exact (hBS q hq).imp (fun e => .inl e) id
    · exact (hRS' q hq).imp (fun e => .inr e) (fun e => by omega)
  · exact ((hb1.mono (fun _ _ e => .inl e)).trans (But.of_below hbe)).trans (hb2.mono (fun _ _ e => .inr e))

/-- Another place. -/
theorem PB.turn (h : PB w bb rb lv ms ds place most puts R T) {p2 : Nat} {w1 w1' w2 : World} (hx : BX w1 bb ms p2 most puts R) (hb1 : But (BS bb ms) w w1) (hbe : Below w1.heap.size w1 w1') (hy : RY w2 rb lv ds p2 (wds ms) most T) (hb2 : But (RS rb lv) w1' w2) : Nxt w bb rb lv ms most puts w2 :=
  ⟨lv, ms, ds, p2, puts, R, T, ⟨(hx.keep hbe).but hb2 (fun q hq e => h.d2 q (.inl hq) e) (fun q hq e => h.d2 q (.inr hq) e), hy, h.len, h.sm, h.gd, h.num, h.d1, h.d2, h.fit⟩, fun _ hq => .inl hq, by omega, by omega,
    ((hb1.mono (fun _ _ e => .inl e)).trans (But.of_below hbe)).trans (hb2.mono (fun _ _ e => .inr e))⟩

/-- A message less. -/
theorem PB.less (h : PB w bb rb lv ms ds place most puts R T) {i p2 : Nat} {m : Msg} {lv' : Value} (hm : ms[i]? = some m) {w1 w1' w2 : World} (hx : BX w1 bb (ms.eraseIdx i) p2 most puts R) (hb1 : But (BS bb ms) w w1) (hbe : Below w1.heap.size w1 w1') (hy : RY w2 rb lv' (ds.eraseIdx i) p2 (wds ms - m.wd) most T) (hv : ∀ q, lv'.ownBlock = some q → w1'.heap.size ≤ q) (hb2 : But (fun q => q = rb) w1' w2) : Nxt w bb rb lv ms most puts w2 := by
  have hil := (List.getElem?_eq_some_iff.1 hm).1
  have hz1 := hb1.size
  have hz2 := hbe.size
  have hwd := wds_erase ms i m hm
  have hsub : ∀ q, BS bb (ms.eraseIdx i) q → BS bb ms q := by
    rintro q (e | ⟨y, hy, e⟩)
    · exact .inl e
    · exact .inr ⟨y, List.mem_of_mem_eraseIdx hy, e⟩
  have hRS' : ∀ q, RS rb lv' q → q = rb ∨ w1'.heap.size ≤ q := by
    rintro q (e | e)
    · exact .inl e
    · exact .inr (hv q e)
  have hBl : ∀ q, BS bb ms q → q < w.heap.size := fun q e => h.hb.lt (.inl e)
  have hRl : ∀ q, R q → q < w.heap.size := fun q e => h.hb.lt (.inr e)
  have hnr : ∀ q, (BS bb ms q ∨ R q) → ¬ q = rb := fun q hq e => h.d2 q hq (.inl e)
  refine ⟨lv', ms.eraseIdx i, ds.eraseIdx i, p2, puts, R, T, ⟨(hx.keep hbe).but hb2 (fun q hq => hnr q (.inl (hsub q hq))) (fun q hq => hnr q (.inr hq)), ?_, ?_, ?_, fun x hx => h.gd x (List.mem_of_mem_eraseIdx hx), fun x hx => h.num x (List.mem_of_mem_eraseIdx hx), ?_, ?_, ?_⟩, ?_, ?_, by omega, ?_⟩
  · rw [show wds (ms.eraseIdx i) = wds ms - m.wd by omega]; exact hy
  · rw [List.length_eraseIdx, List.length_eraseIdx, if_pos hil, if_pos (by have := h.len; omega), h.len]
  · intro j x u hj hu
    rw [List.getElem?_eraseIdx] at hj hu
    by_cases e : j < i
    · rw [if_pos e] at hj hu; exact h.sm j x u hj hu
    · rw [if_neg e] at hj hu; exact h.sm (j + 1) x u hj hu
  · rintro q (hq | hq) hbq
    · rcases hRS' q hq with e | e
      · exact hnr q (.inl (hsub q hbq)) e
      · have := hBl q (hsub q hbq); omega
    · exact h.d1 q (.inr hq) (hsub q hbq)
  · rintro q hq hrq
    rcases hRS' q hrq with e | e
    · rcases hq with hq | hq
      · exact hnr q (.inl (hsub q hq)) e
      · exact hnr q (.inr hq) e
    · rcases hq with hq | hq
      · have := hBl q (hsub q hq); omega
      · have := hRl q hq; omega
  · have := h.fit; omega
  · rintro q (hq | hq)
    · exact .inl (.inl (hsub q hq))
    · rcases hRS' q hq with e | e
      · exact .inl (.inr (.inl e))
      · exact .inr (by omega)
  · rw [List.length_eraseIdx, if_pos hil]; omega
  · exact ((hb1.mono (fun _ _ e => .inl e)).trans (But.of_below hbe)).trans (hb2.mono (fun _ _ e => .inr (.inl e)))
end Go.Proofs.Ytogahhbckfnllaa


