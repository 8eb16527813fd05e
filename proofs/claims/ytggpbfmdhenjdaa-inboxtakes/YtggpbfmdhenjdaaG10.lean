import Derived.Test.YtggpbfmdhenjdaaG09
import Derived.Test.YtggpbfmdhenjdaaG05
/- A message more: add, walked. -/
namespace Go.Proofs.Ytggpbfmdhenjdaa
open Go.RowKit Go.Deep
attribute [local go_sem] store_float f64bits
attribute [local go_sem ↓] Go.wp_at_zero Go.wp_at_succ
variable {w : World} {bb place most puts : Nat} {ms : List Msg} {R : Nat → Prop}

/-- The last message's block, or the box, is there to be written. -/
theorem BX.lastA (h : BX w bb ms place most puts R) : ∃ u, w.cell? (jA bb (prv ms ms.length)) = some u ∧ w.frozen? (jA bb (prv ms ms.length)) = false := by
  unfold prv
  split
  · exact ⟨_, h.box.1 0 _ rfl⟩
  · rename_i hne
    obtain ⟨x, hx⟩ : ∃ x, ms[ms.length - 1]? = some x := ⟨_, List.getElem?_eq_getElem (by omega)⟩
    rw [hx]
    exact ⟨_, (h.msg _ x hx).1 1 _ rfl⟩
theorem BX.last_ne (h : BX w bb ms place most puts R) : ∀ x, prv ms ms.length = some x → x ≠ bb ∧ ∃ m : Msg, m ∈ ms ∧ x = m.b := by
  intro x hx
  unfold prv at hx
  split at hx
  · cases hx
  · cases hl : ms[ms.length - 1]? with
    | none => rw [hl] at hx; cases hx
    | some y =>
      rw [hl] at hx
      cases hx
      exact ⟨h.nb y (List.mem_of_getElem? hl), y, List.mem_of_getElem? hl, rfl⟩

set_option maxHeartbeats 1000000 in
set_option maxRecDepth 100000 in
theorem addB {m : Msg} {R' : Nat → Prop} (h : BX w bb ms place most puts R) (hm : At w m.b (m.cells none none false)) (hmb : m.b ≠ bb) (hmn : ∀ x : Msg, x ∈ ms → x.b ≠ m.b) (htr : m.t.In w 0 ∧ m.t.On R') (hR : ∀ q, R q → R' q) (hR2 : ∀ q, R' q → q < w.heap.size ∧ q ≠ bb ∧ q ≠ m.b ∧ ∀ x : Msg, x ∈ ms → q ≠ x.b) (hl : ms.length ≤ 1000000) (hwd : wds ms + m.wd ≤ 1000000000000) :
    Calls Try.prog 22 #[.pointer (some ⟨bb, 0, none⟩), .pointer (some ⟨m.b, 0, none⟩)] w fun e w' => e = .returned (.tuple #[]) ∧ BX w' bb (ms ++ [m]) place most puts R' ∧ But (BS bb (ms ++ [m])) w w' := by
  have K := hidb (h.added hm hmb hmn htr hR hR2)
  obtain ⟨u, u1, u2⟩ := h.lastA
  have hln := h.last_ne
  have hjb : (jA bb (prv ms ms.length)).block ≠ m.b := by
    cases hp : prv ms ms.length with
    | none => exact fun e => hmb e.symm
    | some x => obtain ⟨_, y, hy, e⟩ := hln x hp; exact fun e2 => hmn y hy (e.symm.trans e2)
  have J1 : Hid (Calls Try.prog 32 #[.pointer (some ⟨bb, 0, none⟩), pt (prv ms ms.length), .pointer (some ⟨m.b, 0, none⟩)] w fun e w' => e = .returned (.tuple #[]) ∧ w' = (w.setCell (jA bb (prv ms ms.length)) (pt (some m.b))).setCell ⟨m.b, 0, none⟩ (pt (prv ms ms.length))) := hidb (joinB (w := w) (bb := bb) (prv ms ms.length) (some m.b) u _ u1 u2 (hm.1 0 _ rfl).1 (hm.1 0 _ rfl).2 (fun x hx => (hln x hx).1) (fun y hy => by cases hy; exact hmb))
  have hm1 := (hm.other hjb (pt (some m.b))).set (i := 0) (by simp [Msg.cells]) (pt (prv ms ms.length))
  have hb0 : ∃ v, ((w.setCell (jA bb (prv ms ms.length)) (pt (some m.b))).setCell ⟨m.b, 0, none⟩ (pt (prv ms ms.length))).cell? ⟨bb, 1, none⟩ = some v ∧ ((w.setCell (jA bb (prv ms ms.length)) (pt (some m.b))).setCell ⟨m.b, 0, none⟩ (pt (prv ms ms.length))).frozen? ⟨bb, 1, none⟩ = false := by
    have := h.box.1 1 _ rfl
    refine ⟨pt (prv ms ms.length), ?_, ?_⟩
    · rw [World.cell?_setCell_other _ _ _ _ (fun q => hmb (congrArg Addr.block q)), World.cell?_setCell_other]
      · exact this.1
      · cases hp : prv ms ms.length with
        | none => simp [jA]
        | some x => have := (hln x hp).1; simp [jA]
    · rw [World.frozen?_setCell, World.frozen?_setCell]; exact this.2
  obtain ⟨v, v1, v2⟩ := hb0
  have J2 : Hid (Calls Try.prog 32 #[.pointer (some ⟨bb, 0, none⟩), .pointer (some ⟨m.b, 0, none⟩), .pointer none] ((w.setCell (jA bb (prv ms ms.length)) (pt (some m.b))).setCell ⟨m.b, 0, none⟩ (pt (prv ms ms.length))) fun e w' => e = .returned (.tuple #[]) ∧ w' = (((w.setCell (jA bb (prv ms ms.length)) (pt (some m.b))).setCell ⟨m.b, 0, none⟩ (pt (prv ms ms.length))).setCell ⟨m.b, 1, none⟩ (pt none)).setCell ⟨bb, 1, none⟩ (pt (some m.b))) := hidb (joinB (w := (w.setCell (jA bb (prv ms ms.length)) (pt (some m.b))).setCell ⟨m.b, 0, none⟩ (pt (prv ms ms.length))) (bb := bb) (some m.b) none _ v (hm1.1 1 _ rfl).1 (hm1.1 1 _ rfl).2 v1 v2 (fun x hx => by cases hx; exact hmb) (fun y hy => by cases hy))
  have hlw : IntKind.i64.wrap ((ms.length : Int) + 1) = ((ms.length + 1 : Nat) : Int) := by rw [IntKind.wrap_i64]; omega
  have hww : IntKind.i64.wrap ((wds ms : Int) + (m.wd : Int)) = ((wds ms + m.wd : Nat) : Int) := by rw [IntKind.wrap_i64]; omega
  have b1 := (h.box.1 1 _ rfl).1
  have hb2 : At ((((w.setCell (jA bb (prv ms ms.length)) (pt (some m.b))).setCell ⟨m.b, 0, none⟩ (pt (prv ms ms.length))).setCell ⟨m.b, 1, none⟩ (pt none)).setCell ⟨bb, 1, none⟩ (pt (some m.b))) bb [if prv ms ms.length = none then pt (some m.b) else pt (hd ms), pt (some m.b), pt (prv ms place), .int .i64 (ms.length : Int), .int .i64 (wds ms : Int), .int .i64 (most : Int), .int .i64 (puts : Int)] := by
    cases hp : prv ms ms.length with
    | none =>
      have hb := h.box
      rw [hp] at hb
      exact (((hb.set (i := 0) (by simp) (pt (some m.b))).other hmb _).other hmb _).set (i := 1) (by simp) (pt (some m.b))
    | some x =>
      have hb := h.box
      rw [hp] at hb
      exact (((hb.other (p := ⟨x, 1, none⟩) (hln x hp).1 _).other hmb _).other hmb _).set (i := 1) (by simp) (pt (some m.b))
  have hm2 := (((hm.other hjb (pt (some m.b))).set (i := 0) (by simp [Msg.cells]) (pt (prv ms ms.length))).set (i := 1) (by simp [Msg.cells]) (pt none)).other (p := ⟨bb, 1, none⟩) (fun e => hmb e.symm) (pt (some m.b))
  have HBT : Hid (But (BS bb (ms ++ [m])) w ((((((w.setCell (jA bb (prv ms ms.length)) (pt (some m.b))).setCell ⟨m.b, 0, none⟩ (pt (prv ms ms.length))).setCell ⟨m.b, 1, none⟩ (pt none)).setCell ⟨bb, 1, none⟩ (pt (some m.b))).setCell ⟨bb, 3, none⟩ (.int .i64 ((ms.length + 1 : Nat) : Int))).setCell ⟨bb, 4, none⟩ (.int .i64 ((wds ms + m.wd : Nat) : Int)))) := hidb (by
    have s1 : BS bb (ms ++ [m]) (jA bb (prv ms ms.length)).block := by
      cases hp : prv ms ms.length with
      | none => exact .inl rfl
      | some x => obtain ⟨_, y, hy, e⟩ := hln x hp; exact .inr ⟨y, by simp [hy], e⟩
    have s2 : BS bb (ms ++ [m]) m.b := .inr ⟨m, by simp, rfl⟩
    have s3 : BS bb (ms ++ [m]) bb := .inl rfl
    exact ((((((But.refl _ w).setCell (fun _ => s1) _).setCell (fun _ => s2) _).setCell (fun _ => s2) _).setCell (fun _ => s3) _).setCell (fun _ => s3) _).setCell (fun _ => s3) _)
  generalize hW2 : (((w.setCell (jA bb (prv ms ms.length)) (pt (some m.b))).setCell ⟨m.b, 0, none⟩ (pt (prv ms ms.length))).setCell ⟨m.b, 1, none⟩ (pt none)).setCell ⟨bb, 1, none⟩ (pt (some m.b)) = W2 at *
  have e3 := hb2.1 3 _ rfl
  have e4 := hb2.1 4 _ rfl
  have hb3 := hb2.set (i := 3) (by simp) (.int .i64 ((ms.length + 1 : Nat) : Int))
  have e5 := hb3.1 4 _ rfl
  have m7 := hm2.1 7 _ rfl
  have m7' := (hm2.other (p := ⟨bb, 3, none⟩) (fun e => hmb e.symm) (.int .i64 ((ms.length + 1 : Nat) : Int))).1 7 _ rfl
  obtain ⟨e3, e3f⟩ := e3
  obtain ⟨e4, e4f⟩ := e4
  obtain ⟨e5, e5f⟩ := e5
  obtain ⟨m7, -⟩ := m7
  obtain ⟨m7', -⟩ := m7'
  have hmbb : ¬ bb = m.b := fun e => hmb e.symm
  generalize hW1 : (w.setCell (jA bb (prv ms ms.length)) (pt (some m.b))).setCell ⟨m.b, 0, none⟩ (pt (prv ms ms.length)) = W1 at *
  generalize pt (prv ms ms.length) = P1 at *
  clear h hm hmn htr hR hR2 hjb hm1 v1 v2 u1 u2 hln hb2 hb3 hm2 hW2 hW1
  rw [show ((ms.length + 1 : Nat) : Int) = (ms.length : Int) + 1 from rfl] at K HBT e5 e5f m7' hlw
  rw [show ((wds ms + m.wd : Nat) : Int) = (wds ms : Int) + (m.wd : Int) by omega] at K HBT hww
  go_enter Try.func22, Try.ntmps22
  go_wp2_with (first
    | (go_at_call 32; refine J1.out.mono ?_; rintro e w' ⟨rfl, hw'⟩; obtain rfl := hw'.symm; clear J1)
    | (go_at_call 32; refine J2.out.mono ?_; rintro e w' ⟨rfl, hw'⟩; obtain rfl := hw'.symm))
  go_region
  all_goals go_wp2_with fail
  all_goals exact bodyPost_end (by simp [results, Try.results22]) rfl ⟨rfl, K.out.keep ((Below.refl _ _).drew), HBT.out.drew⟩
end Go.Proofs.Ytggpbfmdhenjdaa


/- A term's kind, asked by the program through an interface: which type it is, the words of a term itself, whether it is right by itself. -/
namespace Go.Proofs.Ytggpbfmdhenjdaa
open Go.RowKit Go.Deep
attribute [local go_sem ↓] Go.wp_at_zero Go.wp_at_succ

/-- The type that stands for a kind. -/
def kt (k : Int) : TypeId :=
  if k = 1 then 86 else if k = 2 then 87 else if k = 3 then 88 else if k = 4 then 91 else if k = 5 then 92 else if k = 6 then 93 else if k = 7 then 94 else if k = 8 then 95 else 97

/-- Its methods words and right. -/
def fwords (k : Int) : FuncId :=
  if k = 1 then 72 else if k = 2 then 73 else if k = 3 then 77 else if k = 4 then 83 else if k = 5 then 88 else if k = 6 then 91 else if k = 7 then 96 else if k = 8 then 101 else 96
def fright (k : Int) : FuncId :=
  if k = 1 then 61 else if k = 2 then 61 else if k = 3 then 76 else if k = 4 then 81 else if k = 5 then 87 else if k = 6 then 81 else if k = 7 then 95 else if k = 8 then 100 else 103

theorem by_kind {Q : Int → Prop} (k : Int) (h1 : Q 1) (h2 : Q 2) (h3 : Q 3) (h4 : Q 4) (h5 : Q 5) (h6 : Q 6) (h7 : Q 7) (h8 : Q 8) (h9 : ∀ k, k ≠ 1 → k ≠ 2 → k ≠ 3 → k ≠ 4 → k ≠ 5 → k ≠ 6 → k ≠ 7 → k ≠ 8 → Q k) : Q k := by
  by_cases e1 : k = 1
  · exact e1 ▸ h1
  by_cases e2 : k = 2
  · exact e2 ▸ h2
  by_cases e3 : k = 3
  · exact e3 ▸ h3
  by_cases e4 : k = 4
  · exact e4 ▸ h4
  by_cases e5 : k = 5
  · exact e5 ▸ h5
  by_cases e6 : k = 6
  · exact e6 ▸ h6
  by_cases e7 : k = 7
  · exact e7 ▸ h7
  by_cases e8 : k = 8
  · exact e8 ▸ h8
  exact h9 k e1 e2 e3 e4 e5 e6 e7 e8

set_option maxHeartbeats 800000 in
set_option maxRecDepth 100000 in
theorem kindOf_any (k n : Int) (f : Nat) (s : ByteArray) (a : Option Addr) (l c : Nat) (w : World) :
    Calls Try.prog 41 #[.agg #[.int .i64 k, .int .i64 n, .float .f64 f, .string s, .slice a l c]] w fun e w' => e = .returned (.iface (kt k) (.agg #[])) ∧ Below w.heap.size w w' := by
  refine by_kind (Q := fun k => Calls Try.prog 41 #[.agg #[.int .i64 k, .int .i64 n, .float .f64 f, .string s, .slice a l c]] w fun e w' => e = .returned (.iface (kt k) (.agg #[])) ∧ Below w.heap.size w w') k ?_ ?_ ?_ ?_ ?_ ?_ ?_ ?_ ?_
  iterate 8
    · go_enter Try.func41, Try.ntmps41; go_wp2; go_ret; exact ⟨rfl, (Below.refl _ _).alloc (Nat.le_refl _) _⟩
  · intro k h1 h2 h3 h4 h5 h6 h7 h8
    go_enter Try.func41, Try.ntmps41; go_wp2; go_ret
    refine ⟨?_, (Below.refl _ _).alloc (Nat.le_refl _) _⟩
    simp [kt, h1, h2, h3, h4, h5, h6, h7, h8]

theorem method_words (k : Int) (w : World) : (method 232 (kt k) (.agg #[]) "exitwave/term.words").run Try.prog w = .ok (fwords k, .agg #[]) w := by
  refine by_kind (Q := fun k => (method 232 (kt k) (.agg #[]) "exitwave/term.words").run Try.prog w = .ok (fwords k, .agg #[]) w) k ?_ ?_ ?_ ?_ ?_ ?_ ?_ ?_ ?_
  iterate 8
    · kernel_rfl
  · intro k h1 h2 h3 h4 h5 h6 h7 h8
    simp only [kt, fwords, h1, h2, h3, h4, h5, h6, h7, h8, if_false]
    kernel_rfl

theorem method_right (k : Int) (w : World) : (method 232 (kt k) (.agg #[]) "exitwave/term.right").run Try.prog w = .ok (fright k, .agg #[]) w := by
  refine by_kind (Q := fun k => (method 232 (kt k) (.agg #[]) "exitwave/term.right").run Try.prog w = .ok (fright k, .agg #[]) w) k ?_ ?_ ?_ ?_ ?_ ?_ ?_ ?_ ?_
  iterate 8
    · kernel_rfl
  · intro k h1 h2 h3 h4 h5 h6 h7 h8
    simp only [kt, fright, h1, h2, h3, h4, h5, h6, h7, h8, if_false]
    kernel_rfl

theorem call_words (k : Int) (args : Array Value) (w : World) : (callFunc (fwords k) args).run Try.prog w = .ok (.enter (fwords k) args) w := by
  refine by_kind (Q := fun k => (callFunc (fwords k) args).run Try.prog w = .ok (.enter (fwords k) args) w) k ?_ ?_ ?_ ?_ ?_ ?_ ?_ ?_ ?_
  · exact Try.call72 args w
  · exact Try.call73 args w
  · exact Try.call77 args w
  · exact Try.call83 args w
  · exact Try.call88 args w
  · exact Try.call91 args w
  · exact Try.call96 args w
  · exact Try.call101 args w
  · intro k h1 h2 h3 h4 h5 h6 h7 h8
    simp only [fwords, h1, h2, h3, h4, h5, h6, h7, h8, if_false]
    exact Try.call96 args w

theorem call_right (k : Int) (args : Array Value) (w : World) : (callFunc (fright k) args).run Try.prog w = .ok (.enter (fright k) args) w := by
  refine by_kind (Q := fun k => (callFunc (fright k) args).run Try.prog w = .ok (.enter (fright k) args) w) k ?_ ?_ ?_ ?_ ?_ ?_ ?_ ?_ ?_
  · exact Try.call61 args w
  · exact Try.call61 args w
  · exact Try.call76 args w
  · exact Try.call81 args w
  · exact Try.call87 args w
  · exact Try.call81 args w
  · exact Try.call95 args w
  · exact Try.call100 args w
  · intro k h1 h2 h3 h4 h5 h6 h7 h8
    simp only [fright, h1, h2, h3, h4, h5, h6, h7, h8, if_false]
    exact Try.call103 args w

set_option maxHeartbeats 800000 in
set_option maxRecDepth 100000 in
theorem words_any (k n : Int) (f : Nat) (s : ByteArray) (a : Option Addr) (l c : Nat) (hl : l ≤ 4611686018427387900) (w : World) :
    Calls Try.prog (fwords k) #[.agg #[], .agg #[.int .i64 k, .int .i64 n, .float .f64 f, .string s, .slice a l c]] w fun e w' => e = .returned (.int .i64 (own k l)) ∧ Below w.heap.size w w' := by
  have w2 : wrap64 (2 * (l : Int)) = 2 * l := by unfold wrap64; omega
  have w3 : wrap64 (2 + (l : Int)) = 2 + l := by unfold wrap64; omega
  have w4 : wrap64 (1 + (l : Int)) = 1 + l := by unfold wrap64; omega
  refine by_kind (Q := fun k => Calls Try.prog (fwords k) #[.agg #[], .agg #[.int .i64 k, .int .i64 n, .float .f64 f, .string s, .slice a l c]] w fun e w' => e = .returned (.int .i64 (own k l)) ∧ Below w.heap.size w w') k ?_ ?_ ?_ ?_ ?_ ?_ ?_ ?_ ?_
  · show Calls Try.prog 72 _ _ _
    go_enter Try.func72, Try.ntmps72; go_wp2; go_ret; exact ⟨rfl, by (repeat (first | exact Below.refl _ _ | assumption | refine Below.drew ?_ | refine below_drewN ?_ _ | refine Below.setCell ?_ (by simp) _ | refine Below.alloc ?_ (by (first | exact Nat.le_refl _ | (simp; done) | (simp; omega) | omega)) _ | refine Below.trans ?_ (Below.mono (by assumption) (by first | exact Nat.le_refl _ | (simp; done) | (simp; omega) | omega))))⟩
  · show Calls Try.prog 73 _ _ _
    go_enter Try.func73, Try.ntmps73; go_wp2; go_ret; exact ⟨rfl, by (repeat (first | exact Below.refl _ _ | assumption | refine Below.drew ?_ | refine below_drewN ?_ _ | refine Below.setCell ?_ (by simp) _ | refine Below.alloc ?_ (by (first | exact Nat.le_refl _ | (simp; done) | (simp; omega) | omega)) _ | refine Below.trans ?_ (Below.mono (by assumption) (by first | exact Nat.le_refl _ | (simp; done) | (simp; omega) | omega))))⟩
  · show Calls Try.prog 77 _ _ _
    go_enter Try.func77, Try.ntmps77; go_wp2; go_ret; exact ⟨rfl, by (repeat (first | exact Below.refl _ _ | assumption | refine Below.drew ?_ | refine below_drewN ?_ _ | refine Below.setCell ?_ (by simp) _ | refine Below.alloc ?_ (by (first | exact Nat.le_refl _ | (simp; done) | (simp; omega) | omega)) _ | refine Below.trans ?_ (Below.mono (by assumption) (by first | exact Nat.le_refl _ | (simp; done) | (simp; omega) | omega))))⟩
  · show Calls Try.prog 83 _ _ _
    go_enter Try.func83, Try.ntmps83; go_wp2; go_ret; exact ⟨rfl, by (repeat (first | exact Below.refl _ _ | assumption | refine Below.drew ?_ | refine below_drewN ?_ _ | refine Below.setCell ?_ (by simp) _ | refine Below.alloc ?_ (by (first | exact Nat.le_refl _ | (simp; done) | (simp; omega) | omega)) _ | refine Below.trans ?_ (Below.mono (by assumption) (by first | exact Nat.le_refl _ | (simp; done) | (simp; omega) | omega))))⟩
  · show Calls Try.prog 88 _ _ _
    go_enter Try.func88, Try.ntmps88; go_wp2; go_ret; exact ⟨by simp [own], by (repeat (first | exact Below.refl _ _ | assumption | refine Below.drew ?_ | refine below_drewN ?_ _ | refine Below.setCell ?_ (by simp) _ | refine Below.alloc ?_ (by (first | exact Nat.le_refl _ | (simp; done) | (simp; omega) | omega)) _ | refine Below.trans ?_ (Below.mono (by assumption) (by first | exact Nat.le_refl _ | (simp; done) | (simp; omega) | omega))))⟩
  · show Calls Try.prog 91 _ _ _
    go_enter Try.func91, Try.ntmps91; go_wp2; go_ret; exact ⟨rfl, by (repeat (first | exact Below.refl _ _ | assumption | refine Below.drew ?_ | refine below_drewN ?_ _ | refine Below.setCell ?_ (by simp) _ | refine Below.alloc ?_ (by (first | exact Nat.le_refl _ | (simp; done) | (simp; omega) | omega)) _ | refine Below.trans ?_ (Below.mono (by assumption) (by first | exact Nat.le_refl _ | (simp; done) | (simp; omega) | omega))))⟩
  · show Calls Try.prog 96 _ _ _
    go_enter Try.func96, Try.ntmps96; go_wp2; go_ret; exact ⟨by simp [own], by (repeat (first | exact Below.refl _ _ | assumption | refine Below.drew ?_ | refine below_drewN ?_ _ | refine Below.setCell ?_ (by simp) _ | refine Below.alloc ?_ (by (first | exact Nat.le_refl _ | (simp; done) | (simp; omega) | omega)) _ | refine Below.trans ?_ (Below.mono (by assumption) (by first | exact Nat.le_refl _ | (simp; done) | (simp; omega) | omega))))⟩
  · show Calls Try.prog 101 _ _ _
    go_enter Try.func101, Try.ntmps101; go_wp2; go_ret; exact ⟨by simp [own], by (repeat (first | exact Below.refl _ _ | assumption | refine Below.drew ?_ | refine below_drewN ?_ _ | refine Below.setCell ?_ (by simp) _ | refine Below.alloc ?_ (by (first | exact Nat.le_refl _ | (simp; done) | (simp; omega) | omega)) _ | refine Below.trans ?_ (Below.mono (by assumption) (by first | exact Nat.le_refl _ | (simp; done) | (simp; omega) | omega))))⟩
  · intro k h1 h2 h3 h4 h5 h6 h7 h8
    simp only [fwords, h1, h2, h3, h4, h5, h6, h7, h8, if_false]
    go_enter Try.func96, Try.ntmps96; go_wp2; go_ret; exact ⟨by simp [own, h1, h2, h3, h4, h5, h6, h8], by (repeat (first | exact Below.refl _ _ | assumption | refine Below.drew ?_ | refine below_drewN ?_ _ | refine Below.setCell ?_ (by simp) _ | refine Below.alloc ?_ (by (first | exact Nat.le_refl _ | (simp; done) | (simp; omega) | omega)) _ | refine Below.trans ?_ (Below.mono (by assumption) (by first | exact Nat.le_refl _ | (simp; done) | (simp; omega) | omega))))⟩
end Go.Proofs.Ytggpbfmdhenjdaa


