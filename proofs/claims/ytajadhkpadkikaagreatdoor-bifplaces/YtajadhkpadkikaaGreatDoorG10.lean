import Derived.Test.YtajadhkpadkikaaGreatDoorG01
import Derived.Shelf.Abstract
import Derived.Test.YtajadhkpadkikaaGreatDoorG05
/- A loop of few rounds, unrolled: each round may leave what it likes (temps, marks of ranges). -/
namespace Go.Proofs.YtajadhkpadkikaaGreatDoor
open Go.RowKit Go.Shelf

/-- At most n rounds, each after the other. -/
def Un (P : Program) (c : Code) (Q : Exit → Act → World → Prop) : Nat → Act → World → Prop
  | 0 => fun _ _ => False
  | n + 1 => fun a w => c.wp P (Exit.then (Un P c Q n) Q) a w

theorem least_of {p : Nat → Prop} : ∀ n, p n → ∃ m, p m ∧ ∀ k, p k → m ≤ k := by
  intro n
  induction n using Nat.strongRecOn with
  | _ n ih =>
    intro hn
    by_cases h : ∃ k, k < n ∧ p k
    · obtain ⟨k, hk, hp⟩ := h
      exact ih k hk hp
    · exact ⟨n, hn, fun k hp => Nat.le_of_not_lt (fun hk => h ⟨k, hk, hp⟩)⟩

open Classical in
theorem wp_loop_times {P : Program} {c : Code} {Q : Exit → Act → World → Prop} {a : Act} {w : World} (n : Nat) (h : Un P c Q n a w) : (Code.loop c).wp P Q a w := by
  have hl : ∀ a w, (∃ n, Un P c Q n a w) → ∃ m, Un P c Q m a w ∧ ∀ k, Un P c Q k a w → m ≤ k := fun a w ⟨n, h⟩ => least_of (p := fun n => Un P c Q n a w) n h
  refine wp_loop (fun a w => ∃ n, Un P c Q n a w) (fun a w => if h : ∃ n, Un P c Q n a w then Classical.choose (hl a w h) else 0) ⟨n, h⟩ ?_
  intro a w hI
  have hf := (Classical.choose_spec (hl a w hI)).1
  have hm : ∀ a' w' m, Un P c Q m a' w' → (if h : ∃ n, Un P c Q n a' w' then Classical.choose (hl a' w' h) else 0) ≤ m := fun a' w' m hu => by
    rw [dif_pos ⟨m, hu⟩]; exact (Classical.choose_spec (hl a' w' ⟨m, hu⟩)).2 m hu
  rw [dif_pos hI]
  generalize Classical.choose (hl a w hI) = k at *
  cases k with
  | zero => exact hf.elim
  | succ k =>
    refine Code.wp_mono (fun e a' w' q => ?_) hf
    cases e <;> first | exact ⟨⟨k, q⟩, Nat.lt_succ_of_le (hm _ _ _ q)⟩ | exact q
end Go.Proofs.YtajadhkpadkikaaGreatDoor


/- A term's kind, asked by the program through an interface: which type it is, the words of a term itself, whether it is right by itself. -/
namespace Go.Proofs.YtajadhkpadkikaaGreatDoor
open Go.RowKit Go.Deep
attribute [local go_sem ↓] Go.wp_at_zero Go.wp_at_succ

/-- The type that stands for a kind. -/
def kt (k : Int) : TypeId :=
  if k = 1 then 80 else if k = 2 then 81 else if k = 3 then 82 else if k = 4 then 85 else if k = 5 then 86 else if k = 6 then 87 else if k = 7 then 88 else if k = 8 then 89 else 91

/-- Its methods words and right. -/
def fwords (k : Int) : FuncId :=
  if k = 1 then 265 else if k = 2 then 266 else if k = 3 then 270 else if k = 4 then 279 else if k = 5 then 284 else if k = 6 then 289 else if k = 7 then 294 else if k = 8 then 299 else 294
def fright (k : Int) : FuncId :=
  if k = 1 then 262 else if k = 2 then 262 else if k = 3 then 269 else if k = 4 then 277 else if k = 5 then 283 else if k = 6 then 277 else if k = 7 then 293 else if k = 8 then 298 else 301

theorem by_kind {Q : Int → Prop} (k : Int) (h1 : Q 1) (h2 : Q 2) (h3 : Q 3) (h4 : Q 4) (h5 : Q 5) (h6 : Q 6) (h7 : Q 7) (h8 : Q 8) (h9 : ∀ k, k ≠ 1 → k ≠ 2 → k ≠ 3 → k ≠ 4 → k ≠ 5 → k ≠ 6 → k ≠ 7 → k ≠ 8 → Q k) : Q k := by
  by_cases e1 : k = 1
  · exact e1 ▸ h1
  by_cases e2 : k = 2
  · exact e2 ▸ h2
  by_cases e3 : k = 3
  · exact e3 ▸ h3
  by_cases e4 : k = 4
  · exact e4 ▸ h4
  by_cases e5 : k = 5
  · exact e5 ▸ h5
  by_cases e6 : k = 6
  · exact e6 ▸ h6
  by_cases e7 : k = 7
  · exact e7 ▸ h7
  by_cases e8 : k = 8
  · exact e8 ▸ h8
  exact h9 k e1 e2 e3 e4 e5 e6 e7 e8

set_option maxHeartbeats 800000 in
set_option maxRecDepth 100000 in
theorem kindOf_any (k n : Int) (f : Nat) (s : ByteArray) (a : Option Addr) (l c : Nat) (w : World) :
    Calls Tryz.prog 31 #[.agg #[.int .i64 k, .int .i64 n, .float .f64 f, .string s, .slice a l c]] w fun e w' => e = .returned (.iface (kt k) (.agg #[])) ∧ Below w.heap.size w w' := by
  refine by_kind (Q := fun k => Calls Tryz.prog 31 #[.agg #[.int .i64 k, .int .i64 n, .float .f64 f, .string s, .slice a l c]] w fun e w' => e = .returned (.iface (kt k) (.agg #[])) ∧ Below w.heap.size w w') k ?_ ?_ ?_ ?_ ?_ ?_ ?_ ?_ ?_
  iterate 8
    · go_enter Tryz.func31, Tryz.ntmps31; go_wp2; go_ret; exact ⟨rfl, (Below.refl _ _).alloc (Nat.le_refl _) _⟩
  · intro k h1 h2 h3 h4 h5 h6 h7 h8
    go_enter Tryz.func31, Tryz.ntmps31; go_wp2; go_ret
    refine ⟨?_, (Below.refl _ _).alloc (Nat.le_refl _) _⟩
    simp [kt, h1, h2, h3, h4, h5, h6, h7, h8]

theorem method_words (k : Int) (w : World) : (method 348 (kt k) (.agg #[]) "exitwave/term.words").run Tryz.prog w = .ok (fwords k, .agg #[]) w := by
  refine by_kind (Q := fun k => (method 348 (kt k) (.agg #[]) "exitwave/term.words").run Tryz.prog w = .ok (fwords k, .agg #[]) w) k ?_ ?_ ?_ ?_ ?_ ?_ ?_ ?_ ?_
  iterate 8
    · kernel_rfl
  · intro k h1 h2 h3 h4 h5 h6 h7 h8
    simp only [kt, fwords, h1, h2, h3, h4, h5, h6, h7, h8, if_false]
    kernel_rfl

theorem method_right (k : Int) (w : World) : (method 348 (kt k) (.agg #[]) "exitwave/term.right").run Tryz.prog w = .ok (fright k, .agg #[]) w := by
  refine by_kind (Q := fun k => (method 348 (kt k) (.agg #[]) "exitwave/term.right").run Tryz.prog w = .ok (fright k, .agg #[]) w) k ?_ ?_ ?_ ?_ ?_ ?_ ?_ ?_ ?_
  iterate 8
    · kernel_rfl
  · intro k h1 h2 h3 h4 h5 h6 h7 h8
    simp only [kt, fright, h1, h2, h3, h4, h5, h6, h7, h8, if_false]
    kernel_rfl

theorem call_words (k : Int) (args : Array Value) (w : World) : (callFunc (fwords k) args).run Tryz.prog w = .ok (.enter (fwords k) args) w := by
  refine by_kind (Q := fun k => (callFunc (fwords k) args).run Tryz.prog w = .ok (.enter (fwords k) args) w) k ?_ ?_ ?_ ?_ ?_ ?_ ?_ ?_ ?_
  · exact Tryz.call265 args w
  · exact Tryz.call266 args w
  · exact Tryz.call270 args w
  · exact Tryz.call279 args w
  · exact Tryz.call284 args w
  · exact Tryz.call289 args w
  · exact Tryz.call294 args w
  · exact Tryz.call299 args w
  · intro k h1 h2 h3 h4 h5 h6 h7 h8
    simp only [fwords, h1, h2, h3, h4, h5, h6, h7, h8, if_false]
    exact Tryz.call294 args w

theorem call_right (k : Int) (args : Array Value) (w : World) : (callFunc (fright k) args).run Tryz.prog w = .ok (.enter (fright k) args) w := by
  refine by_kind (Q := fun k => (callFunc (fright k) args).run Tryz.prog w = .ok (.enter (fright k) args) w) k ?_ ?_ ?_ ?_ ?_ ?_ ?_ ?_ ?_
  · exact Tryz.call262 args w
  · exact Tryz.call262 args w
  · exact Tryz.call269 args w
  · exact Tryz.call277 args w
  · exact Tryz.call283 args w
  · exact Tryz.call277 args w
  · exact Tryz.call293 args w
  · exact Tryz.call298 args w
  · intro k h1 h2 h3 h4 h5 h6 h7 h8
    simp only [fright, h1, h2, h3, h4, h5, h6, h7, h8, if_false]
    exact Tryz.call301 args w

set_option maxHeartbeats 800000 in
set_option maxRecDepth 100000 in
theorem words_any (k n : Int) (f : Nat) (s : ByteArray) (a : Option Addr) (l c : Nat) (hl : l ≤ 4611686018427387900) (w : World) :
    Calls Tryz.prog (fwords k) #[.agg #[], .agg #[.int .i64 k, .int .i64 n, .float .f64 f, .string s, .slice a l c]] w fun e w' => e = .returned (.int .i64 (own k l)) ∧ Below w.heap.size w w' := by
  have w2 : wrap64 (2 * (l : Int)) = 2 * l := by unfold wrap64; omega
  have w3 : wrap64 (2 + (l : Int)) = 2 + l := by unfold wrap64; omega
  have w4 : wrap64 (1 + (l : Int)) = 1 + l := by unfold wrap64; omega
  refine by_kind (Q := fun k => Calls Tryz.prog (fwords k) #[.agg #[], .agg #[.int .i64 k, .int .i64 n, .float .f64 f, .string s, .slice a l c]] w fun e w' => e = .returned (.int .i64 (own k l)) ∧ Below w.heap.size w w') k ?_ ?_ ?_ ?_ ?_ ?_ ?_ ?_ ?_
  · show Calls Tryz.prog 265 _ _ _
    go_enter Tryz.func265, Tryz.ntmps265; go_wp2; go_ret; exact ⟨rfl, by (repeat (first | exact Below.refl _ _ | assumption | refine Below.drew ?_ | refine below_drewN ?_ _ | refine Below.setCell ?_ (by simp) _ | refine Below.alloc ?_ (by (first | exact Nat.le_refl _ | (simp; done) | (simp; omega) | omega)) _ | refine Below.trans ?_ (Below.mono (by assumption) (by first | exact Nat.le_refl _ | (simp; done) | (simp; omega) | omega))))⟩
  · show Calls Tryz.prog 266 _ _ _
    go_enter Tryz.func266, Tryz.ntmps266; go_wp2; go_ret; exact ⟨rfl, by (repeat (first | exact Below.refl _ _ | assumption | refine Below.drew ?_ | refine below_drewN ?_ _ | refine Below.setCell ?_ (by simp) _ | refine Below.alloc ?_ (by (first | exact Nat.le_refl _ | (simp; done) | (simp; omega) | omega)) _ | refine Below.trans ?_ (Below.mono (by assumption) (by first | exact Nat.le_refl _ | (simp; done) | (simp; omega) | omega))))⟩
  · show Calls Tryz.prog 270 _ _ _
    go_enter Tryz.func270, Tryz.ntmps270; go_wp2; go_ret; exact ⟨rfl, by (repeat (first | exact Below.refl _ _ | assumption | refine Below.drew ?_ | refine below_drewN ?_ _ | refine Below.setCell ?_ (by simp) _ | refine Below.alloc ?_ (by (first | exact Nat.le_refl _ | (simp; done) | (simp; omega) | omega)) _ | refine Below.trans ?_ (Below.mono (by assumption) (by first | exact Nat.le_refl _ | (simp; done) | (simp; omega) | omega))))⟩
  · show Calls Tryz.prog 279 _ _ _
    go_enter Tryz.func279, Tryz.ntmps279; go_wp2; go_ret; exact ⟨rfl, by (repeat (first | exact Below.refl _ _ | assumption | refine Below.drew ?_ | refine below_drewN ?_ _ | refine Below.setCell ?_ (by simp) _ | refine Below.alloc ?_ (by (first | exact Nat.le_refl _ | (simp; done) | (simp; omega) | omega)) _ | refine Below.trans ?_ (Below.mono (by assumption) (by first | exact Nat.le_refl _ | (simp; done) | (simp; omega) | omega))))⟩
  · show Calls Tryz.prog 284 _ _ _
    go_enter Tryz.func284, Tryz.ntmps284; go_wp2; go_ret; exact ⟨by simp [own], by (repeat (first | exact Below.refl _ _ | assumption | refine Below.drew ?_ | refine below_drewN ?_ _ | refine Below.setCell ?_ (by simp) _ | refine Below.alloc ?_ (by (first | exact Nat.le_refl _ | (simp; done) | (simp; omega) | omega)) _ | refine Below.trans ?_ (Below.mono (by assumption) (by first | exact Nat.le_refl _ | (simp; done) | (simp; omega) | omega))))⟩
  · show Calls Tryz.prog 289 _ _ _
    go_enter Tryz.func289, Tryz.ntmps289; go_wp2; go_ret; exact ⟨rfl, by (repeat (first | exact Below.refl _ _ | assumption | refine Below.drew ?_ | refine below_drewN ?_ _ | refine Below.setCell ?_ (by simp) _ | refine Below.alloc ?_ (by (first | exact Nat.le_refl _ | (simp; done) | (simp; omega) | omega)) _ | refine Below.trans ?_ (Below.mono (by assumption) (by first | exact Nat.le_refl _ | (simp; done) | (simp; omega) | omega))))⟩
  · show Calls Tryz.prog 294 _ _ _
    go_enter Tryz.func294, Tryz.ntmps294; go_wp2; go_ret; exact ⟨by simp [own], by (repeat (first | exact Below.refl _ _ | assumption | refine Below.drew ?_ | refine below_drewN ?_ _ | refine Below.setCell ?_ (by simp) _ | refine Below.alloc ?_ (by (first | exact Nat.le_refl _ | (simp; done) | (simp; omega) | omega)) _ | refine Below.trans ?_ (Below.mono (by assumption) (by first | exact Nat.le_refl _ | (simp; done) | (simp; omega) | omega))))⟩
  · show Calls Tryz.prog 299 _ _ _
    go_enter Tryz.func299, Tryz.ntmps299; go_wp2; go_ret; exact ⟨by simp [own], by (repeat (first | exact Below.refl _ _ | assumption | refine Below.drew ?_ | refine below_drewN ?_ _ | refine Below.setCell ?_ (by simp) _ | refine Below.alloc ?_ (by (first | exact Nat.le_refl _ | (simp; done) | (simp; omega) | omega)) _ | refine Below.trans ?_ (Below.mono (by assumption) (by first | exact Nat.le_refl _ | (simp; done) | (simp; omega) | omega))))⟩
  · intro k h1 h2 h3 h4 h5 h6 h7 h8
    simp only [fwords, h1, h2, h3, h4, h5, h6, h7, h8, if_false]
    go_enter Tryz.func294, Tryz.ntmps294; go_wp2; go_ret; exact ⟨by simp [own, h1, h2, h3, h4, h5, h6, h8], by (repeat (first | exact Below.refl _ _ | assumption | refine Below.drew ?_ | refine below_drewN ?_ _ | refine Below.setCell ?_ (by simp) _ | refine Below.alloc ?_ (by (first | exact Nat.le_refl _ | (simp; done) | (simp; omega) | omega)) _ | refine Below.trans ?_ (Below.mono (by assumption) (by first | exact Nat.le_refl _ | (simp; done) | (simp; omega) | omega))))⟩
end Go.Proofs.YtajadhkpadkikaaGreatDoor


