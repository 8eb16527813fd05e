import Derived.Test.YtjnijmnacogabaaGreatDoorG01
/- The document's measure of a term, walked: by induction on the tree. -/
namespace Go.Proofs.YtjnijmnacogabaaGreatDoor
open Go.RowKit Go.Deep
attribute [local go_sem ↓] Go.wp_at_zero Go.wp_at_succ

mutual
/-- No term in it has very many elements. -/
def Small : Tr → Prop
  | .mk _ _ _ _ _ _ kids => kids.length ≤ 400000 ∧ SmallAll kids
def SmallAll : List Tr → Prop
  | [] => True
  | t :: r => Small t ∧ SmallAll r
end

theorem smallAll_get {kids : List Tr} (h : SmallAll kids) {t : Tr} (ht : t ∈ kids) : Small t := by
  induction kids with
  | nil => simp at ht
  | cons u r ih =>
    unfold SmallAll at h
    rcases List.mem_cons.1 ht with rfl | ht
    · exact h.1
    · exact ih h.2 ht

/-- What is counted to its end has few parts everywhere. -/
theorem few_small : ∀ (t : Tr) (left deep : Int), left ≤ 300000 → 0 ≤ fewT t left deep → Small t ∧ fewT t left deep ≤ left - 1 := by
  refine Tr.ind fun k n f s a c kids hk => ?_
  have hall : ∀ left deep, left ≤ 300000 → 0 ≤ fewAll kids left deep → SmallAll kids ∧ fewAll kids left deep ≤ left - kids.length := by
    induction kids with
    | nil => intro left deep h h0; simp only [fewAll, SmallAll, List.length_nil] at *; exact ⟨trivial, by omega⟩
    | cons t r ih =>
      intro left deep h h0
      simp only [fewAll] at h0 ⊢
      by_cases hl : left < 0
      · rw [if_pos hl] at h0; omega
      · rw [if_neg hl] at h0 ⊢
        have hn : 0 ≤ fewT t left deep := by
          by_cases hz : fewT t left deep < 0
          · rw [fewAll_stop _ _ _ hz] at h0; omega
          · omega
        have g := hk t (List.mem_cons_self ..) left deep h hn
        have q := ih (fun u hu => hk u (List.mem_cons_of_mem _ hu)) (fewT t left deep) deep (by omega) h0
        simp only [SmallAll, List.length_cons]
        exact ⟨⟨g.1, q.1⟩, by omega⟩
  intro left deep h h0
  simp only [fewT] at h0 ⊢
  by_cases hc : left < 0 ∨ deep < 0
  · rw [if_pos hc] at h0; omega
  · rw [if_neg hc] at h0 ⊢
    have q := hall (left - 1) (deep - 1) (by omega) h0
    simp only [Small]
    exact ⟨⟨by omega, q.1⟩, by omega⟩

set_option maxHeartbeats 800000 in
set_option maxRecDepth 100000 in
theorem own_any (k n : Int) (f : Nat) (s : ByteArray) (a : Option Addr) (l c : Nat) (hl : l ≤ 400000) (w : World) :
    Calls Tryz.prog 143 #[.agg #[.int .i64 k, .int .i64 n, .float .f64 f, .string s, .slice a l c]] w fun e w' => e = .returned (.int .i64 (own k l)) ∧ Below w.heap.size w w' := by
  by_cases h1 : k = 1
  · subst h1; go_enter Tryz.func143, Tryz.ntmps143; go_wp2; go_ret; exact ⟨rfl, (Below.refl _ _).alloc (Nat.le_refl _) _⟩
  by_cases h3 : k = 3
  · subst h3; go_enter Tryz.func143, Tryz.ntmps143; go_wp2; go_ret; exact ⟨rfl, (Below.refl _ _).alloc (Nat.le_refl _) _⟩
  by_cases h6 : k = 6
  · subst h6; go_enter Tryz.func143, Tryz.ntmps143; go_wp2; go_ret; exact ⟨rfl, (Below.refl _ _).alloc (Nat.le_refl _) _⟩
  by_cases h2 : k = 2
  · subst h2; go_enter Tryz.func143, Tryz.ntmps143; go_wp2; go_ret; exact ⟨rfl, (Below.refl _ _).alloc (Nat.le_refl _) _⟩
  by_cases h4 : k = 4
  · subst h4; go_enter Tryz.func143, Tryz.ntmps143; go_wp2; go_ret; exact ⟨rfl, (Below.refl _ _).alloc (Nat.le_refl _) _⟩
  have w2 : wrap64 (2 * (l : Int)) = 2 * l := by unfold wrap64; omega
  have w3 : wrap64 (2 + (l : Int)) = 2 + l := by unfold wrap64; omega
  have w4 : wrap64 (1 + (l : Int)) = 1 + l := by unfold wrap64; omega
  by_cases h8 : k = 8
  · subst h8
    go_enter Tryz.func143, Tryz.ntmps143; go_wp2; go_ret
    refine ⟨?_, (Below.refl _ _).alloc (Nat.le_refl _) _⟩
    simp [own]
  by_cases h5 : k = 5
  · subst h5
    go_enter Tryz.func143, Tryz.ntmps143; go_wp2; go_ret
    refine ⟨?_, (Below.refl _ _).alloc (Nat.le_refl _) _⟩
    simp [own]
  go_enter Tryz.func143, Tryz.ntmps143; go_wp2; go_ret
  refine ⟨?_, (Below.refl _ _).alloc (Nat.le_refl _) _⟩
  simp [own, h1, h2, h3, h4, h5, h6, h8]
end Go.Proofs.YtjnijmnacogabaaGreatDoor


/- A term's kind, asked by the program through an interface: which type it is, the words of a term itself, whether it is right by itself. -/
namespace Go.Proofs.YtjnijmnacogabaaGreatDoor
open Go.RowKit Go.Deep
attribute [local go_sem ↓] Go.wp_at_zero Go.wp_at_succ

/-- The type that stands for a kind. -/
def kt (k : Int) : TypeId :=
  if k = 1 then 195 else if k = 2 then 196 else if k = 3 then 197 else if k = 4 then 200 else if k = 5 then 201 else if k = 6 then 202 else if k = 7 then 203 else if k = 8 then 204 else 206

/-- Its methods words and right. -/
def fwords (k : Int) : FuncId :=
  if k = 1 then 268 else if k = 2 then 269 else if k = 3 then 273 else if k = 4 then 282 else if k = 5 then 287 else if k = 6 then 292 else if k = 7 then 297 else if k = 8 then 302 else 297
def fright (k : Int) : FuncId :=
  if k = 1 then 265 else if k = 2 then 265 else if k = 3 then 272 else if k = 4 then 280 else if k = 5 then 286 else if k = 6 then 280 else if k = 7 then 296 else if k = 8 then 301 else 304

theorem by_kind {Q : Int → Prop} (k : Int) (h1 : Q 1) (h2 : Q 2) (h3 : Q 3) (h4 : Q 4) (h5 : Q 5) (h6 : Q 6) (h7 : Q 7) (h8 : Q 8) (h9 : ∀ k, k ≠ 1 → k ≠ 2 → k ≠ 3 → k ≠ 4 → k ≠ 5 → k ≠ 6 → k ≠ 7 → k ≠ 8 → Q k) : Q k := by
  by_cases e1 : k = 1
  · exact e1 ▸ h1
  by_cases e2 : k = 2
  · exact e2 ▸ h2
  by_cases e3 : k = 3
  · exact e3 ▸ h3
  by_cases e4 : k = 4
  · exact e4 ▸ h4
  by_cases e5 : k = 5
  · exact e5 ▸ h5
  by_cases e6 : k = 6
  · exact e6 ▸ h6
  by_cases e7 : k = 7
  · exact e7 ▸ h7
  by_cases e8 : k = 8
  · exact e8 ▸ h8
  exact h9 k e1 e2 e3 e4 e5 e6 e7 e8

set_option maxHeartbeats 800000 in
set_option maxRecDepth 100000 in
theorem kindOf_any (k n : Int) (f : Nat) (s : ByteArray) (a : Option Addr) (l c : Nat) (w : World) :
    Calls Tryz.prog 184 #[.agg #[.int .i64 k, .int .i64 n, .float .f64 f, .string s, .slice a l c]] w fun e w' => e = .returned (.iface (kt k) (.agg #[])) ∧ Below w.heap.size w w' := by
  refine by_kind (Q := fun k => Calls Tryz.prog 184 #[.agg #[.int .i64 k, .int .i64 n, .float .f64 f, .string s, .slice a l c]] w fun e w' => e = .returned (.iface (kt k) (.agg #[])) ∧ Below w.heap.size w w') k ?_ ?_ ?_ ?_ ?_ ?_ ?_ ?_ ?_
  iterate 8
    · go_enter Tryz.func184, Tryz.ntmps184; go_wp2; go_ret; exact ⟨rfl, (Below.refl _ _).alloc (Nat.le_refl _) _⟩
  · intro k h1 h2 h3 h4 h5 h6 h7 h8
    go_enter Tryz.func184, Tryz.ntmps184; go_wp2; go_ret
    refine ⟨?_, (Below.refl _ _).alloc (Nat.le_refl _) _⟩
    simp [kt, h1, h2, h3, h4, h5, h6, h7, h8]

theorem method_words (k : Int) (w : World) : (method 349 (kt k) (.agg #[]) "exitwave/term.words").run Tryz.prog w = .ok (fwords k, .agg #[]) w := by
  refine by_kind (Q := fun k => (method 349 (kt k) (.agg #[]) "exitwave/term.words").run Tryz.prog w = .ok (fwords k, .agg #[]) w) k ?_ ?_ ?_ ?_ ?_ ?_ ?_ ?_ ?_
  iterate 8
    · kernel_rfl
  · intro k h1 h2 h3 h4 h5 h6 h7 h8
    simp only [kt, fwords, h1, h2, h3, h4, h5, h6, h7, h8, if_false]
    kernel_rfl

theorem method_right (k : Int) (w : World) : (method 349 (kt k) (.agg #[]) "exitwave/term.right").run Tryz.prog w = .ok (fright k, .agg #[]) w := by
  refine by_kind (Q := fun k => (method 349 (kt k) (.agg #[]) "exitwave/term.right").run Tryz.prog w = .ok (fright k, .agg #[]) w) k ?_ ?_ ?_ ?_ ?_ ?_ ?_ ?_ ?_
  iterate 8
    · kernel_rfl
  · intro k h1 h2 h3 h4 h5 h6 h7 h8
    simp only [kt, fright, h1, h2, h3, h4, h5, h6, h7, h8, if_false]
    kernel_rfl

theorem call_words (k : Int) (args : Array Value) (w : World) : (callFunc (fwords k) args).run Tryz.prog w = .ok (.enter (fwords k) args) w := by
  refine by_kind (Q := fun k => (callFunc (fwords k) args).run Tryz.prog w = .ok (.enter (fwords k) args) w) k ?_ ?_ ?_ ?_ ?_ ?_ ?_ ?_ ?_
  · exact Tryz.call268 args w
  · exact Tryz.call269 args w
  · exact Tryz.call273 args w
  · exact Tryz.call282 args w
  · exact Tryz.call287 args w
  · exact Tryz.call292 args w
  · exact Tryz.call297 args w
  · exact Tryz.call302 args w
  · intro k h1 h2 h3 h4 h5 h6 h7 h8
    simp only [fwords, h1, h2, h3, h4, h5, h6, h7, h8, if_false]
    exact Tryz.call297 args w

theorem call_right (k : Int) (args : Array Value) (w : World) : (callFunc (fright k) args).run Tryz.prog w = .ok (.enter (fright k) args) w := by
  refine by_kind (Q := fun k => (callFunc (fright k) args).run Tryz.prog w = .ok (.enter (fright k) args) w) k ?_ ?_ ?_ ?_ ?_ ?_ ?_ ?_ ?_
  · exact Tryz.call265 args w
  · exact Tryz.call265 args w
  · exact Tryz.call272 args w
  · exact Tryz.call280 args w
  · exact Tryz.call286 args w
  · exact Tryz.call280 args w
  · exact Tryz.call296 args w
  · exact Tryz.call301 args w
  · intro k h1 h2 h3 h4 h5 h6 h7 h8
    simp only [fright, h1, h2, h3, h4, h5, h6, h7, h8, if_false]
    exact Tryz.call304 args w

set_option maxHeartbeats 800000 in
set_option maxRecDepth 100000 in
theorem words_any (k n : Int) (f : Nat) (s : ByteArray) (a : Option Addr) (l c : Nat) (hl : l ≤ 4611686018427387900) (w : World) :
    Calls Tryz.prog (fwords k) #[.agg #[], .agg #[.int .i64 k, .int .i64 n, .float .f64 f, .string s, .slice a l c]] w fun e w' => e = .returned (.int .i64 (own k l)) ∧ Below w.heap.size w w' := by
  have w2 : wrap64 (2 * (l : Int)) = 2 * l := by unfold wrap64; omega
  have w3 : wrap64 (2 + (l : Int)) = 2 + l := by unfold wrap64; omega
  have w4 : wrap64 (1 + (l : Int)) = 1 + l := by unfold wrap64; omega
  refine by_kind (Q := fun k => Calls Tryz.prog (fwords k) #[.agg #[], .agg #[.int .i64 k, .int .i64 n, .float .f64 f, .string s, .slice a l c]] w fun e w' => e = .returned (.int .i64 (own k l)) ∧ Below w.heap.size w w') k ?_ ?_ ?_ ?_ ?_ ?_ ?_ ?_ ?_
  · show Calls Tryz.prog 268 _ _ _
    go_enter Tryz.func268, Tryz.ntmps268; go_wp2; go_ret; exact ⟨rfl, by (repeat (first | exact Below.refl _ _ | assumption | refine Below.drew ?_ | refine below_drewN ?_ _ | refine Below.setCell ?_ (by simp) _ | refine Below.alloc ?_ (by (first | exact Nat.le_refl _ | (simp; done) | (simp; omega) | omega)) _ | refine Below.trans ?_ (Below.mono (by assumption) (by first | exact Nat.le_refl _ | (simp; done) | (simp; omega) | omega))))⟩
  · show Calls Tryz.prog 269 _ _ _
    go_enter Tryz.func269, Tryz.ntmps269; go_wp2; go_ret; exact ⟨rfl, by (repeat (first | exact Below.refl _ _ | assumption | refine Below.drew ?_ | refine below_drewN ?_ _ | refine Below.setCell ?_ (by simp) _ | refine Below.alloc ?_ (by (first | exact Nat.le_refl _ | (simp; done) | (simp; omega) | omega)) _ | refine Below.trans ?_ (Below.mono (by assumption) (by first | exact Nat.le_refl _ | (simp; done) | (simp; omega) | omega))))⟩
  · show Calls Tryz.prog 273 _ _ _
    go_enter Tryz.func273, Tryz.ntmps273; go_wp2; go_ret; exact ⟨rfl, by (repeat (first | exact Below.refl _ _ | assumption | refine Below.drew ?_ | refine below_drewN ?_ _ | refine Below.setCell ?_ (by simp) _ | refine Below.alloc ?_ (by (first | exact Nat.le_refl _ | (simp; done) | (simp; omega) | omega)) _ | refine Below.trans ?_ (Below.mono (by assumption) (by first | exact Nat.le_refl _ | (simp; done) | (simp; omega) | omega))))⟩
  · show Calls Tryz.prog 282 _ _ _
    go_enter Tryz.func282, Tryz.ntmps282; go_wp2; go_ret; exact ⟨rfl, by (repeat (first | exact Below.refl _ _ | assumption | refine Below.drew ?_ | refine below_drewN ?_ _ | refine Below.setCell ?_ (by simp) _ | refine Below.alloc ?_ (by (first | exact Nat.le_refl _ | (simp; done) | (simp; omega) | omega)) _ | refine Below.trans ?_ (Below.mono (by assumption) (by first | exact Nat.le_refl _ | (simp; done) | (simp; omega) | omega))))⟩
  · show Calls Tryz.prog 287 _ _ _
    go_enter Tryz.func287, Tryz.ntmps287; go_wp2; go_ret; exact ⟨by simp [own], by (repeat (first | exact Below.refl _ _ | assumption | refine Below.drew ?_ | refine below_drewN ?_ _ | refine Below.setCell ?_ (by simp) _ | refine Below.alloc ?_ (by (first | exact Nat.le_refl _ | (simp; done) | (simp; omega) | omega)) _ | refine Below.trans ?_ (Below.mono (by assumption) (by first | exact Nat.le_refl _ | (simp; done) | (simp; omega) | omega))))⟩
  · show Calls Tryz.prog 292 _ _ _
    go_enter Tryz.func292, Tryz.ntmps292; go_wp2; go_ret; exact ⟨rfl, by (repeat (first | exact Below.refl _ _ | assumption | refine Below.drew ?_ | refine below_drewN ?_ _ | refine Below.setCell ?_ (by simp) _ | refine Below.alloc ?_ (by (first | exact Nat.le_refl _ | (simp; done) | (simp; omega) | omega)) _ | refine Below.trans ?_ (Below.mono (by assumption) (by first | exact Nat.le_refl _ | (simp; done) | (simp; omega) | omega))))⟩
  · show Calls Tryz.prog 297 _ _ _
    go_enter Tryz.func297, Tryz.ntmps297; go_wp2; go_ret; exact ⟨by simp [own], by (repeat (first | exact Below.refl _ _ | assumption | refine Below.drew ?_ | refine below_drewN ?_ _ | refine Below.setCell ?_ (by simp) _ | refine Below.alloc ?_ (by (first | exact Nat.le_refl _ | (simp; done) | (simp; omega) | omega)) _ | refine Below.trans ?_ (Below.mono (by assumption) (by first | exact Nat.le_refl _ | (simp; done) | (simp; omega) | omega))))⟩
  · show Calls Tryz.prog 302 _ _ _
    go_enter Tryz.func302, Tryz.ntmps302; go_wp2; go_ret; exact ⟨by simp [own], by (repeat (first | exact Below.refl _ _ | assumption | refine Below.drew ?_ | refine below_drewN ?_ _ | refine Below.setCell ?_ (by simp) _ | refine Below.alloc ?_ (by (first | exact Nat.le_refl _ | (simp; done) | (simp; omega) | omega)) _ | refine Below.trans ?_ (Below.mono (by assumption) (by first | exact Nat.le_refl _ | (simp; done) | (simp; omega) | omega))))⟩
  · intro k h1 h2 h3 h4 h5 h6 h7 h8
    simp only [fwords, h1, h2, h3, h4, h5, h6, h7, h8, if_false]
    go_enter Tryz.func297, Tryz.ntmps297; go_wp2; go_ret; exact ⟨by simp [own, h1, h2, h3, h4, h5, h6, h8], by (repeat (first | exact Below.refl _ _ | assumption | refine Below.drew ?_ | refine below_drewN ?_ _ | refine Below.setCell ?_ (by simp) _ | refine Below.alloc ?_ (by (first | exact Nat.le_refl _ | (simp; done) | (simp; omega) | omega)) _ | refine Below.trans ?_ (Below.mono (by assumption) (by first | exact Nat.le_refl _ | (simp; done) | (simp; omega) | omega))))⟩
end Go.Proofs.YtjnijmnacogabaaGreatDoor


