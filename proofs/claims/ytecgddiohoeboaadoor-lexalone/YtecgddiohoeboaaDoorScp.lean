/- A scope in which the run jumps to several labels. -/
import Derived.ScopeJumps
import Derived.WalkMore
namespace Go.Proofs.YtecgddiohoeboaaDoor
open Go

/-- By a goto to label l: J l; else as Q. -/
def jumps (J : Nat → Act → World → Prop) (Q : Exit → Act → World → Prop) : Exit → Act → World → Prop
  | .goto l, a, w => J l a w
  | e, a, w => Q e a w

/-- J with a number that falls from jump to jump. -/
theorem wp_scope_ghost {P : Program} {a : Act} {w : World} {Q : Exit → Act → World → Prop} {c : Code} (rest : Nat → Code) (J : Nat → Nat → Act → World → Prop)
    (hf : ∀ n l a w, J n l a w → findLabel c l = some (rest l))
    (first : c.wp P (jumps (fun l a w => ∃ n, J n l a w) Q) a w)
    (pass : ∀ n l a w, J n l a w → (rest l).wp P (jumps (fun l' a' w' => ∃ n', n' < n ∧ J n' l' a' w') Q) a w) : (Code.scope c).wp P Q a w := by
  intro b k cs
  have key : ∀ n l a w, J n l a w → ∃ e a' w', Q e a' w' ∧ Arrives P (lone (b.at a (.code (rest l) :: .inScope c :: k)) cs w) b k cs e a' w' := by
    intro n
    induction n using Nat.strongRecOn with
    | _ n ih =>
      intro l a w hJ
      obtain ⟨e, a₁, w₁, hq, harr⟩ := pass n l a w hJ b (.inScope c :: k) cs
      cases e with
      | goto l' =>
        obtain ⟨n', hlt, hJ'⟩ := hq
        obtain ⟨e₂, a₂, w₂, hq₂, harr₂⟩ := ih n' hlt l' a₁ w₁ hJ'
        have hg : gotoIn l' (.inScope c :: k) = some (.code (rest l') :: .inScope c :: k) := by simp [gotoIn, hf n' l' a₁ w₁ hJ']
        exact ⟨e₂, a₂, w₂, hq₂, .of_steps (harr _ hg) harr₂⟩
      | normal => exact ⟨.normal, a₁, w₁, hq, Steps.trans harr (.one step_inScope)⟩
      | exit id => exact ⟨.exit id, a₁, w₁, hq, fun k' hk => harr k' (by simp [exitTo, hk])⟩
      | ret => exact ⟨_, a₁, w₁, hq, harr⟩
      | panic ch => exact ⟨_, a₁, w₁, hq, harr⟩
      | outgrown => exact ⟨_, a₁, w₁, hq, harr⟩
  obtain ⟨e, a₁, w₁, hq, harr⟩ := first b (.inScope c :: k) cs
  cases e with
  | goto l' =>
    obtain ⟨n', hJ'⟩ := hq
    obtain ⟨e₂, a₂, w₂, hq₂, harr₂⟩ := key n' l' a₁ w₁ hJ'
    have hg : gotoIn l' (.inScope c :: k) = some (.code (rest l') :: .inScope c :: k) := by simp [gotoIn, hf n' l' a₁ w₁ hJ']
    exact ⟨e₂, a₂, w₂, hq₂, .of_steps (.head step_scope (harr _ hg)) harr₂⟩
  | normal => exact ⟨.normal, a₁, w₁, hq, .head step_scope (Steps.trans harr (.one step_inScope))⟩
  | exit id => exact ⟨.exit id, a₁, w₁, hq, fun k' hk => .head step_scope (harr k' (by simp [exitTo, hk]))⟩
  | ret => exact ⟨_, a₁, w₁, hq, .of_steps (.one step_scope) harr⟩
  | panic ch => exact ⟨_, a₁, w₁, hq, .of_steps (.one step_scope) harr⟩
  | outgrown => exact ⟨_, a₁, w₁, hq, .of_steps (.one step_scope) harr⟩

theorem wp_scope2 {P : Program} {a : Act} {w : World} {Q : Exit → Act → World → Prop} {c r0 r1 : Code} (J : Nat → Nat → Act → World → Prop) (hl : ∀ n l a w, J n l a w → l = 0 ∨ l = 1)
    (h0 : findLabel c 0 = some (.seq .skip r0)) (h1 : findLabel c 1 = some (.seq .skip r1))
    (first : (∀ n a w, J n 0 a w → r0.wp P (jumps (fun l a w => ∃ n, J n l a w) Q) a w) → c.wp P (jumps (fun l a w => ∃ n, J n l a w) Q) a w)
    (p0 : ∀ n a w, J n 0 a w → r0.wp P (jumps (fun l' a' w' => ∃ n', n' < n ∧ J n' l' a' w') Q) a w)
    (p1 : ∀ n a w, J n 1 a w → r1.wp P (jumps (fun l' a' w' => ∃ n', n' < n ∧ J n' l' a' w') Q) a w) : (Code.scope c).wp P Q a w := by
  refine wp_scope_ghost (fun l => ((findLabel c l).getD .skip)) J ?_ (first fun n a w hJ => ?_) ?_
  · intro n l a w hJ
    rcases hl n l a w hJ with rfl | rfl
    · simp only [h0, Option.getD_some]
    · simp only [h1, Option.getD_some]
  · refine wp_mono (p0 n a w hJ) ?_
    intro e a' w' h
    cases e with
    | goto l => obtain ⟨n', _, h⟩ := h; exact ⟨n', h⟩
    | normal => exact h
    | exit id => exact h
    | ret => exact h
    | panic ch => exact h
    | outgrown => exact h
  · intro n l a w hJ
    rcases hl n l a w hJ with rfl | rfl
    · simp only [h0, Option.getD_some]; exact wp_seq (wp_skip (p0 n a w hJ))
    · simp only [h1, Option.getD_some]; exact wp_seq (wp_skip (p1 n a w hJ))

theorem jumps_mono {J J' : Nat → Act → World → Prop} {Q : Exit → Act → World → Prop} (h : ∀ l a w, J l a w → J' l a w) : ∀ e a w, jumps J Q e a w → jumps J' Q e a w := by
  intro e a w hq
  cases e with
  | goto l => exact h l a w hq
  | normal => exact hq
  | exit id => exact hq
  | ret => exact hq
  | panic ch => exact hq
  | outgrown => exact hq

theorem wp_scope10 {P : Program} {a : Act} {w : World} {Q : Exit → Act → World → Prop} {c r0 r1 r2 r3 r4 r5 r6 r7 r8 r9 : Code} (J : Nat → Nat → Act → World → Prop) (hl : ∀ n l a w, J n l a w → l = 0 ∨ l = 1 ∨ l = 2 ∨ l = 3 ∨ l = 4 ∨ l = 5 ∨ l = 6 ∨ l = 7 ∨ l = 8 ∨ l = 9)
    (h0 : findLabel c 0 = some (.seq .skip r0)) (h1 : findLabel c 1 = some (.seq .skip r1)) (h2 : findLabel c 2 = some (.seq .skip r2)) (h3 : findLabel c 3 = some (.seq .skip r3)) (h4 : findLabel c 4 = some (.seq .skip r4)) (h5 : findLabel c 5 = some (.seq .skip r5)) (h6 : findLabel c 6 = some (.seq .skip r6)) (h7 : findLabel c 7 = some (.seq .skip r7)) (h8 : findLabel c 8 = some (.seq .skip r8)) (h9 : findLabel c 9 = some (.seq .skip r9))
    (first : (∀ n a w, J n 0 a w → r0.wp P (jumps (fun l a w => ∃ n, J n l a w) Q) a w) → c.wp P (jumps (fun l a w => ∃ n, J n l a w) Q) a w)
    (p0 : ∀ n a w, J n 0 a w → r0.wp P (jumps (fun l' a' w' => ∃ n', n' < n ∧ J n' l' a' w') Q) a w)
    (p1 : ∀ n a w, J n 1 a w → r1.wp P (jumps (fun l' a' w' => ∃ n', n' < n ∧ J n' l' a' w') Q) a w)
    (p2 : ∀ n a w, J n 2 a w → r2.wp P (jumps (fun l' a' w' => ∃ n', n' < n ∧ J n' l' a' w') Q) a w)
    (p3 : ∀ n a w, J n 3 a w → r3.wp P (jumps (fun l' a' w' => ∃ n', n' < n ∧ J n' l' a' w') Q) a w)
    (p4 : ∀ n a w, J n 4 a w → r4.wp P (jumps (fun l' a' w' => ∃ n', n' < n ∧ J n' l' a' w') Q) a w)
    (p5 : ∀ n a w, J n 5 a w → r5.wp P (jumps (fun l' a' w' => ∃ n', n' < n ∧ J n' l' a' w') Q) a w)
    (p6 : ∀ n a w, J n 6 a w → r6.wp P (jumps (fun l' a' w' => ∃ n', n' < n ∧ J n' l' a' w') Q) a w)
    (p7 : ∀ n a w, J n 7 a w → r7.wp P (jumps (fun l' a' w' => ∃ n', n' < n ∧ J n' l' a' w') Q) a w)
    (p8 : (∀ n a w, J n 9 a w → r9.wp P (jumps (fun l' a' w' => ∃ n', n' < n ∧ J n' l' a' w') Q) a w) → ∀ n a w, J n 8 a w → r8.wp P (jumps (fun l' a' w' => ∃ n', n' < n ∧ J n' l' a' w') Q) a w)
    (p9 : ∀ n a w, J n 9 a w → r9.wp P (jumps (fun l' a' w' => ∃ n', n' < n ∧ J n' l' a' w') Q) a w) : (Code.scope c).wp P Q a w := by
  refine wp_scope_ghost (fun l => ((findLabel c l).getD .skip)) J ?_ (first fun n a w hJ => ?_) ?_
  · intro n l a w hJ
    rcases hl n l a w hJ with rfl | rfl | rfl | rfl | rfl | rfl | rfl | rfl | rfl | rfl
    · simp only [h0, Option.getD_some]
    · simp only [h1, Option.getD_some]
    · simp only [h2, Option.getD_some]
    · simp only [h3, Option.getD_some]
    · simp only [h4, Option.getD_some]
    · simp only [h5, Option.getD_some]
    · simp only [h6, Option.getD_some]
    · simp only [h7, Option.getD_some]
    · simp only [h8, Option.getD_some]
    · simp only [h9, Option.getD_some]
  · refine wp_mono (p0 n a w hJ) ?_
    intro e a' w' h
    cases e with
    | goto l => obtain ⟨n', _, h⟩ := h; exact ⟨n', h⟩
    | normal => exact h
    | exit id => exact h
    | ret => exact h
    | panic ch => exact h
    | outgrown => exact h
  · intro n l a w hJ
    rcases hl n l a w hJ with rfl | rfl | rfl | rfl | rfl | rfl | rfl | rfl | rfl | rfl
    · simp only [h0, Option.getD_some]; exact wp_seq (wp_skip (p0 n a w hJ))
    · simp only [h1, Option.getD_some]; exact wp_seq (wp_skip (p1 n a w hJ))
    · simp only [h2, Option.getD_some]; exact wp_seq (wp_skip (p2 n a w hJ))
    · simp only [h3, Option.getD_some]; exact wp_seq (wp_skip (p3 n a w hJ))
    · simp only [h4, Option.getD_some]; exact wp_seq (wp_skip (p4 n a w hJ))
    · simp only [h5, Option.getD_some]; exact wp_seq (wp_skip (p5 n a w hJ))
    · simp only [h6, Option.getD_some]; exact wp_seq (wp_skip (p6 n a w hJ))
    · simp only [h7, Option.getD_some]; exact wp_seq (wp_skip (p7 n a w hJ))
    · simp only [h8, Option.getD_some]; exact wp_seq (wp_skip (p8 p9 n a w hJ))
    · simp only [h9, Option.getD_some]; exact wp_seq (wp_skip (p9 n a w hJ))
end Go.Proofs.YtecgddiohoeboaaDoor
