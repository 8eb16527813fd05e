/- Contracts of the program's registry: what it tells. -/
import Derived.Test.YtfhgohpldpnkbaaNm1
namespace Go.Proofs.Ytfhgohpldpnkbaa
open Go.RowKit Go.Lib Go.Maps

/-- A registry and the blocks that its maps may lie in. -/
def PN (w : World) (b : Nat) (D : Nat → Prop) (K : Nat) (R : List NP) : Prop := ∃ m, NAt w b m K R ∧ ∀ k, blk m k → D k
theorem PN.keep {w w' : World} {b K : Nat} {D : Nat → Prop} {R : List NP} (h : PN w b D K R) (hb : Below w.heap.size w w') : PN w' b D K R := by
  obtain ⟨m, h, hd⟩ := h
  exact ⟨m, h.keep hb, hd⟩
theorem PN.but {S : Nat → Prop} {w w' : World} {b K : Nat} {D : Nat → Prop} {R : List NP} (h : PN w b D K R) (hb : But S w w') (hs : ¬ S b) (hD : ∀ k, D k → ¬ S k) : PN w' b D K R := by
  obtain ⟨m, h, hd⟩ := h
  exact ⟨m, h.but hb hs (fun k hk => hD k (hd k hk)), hd⟩
theorem PN.lt {w : World} {b K : Nat} {D : Nat → Prop} {R : List NP} (h : PN w b D K R) : b < w.heap.size := by
  obtain ⟨m, h, hd⟩ := h
  exact h.lt
theorem PN.reg {w : World} {b K : Nat} {D : Nat → Prop} {R : List NP} (h : PN w b D K R) : Reg R := by
  obtain ⟨m, h, hd⟩ := h
  exact h.reg
theorem PN.cut {w : World} {b K : Nat} {D : Nat → Prop} {R : List NP} (h : PN w b D K R) : PN w b (fun k => D k ∧ k < w.heap.size) K R := by
  obtain ⟨m, h, hd⟩ := h
  exact ⟨m, h, fun k hk => ⟨hd k hk, h.ltm hk⟩⟩

theorem pnew (w : World) : Calls Try.prog 6 #[] w fun e w' => e = .returned (.pointer (some ⟨w.heap.size, 0, none⟩)) ∧ Below w.heap.size w w' ∧ w'.heap.size = w.heap.size + 1 ∧ PN w' w.heap.size (fun _ => False) 0 [] := by
  go_enter Try.func6, Try.ntmps6
  go_wp2
  go_ret
  exact ⟨rfl, below_new _ _, by simp, none, ⟨Duo.new w _ _ _, .inl ⟨rfl, rfl⟩, reg_nil⟩, fun k ⟨_, _, e, _⟩ => by cases e⟩

set_option maxHeartbeats 1000000 in
theorem mayBe_any (s : ByteArray) (w : World) : Calls Try.prog 21 #[.string s] w fun e w' => e = .returned (.bool (okN s)) ∧ w' = w := by
  have hu : (und.toList : List UInt8) = [117, 110, 100, 101, 102, 105, 110, 101, 100] := by rw [ByteArray.toList_eq]; rfl
  have hz : (s.toList == []) = (s.size == 0) := by
    rw [ByteArray.toList_eq]
    cases s with | mk d => cases d with | mk l => cases l <;> rfl
  unfold okN eqT
  rw [hu]
  by_cases h1 : s.size = 0
  · have e1 : s.toList = [] := by
      have : (s.toList == []) = true := by rw [hz, h1]; rfl
      simpa using this
    have e2 : (s.size == 0) = true := by simp [h1]
    rw [e2]
    simp only [Bool.not_true, Bool.false_and]
    obtain ⟨rfl⟩ : s = ⟨#[]⟩ := by
      apply ByteArray.ext
      rw [ByteArray.toList_eq] at e1
      simpa using e1
    go_enter Try.func21, Try.ntmps21
    go_wp2
    go_ret
    exact ⟨rfl, rfl⟩
  · have e2 : (s.size == 0) = false := by simp [h1]
    have e1 : ¬ s.toList = [] := fun e => by rw [e] at hz; simp [h1] at hz
    have e3 : (s.toList == []) = false := by rw [hz, e2]
    rw [e2]
    by_cases h2 : s.size ≤ 64
    · have h2' : (s.size : Int) ≤ 64 := by omega
      simp only [h2, decide_true, Bool.not_false, Bool.true_and]
      by_cases h3 : s.toList = [117, 110, 100, 101, 102, 105, 110, 101, 100]
      · have e4 : (s.toList == [117, 110, 100, 101, 102, 105, 110, 101, 100]) = true := by simp [h3]
        rw [e4]
        clear hu hz e2
        go_enter Try.func21, Try.ntmps21
        go_wp2
        go_ret
        exact ⟨by simp, rfl⟩
      · have e4 : (s.toList == [117, 110, 100, 101, 102, 105, 110, 101, 100]) = false := by simp [h3]
        rw [e4]
        clear hu hz e2
        go_enter Try.func21, Try.ntmps21
        go_wp2
        go_ret
        exact ⟨by simp, rfl⟩
    · have h2' : ¬ (s.size : Int) ≤ 64 := by omega
      simp only [h2, decide_false, Bool.not_false, Bool.true_and, Bool.false_and]
      clear hu hz e2
      go_enter Try.func21, Try.ntmps21
      go_wp2
      go_ret
      exact ⟨rfl, rfl⟩

theorem isTaken_any {w : World} {b K : Nat} {D : Nat → Prop} {R : List NP} (h : PN w b D K R) {s : ByteArray} (hs : s.size ≤ maxLen) : Calls Try.prog 22 #[.pointer (some ⟨b, 0, none⟩), .string s] w fun e w' => e = .returned (.bool (whN R s).isSome) ∧ Below w.heap.size w w' := by
  obtain ⟨m, h, hd⟩ := h
  have hl := h.lookO hs
  obtain ⟨c0, c1, f0, f1, hlt⟩ := h.duo
  generalize (whN R s).isSome = q at *
  generalize (whN R s).getD 0 = v at *
  generalize m.map Prod.fst = ma at *
  clear h hd hs
  go_enter Try.func22, Try.ntmps22
  go_wp2
  go_ret
  exact ⟨rfl, below_new _ _⟩
theorem isNamed_any {w : World} {b K : Nat} {D : Nat → Prop} {R : List NP} (h : PN w b D K R) {q : Int} (hq : wfi q) : Calls Try.prog 23 #[.pointer (some ⟨b, 0, none⟩), .int .i64 q] w fun e w' => e = .returned (.bool (ofN R q).isSome) ∧ Below w.heap.size w w' := by
  obtain ⟨m, h, hd⟩ := h
  have hl := h.lookN hq
  obtain ⟨c0, c1, f0, f1, hlt⟩ := h.duo
  generalize (ofN R q).isSome = qq at *
  generalize (ofN R q).getD ⟨#[]⟩ = v at *
  generalize m.map Prod.snd = ma at *
  clear h hd hq
  go_enter Try.func23, Try.ntmps23
  go_wp2
  go_ret
  exact ⟨rfl, below_new _ _⟩
theorem pwhere {w : World} {b K : Nat} {D : Nat → Prop} {R : List NP} (h : PN w b D K R) {s : ByteArray} (hs : s.size ≤ maxLen) : Calls Try.prog 8 #[.pointer (some ⟨b, 0, none⟩), .string s] w fun e w' => e = .returned (.tuple #[.int .i64 ((whN R s).getD 0), .bool (whN R s).isSome]) ∧ Below w.heap.size w w' := by
  obtain ⟨m, h, hd⟩ := h
  have hl := h.lookO hs
  obtain ⟨c0, c1, f0, f1, hlt⟩ := h.duo
  generalize (whN R s).isSome = q at *
  generalize (whN R s).getD 0 = v at *
  generalize m.map Prod.fst = ma at *
  clear h hd hs
  go_enter Try.func8, Try.ntmps8
  go_wp2
  refine bodyPost_ret (v := .tuple #[.int .i64 v, .bool q]) ?_ rfl ⟨rfl, ?_⟩
  · simp [results, Try.results8, go_sem]
  · exact below_new _ _
end Go.Proofs.Ytfhgohpldpnkbaa
