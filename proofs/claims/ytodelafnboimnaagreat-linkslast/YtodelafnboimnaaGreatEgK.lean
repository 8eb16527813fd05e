/- The keys of the lanes' map. -/
import Derived.Test.YtodelafnboimnaaGreatEe1
namespace Go.Proofs.YtodelafnboimnaaGreat
open Go.RowKit Go.Lib Go.Maps
attribute [local go_sem] store_float f64bits
attribute [local go_sem ↓] Go.wp_at_zero Go.wp_at_succ

variable {w0 w : World} {eb all N : Nat} {mv : Value} {f : Int → Int → Option Lane}

set_option maxRecDepth 100000 in
theorem keyLits_int (m : Nat) (c : Value) (ls : List Lit) (h : Tryz.prog.keyLits (m + 1) 3 [c] = some ls) : ∃ a, c = .int .i64 a ∧ wfi a := by
  unfold Program.keyLits at h
  rw [Tryz.underlying3] at h
  cases c <;> simp at h
  obtain ⟨⟨rfl, hw⟩, _⟩ := h
  exact ⟨_, rfl, hw⟩

set_option maxRecDepth 100000 in
theorem keyK_inv0 {key : Value} {k : Lit} (h : keyOf Tryz.prog KT key = some k) : ∃ a b : Int, key = kv a b ∧ wfi a ∧ wfi b := by
  have hc : Tryz.prog.cellsOf KT = 2 := by kernel_rfl
  have hi : Tryz.prog.cellsOf IT = 1 := by kernel_rfl
  obtain ⟨m, hs⟩ : ∃ m, Tryz.prog.types.size + 1 = m + 1 + 1 := ⟨Tryz.prog.types.size - 1, by have := rowKT; omega⟩
  unfold keyOf at h
  rw [Tryz.underlying75] at h
  simp only at h
  split at h
  · rename_i hf
    have hfm : Value.formed Tryz.prog KT key = true := by
      cases hq : Value.formed Tryz.prog KT key
      · rw [hq] at hf; simp at hf
      · rfl
    rw [hs] at h
    unfold Program.keyLits at h
    rw [Tryz.underlying75] at h
    unfold Value.formed at hfm
    rw [Tryz.underlying75] at hfm
    cases key with
    | agg cs =>
      have hsz : cs.size = 2 := by simpa [hc] using hfm
      obtain ⟨c0, c1, rfl⟩ : ∃ c0 c1, cs = #[c0, c1] := by
        match cs, hsz with
        | ⟨[c0, c1]⟩, _ => exact ⟨c0, c1, rfl⟩
      simp [Value.cells, hc, hi, List.mapM_cons, List.mapM_nil] at h
      obtain ⟨l0, e0⟩ : ∃ l0, Tryz.prog.keyLits (m + 1) 3 [c0] = some l0 := by
        cases hq : Tryz.prog.keyLits (m + 1) 3 [c0] with
        | none => rw [hq] at h; simp at h
        | some l0 => exact ⟨l0, rfl⟩
      obtain ⟨l1, e1⟩ : ∃ l1, Tryz.prog.keyLits (m + 1) 3 [c1] = some l1 := by
        cases hq : Tryz.prog.keyLits (m + 1) 3 [c1] with
        | none => rw [e0, hq] at h; simp at h
        | some l1 => exact ⟨l1, rfl⟩
      obtain ⟨a, rfl, ha⟩ := keyLits_int _ _ _ e0
      obtain ⟨b, rfl, hb⟩ := keyLits_int _ _ _ e1
      exact ⟨a, b, rfl, ha, hb⟩
    | _ => simp [Value.cells, hc] at h
  · cases h

theorem keyK_inv (key : Value) (k : Lit) (h : keyOf Tryz.prog KT key = some k) : ∃ x : Int × Int, key = kv x.1 x.2 := by
  obtain ⟨a, b, e, _⟩ := keyK_inv0 h
  exact ⟨(a, b), e⟩
theorem keyK_wf {a b : Int} {k : Lit} (h : keyOf Tryz.prog KT (kv a b) = some k) : wfi a ∧ wfi b ∧ k = kl a b := by
  obtain ⟨a', b', e, ha, hb⟩ := keyK_inv0 h
  have e' : a = a' ∧ b = b' := by simpa using e
  obtain ⟨rfl, rfl⟩ := e'
  refine ⟨ha, hb, ?_⟩
  rw [keyK ha hb] at h
  simpa using h.symm

theorem kl_same (a b : Int) : (kl a b).sameKey (kl a b) = true := by simp [kl, Lit.sameKey]
end Go.Proofs.YtodelafnboimnaaGreat
