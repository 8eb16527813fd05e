/- An ether in memory. -/
import Derived.Test.YtodelafnboimnaaGreatEa1
namespace Go.Proofs.YtodelafnboimnaaGreat
open Go.RowKit Go.Lib Go.Maps

/-- A lane: its queue's block, that queue's row, what it has, and how many. -/
structure Lane where
  rb : Nat
  V : Value
  xs : List Value
  k : Nat

def foot (l : Lane) (j : Nat) : Prop := j = l.rb ∨ l.V.ownBlock = some j

structure EO (w0 w : World) (eb : Nat) (mv : Value) (f : Int → Int → Option Lane) (all N : Nat) : Prop where
  duo : Duo w eb mv (.int .i64 (all : Int))
  map : (mv = .map none ∧ ∀ a b, f a b = none) ∨ ∃ mb n, mv = .map (some mb) ∧ EM w mb n (fun a b => (f a b).map Lane.rb) ∧ n ≤ N ∧ w0.heap.size ≤ mb ∧ mb ≠ eb ∧ ∀ a b l, f a b = some l → ¬ foot l mb
  ge : w0.heap.size ≤ eb
  lane : ∀ a b l, f a b = some l → wfi a ∧ wfi b ∧ Rw ST 12 w w0.heap.size l.rb l.V l.xs l.k N ∧ w0.heap.size ≤ l.rb ∧ ¬ foot l eb
  apart : ∀ a b l a' b' l', f a b = some l → f a' b' = some l' → (a ≠ a' ∨ b ≠ b') → ∀ j, foot l j → ¬ foot l' j
  bel : Below w0.heap.size w0 w

variable {w0 w w' : World} {eb all N : Nat} {mv : Value} {f : Int → Int → Option Lane}

theorem EO.foot_lt (h : EO w0 w eb mv f all N) {a b : Int} {l : Lane} (hl : f a b = some l) {j : Nat} (hj : foot l j) : j < w.heap.size ∧ w0.heap.size ≤ j := by
  obtain ⟨_, _, hr, hg, _⟩ := h.lane a b l hl
  rcases hj with rfl | e
  · exact ⟨hr.lt.1, hg⟩
  · exact hr.lt.2.2 j e

/-- Blocks of the ether stay as they are. -/
theorem EO.but {S : Nat → Prop} (h : EO w0 w eb mv f all N) (hb : But S w w') (h1 : ¬ S eb) (h2 : ∀ mb, mv = .map (some mb) → ¬ S mb) (h3 : ∀ a b l j, f a b = some l → foot l j → ¬ S j) (h4 : ∀ j, S j → w0.heap.size ≤ j) : EO w0 w' eb mv f all N := by
  refine ⟨h.duo.but hb h1, ?_, h.ge, fun a b l hl => ?_, h.apart, h.bel.trans (hb.below h.bel.size h4)⟩
  · rcases h.map with hm | ⟨mb, n, rfl, he, r⟩
    · exact .inl hm
    · exact .inr ⟨mb, n, rfl, he.but hb (h2 mb rfl), r⟩
  · obtain ⟨ha, hb', hr, rest⟩ := h.lane a b l hl
    exact ⟨ha, hb', hr.but hb (h3 a b l _ hl (.inl rfl)) (fun k hk => h3 a b l k hl (.inr hk)), rest⟩
theorem EO.keep (h : EO w0 w eb mv f all N) (hb : Below w.heap.size w w') : EO w0 w' eb mv f all N :=
  h.but (But.of_below (S := fun _ => False) hb) (fun h => h) (fun _ _ h => h) (fun _ _ _ _ _ _ h => h) (fun _ h => h.elim)
theorem EO.mono (h : EO w0 w eb mv f all N) {N' : Nat} (hN : N ≤ N') : EO w0 w eb mv f all N' := by
  refine ⟨h.duo, ?_, h.ge, fun a b l hl => ?_, h.apart, h.bel⟩
  · rcases h.map with hm | ⟨mb, n, rfl, he, hn, r⟩
    · exact .inl hm
    · exact .inr ⟨mb, n, rfl, he, Nat.le_trans hn hN, r⟩
  · obtain ⟨ha, hb', hr, rest⟩ := h.lane a b l hl
    exact ⟨ha, hb', hr.mono hN, rest⟩

def updL (f : Int → Int → Option Lane) (i j : Int) (x : Option Lane) : Int → Int → Option Lane := fun a b => if a = i ∧ b = j then x else f a b
theorem updL_same (f : Int → Int → Option Lane) (i j : Int) (x : Option Lane) : updL f i j x i j = x := by simp [updL]
theorem updL_other (f : Int → Int → Option Lane) (i j a b : Int) (x : Option Lane) (h : ¬ (a = i ∧ b = j)) : updL f i j x a b = f a b := by simp [updL, h]

/-- One lane turns, by its own blocks and new ones. -/
theorem EO.step (h : EO w0 w eb mv f all N) {i j : Int} {l : Lane} (hl : f i j = some l) {V' : Value} {xs' : List Value} {k' N' : Nat} (hr : Rw ST 12 w' w0.heap.size l.rb V' xs' k' N') (hb : But (foot l) w w') (hs : Stays w l.V V') (hN : N ≤ N') :
    EO w0 w' eb mv (updL f i j (some ⟨l.rb, V', xs', k'⟩)) all N' := by
  have hf : ∀ q, foot ⟨l.rb, V', xs', k'⟩ q → foot l q ∨ w.heap.size ≤ q := by
    rintro q (e | e)
    · exact .inl (.inl e)
    · rcases hs with e2 | e2
      · exact .inl (.inr (e2 ▸ e))
      · exact .inr (e2 q e)
  have hge : ∀ q, foot l q → w0.heap.size ≤ q := fun q hq => (h.foot_lt hl hq).2
  obtain ⟨hwi, hwj, hrr, hgr, hne⟩ := h.lane i j l hl
  refine ⟨h.duo.but hb hne, ?_, h.ge, fun a b m hm => ?_, fun a b m a' b' m' hm hm' hd q hq hq' => ?_, h.bel.trans (hb.below h.bel.size hge)⟩
  · rcases h.map with ⟨_, hm⟩ | ⟨mb, n, rfl, he, hn, hm, hme, hmf⟩
    · rw [hm] at hl; cases hl
    · refine .inr ⟨mb, n, rfl, ?_, Nat.le_trans hn hN, hm, hme, fun a b m hm2 hq => ?_⟩
      · have e : (fun a b => (updL f i j (some ⟨l.rb, V', xs', k'⟩) a b).map Lane.rb) = fun a b => (f a b).map Lane.rb := by
          funext a b
          unfold updL
          split
          · rename_i hc; obtain ⟨rfl, rfl⟩ := hc; rw [hl]; rfl
          · rfl
        rw [e]
        exact he.but hb (hmf i j l hl)
      · by_cases hc : a = i ∧ b = j
        · obtain ⟨rfl, rfl⟩ := hc
          rw [updL_same] at hm2
          obtain rfl : (⟨l.rb, V', xs', k'⟩ : Lane) = m := by simpa using hm2
          rcases hf _ hq with e | e
          · exact hmf a b l hl e
          · have := he.lt; omega
        · rw [updL_other _ _ _ _ _ _ hc] at hm2
          exact hmf a b m hm2 hq
  · by_cases hc : a = i ∧ b = j
    · obtain ⟨rfl, rfl⟩ := hc
      rw [updL_same] at hm
      obtain rfl : (⟨l.rb, V', xs', k'⟩ : Lane) = m := by simpa using hm
      refine ⟨hwi, hwj, hr, hgr, fun hq => ?_⟩
      rcases hf _ hq with e | e
      · exact hne e
      · have := h.duo.lt; omega
    · rw [updL_other _ _ _ _ _ _ hc] at hm
      obtain ⟨x1, x2, x3, x4, x5⟩ := h.lane a b m hm
      have hd : i ≠ a ∨ j ≠ b := by
        by_cases e : a = i
        · exact .inr fun e2 => hc ⟨e, e2.symm⟩
        · exact .inl fun e2 => e e2.symm
      exact ⟨x1, x2, (x3.but hb (fun hq => h.apart i j l a b m hl hm hd _ hq (.inl rfl)) (fun q hq hq2 => h.apart i j l a b m hl hm hd _ hq2 (.inr hq))).mono hN, x4, x5⟩
  · by_cases hc : a = i ∧ b = j
    · obtain ⟨rfl, rfl⟩ := hc
      have hc' : ¬ (a' = a ∧ b' = b) := by
        rintro ⟨rfl, rfl⟩; rcases hd with h | h <;> exact h rfl
      rw [updL_same] at hm
      obtain rfl : (⟨l.rb, V', xs', k'⟩ : Lane) = m := by simpa using hm
      rw [updL_other _ _ _ _ _ _ hc'] at hm'
      rcases hf _ hq with e | e
      · exact h.apart _ _ _ _ _ _ hl hm' hd _ e hq'
      · have := (h.foot_lt hm' hq').1; omega
    · rw [updL_other _ _ _ _ _ _ hc] at hm
      by_cases hc' : a' = i ∧ b' = j
      · obtain ⟨rfl, rfl⟩ := hc'
        rw [updL_same] at hm'
        obtain rfl : (⟨l.rb, V', xs', k'⟩ : Lane) = m' := by simpa using hm'
        rcases hf _ hq' with e | e
        · exact h.apart _ _ _ _ _ _ hm hl hd _ hq e
        · have := (h.foot_lt hm hq).1; omega
      · rw [updL_other _ _ _ _ _ _ hc'] at hm'
        exact h.apart _ _ _ _ _ _ hm hm' hd _ hq hq'

/-- A new lane. -/
theorem EO.more (h : EO w0 w eb mv f all N) {i j : Int} (hi : wfi i) (hj : wfi j) {mb n : Nat} (hmv : mv = .map (some mb)) (hfn : f i j = none) {r : Nat} (hr : Rw ST 12 w w0.heap.size r (.slice none 0 0) [] 0 0) (hgr : w0.heap.size ≤ r) (hre : r ≠ eb) (hrm : r ≠ mb) (hfar : ∀ a b l, f a b = some l → ¬ foot l r)
    (hE : EM w' mb n (upd (fun a b => (f a b).map Lane.rb) i j (some r))) (hb : But (fun k => k = mb) w w') (hn : n ≤ N + 1) : EO w0 w' eb mv (updL f i j (some ⟨r, .slice none 0 0, [], 0⟩)) all (N + 1) := by
  rcases h.map with ⟨e, _⟩ | ⟨mb', n', e, he, hn', hm, hme, hmf⟩
  · rw [e] at hmv; cases hmv
  · obtain rfl : mb' = mb := by rw [e] at hmv; simpa using hmv
    have hft : ∀ q, foot ⟨r, .slice none 0 0, [], 0⟩ q → q = r := by
      rintro q (e | e)
      · exact e
      · simp [Value.ownBlock] at e
    refine ⟨h.duo.but hb (fun e => hme e.symm), ?_, h.ge, fun a b m hm2 => ?_, fun a b m a' b' m' hm1 hm2 hd q hq hq' => ?_, h.bel.trans (hb.below h.bel.size (fun k e => e ▸ hm))⟩
    · refine .inr ⟨mb', n, e, ?_, hn, hm, hme, fun a b m hm2 hq => ?_⟩
      · have e2 : (fun a b => (updL f i j (some ⟨r, .slice none 0 0, [], 0⟩) a b).map Lane.rb) = upd (fun a b => (f a b).map Lane.rb) i j (some r) := by
          funext a b
          unfold updL upd
          split <;> rfl
        rw [e2]
        exact hE
      · by_cases hc : a = i ∧ b = j
        · obtain ⟨rfl, rfl⟩ := hc
          rw [updL_same] at hm2
          obtain rfl : (⟨r, .slice none 0 0, [], 0⟩ : Lane) = m := by simpa using hm2
          exact hrm (hft _ hq).symm
        · rw [updL_other _ _ _ _ _ _ hc] at hm2
          exact hmf a b m hm2 hq
    · by_cases hc : a = i ∧ b = j
      · obtain ⟨rfl, rfl⟩ := hc
        rw [updL_same] at hm2
        obtain rfl : (⟨r, .slice none 0 0, [], 0⟩ : Lane) = m := by simpa using hm2
        exact ⟨hi, hj, (hr.but hb hrm (fun k hk => by simp [Value.ownBlock] at hk)).mono (Nat.zero_le _), hgr, fun hq => hre (hft _ hq).symm⟩
      · rw [updL_other _ _ _ _ _ _ hc] at hm2
        obtain ⟨x1, x2, x3, x4, x5⟩ := h.lane a b m hm2
        exact ⟨x1, x2, (x3.but hb (fun e => hmf a b m hm2 (.inl e.symm)) (fun k hk e => hmf a b m hm2 (.inr (e ▸ hk)))).mono (Nat.le_succ _), x4, x5⟩
    · by_cases hc : a = i ∧ b = j
      · obtain ⟨rfl, rfl⟩ := hc
        have hc' : ¬ (a' = a ∧ b' = b) := by
          rintro ⟨rfl, rfl⟩; rcases hd with h | h <;> exact h rfl
        rw [updL_same] at hm1
        obtain rfl : (⟨r, .slice none 0 0, [], 0⟩ : Lane) = m := by simpa using hm1
        rw [updL_other _ _ _ _ _ _ hc'] at hm2
        exact hfar _ _ _ hm2 ((hft _ hq) ▸ hq')
      · rw [updL_other _ _ _ _ _ _ hc] at hm1
        by_cases hc' : a' = i ∧ b' = j
        · obtain ⟨rfl, rfl⟩ := hc'
          rw [updL_same] at hm2
          obtain rfl : (⟨r, .slice none 0 0, [], 0⟩ : Lane) = m' := by simpa using hm2
          exact hfar _ _ _ hm1 ((hft _ hq') ▸ hq)
        · rw [updL_other _ _ _ _ _ _ hc'] at hm2
          exact h.apart _ _ _ _ _ _ hm1 hm2 hd _ hq hq'

/-- A lane is struck. -/
theorem EO.less (h : EO w0 w eb mv f all N) {i j : Int} {mb n : Nat} (hmv : mv = .map (some mb)) (hE : EM w' mb n (upd (fun a b => (f a b).map Lane.rb) i j none)) (hb : But (fun k => k = mb) w w') (hn : n ≤ N) : EO w0 w' eb mv (updL f i j none) all N := by
  rcases h.map with ⟨e, _⟩ | ⟨mb', n', e, he, hn', hm, hme, hmf⟩
  · rw [e] at hmv; cases hmv
  · obtain rfl : mb' = mb := by rw [e] at hmv; simpa using hmv
    have hold : ∀ a b m, updL f i j none a b = some m → f a b = some m := by
      intro a b m hm2
      unfold updL at hm2
      split at hm2
      · cases hm2
      · exact hm2
    refine ⟨h.duo.but hb (fun e => hme e.symm), ?_, h.ge, fun a b m hm2 => ?_, fun a b m a' b' m' hm1 hm2 hd q hq hq' => h.apart _ _ _ _ _ _ (hold _ _ _ hm1) (hold _ _ _ hm2) hd _ hq hq', h.bel.trans (hb.below h.bel.size (fun k e => e ▸ hm))⟩
    · refine .inr ⟨mb', n, e, ?_, hn, hm, hme, fun a b m hm2 hq => hmf a b m (hold _ _ _ hm2) hq⟩
      have e2 : (fun a b => (updL f i j none a b).map Lane.rb) = upd (fun a b => (f a b).map Lane.rb) i j none := by
        funext a b
        unfold updL upd
        split <;> rfl
      rw [e2]
      exact hE
    · obtain ⟨x1, x2, x3, x4, x5⟩ := h.lane a b m (hold _ _ _ hm2)
      exact ⟨x1, x2, x3.but hb (fun e => hmf a b m (hold _ _ _ hm2) (.inl e.symm)) (fun k hk e => hmf a b m (hold _ _ _ hm2) (.inr (e ▸ hk))), x4, x5⟩

theorem EO.count (h : EO w0 w eb mv f all N) (n : Nat) : EO w0 (w.setCell ⟨eb, 1, none⟩ (.int .i64 (n : Int))) eb mv f n N := by
  have hb : But (fun k => k = eb) w (w.setCell ⟨eb, 1, none⟩ (.int .i64 (n : Int))) := (But.refl (fun k => k = eb) w).setCell (p := ⟨eb, 1, none⟩) (fun _ => rfl) _
  refine ⟨h.duo.set1 _, ?_, h.ge, fun a b m hm => ?_, h.apart, h.bel.trans (hb.below h.bel.size (fun k e => e ▸ h.ge))⟩
  · rcases h.map with hm | ⟨mb, n, rfl, he, hn, hm, hme, r⟩
    · exact .inl hm
    · exact .inr ⟨mb, n, rfl, he.but hb hme, hn, hm, hme, r⟩
  · obtain ⟨x1, x2, x3, x4, x5⟩ := h.lane a b m hm
    exact ⟨x1, x2, x3.but hb (fun e => x5 (.inl e.symm)) (fun k hk e => x5 (.inr (e ▸ hk))), x4, x5⟩
end Go.Proofs.YtodelafnboimnaaGreat
