import Derived.Test.YtpcpdehnppfbfaaGreatG03
import Derived.Test.YtpcpdehnppfbfaaGreatG02
import Derived.Laws.MakeOwn
import Derived.Laws.CopyRow
/- An ether in memory. -/
namespace Go.Proofs.YtpcpdehnppfbfaaGreat
open Go.RowKit Go.Lib Go.Maps

/-- A lane: its queue's block, that queue's row, what it has, and how many. -/
structure Lane where
  rb : Nat
  V : Value
  xs : List Value
  k : Nat

def foot (l : Lane) (j : Nat) : Prop := j = l.rb ∨ l.V.ownBlock = some j

structure EO (w0 w : World) (eb : Nat) (mv : Value) (f : Int → Int → Option Lane) (all N : Nat) : Prop where
  duo : Duo w eb mv (.int .i64 (all : Int))
  map : (mv = .map none ∧ ∀ a b, f a b = none) ∨ ∃ mb n, mv = .map (some mb) ∧ EM w mb n (fun a b => (f a b).map Lane.rb) ∧ n ≤ N ∧ w0.heap.size ≤ mb ∧ mb ≠ eb ∧ ∀ a b l, f a b = some l → ¬ foot l mb
  ge : w0.heap.size ≤ eb
  lane : ∀ a b l, f a b = some l → wfi a ∧ wfi b ∧ Rw ST 12 w w0.heap.size l.rb l.V l.xs l.k N ∧ w0.heap.size ≤ l.rb ∧ ¬ foot l eb
  apart : ∀ a b l a' b' l', f a b = some l → f a' b' = some l' → (a ≠ a' ∨ b ≠ b') → ∀ j, foot l j → ¬ foot l' j
  bel : Below w0.heap.size w0 w

variable {w0 w w' : World} {eb all N : Nat} {mv : Value} {f : Int → Int → Option Lane}

theorem EO.foot_lt (h : EO w0 w eb mv f all N) {a b : Int} {l : Lane} (hl : f a b = some l) {j : Nat} (hj : foot l j) : j < w.heap.size ∧ w0.heap.size ≤ j := by
  obtain ⟨_, _, hr, hg, _⟩ := h.lane a b l hl
  rcases hj with rfl | e
  · exact ⟨hr.lt.1, hg⟩
  · exact hr.lt.2.2 j e

/-- Blocks of the ether stay as they are. -/
theorem EO.but {S : Nat → Prop} (h : EO w0 w eb mv f all N) (hb : But S w w') (h1 : ¬ S eb) (h2 : ∀ mb, mv = .map (some mb) → ¬ S mb) (h3 : ∀ a b l j, f a b = some l → foot l j → ¬ S j) (h4 : ∀ j, S j → w0.heap.size ≤ j) : EO w0 w' eb mv f all N := by
  refine ⟨h.duo.but hb h1, ?_, h.ge, fun a b l hl => ?_, h.apart, h.bel.trans (hb.below h.bel.size h4)⟩
  · rcases h.map with hm | ⟨mb, n, rfl, he, r⟩
    · exact .inl hm
    · exact .inr ⟨mb, n, rfl, he.but hb (h2 mb rfl), r⟩
  · obtain ⟨ha, hb', hr, rest⟩ := h.lane a b l hl
    exact ⟨ha, hb', hr.but hb (h3 a b l _ hl (.inl rfl)) (fun k hk => h3 a b l k hl (.inr hk)), rest⟩
theorem EO.keep (h : EO w0 w eb mv f all N) (hb : Below w.heap.size w w') : EO w0 w' eb mv f all N :=
  h.but (But.of_below (S := fun _ => False) hb) (fun h => h) (fun _ _ h => h) (fun _ _ _ _ _ _ h => h) (fun _ h => h.elim)
theorem EO.mono (h : EO w0 w eb mv f all N) {N' : Nat} (hN : N ≤ N') : EO w0 w eb mv f all N' := by
  refine ⟨h.duo, ?_, h.ge, fun a b l hl => ?_, h.apart, h.bel⟩
  · rcases h.map with hm | ⟨mb, n, rfl, he, hn, r⟩
    · exact .inl hm
    · exact .inr ⟨mb, n, rfl, he, Nat.le_trans hn hN, r⟩
  · obtain ⟨ha, hb', hr, rest⟩ := h.lane a b l hl
    exact ⟨ha, hb', hr.mono hN, rest⟩

def updL (f : Int → Int → Option Lane) (i j : Int) (x : Option Lane) : Int → Int → Option Lane := fun a b => if a = i ∧ b = j then x else f a b
theorem updL_same (f : Int → Int → Option Lane) (i j : Int) (x : Option Lane) : updL f i j x i j = x := by simp [updL]
theorem updL_other (f : Int → Int → Option Lane) (i j a b : Int) (x : Option Lane) (h : ¬ (a = i ∧ b = j)) : updL f i j x a b = f a b := by simp [updL, h]

/-- One lane turns, by its own blocks and new ones. -/
theorem EO.step (h : EO w0 w eb mv f all N) {i j : Int} {l : Lane} (hl : f i j = some l) {V' : Value} {xs' : List Value} {k' N' : Nat} (hr : Rw ST 12 w' w0.heap.size l.rb V' xs' k' N') (hb : But (foot l) w w') (hs : Stays w l.V V') (hN : N ≤ N') :
    EO w0 w' eb mv (updL f i j (some ⟨l.rb, V', xs', k'⟩)) all N' := by
  have hf : ∀ q, foot ⟨l.rb, V', xs', k'⟩ q → foot l q ∨ w.heap.size ≤ q := by
    rintro q (e | e)
    · exact .inl (.inl e)
    · rcases hs with e2 | e2
      · exact .inl (.inr (e2 ▸ e))
      · exact .inr (e2 q e)
  have hge : ∀ q, foot l q → w0.heap.size ≤ q := fun q hq => (h.foot_lt hl hq).2
  obtain ⟨hwi, hwj, hrr, hgr, hne⟩ := h.lane i j l hl
  refine ⟨h.duo.but hb hne, ?_, h.ge, fun a b m hm => ?_, fun a b m a' b' m' hm hm' hd q hq hq' => ?_, h.bel.trans (hb.below h.bel.size hge)⟩
  · rcases h.map with ⟨_, hm⟩ | ⟨mb, n, rfl, he, hn, hm, hme, hmf⟩
    · rw [hm] at hl; cases hl
    · refine .inr ⟨mb, n, rfl, ?_, Nat.le_trans hn hN, hm, hme, fun a b m hm2 hq => ?_⟩
      · have e : (fun a b => (updL f i j (some ⟨l.rb, V', xs', k'⟩) a b).map Lane.rb) = fun a b => (f a b).map Lane.rb := by
          funext a b
          unfold updL
          split
          · rename_i hc; obtain ⟨rfl, rfl⟩ := hc; rw [hl]; rfl
          · rfl
        rw [e]
        exact he.but hb (hmf i j l hl)
      · by_cases hc : a = i ∧ b = j
        · obtain ⟨rfl, rfl⟩ := hc
          rw [updL_same] at hm2
          obtain rfl : (⟨l.rb, V', xs', k'⟩ : Lane) = m := by simpa using hm2
          rcases hf _ hq with e | e
          · exact hmf a b l hl e
          · have := he.lt; omega
        · rw [updL_other _ _ _ _ _ _ hc] at hm2
          exact hmf a b m hm2 hq
  · by_cases hc : a = i ∧ b = j
    · obtain ⟨rfl, rfl⟩ := hc
      rw [updL_same] at hm
      obtain rfl : (⟨l.rb, V', xs', k'⟩ : Lane) = m := by simpa using hm
      refine ⟨hwi, hwj, hr, hgr, fun hq => ?_⟩
      rcases hf _ hq with e | e
      · exact hne e
      · have := h.duo.lt; omega
    · rw [updL_other _ _ _ _ _ _ hc] at hm
      obtain ⟨x1, x2, x3, x4, x5⟩ := h.lane a b m hm
      have hd : i ≠ a ∨ j ≠ b := by
        by_cases e : a = i
        · exact .inr fun e2 => hc ⟨e, e2.symm⟩
        · exact .inl fun e2 => e e2.symm
      exact ⟨x1, x2, (x3.but hb (fun hq => h.apart i j l a b m hl hm hd _ hq (.inl rfl)) (fun q hq hq2 => h.apart i j l a b m hl hm hd _ hq2 (.inr hq))).mono hN, x4, x5⟩
  · by_cases hc : a = i ∧ b = j
    · obtain ⟨rfl, rfl⟩ := hc
      have hc' : ¬ (a' = a ∧ b' = b) := by
        rintro ⟨rfl, rfl⟩; rcases hd with h | h <;> exact h rfl
      rw [updL_same] at hm
      obtain rfl : (⟨l.rb, V', xs', k'⟩ : Lane) = m := by simpa using hm
      rw [updL_other _ _ _ _ _ _ hc'] at hm'
      rcases hf _ hq with e | e
      · exact h.apart _ _ _ _ _ _ hl hm' hd _ e hq'
      · have := (h.foot_lt hm' hq').1; omega
    · rw [updL_other _ _ _ _ _ _ hc] at hm
      by_cases hc' : a' = i ∧ b' = j
      · obtain ⟨rfl, rfl⟩ := hc'
        rw [updL_same] at hm'
        obtain rfl : (⟨l.rb, V', xs', k'⟩ : Lane) = m' := by simpa using hm'
        rcases hf _ hq' with e | e
        · exact h.apart _ _ _ _ _ _ hm hl hd _ hq e
        · have := (h.foot_lt hm hq).1; omega
      · rw [updL_other _ _ _ _ _ _ hc'] at hm'
        exact h.apart _ _ _ _ _ _ hm hm' hd _ hq hq'

/-- A new lane. -/
theorem EO.more (h : EO w0 w eb mv f all N) {i j : Int} (hi : wfi i) (hj : wfi j) {mb n : Nat} (hmv : mv = .map (some mb)) (hfn : f i j = none) {r : Nat} (hr : Rw ST 12 w w0.heap.size r (.slice none 0 0) [] 0 0) (hgr : w0.heap.size ≤ r) (hre : r ≠ eb) (hrm : r ≠ mb) (hfar : ∀ a b l, f a b = some l → ¬ foot l r)
    (hE : EM w' mb n (upd (fun a b => (f a b).map Lane.rb) i j (some r))) (hb : But (fun k => k = mb) w w') (hn : n ≤ N + 1) : EO w0 w' eb mv (updL f i j (some ⟨r, .slice none 0 0, [], 0⟩)) all (N + 1) := by
  rcases h.map with ⟨e, _⟩ | ⟨mb', n', e, he, hn', hm, hme, hmf⟩
  · rw [e] at hmv; cases hmv
  · obtain rfl : mb' = mb := by rw [e] at hmv; simpa using hmv
    have hft : ∀ q, foot ⟨r, .slice none 0 0, [], 0⟩ q → q = r := by
      rintro q (e | e)
      · exact e
      · simp [Value.ownBlock] at e
    refine ⟨h.duo.but hb (fun e => hme e.symm), ?_, h.ge, fun a b m hm2 => ?_, fun a b m a' b' m' hm1 hm2 hd q hq hq' => ?_, h.bel.trans (hb.below h.bel.size (fun k e => e ▸ hm))⟩
    · refine .inr ⟨mb', n, e, ?_, hn, hm, hme, fun a b m hm2 hq => ?_⟩
      · have e2 : (fun a b => (updL f i j (some ⟨r, .slice none 0 0, [], 0⟩) a b).map Lane.rb) = upd (fun a b => (f a b).map Lane.rb) i j (some r) := by
          funext a b
          unfold updL upd
          split <;> rfl
        rw [e2]
        exact hE
      · by_cases hc : a = i ∧ b = j
        · obtain ⟨rfl, rfl⟩ := hc
          rw [updL_same] at hm2
          obtain rfl : (⟨r, .slice none 0 0, [], 0⟩ : Lane) = m := by simpa using hm2
          exact hrm (hft _ hq).symm
        · rw [updL_other _ _ _ _ _ _ hc] at hm2
          exact hmf a b m hm2 hq
    · by_cases hc : a = i ∧ b = j
      · obtain ⟨rfl, rfl⟩ := hc
        rw [updL_same] at hm2
        obtain rfl : (⟨r, .slice none 0 0, [], 0⟩ : Lane) = m := by simpa using hm2
        exact ⟨hi, hj, (hr.but hb hrm (fun k hk => by simp [Value.ownBlock] at hk)).mono (Nat.zero_le _), hgr, fun hq => hre (hft _ hq).symm⟩
      · rw [updL_other _ _ _ _ _ _ hc] at hm2
        obtain ⟨x1, x2, x3, x4, x5⟩ := h.lane a b m hm2
        exact ⟨x1, x2, (x3.but hb (fun e => hmf a b m hm2 (.inl e.symm)) (fun k hk e => hmf a b m hm2 (.inr (e ▸ hk)))).mono (Nat.le_succ _), x4, x5⟩
    · by_cases hc : a = i ∧ b = j
      · obtain ⟨rfl, rfl⟩ := hc
        have hc' : ¬ (a' = a ∧ b' = b) := by
          rintro ⟨rfl, rfl⟩; rcases hd with h | h <;> exact h rfl
        rw [updL_same] at hm1
        obtain rfl : (⟨r, .slice none 0 0, [], 0⟩ : Lane) = m := by simpa using hm1
        rw [updL_other _ _ _ _ _ _ hc'] at hm2
        exact hfar _ _ _ hm2 ((hft _ hq) ▸ hq')
      · rw [updL_other _ _ _ _ _ _ hc] at hm1
        by_cases hc' : a' = i ∧ b' = j
        · obtain ⟨rfl, rfl⟩ := hc'
          rw [updL_same] at hm2
          obtain rfl : (⟨r, .slice none 0 0, [], 0⟩ : Lane) = m' := by simpa using hm2
          exact hfar _ _ _ hm1 ((hft _ hq') ▸ hq)
        · rw [updL_other _ _ _ _ _ _ hc'] at hm2
          exact h.apart _ _ _ _ _ _ hm1 hm2 hd _ hq hq'

/-- A lane is struck. -/
theorem EO.less (h : EO w0 w eb mv f all N) {i j : Int} {mb n : Nat} (hmv : mv = .map (some mb)) (hE : EM w' mb n (upd (fun a b => (f a b).map Lane.rb) i j none)) (hb : But (fun k => k = mb) w w') (hn : n ≤ N) : EO w0 w' eb mv (updL f i j none) all N := by
  rcases h.map with ⟨e, _⟩ | ⟨mb', n', e, he, hn', hm, hme, hmf⟩
  · rw [e] at hmv; cases hmv
  · obtain rfl : mb' = mb := by rw [e] at hmv; simpa using hmv
    have hold : ∀ a b m, updL f i j none a b = some m → f a b = some m := by
      intro a b m hm2
      unfold updL at hm2
      split at hm2
      · cases hm2
      · exact hm2
    refine ⟨h.duo.but hb (fun e => hme e.symm), ?_, h.ge, fun a b m hm2 => ?_, fun a b m a' b' m' hm1 hm2 hd q hq hq' => h.apart _ _ _ _ _ _ (hold _ _ _ hm1) (hold _ _ _ hm2) hd _ hq hq', h.bel.trans (hb.below h.bel.size (fun k e => e ▸ hm))⟩
    · refine .inr ⟨mb', n, e, ?_, hn, hm, hme, fun a b m hm2 hq => hmf a b m (hold _ _ _ hm2) hq⟩
      have e2 : (fun a b => (updL f i j none a b).map Lane.rb) = upd (fun a b => (f a b).map Lane.rb) i j none := by
        funext a b
        unfold updL upd
        split <;> rfl
      rw [e2]
      exact hE
    · obtain ⟨x1, x2, x3, x4, x5⟩ := h.lane a b m (hold _ _ _ hm2)
      exact ⟨x1, x2, x3.but hb (fun e => hmf a b m (hold _ _ _ hm2) (.inl e.symm)) (fun k hk e => hmf a b m (hold _ _ _ hm2) (.inr (e ▸ hk))), x4, x5⟩

theorem EO.count (h : EO w0 w eb mv f all N) (n : Nat) : EO w0 (w.setCell ⟨eb, 1, none⟩ (.int .i64 (n : Int))) eb mv f n N := by
  have hb : But (fun k => k = eb) w (w.setCell ⟨eb, 1, none⟩ (.int .i64 (n : Int))) := (But.refl (fun k => k = eb) w).setCell (p := ⟨eb, 1, none⟩) (fun _ => rfl) _
  refine ⟨h.duo.set1 _, ?_, h.ge, fun a b m hm => ?_, h.apart, h.bel.trans (hb.below h.bel.size (fun k e => e ▸ h.ge))⟩
  · rcases h.map with hm | ⟨mb, n, rfl, he, hn, hm, hme, r⟩
    · exact .inl hm
    · exact .inr ⟨mb, n, rfl, he.but hb hme, hn, hm, hme, r⟩
  · obtain ⟨x1, x2, x3, x4, x5⟩ := h.lane a b m hm
    exact ⟨x1, x2, x3.but hb (fun e => x5 (.inl e.symm)) (fun k hk e => x5 (.inr (e ▸ hk))), x4, x5⟩
end Go.Proofs.YtpcpdehnppfbfaaGreat


/- term.copyList on any row of terms. -/
namespace Go.Proofs.YtpcpdehnppfbfaaGreat
open Go.RowKit Go.Lib
attribute [local go_sem] store_float f64bits
attribute [local go_sem ↓] Go.wp_at_zero Go.wp_at_succ

abbrev TT : Nat := 28
abbrev TS : Nat := 26

theorem infoT : ∃ i0, Tryz.prog.info? TT = some i0 ∧ i0.zero = some (.agg #[.int .i64 0, .int .i64 0, .float .f64 0, .string ⟨#[]⟩, .slice none 0 0]) ∧ i0.size = 5 ∧ i0.bytes = 64 := by
  obtain ⟨i0, hi, hz0, hz1, hz2⟩ := info_parts (P := Tryz.prog) (e := TT) (z := .agg #[.int .i64 0, .int .i64 0, .float .f64 0, .string ⟨#[]⟩, .slice none 0 0]) (size := 5) (bytes := 64) (by kernel_rfl)
  exact ⟨i0, hi, hz0, hz1, hz2⟩

theorem run_copy_terms (w : World) (ty : TypeId) (g n dCap : Nat) (a : Addr) (sCap : Nat) (cur : Array Value) (t : TypeId) (cs : List Value)
    (hg : w.heap[g]? = some (.cells cur t (0, 0))) (hn : cs.length = n * 5) (hsrc : ∀ j v, cs[j]? = some v → w.cell? (a.add j) = some v) (hfit : cur.size = n * 5) (h1 : ∀ v ∈ cs, v.oneCell' = true) :
    (Builtin.copy_ #[TS, TS] ty #[.slice (some ⟨g, 0, none⟩) n dCap, .slice (some a) n sCap]).run Tryz.prog w = .ok (goInt n) (w.setRow g cs.toArray) := by
  obtain ⟨i, hq, -, hi, -⟩ := infoT
  have hl := run_loadCells_list (P := Tryz.prog) w a cs hsrc
  have hst := run_storeCells_at Tryz.prog g 0 t cs 0 cur w hg (by omega) h1
  have e1 : cur.toList.drop (0 + 0 + cs.length) = [] := List.drop_eq_nil_of_le (by rw [Array.length_toList]; omega)
  rw [e1] at hst
  simp only [Nat.add_zero, List.take_zero, List.nil_append, List.append_nil] at hst
  have hmin : Nat.min n n = n := Nat.min_self n
  simp [Builtin.copy_, run_underlying Tryz.underlying26, Builtin.lenOf, Builtin.firstCells, sizeOf, typeInfo, hq, hi, ← hn, hl, hst]

theorem copyList_none (a : Option Addr) (c : Nat) (w : World) : Calls Tryz.prog 66 #[.slice a 0 c] w fun e w' => e = .returned (.slice none 0 0) ∧ w' = w := by
  go_enter Tryz.func66, Tryz.ntmps66
  go_wp2
  go_ret
  exact ⟨rfl, rfl⟩

set_option maxHeartbeats 1000000 in
set_option maxRecDepth 100000 in
theorem copyList_any (w : World) (a : Addr) (n c : Nat) (cs : List Value) (hn : cs.length = n * 5) (h0 : 0 < n) (hb : n ≤ 1000000000000) (hsrc : ∀ j v, cs[j]? = some v → w.cell? (a.add j) = some v) (h1 : ∀ v ∈ cs, v.oneCell' = true) :
    Calls Tryz.prog 66 #[.slice (some a) n c] w fun e w' => e = .returned (.slice (some ⟨w.heap.size, 0, none⟩) n n) ∧ w' = w.alloc (.cells cs.toArray TT) := by
  obtain ⟨i0, hi, hz0, hz1, hz2⟩ := infoT
  have hmk := run_make (P := Tryz.prog) w TS TT i0 _ Tryz.underlying26 hi hz0 .i64 .i64 (n : Int) (n : Int) (by omega) (by omega) (by rw [hz2]; omega) (by omega)
  simp only [Int.toNat_natCast, hz1] at hmk
  generalize hzz : madeCells (Value.agg #[.int .i64 0, .int .i64 0, .float .f64 0, .string ⟨#[]⟩, .slice none 0 0]).cells (n * 5) = zs at hmk
  have hzl : zs.size = n * 5 := by rw [← hzz]; exact size_madeCells _ _
  have hcp := fun ty => run_copy_terms (w.alloc (.cells zs TT)) ty w.heap.size n n a c zs TT cs (MapKept.heap_alloc w _).1 hn (fun j v hj => by
    have := hsrc j v hj
    rw [← this]
    exact World.cell?_of_block (w := w) (Below.heap_alloc _ _ _ (World.block_lt_of_cell? w _ this))) hzl h1
  have hset : (w.alloc (.cells zs TT)).setRow w.heap.size cs.toArray = w.alloc (.cells cs.toArray TT) := by
    cases w with
    | mk heap tape drawn os output =>
      simp only [World.setRow, World.alloc]
      congr 1
      apply Array.ext
      · simp
      · intro k h1 h2
        simp only [Array.getElem_modify, Array.getElem_push]
        split
        · rename_i hk; subst hk; simp
        · rename_i hk
          split
          · rfl
          · simp at h1; omega
  simp only [hset] at hcp
  have hz : ((n : Int) == 0) = false := by simp; omega
  clear hsrc h1 hzl hzz hn h0 hset hz0 hi
  go_enter Tryz.func66, Tryz.ntmps66
  go_wp2_with fail
  go_ret
  exact ⟨rfl, rfl⟩

theorem box_set4 {w : World} {b : Nat} {v0 v1 v2 v3 v4 : Value} (h : Box w b v0 v1 v2 v3 v4) (u : Value) : Box (w.setCell ⟨b, 4, none⟩ u) b v0 v1 v2 v3 u :=
  ⟨by rw [World.cell?_setCell_other _ _ _ _ (ne_off3 _ _ _ (by decide))]; exact h.c0, by rw [World.cell?_setCell_other _ _ _ _ (ne_off3 _ _ _ (by decide))]; exact h.c1, by rw [World.cell?_setCell_other _ _ _ _ (ne_off3 _ _ _ (by decide))]; exact h.c2, by rw [World.cell?_setCell_other _ _ _ _ (ne_off3 _ _ _ (by decide))]; exact h.c3, World.cell?_setCell_same _ _ _ h.c4,
    by rw [World.frozen?_setCell]; exact h.f0, by rw [World.frozen?_setCell]; exact h.f1, by rw [World.frozen?_setCell]; exact h.f2, by rw [World.frozen?_setCell]; exact h.f3, by rw [World.frozen?_setCell]; exact h.f4, by simp [World.setCell]; exact h.lt⟩

/-- What a term without elements is copied to. -/
theorem copyAll_look (w : World) (b : Nat) (k n : Int) (f : Nat) (s : ByteArray) (a : Option Addr) (c : Nat) (h : Box w b (.int .i64 k) (.int .i64 n) (.float .f64 f) (.string s) (.slice a 0 c)) :
    Calls Tryz.prog 49 #[.slice (some ⟨b, 0, none⟩) 1 1] w fun e w' => ∃ g, e = .returned (.slice (some ⟨g, 0, none⟩) 1 1) ∧ Box w' g (.int .i64 k) (.int .i64 n) (.float .f64 f) (.string s) (.slice none 0 0) ∧ Below w.heap.size w w' := by
  obtain ⟨c0, c1, c2, c3, c4, -, -, -, -, -, hlt⟩ := h
  have CL := hidb (copyList_any w ⟨b, 0, none⟩ 1 1 [.int .i64 k, .int .i64 n, .float .f64 f, .string s, .slice a 0 c] rfl (by omega) (by omega) (by
    intro j v hj
    match j, hj with
    | 0, hj => simp at hj; subst hj; simpa [Addr.add] using c0
    | 1, hj => simp at hj; subst hj; simpa [Addr.add] using c1
    | 2, hj => simp at hj; subst hj; simpa [Addr.add] using c2
    | 3, hj => simp at hj; subst hj; simpa [Addr.add] using c3
    | 4, hj => simp at hj; subst hj; simpa [Addr.add] using c4
    | j + 5, hj => simp at hj) (by intro u hu; simp at hu; rcases hu with rfl | rfl | rfl | rfl | rfl <;> rfl))
  have CN := hidb (fun w' => copyList_none a c w')
  clear c0 c1 c2 c3 c4
  go_enter Tryz.func49, Tryz.ntmps49
  go_wp2_with (first
    | (go_at_call 66; refine CL.out.mono ?_; rintro e w1 ⟨rfl, rfl⟩; clear CL))
  go_loopw [4] (fun wv wr => (wv = .slice (some ⟨w.heap.size + 1, 0, none⟩) 1 1 ∧ wr = (w.alloc (.cells #[.int .i64 k, .int .i64 n, .float .f64 f, .string s, .slice a 0 c] 28)).alloc (.cells #[.slice (some ⟨w.heap.size, 0, none⟩) 1 1] 26)) ∨
      ((∃ q c, wv = .slice q 0 c) ∧ Box wr w.heap.size (.int .i64 k) (.int .i64 n) (.float .f64 f) (.string s) (.slice none 0 0) ∧ Below w.heap.size w wr)) (fun wv _ => match wv with | .slice _ n _ => n | _ => 0)
  case atStart => exact .inl ⟨rfl, rfl⟩
  case round =>
  rcases hrel with ⟨rfl, rfl⟩ | ⟨⟨q, c', rfl⟩, hbx, hbel⟩
  · go_wp2_with (first
      | (go_at_call 66; refine (CN.out _).mono ?_; rintro e w1 ⟨rfl, rfl⟩))
    have hX := Box.alloc (Box.new w 28 (.int .i64 k) (.int .i64 n) (.float .f64 f) (.string s) (.slice a 0 c)) (.cells #[.slice (some ⟨w.heap.size, 0, none⟩) 1 1] 26)
    have hB : Below w.heap.size w ((w.alloc (.cells #[.int .i64 k, .int .i64 n, .float .f64 f, .string s, .slice a 0 c] 28)).alloc (.cells #[.slice (some ⟨w.heap.size, 0, none⟩) 1 1] 26)) := (below_new w _).alloc (by simp) _
    have HX := hidb hX
    have HB := hidb hB
    generalize (w.alloc (.cells #[.int .i64 k, .int .i64 n, .float .f64 f, .string s, .slice a 0 c] 28)).alloc (.cells #[.slice (some ⟨w.heap.size, 0, none⟩) 1 1] 26) = W at *
    clear hX hB
    go_loopw [4, 27] (fun wv iv wr => (∃ q c, wv = .slice q 0 c) ∧ ((iv = .int .i64 0 ∧ wr = W) ∨ (iv = .int .i64 1 ∧ Box wr w.heap.size (.int .i64 k) (.int .i64 n) (.float .f64 f) (.string s) (.slice none 0 0) ∧ Below w.heap.size w wr))) (fun _ iv _ => 1 - (intOf iv).toNat)
    case atStart => exact ⟨⟨_, _, rfl⟩, .inl ⟨rfl, rfl⟩⟩
    case round =>
    obtain ⟨⟨qw, cw, rfl⟩, hrel⟩ := hrel
    rcases hrel with ⟨rfl, rfl⟩ | ⟨rfl, hbx, hbel⟩
    · obtain ⟨c0, c1, c2, c3, c4, f0, f1, f2, f3, f4, hlw⟩ := HX.out
      go_wp2_with (first
        | (go_at_call 66; refine (CN.out _).mono ?_; rintro e w1 ⟨rfl, rfl⟩))
      go_roundw
      case rel => exact ⟨⟨_, _, rfl⟩, .inr ⟨rfl, box_set4 HX.out _, HB.out.setCell (Nat.le_refl _) _⟩⟩
      case measure => simp [intOf]
    · have HBX := hidb hbx
      have HB2 := hidb hbel
      clear hbx hbel HX HB
      go_wp2_with fail
      go_roundw
      case rel => exact .inr ⟨⟨_, _, rfl⟩, HBX.out, HB2.out⟩
      case measure => simp
  · have HBX := hidb hbx
    have HB := hidb hbel
    clear hbx hbel
    go_wp2_with fail
    go_ret
    exact ⟨_, rfl, HBX.out, HB.out⟩

/-- term.Copy of a term without elements. -/
theorem copy_leaf (w : World) (k n : Int) (f : Nat) (s : ByteArray) (a : Option Addr) (c : Nat) : Calls Tryz.prog 36 #[.agg #[.int .i64 k, .int .i64 n, .float .f64 f, .string s, .slice a 0 c]] w fun e w' => e = .returned (.agg #[.int .i64 k, .int .i64 n, .float .f64 f, .string s, .slice none 0 0]) ∧ Below w.heap.size w w' := by
  have bx : Box (((w.alloc (.cells #[.int .i64 k, .int .i64 n, .float .f64 f, .string s, .slice a 0 c] TT)).alloc (.cells #[.int .i64 0, .int .i64 0, .float .f64 0, .string ⟨#[]⟩, .slice none 0 0] TT)).alloc (.cells #[.int .i64 k, .int .i64 n, .float .f64 f, .string s, .slice a 0 c] TT)) (w.heap.size + 1 + 1) (.int .i64 k) (.int .i64 n) (.float .f64 f) (.string s) (.slice a 0 c) := by
    have := Box.new ((w.alloc (.cells #[.int .i64 k, .int .i64 n, .float .f64 f, .string s, .slice a 0 c] TT)).alloc (.cells #[.int .i64 0, .int .i64 0, .float .f64 0, .string ⟨#[]⟩, .slice none 0 0] TT)) TT (.int .i64 k) (.int .i64 n) (.float .f64 f) (.string s) (.slice a 0 c)
    simpa using this
  have rx : Box (((w.alloc (.cells #[.int .i64 k, .int .i64 n, .float .f64 f, .string s, .slice a 0 c] TT)).alloc (.cells #[.int .i64 0, .int .i64 0, .float .f64 0, .string ⟨#[]⟩, .slice none 0 0] TT)).alloc (.cells #[.int .i64 k, .int .i64 n, .float .f64 f, .string s, .slice a 0 c] TT)) (w.heap.size + 1) (.int .i64 0) (.int .i64 0) (.float .f64 0) (.string ⟨#[]⟩) (.slice none 0 0) := by
    have := (Box.new (w.alloc (.cells #[.int .i64 k, .int .i64 n, .float .f64 f, .string s, .slice a 0 c] TT)) TT (.int .i64 0) (.int .i64 0) (.float .f64 0) (.string ⟨#[]⟩) (.slice none 0 0)).alloc (.cells #[.int .i64 k, .int .i64 n, .float .f64 f, .string s, .slice a 0 c] TT)
    simpa using this
  have bw : Below w.heap.size w (((w.alloc (.cells #[.int .i64 k, .int .i64 n, .float .f64 f, .string s, .slice a 0 c] TT)).alloc (.cells #[.int .i64 0, .int .i64 0, .float .f64 0, .string ⟨#[]⟩, .slice none 0 0] TT)).alloc (.cells #[.int .i64 k, .int .i64 n, .float .f64 f, .string s, .slice a 0 c] TT)) := ((below_new w _).alloc (by simp) _).alloc (by simp; omega) _
  have CA := hidb (copyAll_look _ _ k n f s a c bx)
  have RX := hidb rx
  have BW := hidb bw
  clear bx rx bw
  go_enter Tryz.func36, Tryz.ntmps36
  go_wp2_with (first | (go_at_call 49; refine CA.out.mono ?_; rintro e w1 ⟨g, rfl, hbx, hb⟩; obtain ⟨q0, q1, q2, q3, q4, -, -, -, -, -, -⟩ := hbx; obtain ⟨r0, r1, r2, r3, r4, g0, g1, g2, g3, g4, -⟩ := RX.out.keep hb; have HB := hidb (BW.out.trans (hb.mono BW.out.size)); clear hb CA RX BW))
  exact bodyPost_ret (v := .agg #[.int .i64 k, .int .i64 n, .float .f64 f, .string s, .slice none 0 0]) (by simp [results, Tryz.results36, go_sem, r0, r1, r2, r3, r4]) rfl ⟨rfl, ((((HB.out.setCell (by simp) _).setCell (by simp) _).setCell (by simp) _).setCell (by simp) _).setCell (by simp) _⟩
end Go.Proofs.YtpcpdehnppfbfaaGreat


