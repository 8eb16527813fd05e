/- A region that only reads, in a round; a sequence held against the document's tree. -/
import Derived.Test.YtejjffgolipdmaaAvH
import Derived.Sort.BigQuietIn
namespace Go.Proofs.Ytejjffgolipdmaa
open Go.RowKit Go.Shelf
attribute [local go_sem] Oper.semAt_some
attribute [local go_sem ↓] Go.wp_at_zero Go.wp_at_succ

theorem region_round_quiet {n : Nat} {P : Program} {id : Nat} {l : List Oper} {Q : Exit → Act → World → Prop} {a : Act} {w : World} (lp : Nat) (hm : P.follows .mixedOrders = true) (hB : Region.lexB .any l.toArray = true) (hops : l.toArray.all (fun o => match o.op with | .defer _ => false | _ => true) = true)
    (h : wpQuietIn Fence.wide n P l.toArray (fun w' => ∃ n, w' = w.drewN n) (fun a' => ∀ w', (∃ n, w' = w.drewN n) → Q .normal a' w') l a) : (Code.region id l.toArray true).wpIn (Fence.wide.inRound lp) n P Q a w := by
  simp only [Region.lexB, Bool.and_eq_true] at hB
  refine region_round lp hm hops (wpAnyIn_of_quiet (C := fun w' => ∃ n, w' = w.drewN n) (Q := fun a' => ∀ w', (∃ n, w' = w.drewN n) → Q .normal a' w') rfl (fun _ w' hw' h => h w' hw') _ _ _ _ ⟨1, rfl⟩ ?_)
  have := wpAnyQIn_lex (F := Fence.wide) (n := n) (C := fun w' => ∃ n, w' = w.drewN n) (md := .any) hB.1 l 0 (Array.replicate l.toArray.size false) a (by simp) (by simpa using hB.2) h
  simpa using this

theorem But.drewN {S : Nat → Prop} {a w : World} (h : But S a w) (n : Nat) : But S a (w.drewN n) := ⟨h.os, h.tape, h.output, h.size, h.block⟩

/-- Two keys from a place on: the document's row, and those from a key on. -/
theorem filter_cut {key : Int} {L : List KV} (h : Rise L) : L.drop (cntB key L) = L.filter (fun x => decide (key ≤ x.1)) ∧ cntB key L ≤ L.length := by
  obtain ⟨A, B, rfl, h1, h2⟩ := split_at (key := key) h
  rw [cnt_split h1 h2, List.drop_left, List.filter_append, filter_none (l := A) (fun x hx => by have := h1 x hx; simp; omega), filter_all (l := B) (fun x hx => by simpa using h2 x hx)]
  simp

/-- Where the rows of the document's tree lie, and what they hold. -/
theorem RB.cells {w : World} {rb : Nat} {E : Nat → Prop} {L : List KV} (h : RB w rb E L) : ∃ a1 c1 a2 c2, w.cell? ⟨rb, 0, none⟩ = some (.slice a1 L.length c1) ∧ w.cell? ⟨rb, 1, none⟩ = some (.slice a2 L.length c2) ∧
    ∀ (j : Nat) (x : KV), L[j]? = some x → ∃ g1 g2, a1 = some ⟨g1, 0, none⟩ ∧ a2 = some ⟨g2, 0, none⟩ ∧ w.cell? ⟨g1, j, none⟩ = some (.int .i64 x.1) ∧ w.cell? ⟨g2, j, none⟩ = some (.int .i64 x.2) := by
  obtain ⟨V1, V2, h1, h2, h3, -, -⟩ := h
  obtain ⟨a1, c1, rfl⟩ := own_sl h2
  obtain ⟨a2, c2, rfl⟩ := own_sl h3
  refine ⟨a1, c1, a2, c2, h1.c0, h1.c1, fun j x hj => ?_⟩
  obtain ⟨g1, d1, e1, k1⟩ := row_get h2 (show (keysOf L)[j]? = some x.1 by simp [keysOf, hj])
  obtain ⟨g2, d2, e2, k2⟩ := row_get h3 (show (valsOf L)[j]? = some x.2 by simp [valsOf, hj])
  obtain ⟨rfl, -⟩ : a1 = some ⟨g1, 0, none⟩ ∧ c1 = d1 := by simpa using e1
  obtain ⟨rfl, -⟩ : a2 = some ⟨g2, 0, none⟩ ∧ c2 = d2 := by simpa using e2
  exact ⟨g1, g2, rfl, rfl, k1, k2⟩

end Go.Proofs.Ytejjffgolipdmaa
