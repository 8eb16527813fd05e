/- Halves of monitors: what put and taken is, in plain words. -/
import Derived.Test.YtmnglaeaicicnaaMk3
namespace Go.Proofs.Ytmnglaeaicicnaa
open Go.RowKit Go.Lib
open MV (Hf hf0 getL insL delL Rise Wfk TB Nw Rst KV)

theorem getL_filter (q : Int) (f : Int → Bool) : ∀ l : List MV.KV, getL q (l.filter (fun x => f x.1)) = if f q then getL q l else none
  | [] => by simp [getL]
  | x :: r => by
    rw [List.filter_cons]
    by_cases e : x.1 = q
    · by_cases g : f x.1 = true
      · rw [if_pos g, ← e, if_pos g]; simp [getL]
      · rw [if_neg g, getL_filter q f r, ← e, if_neg g, if_neg g]
    · by_cases g : f x.1 = true
      · rw [if_pos g]; simp only [getL, e, if_false]; exact getL_filter q f r
      · rw [if_neg g]; simp only [getL, e, if_false]; exact getL_filter q f r
theorem getL_ins (q p : Int) (v : Hf) (l : List MV.KV) : getL q (insL p v l) = if p = q then some v else getL q l := by
  unfold insL
  rw [MV.getL_append, getL_filter q (fun a => decide (a < p))]
  simp only [getL]
  rw [getL_filter q (fun a => decide (p < a))]
  by_cases e : p = q
  · subst e; simp
  · rcases Int.lt_or_gt_of_ne e with h | h
    · simp [e, h, show ¬ q < p by omega]
    · simp [e, h, show ¬ p < q by omega]
theorem getL_del (q p : Int) (l : List MV.KV) : getL q (delL p l) = if p = q then none else getL q l := by
  unfold delL
  rw [getL_filter q (fun a => decide (a ≠ p))]
  by_cases e : p = q
  · subst e; simp
  · simp [e, show ¬ q = p from fun h => e h.symm]

theorem put_len (m : Int) (v : Hf) {L : List KV} (h : Rise L) : (putL m v L).length ≤ L.length + 1 := by
  unfold putL addL
  split
  · omega
  · split
    · omega
    · rw [MV.ins_len h]; split <;> omega
theorem del_le (p : Int) (L : List KV) : (delL p L).length ≤ L.length := List.length_filter_le _ _
theorem tail_le (L : List KV) : L.tail.length ≤ L.length := by simp
theorem put_had {m : Int} {v : Hf} {L : List KV} (h : (getL v.a L).isSome = true) : putE m v L = 1 := by
  unfold putE addE; rw [h]; simp
theorem put_low {m : Int} {v : Hf} {L : List KV} (h : refB m v = true) : putE m v L = 1 := by
  unfold putE; rw [h]; simp
theorem put_good {m : Int} {v : Hf} {L : List KV} (h : refB m v = false) (h2 : (getL v.a L).isSome = false) : putE m v L = 0 := by
  unfold putE addE; rw [h, h2]; simp
theorem put_get (m : Int) (v : Hf) (L : List KV) : (getL v.a (putL m v L)).isSome = ((getL v.a L).isSome || (putE m v L == 0)) := by
  unfold putL putE addL addE
  cases h1 : refB m v
  · cases h2 : (getL v.a L).isSome
    · simp [getL_ins]
    · simp [h2]
  · cases h2 : (getL v.a L).isSome <;> simp [h2]
theorem put_other {n : Int} (m : Int) (v : Hf) (L : List KV) (h : v.a ≠ n) : getL n (putL m v L) = getL n L := by
  unfold putL addL
  split
  · rfl
  · split
    · rfl
    · rw [getL_ins, if_neg h]
theorem del_get (p : Int) (L : List KV) : (getL p (delL p L)).isSome = false := by rw [getL_del, if_pos rfl]; rfl
theorem del_other {n : Int} (p : Int) (L : List KV) (h : p ≠ n) : getL n (delL p L) = getL n L := by rw [getL_del, if_neg h]
theorem KM.rises {w0 w : World} {tb : Nat} {O T : List KV} (h : KM w0 w tb O T) : Rise O ∧ Rise T := by obtain ⟨_, h, _⟩ := h; exact ⟨h.og.rise, h.tg.rise⟩

end Go.Proofs.Ytmnglaeaicicnaa
