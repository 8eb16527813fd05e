/- The document's table of atoms: Number, by going through all. -/
import Derived.Test.YtjeenmllohaleaaAt4
import Derived.Lib.Hide
namespace Go.Proofs.Ytjeenmllohaleaa
open Go.RowKit Go.Maps Go.WideMaps

theorem pos_eq {L : List ByteArray} {s : ByteArray} {k : Nat} (hk : k < L.length) (h : ∀ j, j < k → ((L.getD j ⟨#[]⟩).toList == s.toList) = false) (e : ((L.getD k ⟨#[]⟩).toList == s.toList) = true) : pos L s = k ∧ inL L s = true := by
  have e' : eqT (L[k]) s = true := by simpa [eqT, List.getD_eq_getElem?_getD, hk] using e
  refine ⟨?_, ?_⟩
  · unfold pos
    rw [List.findIdx_eq hk]
    refine ⟨e', fun j hj => ?_⟩
    have := h j hj
    simpa [eqT, List.getD_eq_getElem?_getD, (by omega : j < L.length)] using this
  · unfold inL
    rw [List.any_eq_true]
    exact ⟨L[k], List.getElem_mem hk, e'⟩

theorem none_eq {L : List ByteArray} {s : ByteArray} (h : ∀ j, j < L.length → ((L.getD j ⟨#[]⟩).toList == s.toList) = false) : inL L s = false := by
  unfold inL
  rw [List.any_eq_false]
  intro x hx
  obtain ⟨j, hj, rfl⟩ := List.mem_iff_getElem.1 hx
  have := h j hj
  simp [List.getD_eq_getElem?_getD, hj] at this
  simpa [eqT] using this

theorem radd_end {w w3 : World} {r : Nat} {v v' : Value} {o : Obj} {L : List ByteArray} {s : ByteArray} (h : RAt w r v L)
    (row3 : w3.ownsRow 0 9 1 v' (L.length + 1) (L.map Value.string ++ [.string s])) (hgrow3 : (w.alloc o).grownBy w3 v.ownBlock) (hloc3 : v'.ownBlock = v.ownBlock ∨ v'.ownBlock = some (w.alloc o).heap.size) :
    RTab (w3.setCell ⟨r, 0, none⟩ v') r (L ++ [s]) (r :: v'.ownBlock.toList) ∧ (∀ k, k ∈ r :: v'.ownBlock.toList → k ∈ r :: v.ownBlock.toList ∨ w.heap.size ≤ k) ∧ Kept (r :: v.ownBlock.toList) w (w3.setCell ⟨r, 0, none⟩ v') := by
  obtain ⟨c0, f0, row, nb⟩ := h
  have hblt : r < w.heap.size := cell_lt c0
  have hsz : (w.alloc o).heap.size = w.heap.size + 1 := by simp
  have hb3 : w3.heap[r]? = w.heap[r]? := (hgrow3.block r (by omega) (Ne.symm nb)).trans (heap_alloc_old w _ hblt)
  have nb' : v'.ownBlock ≠ some r := by
    rcases hloc3 with e | e
    · rw [e]; exact nb
    · rw [e]; simp; omega
  have e0 : w3.cell? ⟨r, 0, none⟩ = some v := (World.cell?_of_block hb3).trans c0
  have g0 : w3.frozen? ⟨r, 0, none⟩ = false := (World.frozen?_of_block hb3).trans f0
  have hk3 : Kept (r :: v.ownBlock.toList) w w3 := (Kept.of_below (below_alloc w o)).trans (Kept.of_grown hgrow3 (fun k e _ => by simp [e]))
  refine ⟨⟨v', ⟨World.cell?_setCell_same _ _ _ e0, by rw [World.frozen?_setCell]; exact g0, ?_, nb'⟩, rfl⟩, ?_, hk3.trans (Kept.set _ _ (by simp))⟩
  · rw [List.length_append, List.map_append]
    exact own_set row3 nb'
  · intro k hk
    simp only [List.mem_cons, Option.mem_toList] at hk ⊢
    rcases hk with hk | hk
    · exact .inl (.inl hk)
    · rcases hloc3 with e | e
      · rw [e] at hk; exact .inl (.inr hk)
      · rw [e] at hk; simp at hk; right; omega

set_option maxHeartbeats 1000000 in
theorem rnumber_any {w : World} {r : Nat} {L : List ByteArray} {G : List Nat} {s : ByteArray} (h : RTab w r L G) (hL : L.length ≤ 100000) :
    Calls Try.prog 24 #[.pointer (some ⟨r, 0, none⟩), .string s] w fun e w' => e = .returned (.tuple #[.int .i64 (numN L s), .int .i64 (numE s)]) ∧
      ∃ G', RTab w' r (stepL L s) G' ∧ (∀ k, k ∈ G' → k ∈ G ∨ w.heap.size ≤ k) ∧ Kept G w w' := by
  by_cases hl : 64 < s.size
  · have hlb : longB s = true := by simp [longB, hl]
    have e1 : numN L s = 0 := by simp [numN, hlb]
    have e2 : numE s = 3 := by simp [numE, hlb]
    have e3 : stepL L s = L := by simp [stepL, hlb]
    rw [e1, e2, e3]
    have hl' : (s.size : Int) > 64 := by omega
    go_enter Try.func24, Try.ntmps24
    go_wp2
    refine bodyPost_ret (v := .tuple #[.int .i64 0, .int .i64 3]) ?_ rfl ⟨rfl, G, h, fun k hk => .inl hk, Kept.refl _ _⟩
    simp [results, Try.results24, go_sem]
  · have hlb : longB s = false := by simp [longB]; omega
    have hs : s.size ≤ 64 := by omega
    have hl' : ¬ (s.size : Int) > 64 := by omega
    have e2 : numE s = 0 := by simp [numE, hlb]
    rw [e2]
    obtain ⟨v, hR, rfl⟩ := h
    have hR' := hR
    obtain ⟨c0, f0, row, nb⟩ := hR
    obtain ⟨a, cap, rfl⟩ := row_shape row
    obtain ⟨i0, hi, hz0, hz1, hz2⟩ := info_parts info9
    have hblt : r < w.heap.size := cell_lt c0
    by_cases h0 : L = []
    · subst h0
      have e1 : numN [] s = 0 := by simp [numN, hlb, pos]
      have e3 : stepL [] s = [s] := by simp [stepL, hlb, inL]
      rw [e1, e3]
      simp only [List.length_nil, List.map_nil] at row c0 hR' nb
      have hl0 : s.size ≤ 64 := hs
      go_enter Try.func24, Try.ntmps24
      go_wp2
      refine wp_loop_rounds 1 ?_
      rw [rounds_succ]
      go_wp2_with (first
        | (at_builtin; refine wpList_append_own_at _ rfl _ _ 42 rfl 0 9 i0 (.string ⟨#[]⟩) 1 16 Try.underlying42 hi hz0 hz1 hz2 rfl (by decide) _ _ _ rfl (row.alloc _) ⟨w.heap.size, 0, none⟩ 1 1 [.string s] rfl rfl (cell_one_new _ _ _) (by simp [Value.oneCell']) (by unfold maxLen; simp) (by simp) (by simp) ?_; intro v' w3 row3 hgrow3 hnil3 hloc3
           obtain ⟨a', cap', hv'⟩ := row_shape row3
           subst hv'
           have hb3 : w3.heap[r]? = w.heap[r]? := (hgrow3.block r (by simp; omega) (Ne.symm nb)).trans (heap_alloc_old w _ hblt)
           have k3c : w3.cell? ⟨r, 0, none⟩ = some (.slice a 0 cap) := (World.cell?_of_block hb3).trans c0
           have k3f : w3.frozen? ⟨r, 0, none⟩ = false := (World.frozen?_of_block hb3).trans f0)
        | go_in)
      obtain ⟨r1, r2, r3⟩ := radd_end hR' row3 hgrow3 hloc3
      refine bodyPost_ret (v := .tuple #[.int .i64 0, .int .i64 0]) ?_ rfl ⟨rfl, _, r1, r2, r3⟩
      simp [results, Try.results24, go_sem]
    · have hlen : 0 < L.length := List.length_pos_iff.2 h0
      obtain ⟨g, rfl, hcap, _⟩ := row_cell row hlen
      have hcell : ∀ k, k < L.length → w.cell? ⟨g, k, none⟩ = some (.string (L.getD k ⟨#[]⟩)) := fun k hk => by
        obtain ⟨g', e, _, h⟩ := row_cell row hk
        injection e with e
        injection e with e
        rw [e]; exact h
      obtain ⟨N, hN⟩ : ∃ N : Nat → ByteArray, ∀ k, L.getD k ⟨#[]⟩ = N k := ⟨_, fun _ => rfl⟩
      simp only [hN] at hcell
      go_enter Try.func24, Try.ntmps24
      go_wp2
      go_loop [6] (fun iv => ∃ (k : Nat), k ≤ L.length ∧ iv = .int .i64 k ∧ Hid (∀ j, j < k → ((N j).toList == s.toList) = false)) (fun iv => L.length - (intOf iv).toNat)
      case atStart => exact ⟨0, Nat.zero_le _, rfl, fun j h => absurd h (Nat.not_lt_zero _)⟩
      case round =>
        obtain ⟨k, hk, rfl, HN⟩ := hrel
        have gN : k < L.length → w.cell? ⟨g, k, none⟩ = some (.string (N k)) := fun h => hcell k h
        go_wp2_with (first
          | (at_builtin; refine wpList_append_own_at _ rfl _ _ 42 rfl 0 9 i0 (.string ⟨#[]⟩) 1 16 Try.underlying42 hi hz0 hz1 hz2 rfl (by decide) _ _ _ rfl (row.alloc _) ⟨w.heap.size, 0, none⟩ 1 1 [.string s] rfl rfl (cell_one_new _ _ _) (by simp [Value.oneCell']) (by unfold maxLen; omega) (by omega) (by simp) ?_; intro v' w3 row3 hgrow3 hnil3 hloc3
             obtain ⟨a', cap', hv'⟩ := row_shape row3
             subst hv'
             have hb3 : w3.heap[r]? = w.heap[r]? := (hgrow3.block r (by simp; omega) (Ne.symm nb)).trans (heap_alloc_old w _ hblt)
             have k3c : w3.cell? ⟨r, 0, none⟩ = some (.slice (some ⟨g, 0, none⟩) L.length cap) := (World.cell?_of_block hb3).trans c0
             have k3f : w3.frozen? ⟨r, 0, none⟩ = false := (World.frozen?_of_block hb3).trans f0)
          | go_in)
        · have hlt : k < L.length := by assumption
          have heq : ((N k).toList == s.toList) = true := by assumption
          obtain ⟨p1, p2⟩ := pos_eq hlt (fun j hj => by rw [hN]; exact HN.out j hj) (by rw [hN]; exact heq)
          have e1 : numN L s = k := by simp [numN, hlb, p1]
          have e3 : stepL L s = L := by simp [stepL, p2]
          refine bodyPost_ret (v := .tuple #[.int .i64 k, .int .i64 0]) ?_ rfl ⟨by rw [e1], _, by rw [e3]; exact ⟨_, hR', rfl⟩, fun x hx => .inl (by simpa using hx), Kept.refl _ _⟩
          simp [results, Try.results24, go_sem]
        · have hlt : k < L.length := by assumption
          have hneq : ((N k).toList == s.toList) = false := by assumption
          have HN' : Hid (∀ j, j < k + 1 → ((N j).toList == s.toList) = false) := fun j hj => by
            rcases Nat.lt_succ_iff_lt_or_eq.1 hj with h | rfl
            · exact HN.out j h
            · exact hneq
          exact ⟨⟨k + 1, by omega, by simp, HN'⟩, by simp [intOf]; omega⟩
        · have hge : ¬ k < L.length := by omega
          obtain rfl : k = L.length := by omega
          have hin : inL L s = false := none_eq (fun j hj => by rw [hN]; exact HN.out j hj)
          have e1 : numN L s = L.length := by simp [numN, hlb, pos_none hin]
          have e3 : stepL L s = L ++ [s] := by simp [stepL, hlb, hin]
          obtain ⟨r1, r2, r3⟩ := radd_end hR' row3 hgrow3 hloc3
          refine bodyPost_ret (v := .tuple #[.int .i64 L.length, .int .i64 0]) ?_ rfl ⟨by rw [e1], _, by rw [e3]; exact r1, fun x hx => by simpa using r2 x hx, r3⟩
          simp [results, Try.results24, go_sem]
end Go.Proofs.Ytjeenmllohaleaa
