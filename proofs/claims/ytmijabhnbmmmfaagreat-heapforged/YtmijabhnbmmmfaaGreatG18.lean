import Derived.Test.YtmijabhnbmmmfaaGreatG11
import Derived.Test.YtmijabhnbmmmfaaGreatG17
import Derived.Deep.RegionHeld3
import Derived.RegionTactic
import Derived.Deep.RegionWith
/- The heap's small functions: of, cut, atom. -/
namespace Go.Proofs.YtmijabhnbmmmfaaGreat
open Go.RowKit Go.Deep
attribute [local go_sem] store_float f64bits
attribute [local go_sem ↓] Go.wp_at_zero Go.wp_at_succ

theorem hof_any (t b : Int) (t0 : 0 ≤ t) (w : World) : Calls Tryz.prog 58 #[.int .u64 t, .int .i64 b] w fun e w' => e = .returned (.int .u64 (ofW t b)) ∧ w' = w := by
  go_enter Tryz.func58, Tryz.ntmps58
  go_wp2_with (go_at_call 88; refine (of_any t b t0 _).mono ?_; rintro e w' ⟨rfl, rfl⟩)
  go_ret
  exact ⟨rfl, rfl⟩

/-- Four cells of a block, not frozen. -/
structure Quad (w : World) (b : Nat) (v0 v1 v2 v3 : Value) : Prop where
  c0 : w.cell? ⟨b, 0, none⟩ = some v0
  c1 : w.cell? ⟨b, 1, none⟩ = some v1
  c2 : w.cell? ⟨b, 2, none⟩ = some v2
  c3 : w.cell? ⟨b, 3, none⟩ = some v3
  f0 : w.frozen? ⟨b, 0, none⟩ = false
  f1 : w.frozen? ⟨b, 1, none⟩ = false
  f2 : w.frozen? ⟨b, 2, none⟩ = false
  f3 : w.frozen? ⟨b, 3, none⟩ = false
  lt : b < w.heap.size

theorem Quad.new (w : World) (t : TypeId) (v0 v1 v2 v3 : Value) : Quad (w.alloc (.cells #[v0, v1, v2, v3] t)) w.heap.size v0 v1 v2 v3 :=
  ⟨by rw [World.cell?_alloc_new]; rfl, by rw [World.cell?_alloc_new]; rfl, by rw [World.cell?_alloc_new]; rfl, by rw [World.cell?_alloc_new]; rfl, World.frozen?_alloc_new _ _ _ _, World.frozen?_alloc_new _ _ _ _, World.frozen?_alloc_new _ _ _ _, World.frozen?_alloc_new _ _ _ _, by simp⟩

theorem Quad.at {w w' : World} {b : Nat} {v0 v1 v2 v3 : Value} (h : Quad w b v0 v1 v2 v3) (e : w'.heap[b]? = w.heap[b]?) (hs : w.heap.size ≤ w'.heap.size) : Quad w' b v0 v1 v2 v3 :=
  ⟨(World.cell?_of_block (w := w) e).trans h.c0, (World.cell?_of_block (w := w) e).trans h.c1, (World.cell?_of_block (w := w) e).trans h.c2, (World.cell?_of_block (w := w) e).trans h.c3, (World.frozen?_of_block (w := w) e).trans h.f0, (World.frozen?_of_block (w := w) e).trans h.f1, (World.frozen?_of_block (w := w) e).trans h.f2, (World.frozen?_of_block (w := w) e).trans h.f3, Nat.lt_of_lt_of_le h.lt hs⟩

theorem Quad.kept {F : List Nat} {w w' : World} {b : Nat} {v0 v1 v2 v3 : Value} (h : Quad w b v0 v1 v2 v3) (k : Kept F w w') (hb : b ∉ F) : Quad w' b v0 v1 v2 v3 := h.at (k.block b h.lt hb) k.size

theorem Quad.set {w : World} {b : Nat} {v0 v1 v2 v3 : Value} (h : Quad w b v0 v1 v2 v3) (u1 u2 : Value) : Quad ((w.setCell ⟨b, 1, none⟩ u1).setCell ⟨b, 2, none⟩ u2) b v0 u1 u2 v3 := by
  have e1 : (w.setCell ⟨b, 1, none⟩ u1).cell? ⟨b, 2, none⟩ = some v2 := by rw [World.cell?_setCell_other _ _ _ _ (ne_off3 _ _ _ (by decide))]; exact h.c2
  refine ⟨?_, ?_, World.cell?_setCell_same _ _ _ e1, ?_, ?_, ?_, ?_, ?_, by simp [World.setCell]; exact h.lt⟩
  · rw [World.cell?_setCell_other _ _ _ _ (ne_off3 _ _ _ (by decide)), World.cell?_setCell_other _ _ _ _ (ne_off3 _ _ _ (by decide))]; exact h.c0
  · rw [World.cell?_setCell_other _ _ _ _ (ne_off3 _ _ _ (by decide))]; exact World.cell?_setCell_same _ _ _ h.c1
  · rw [World.cell?_setCell_other _ _ _ _ (ne_off3 _ _ _ (by decide)), World.cell?_setCell_other _ _ _ _ (ne_off3 _ _ _ (by decide))]; exact h.c3
  all_goals (rw [World.frozen?_setCell, World.frozen?_setCell])
  · exact h.f0
  · exact h.f1
  · exact h.f2
  · exact h.f3

theorem Kept.drew {F : List Nat} {a w : World} (h : Kept F a w) : Kept F a w.drew := ⟨h.os, h.tape, h.output, h.size, h.block⟩

theorem Kept.sets {F : List Nat} {a w : World} (h : Kept F a w) (ad : Addr) (v : Value) (hm : ad.block ∈ F) : Kept F a (w.setCell ad v) := h.trans (Kept.set ad v hm)

/-- The room that is left: so many words from there on. -/
def Room (g ro r : Nat) (v : Value) : Prop := (∃ o', v = .slice (some ⟨g, o', none⟩) r r ∧ (0 < r → o' = ro)) ∨ (r = 0 ∧ v = .slice none 0 0)

set_option maxHeartbeats 1000000 in
theorem cut_any (lb ab g : Nat) (at' e : Int) (ro n r : Nat) (v : Value) (w : World) (hq : Quad w lb (.pointer (some ⟨ab, 0, none⟩)) (.int .i64 at') v (.int .i64 e)) (hv : Room g ro r v) (hn0 : 0 < n) (hn : n ≤ r) (hr : r ≤ 4611686018427387900) (ha0 : 0 ≤ at') (ha1 : at' ≤ 4611686018427387900) :
    Calls Tryz.prog 90 #[.pointer (some ⟨lb, 0, none⟩), .int .i64 n] w fun en w' => en = .returned (.tuple #[.int .i64 at', .slice (some ⟨g, ro, none⟩) n n]) ∧ ∃ v', Quad w' lb (.pointer (some ⟨ab, 0, none⟩)) (.int .i64 (at' + n)) v' (.int .i64 e) ∧ Room g (ro + n) (r - n) v' ∧ Kept [lb] w w' := by
  rcases hv with ⟨o', rfl, ho⟩ | ⟨h0, _⟩
  case inr => omega
  obtain rfl := ho (by omega)
  have HQ := hidb hq
  obtain ⟨c0, c1, c2, c3, f0, f1, f2, f3, hlt⟩ := hq
  have hw : wrap64 (at' + n) = at' + n := by unfold wrap64; omega
  have h0 : (0 : Int) ≤ (n : Int) := by omega
  have h1 : (n : Int) ≤ (r : Int) := by omega
  clear ho hn0
  go_enter Tryz.func90, Tryz.ntmps90
  go_wp2_with fail
  go_region_held3 (fun w' => w'.cell? ⟨lb, 1, none⟩ = some (.int .i64 at') ∧ w'.cell? ⟨lb, 2, none⟩ = some (.slice (some ⟨g, o', none⟩) r r)) (go_keep) (fail)
  go_wp2_with fail
  go_region
  all_goals go_wp2
  · refine bodyPost_ret (v := .tuple #[.int .i64 at', .slice (some ⟨g, o', none⟩) n n]) (by simp [results, Tryz.results90, go_sem]) rfl ⟨rfl, _, ?_, Or.inl ⟨o', rfl, ?_⟩, ?_⟩
    · refine (HQ.out.set _ _).at rfl (Nat.le_refl _)
    · intro h; omega
    · exact (((Kept.refl _ _).sets _ _ (by simp)).sets _ _ (by simp)).drew.drew
  · refine bodyPost_ret (v := .tuple #[.int .i64 at', .slice (some ⟨g, o', none⟩) n n]) (by simp [results, Tryz.results90, go_sem]) rfl ⟨rfl, _, ?_, Or.inl ⟨o' + n, rfl, fun _ => rfl⟩, ?_⟩
    · refine (HQ.out.set _ _).at rfl (Nat.le_refl _)
    · exact (((Kept.refl _ _).sets _ _ (by simp)).sets _ _ (by simp)).drew.drew
end Go.Proofs.YtmijabhnbmmmfaaGreat


/- Laying: the state of it; an atom. -/
namespace Go.Proofs.YtmijabhnbmmmfaaGreat
open Go.RowKit Go.Deep
attribute [local go_sem] store_float f64bits
attribute [local go_sem ↓] Go.wp_at_zero Go.wp_at_succ

/-- What is known of a laying: where its four fields lie, the room that is left, the atoms. -/
structure LS (w : World) (lb ab : Nat) (p : Int) (g ro r : Nat) (L : List ByteArray) (F : List Nat) : Prop where
  quad : ∃ v, Quad w lb (.pointer (some ⟨ab, 0, none⟩)) (.int .i64 p) v (.int .i64 0) ∧ Room g ro r v
  tab : Tab w ab L F
  nl : lb ∉ F
  ng : g ∉ F
  ne : lb ≠ g
  gl : g < w.heap.size

/-- The words of a block. -/
def Cells (w : World) (g C : Nat) (cs : Nat → Int) : Prop := ∀ j, j < C → w.cell? ⟨g, j, none⟩ = some (.int .u64 (cs j)) ∧ w.frozen? ⟨g, j, none⟩ = false

theorem Cells.at {w w' : World} {g C : Nat} {cs : Nat → Int} (h : Cells w g C cs) (e : w'.heap[g]? = w.heap[g]?) : Cells w' g C cs :=
  fun j hj => ⟨(World.cell?_of_block (w := w) e).trans (h j hj).1, (World.frozen?_of_block (w := w) e).trans (h j hj).2⟩

theorem Cells.set {w : World} {g C : Nat} {cs : Nat → Int} (h : Cells w g C cs) (i : Nat) (x : Int) : Cells (w.setCell ⟨g, i, none⟩ (.int .u64 x)) g C (fun j => if j = i then x else cs j) := by
  intro j hj
  refine ⟨?_, by rw [World.frozen?_setCell]; exact (h j hj).2⟩
  by_cases e : j = i
  · subst e
    simp only [if_true]
    exact World.cell?_setCell_same _ _ _ (h j hj).1
  · simp only [e, if_false]
    rw [World.cell?_setCell_other _ _ _ _ (ne_off3 _ _ _ (fun q => e q.symm))]
    exact (h j hj).1

theorem Quad.other {w : World} {b : Nat} {v0 v1 v2 v3 : Value} (h : Quad w b v0 v1 v2 v3) {p : Addr} (hp : p.block ≠ b) (u : Value) : Quad (w.setCell p u) b v0 v1 v2 v3 :=
  h.at (Below.heap_setCell w p u b (fun e => hp e.symm)) (by simp [World.setCell])

theorem Quad.set3 {w : World} {b : Nat} {v0 v1 v2 v3 : Value} (h : Quad w b v0 v1 v2 v3) (u : Value) : Quad (w.setCell ⟨b, 3, none⟩ u) b v0 v1 v2 u :=
  ⟨by rw [World.cell?_setCell_other _ _ _ _ (ne_off3 _ _ _ (by decide))]; exact h.c0, by rw [World.cell?_setCell_other _ _ _ _ (ne_off3 _ _ _ (by decide))]; exact h.c1, by rw [World.cell?_setCell_other _ _ _ _ (ne_off3 _ _ _ (by decide))]; exact h.c2, World.cell?_setCell_same _ _ _ h.c3, by rw [World.frozen?_setCell]; exact h.f0, by rw [World.frozen?_setCell]; exact h.f1, by rw [World.frozen?_setCell]; exact h.f2, by rw [World.frozen?_setCell]; exact h.f3, by simp [World.setCell]; exact h.lt⟩

theorem Tab.set {w : World} {b : Nat} {L : List ByteArray} {F : List Nat} (h : Tab w b L F) {p : Addr} (hp : p.block ∉ F) (u : Value) : Tab (w.setCell p u) b L F :=
  h.kept (Kept.set (F := [p.block]) p u (by simp)) (fun x hx hx' => by simp at hx'; exact hp (hx' ▸ hx))

set_option maxHeartbeats 1000000 in
theorem atom_any {lb ab : Nat} {p : Int} {g ro r : Nat} {L : List ByteArray} {F : List Nat} {s : ByteArray} {w : World} (h : LS w lb ab p g ro r L F) (hs : s.size ≤ 64) (hL : L.length ≤ 100000) :
    Calls Tryz.prog 59 #[.pointer (some ⟨lb, 0, none⟩), .string s] w fun e w' => e = .returned (.int .u64 (ofW 2 (numN L s))) ∧ ∃ F', LS w' lb ab p g ro r (stepL L s) F' ∧ (∀ k, k ∈ F' → k ∈ F ∨ w.heap.size ≤ k) ∧ Kept (lb :: F) w w' := by
  obtain ⟨⟨v, hq, hv⟩, ht, hl, hg, hne, hgl⟩ := h
  have HQ := hidb hq
  have NB := hidb (number_any (s := s) ht hL)
  have e0 : numE s = 0 := by simp [numE, longB]; omega
  rw [e0] at NB
  obtain ⟨c0, c1, c2, c3, f0, f1, f2, f3, hlt⟩ := hq
  clear e0
  go_enter Tryz.func59, Tryz.ntmps59
  go_wp2_with fail
  refine NB.out.mono ?_
  rintro e w1 ⟨rfl, F', ht1, hF', hk⟩
  have HQ1 := hidb (HQ.out.kept hk hl)
  have HT1 := hidb ht1
  have HF := hidb hF'
  have HK := hidb hk
  clear c0 c1 c2 c3 f0 f1 f2 f3 ht1 hF' hk NB
  obtain ⟨c0, c1, c2, c3, f0, f1, f2, f3, hlt1⟩ := HQ1.out
  generalize hN : numN L s = N
  go_wp2_with (go_at_call 58; refine (hof_any 2 N (by omega) _).mono ?_; rintro e w' ⟨rfl, rfl⟩)
  go_ret
  rw [hN]
  have hlb' : lb ∉ F' := fun h => by rcases HF.out _ h with h | h; exact hl h; omega
  have hg' : g ∉ F' := fun h => by rcases HF.out _ h with h | h; exact hg h; omega
  refine ⟨rfl, F', ⟨⟨v, HQ1.out.set3 _, hv⟩, HT1.out.set hlb' _, hlb', hg', hne, by have := HK.out.size; simp [World.setCell]; omega⟩, HF.out, ?_⟩
  exact (HK.out.mono (fun k hk _ => List.mem_cons_of_mem _ hk)).sets _ _ (by simp)
end Go.Proofs.YtmijabhnbmmmfaaGreat


