import Derived.Test.YtmijabhnbmmmfaaGreatG16
import Derived.Test.YtmijabhnbmmmfaaGreatG11
import Derived.Deep.RegionHeld3
import Derived.RegionTactic
/- Text of a table of atoms; the document's table. -/
namespace Go.Proofs.YtmijabhnbmmmfaaGreat
open Go.RowKit Go.Maps Go.WideMaps

def txIs (L : List ByteArray) (n : Int) : Bool := decide (0 ≤ n ∧ n < L.length)
def txOf (L : List ByteArray) (n : Int) : ByteArray := if txIs L n then L.getD n.toNat ⟨#[]⟩ else ⟨#[]⟩

theorem row_cell {w : World} {a : Option Addr} {n c : Nat} {L : List ByteArray} (h : w.ownsRow 0 9 1 (.slice a n c) n (L.map Value.string)) {k : Nat} (hk : k < L.length) :
    ∃ g, a = some ⟨g, 0, none⟩ ∧ n ≤ c ∧ w.cell? ⟨g, k, none⟩ = some (.string (L.getD k ⟨#[]⟩)) := by
  have hl := h.1
  obtain ⟨_, ⟨e, rfl⟩ | ⟨g, cap, cur, e, hg, hh, hn, _⟩⟩ := id h
  · simp at hl; simp [hl] at hk
  · injection e with e1 e2 e3
    subst e1 e3
    refine ⟨g, rfl, hn, ?_⟩
    have := h.cells (g := g) rfl k (.string (L.getD k ⟨#[]⟩)) (by simp [hk])
    have ea : (⟨g, 0, none⟩ : Addr).add k = ⟨g, k, none⟩ := by
      unfold Addr.add
      split
      · rename_i h; subst h; rfl
      · simp
    rw [ea] at this
    exact this

theorem text_any {w : World} {b : Nat} {L : List ByteArray} {F : List Nat} (h : Tab w b L F) (n : Int) : Calls Tryz.prog 83 #[.pointer (some ⟨b, 0, none⟩), .int .i64 n] w fun e w' => e = .returned (.tuple #[.string (txOf L n), .bool (txIs L n)]) ∧ w' = w := by
  obtain ⟨m, v, ⟨c0, c1, f0, f1, row, mp, nb, nm, nv⟩, rfl⟩ := h
  obtain ⟨a, cap, rfl⟩ := row_shape row
  clear mp nb nm nv
  by_cases h0 : n < 0
  · have e1 : txIs L n = false := by simp [txIs]; omega
    have e2 : txOf L n = ⟨#[]⟩ := by simp [txOf, e1]
    rw [e1, e2]
    go_enter Tryz.func83, Tryz.ntmps83
    go_wp2
    refine bodyPost_ret (v := .tuple #[.string ⟨#[]⟩, .bool false]) ?_ rfl ⟨rfl, rfl⟩
    simp [results, Tryz.results83, go_sem]
  · by_cases h1 : n ≥ L.length
    · have e1 : txIs L n = false := by simp [txIs]; omega
      have e2 : txOf L n = ⟨#[]⟩ := by simp [txOf, e1]
      rw [e1, e2]
      go_enter Tryz.func83, Tryz.ntmps83
      go_wp2
      refine bodyPost_ret (v := .tuple #[.string ⟨#[]⟩, .bool false]) ?_ rfl ⟨rfl, rfl⟩
      simp [results, Tryz.results83, go_sem]
    · obtain ⟨k, rfl⟩ := Int.eq_ofNat_of_zero_le (by omega : 0 ≤ n)
      have hk : k < L.length := by omega
      have e1 : txIs L k = true := by simp [txIs]; omega
      have e2 : txOf L k = L.getD k ⟨#[]⟩ := by simp [txOf, e1]
      obtain ⟨g, rfl, hc, hcell⟩ := row_cell row hk
      rw [e1, e2]
      generalize L.getD k ⟨#[]⟩ = t at hcell
      clear row e1 e2
      go_enter Tryz.func83, Tryz.ntmps83
      go_wp2
      refine bodyPost_ret (v := .tuple #[.string t, .bool true]) ?_ rfl ⟨rfl, rfl⟩
      simp [results, Tryz.results83, go_sem]

structure RAt (w : World) (r : Nat) (v : Value) (L : List ByteArray) : Prop where
  c0 : w.cell? ⟨r, 0, none⟩ = some v
  f0 : w.frozen? ⟨r, 0, none⟩ = false
  row : w.ownsRow 0 9 1 v L.length (L.map Value.string)
  nb : v.ownBlock ≠ some r
def RTab (w : World) (r : Nat) (L : List ByteArray) (G : List Nat) : Prop := ∃ v, RAt w r v L ∧ G = r :: v.ownBlock.toList
theorem RTab.kept {w w' : World} {b : Nat} {L : List ByteArray} {F G : List Nat} (h : RTab w b L F) (k : Kept G w w') (hF : ∀ x, x ∈ F → x ∉ G) : RTab w' b L F := by
  obtain ⟨v, ⟨c0, f0, row, nb⟩, rfl⟩ := h
  have hblt : b < w.heap.size := cell_lt c0
  have hb : w'.heap[b]? = w.heap[b]? := k.block b hblt (hF b (by simp))
  refine ⟨v, ⟨(World.cell?_of_block hb).trans c0, (World.frozen?_of_block hb).trans f0, ?_, nb⟩, rfl⟩
  obtain ⟨e, h | ⟨g, cap, cur, rfl, hg, hc, r⟩⟩ := row
  · exact ⟨e, .inl h⟩
  · exact ⟨e, .inr ⟨g, cap, cur, rfl, hg, (k.block g (Array.getElem?_eq_some_iff.1 hc).1 (hF g (by simp [Value.ownBlock]))).trans hc, r⟩⟩
theorem RTab.lt {w : World} {b : Nat} {L : List ByteArray} {F : List Nat} (h : RTab w b L F) : ∀ x, x ∈ F → x < w.heap.size := by
  obtain ⟨v, ⟨c0, f0, row, nb⟩, rfl⟩ := h
  intro x hx
  simp only [List.mem_cons, Option.mem_toList] at hx
  rcases hx with rfl | hx
  · exact cell_lt c0
  · exact (row.lt x hx).2

end Go.Proofs.YtmijabhnbmmmfaaGreat


/- The heap's small functions: of, cut, atom. -/
namespace Go.Proofs.YtmijabhnbmmmfaaGreat
open Go.RowKit Go.Deep
attribute [local go_sem] store_float f64bits
attribute [local go_sem ↓] Go.wp_at_zero Go.wp_at_succ

theorem hof_any (t b : Int) (t0 : 0 ≤ t) (w : World) : Calls Tryz.prog 58 #[.int .u64 t, .int .i64 b] w fun e w' => e = .returned (.int .u64 (ofW t b)) ∧ w' = w := by
  go_enter Tryz.func58, Tryz.ntmps58
  go_wp2_with (go_at_call 88; refine (of_any t b t0 _).mono ?_; rintro e w' ⟨rfl, rfl⟩)
  go_ret
  exact ⟨rfl, rfl⟩

/-- Four cells of a block, not frozen. -/
structure Quad (w : World) (b : Nat) (v0 v1 v2 v3 : Value) : Prop where
  c0 : w.cell? ⟨b, 0, none⟩ = some v0
  c1 : w.cell? ⟨b, 1, none⟩ = some v1
  c2 : w.cell? ⟨b, 2, none⟩ = some v2
  c3 : w.cell? ⟨b, 3, none⟩ = some v3
  f0 : w.frozen? ⟨b, 0, none⟩ = false
  f1 : w.frozen? ⟨b, 1, none⟩ = false
  f2 : w.frozen? ⟨b, 2, none⟩ = false
  f3 : w.frozen? ⟨b, 3, none⟩ = false
  lt : b < w.heap.size

theorem Quad.new (w : World) (t : TypeId) (v0 v1 v2 v3 : Value) : Quad (w.alloc (.cells #[v0, v1, v2, v3] t)) w.heap.size v0 v1 v2 v3 :=
  ⟨by rw [World.cell?_alloc_new]; rfl, by rw [World.cell?_alloc_new]; rfl, by rw [World.cell?_alloc_new]; rfl, by rw [World.cell?_alloc_new]; rfl, World.frozen?_alloc_new _ _ _ _, World.frozen?_alloc_new _ _ _ _, World.frozen?_alloc_new _ _ _ _, World.frozen?_alloc_new _ _ _ _, by simp⟩

theorem Quad.at {w w' : World} {b : Nat} {v0 v1 v2 v3 : Value} (h : Quad w b v0 v1 v2 v3) (e : w'.heap[b]? = w.heap[b]?) (hs : w.heap.size ≤ w'.heap.size) : Quad w' b v0 v1 v2 v3 :=
  ⟨(World.cell?_of_block (w := w) e).trans h.c0, (World.cell?_of_block (w := w) e).trans h.c1, (World.cell?_of_block (w := w) e).trans h.c2, (World.cell?_of_block (w := w) e).trans h.c3, (World.frozen?_of_block (w := w) e).trans h.f0, (World.frozen?_of_block (w := w) e).trans h.f1, (World.frozen?_of_block (w := w) e).trans h.f2, (World.frozen?_of_block (w := w) e).trans h.f3, Nat.lt_of_lt_of_le h.lt hs⟩

theorem Quad.kept {F : List Nat} {w w' : World} {b : Nat} {v0 v1 v2 v3 : Value} (h : Quad w b v0 v1 v2 v3) (k : Kept F w w') (hb : b ∉ F) : Quad w' b v0 v1 v2 v3 := h.at (k.block b h.lt hb) k.size

theorem Quad.set {w : World} {b : Nat} {v0 v1 v2 v3 : Value} (h : Quad w b v0 v1 v2 v3) (u1 u2 : Value) : Quad ((w.setCell ⟨b, 1, none⟩ u1).setCell ⟨b, 2, none⟩ u2) b v0 u1 u2 v3 := by
  have e1 : (w.setCell ⟨b, 1, none⟩ u1).cell? ⟨b, 2, none⟩ = some v2 := by rw [World.cell?_setCell_other _ _ _ _ (ne_off3 _ _ _ (by decide))]; exact h.c2
  refine ⟨?_, ?_, World.cell?_setCell_same _ _ _ e1, ?_, ?_, ?_, ?_, ?_, by simp [World.setCell]; exact h.lt⟩
  · rw [World.cell?_setCell_other _ _ _ _ (ne_off3 _ _ _ (by decide)), World.cell?_setCell_other _ _ _ _ (ne_off3 _ _ _ (by decide))]; exact h.c0
  · rw [World.cell?_setCell_other _ _ _ _ (ne_off3 _ _ _ (by decide))]; exact World.cell?_setCell_same _ _ _ h.c1
  · rw [World.cell?_setCell_other _ _ _ _ (ne_off3 _ _ _ (by decide)), World.cell?_setCell_other _ _ _ _ (ne_off3 _ _ _ (by decide))]; exact h.c3
  all_goals (rw [World.frozen?_setCell, World.frozen?_setCell])
  · exact h.f0
  · exact h.f1
  · exact h.f2
  · exact h.f3

theorem Kept.drew {F : List Nat} {a w : World} (h : Kept F a w) : Kept F a w.drew := ⟨h.os, h.tape, h.output, h.size, h.block⟩

theorem Kept.sets {F : List Nat} {a w : World} (h : Kept F a w) (ad : Addr) (v : Value) (hm : ad.block ∈ F) : Kept F a (w.setCell ad v) := h.trans (Kept.set ad v hm)

/-- The room that is left: so many words from there on. -/
def Room (g ro r : Nat) (v : Value) : Prop := (∃ o', v = .slice (some ⟨g, o', none⟩) r r ∧ (0 < r → o' = ro)) ∨ (r = 0 ∧ v = .slice none 0 0)

set_option maxHeartbeats 1000000 in
theorem cut_any (lb ab g : Nat) (at' e : Int) (ro n r : Nat) (v : Value) (w : World) (hq : Quad w lb (.pointer (some ⟨ab, 0, none⟩)) (.int .i64 at') v (.int .i64 e)) (hv : Room g ro r v) (hn0 : 0 < n) (hn : n ≤ r) (hr : r ≤ 4611686018427387900) (ha0 : 0 ≤ at') (ha1 : at' ≤ 4611686018427387900) :
    Calls Tryz.prog 90 #[.pointer (some ⟨lb, 0, none⟩), .int .i64 n] w fun en w' => en = .returned (.tuple #[.int .i64 at', .slice (some ⟨g, ro, none⟩) n n]) ∧ ∃ v', Quad w' lb (.pointer (some ⟨ab, 0, none⟩)) (.int .i64 (at' + n)) v' (.int .i64 e) ∧ Room g (ro + n) (r - n) v' ∧ Kept [lb] w w' := by
  rcases hv with ⟨o', rfl, ho⟩ | ⟨h0, _⟩
  case inr => omega
  obtain rfl := ho (by omega)
  have HQ := hidb hq
  obtain ⟨c0, c1, c2, c3, f0, f1, f2, f3, hlt⟩ := hq
  have hw : wrap64 (at' + n) = at' + n := by unfold wrap64; omega
  have h0 : (0 : Int) ≤ (n : Int) := by omega
  have h1 : (n : Int) ≤ (r : Int) := by omega
  clear ho hn0
  go_enter Tryz.func90, Tryz.ntmps90
  go_wp2_with fail
  go_region_held3 (fun w' => w'.cell? ⟨lb, 1, none⟩ = some (.int .i64 at') ∧ w'.cell? ⟨lb, 2, none⟩ = some (.slice (some ⟨g, o', none⟩) r r)) (go_keep) (fail)
  go_wp2_with fail
  go_region
  all_goals go_wp2
  · refine bodyPost_ret (v := .tuple #[.int .i64 at', .slice (some ⟨g, o', none⟩) n n]) (by simp [results, Tryz.results90, go_sem]) rfl ⟨rfl, _, ?_, Or.inl ⟨o', rfl, ?_⟩, ?_⟩
    · refine (HQ.out.set _ _).at rfl (Nat.le_refl _)
    · intro h; omega
    · exact (((Kept.refl _ _).sets _ _ (by simp)).sets _ _ (by simp)).drew.drew
  · refine bodyPost_ret (v := .tuple #[.int .i64 at', .slice (some ⟨g, o', none⟩) n n]) (by simp [results, Tryz.results90, go_sem]) rfl ⟨rfl, _, ?_, Or.inl ⟨o' + n, rfl, fun _ => rfl⟩, ?_⟩
    · refine (HQ.out.set _ _).at rfl (Nat.le_refl _)
    · exact (((Kept.refl _ _).sets _ _ (by simp)).sets _ _ (by simp)).drew.drew
end Go.Proofs.YtmijabhnbmmmfaaGreat


