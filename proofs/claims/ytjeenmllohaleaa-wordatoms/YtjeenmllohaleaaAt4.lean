/- Text of a table of atoms; the document's table. -/
import Derived.Test.YtjeenmllohaleaaAt3
namespace Go.Proofs.Ytjeenmllohaleaa
open Go.RowKit Go.Maps Go.WideMaps

def txIs (L : List ByteArray) (n : Int) : Bool := decide (0 ≤ n ∧ n < L.length)
def txOf (L : List ByteArray) (n : Int) : ByteArray := if txIs L n then L.getD n.toNat ⟨#[]⟩ else ⟨#[]⟩

theorem row_cell {w : World} {a : Option Addr} {n c : Nat} {L : List ByteArray} (h : w.ownsRow 0 9 1 (.slice a n c) n (L.map Value.string)) {k : Nat} (hk : k < L.length) :
    ∃ g, a = some ⟨g, 0, none⟩ ∧ n ≤ c ∧ w.cell? ⟨g, k, none⟩ = some (.string (L.getD k ⟨#[]⟩)) := by
  have hl := h.1
  obtain ⟨_, ⟨e, rfl⟩ | ⟨g, cap, cur, e, hg, hh, hn, _⟩⟩ := id h
  · simp at hl; simp [hl] at hk
  · injection e with e1 e2 e3
    subst e1 e3
    refine ⟨g, rfl, hn, ?_⟩
    have := h.cells (g := g) rfl k (.string (L.getD k ⟨#[]⟩)) (by simp [hk])
    have ea : (⟨g, 0, none⟩ : Addr).add k = ⟨g, k, none⟩ := by
      unfold Addr.add
      split
      · rename_i h; subst h; rfl
      · simp
    rw [ea] at this
    exact this

theorem text_any {w : World} {b : Nat} {L : List ByteArray} {F : List Nat} (h : Tab w b L F) (n : Int) : Calls Try.prog 26 #[.pointer (some ⟨b, 0, none⟩), .int .i64 n] w fun e w' => e = .returned (.tuple #[.string (txOf L n), .bool (txIs L n)]) ∧ w' = w := by
  obtain ⟨m, v, ⟨c0, c1, f0, f1, row, mp, nb, nm, nv⟩, rfl⟩ := h
  obtain ⟨a, cap, rfl⟩ := row_shape row
  clear mp nb nm nv
  by_cases h0 : n < 0
  · have e1 : txIs L n = false := by simp [txIs]; omega
    have e2 : txOf L n = ⟨#[]⟩ := by simp [txOf, e1]
    rw [e1, e2]
    go_enter Try.func26, Try.ntmps26
    go_wp2
    refine bodyPost_ret (v := .tuple #[.string ⟨#[]⟩, .bool false]) ?_ rfl ⟨rfl, rfl⟩
    simp [results, Try.results26, go_sem]
  · by_cases h1 : n ≥ L.length
    · have e1 : txIs L n = false := by simp [txIs]; omega
      have e2 : txOf L n = ⟨#[]⟩ := by simp [txOf, e1]
      rw [e1, e2]
      go_enter Try.func26, Try.ntmps26
      go_wp2
      refine bodyPost_ret (v := .tuple #[.string ⟨#[]⟩, .bool false]) ?_ rfl ⟨rfl, rfl⟩
      simp [results, Try.results26, go_sem]
    · obtain ⟨k, rfl⟩ := Int.eq_ofNat_of_zero_le (by omega : 0 ≤ n)
      have hk : k < L.length := by omega
      have e1 : txIs L k = true := by simp [txIs]; omega
      have e2 : txOf L k = L.getD k ⟨#[]⟩ := by simp [txOf, e1]
      obtain ⟨g, rfl, hc, hcell⟩ := row_cell row hk
      rw [e1, e2]
      generalize L.getD k ⟨#[]⟩ = t at hcell
      clear row e1 e2
      go_enter Try.func26, Try.ntmps26
      go_wp2
      refine bodyPost_ret (v := .tuple #[.string t, .bool true]) ?_ rfl ⟨rfl, rfl⟩
      simp [results, Try.results26, go_sem]

structure RAt (w : World) (r : Nat) (v : Value) (L : List ByteArray) : Prop where
  c0 : w.cell? ⟨r, 0, none⟩ = some v
  f0 : w.frozen? ⟨r, 0, none⟩ = false
  row : w.ownsRow 0 9 1 v L.length (L.map Value.string)
  nb : v.ownBlock ≠ some r
def RTab (w : World) (r : Nat) (L : List ByteArray) (G : List Nat) : Prop := ∃ v, RAt w r v L ∧ G = r :: v.ownBlock.toList
theorem RTab.kept {w w' : World} {b : Nat} {L : List ByteArray} {F G : List Nat} (h : RTab w b L F) (k : Kept G w w') (hF : ∀ x, x ∈ F → x ∉ G) : RTab w' b L F := by
  obtain ⟨v, ⟨c0, f0, row, nb⟩, rfl⟩ := h
  have hblt : b < w.heap.size := cell_lt c0
  have hb : w'.heap[b]? = w.heap[b]? := k.block b hblt (hF b (by simp))
  refine ⟨v, ⟨(World.cell?_of_block hb).trans c0, (World.frozen?_of_block hb).trans f0, ?_, nb⟩, rfl⟩
  obtain ⟨e, h | ⟨g, cap, cur, rfl, hg, hc, r⟩⟩ := row
  · exact ⟨e, .inl h⟩
  · exact ⟨e, .inr ⟨g, cap, cur, rfl, hg, (k.block g (Array.getElem?_eq_some_iff.1 hc).1 (hF g (by simp [Value.ownBlock]))).trans hc, r⟩⟩
theorem RTab.lt {w : World} {b : Nat} {L : List ByteArray} {F : List Nat} (h : RTab w b L F) : ∀ x, x ∈ F → x < w.heap.size := by
  obtain ⟨v, ⟨c0, f0, row, nb⟩, rfl⟩ := h
  intro x hx
  simp only [List.mem_cons, Option.mem_toList] at hx
  rcases hx with rfl | hx
  · exact cell_lt c0
  · exact (row.lt x hx).2

theorem rtext_any {w : World} {b : Nat} {L : List ByteArray} {F : List Nat} (h : RTab w b L F) (n : Int) : Calls Try.prog 27 #[.pointer (some ⟨b, 0, none⟩), .int .i64 n] w fun e w' => e = .returned (.tuple #[.string (txOf L n), .bool (txIs L n)]) ∧ w' = w := by
  obtain ⟨v, ⟨c0, f0, row, nb⟩, rfl⟩ := h
  obtain ⟨a, cap, rfl⟩ := row_shape row
  clear nb
  by_cases h0 : n < 0
  · have e1 : txIs L n = false := by simp [txIs]; omega
    have e2 : txOf L n = ⟨#[]⟩ := by simp [txOf, e1]
    rw [e1, e2]
    go_enter Try.func27, Try.ntmps27
    go_wp2
    refine bodyPost_ret (v := .tuple #[.string ⟨#[]⟩, .bool false]) ?_ rfl ⟨rfl, rfl⟩
    simp [results, Try.results27, go_sem]
  · by_cases h1 : n ≥ L.length
    · have e1 : txIs L n = false := by simp [txIs]; omega
      have e2 : txOf L n = ⟨#[]⟩ := by simp [txOf, e1]
      rw [e1, e2]
      go_enter Try.func27, Try.ntmps27
      go_wp2
      refine bodyPost_ret (v := .tuple #[.string ⟨#[]⟩, .bool false]) ?_ rfl ⟨rfl, rfl⟩
      simp [results, Try.results27, go_sem]
    · obtain ⟨k, rfl⟩ := Int.eq_ofNat_of_zero_le (by omega : 0 ≤ n)
      have hk : k < L.length := by omega
      have e1 : txIs L k = true := by simp [txIs]; omega
      have e2 : txOf L k = L.getD k ⟨#[]⟩ := by simp [txOf, e1]
      obtain ⟨g, rfl, hc, hcell⟩ := row_cell row hk
      rw [e1, e2]
      generalize L.getD k ⟨#[]⟩ = t at hcell
      clear row e1 e2
      go_enter Try.func27, Try.ntmps27
      go_wp2
      refine bodyPost_ret (v := .tuple #[.string t, .bool true]) ?_ rfl ⟨rfl, rfl⟩
      simp [results, Try.results27, go_sem]
end Go.Proofs.Ytjeenmllohaleaa
