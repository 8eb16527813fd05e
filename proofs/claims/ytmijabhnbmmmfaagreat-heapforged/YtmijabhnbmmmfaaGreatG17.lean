import Derived.Test.YtmijabhnbmmmfaaGreatG16
/- Contracts of a table of atoms: NewAtoms, Number, Text, Len. -/
namespace Go.Proofs.YtmijabhnbmmmfaaGreat
open Go.RowKit Go.Maps Go.WideMaps

def Tab (w : World) (b : Nat) (L : List ByteArray) (F : List Nat) : Prop := ∃ m v, TAt w b m v L ∧ F = foot b m v
theorem Tab.kept {w w' : World} {b : Nat} {L : List ByteArray} {F G : List Nat} (h : Tab w b L F) (k : Kept G w w') (hF : ∀ x, x ∈ F → x ∉ G) : Tab w' b L F := by
  obtain ⟨m, v, h, rfl⟩ := h
  exact ⟨m, v, h.kept k hF, rfl⟩
theorem Tab.lt {w : World} {b : Nat} {L : List ByteArray} {F : List Nat} (h : Tab w b L F) : ∀ x, x ∈ F → x < w.heap.size := by
  obtain ⟨m, v, h, rfl⟩ := h
  exact h.lt
theorem Tab.mem {w : World} {b : Nat} {L : List ByteArray} {F : List Nat} (h : Tab w b L F) : b ∈ F := by
  obtain ⟨m, v, h, rfl⟩ := h
  simp [foot]

theorem new_any (w : World) : Calls Tryz.prog 11 #[] w fun e w' => e = .returned (.pointer (some ⟨w.heap.size, 0, none⟩)) ∧ Below w.heap.size w w' ∧ w'.heap.size = w.heap.size + 1 ∧ Tab w' w.heap.size [] [w.heap.size] := by
  go_enter Tryz.func11, Tryz.ntmps11
  go_wp2
  go_ret
  refine ⟨rfl, below_alloc _ _, by simp, none, .slice none 0 0, ⟨?_, ?_, ?_, ?_, World.ownsRow_nil _ _ _ _, .inl ⟨rfl, rfl⟩, by simp [Value.ownBlock], by simp, fun k e => by cases e⟩, by simp [foot, Value.ownBlock]⟩
  · simp
  · simp
  · simp
  · simp

set_option maxHeartbeats 1000000 in
theorem number_any {w : World} {b : Nat} {L : List ByteArray} {F : List Nat} {s : ByteArray} (h : Tab w b L F) (hL : L.length ≤ 100000) :
    Calls Tryz.prog 89 #[.pointer (some ⟨b, 0, none⟩), .string s] w fun e w' => e = .returned (.tuple #[.int .i64 (numN L s), .int .i64 (numE s)]) ∧
      ∃ F', Tab w' b (stepL L s) F' ∧ (∀ k, k ∈ F' → k ∈ F ∨ w.heap.size ≤ k) ∧ Kept F w w' := by
  by_cases hl : 64 < s.size
  · have hlb : longB s = true := by simp [longB, hl]
    have e1 : numN L s = 0 := by simp [numN, hlb]
    have e2 : numE s = 3 := by simp [numE, hlb]
    have e3 : stepL L s = L := by simp [stepL, hlb]
    rw [e1, e2, e3]
    have hl' : (s.size : Int) > 64 := by omega
    go_enter Tryz.func89, Tryz.ntmps89
    go_wp2
    refine bodyPost_ret (v := .tuple #[.int .i64 0, .int .i64 3]) ?_ rfl ⟨rfl, F, h, fun k hk => .inl hk, Kept.refl _ _⟩
    simp [results, Tryz.results89, go_sem]
  · have hlb : longB s = false := by simp [longB]; omega
    have hs : s.size ≤ 64 := by omega
    have hl' : ¬ (s.size : Int) > 64 := by omega
    have e2 : numE s = 0 := by simp [numE, hlb]
    rw [e2]
    have hkey : keyOf Tryz.prog 9 (.string s) = some (.string s.data.toList) := keyOf_string_mk Tryz.underlying9 (by unfold maxLen; omega)
    obtain ⟨m, v, hT, rfl⟩ := h
    have hT' := hT
    obtain ⟨c0, c1, f0, f1, row, mp, nb, nm, nv⟩ := hT
    obtain ⟨rfl, rfl⟩ | ⟨bm, D, rfl, hown, hMI⟩ := mp
    · have hrun := look_nil (w := w) true law9 Tryz.underlying83 (zero3 _) hkey
      have e1 : numN [] s = 0 := by simp [numN, hlb, pos]
      have e3 : stepL [] s = [s] := by simp [stepL, hlb, inL]
      rw [e1, e3]
      have hadd := add_none hT' hs
      clear nb nm nv row hT'
      go_enter Tryz.func89, Tryz.ntmps89
      go_wp2_with (go_at_call 102; refine hadd.mono ?_; rintro e w' ⟨rfl, v', r1, r2, r3⟩)
      refine bodyPost_ret (v := .tuple #[.int .i64 0, .int .i64 0]) ?_ rfl ⟨rfl, _, ⟨_, _, r1, rfl⟩, r2, r3⟩
      simp [results, Tryz.results89, go_sem]
    · obtain ⟨hhas, hat0⟩ := hMI s
      cases hin : inL L s
      · have e1 : numN L s = L.length := by simp [numN, hlb, pos_none hin]
        have e3 : stepL L s = L ++ [s] := by simp [stepL, hlb, hin]
        rw [e1, e3]
        rw [hin] at hhas
        have hadd := add_some hT' hs hL hin
        clear nb nm nv row hT' hat0
        go_enter Tryz.func89, Tryz.ntmps89
        go_wp2_with (first
          | (at_lookup; refine wpList_lookup_own_ok_int _ rfl _ _ 83 rfl 9 3 .i64 law9 Tryz.underlying83 Tryz.underlying3 (zero3 _) bm L.length D rfl hown _ _ rfl hkey ?_; intro c hat hwc; rw [hhas])
          | (go_at_call 102; refine hadd.mono ?_; rintro e w' ⟨rfl, v', r1, r2, r3⟩)
          | go_in)
        refine bodyPost_ret (v := .tuple #[.int .i64 L.length, .int .i64 0]) ?_ rfl ⟨rfl, _, ⟨_, _, r1, rfl⟩, r2, r3⟩
        simp [results, Tryz.results89, go_sem]
      · have e1 : numN L s = pos L s := by simp [numN, hlb]
        have e3 : stepL L s = L := by simp [stepL, hin]
        rw [e1, e3]
        have hat1 := hat0 hin
        rw [hin] at hhas
        clear nb nm nv row hat0
        go_enter Tryz.func89, Tryz.ntmps89
        go_wp2_with (first
          | (at_lookup; refine wpList_lookup_own_ok_int _ rfl _ _ 83 rfl 9 3 .i64 law9 Tryz.underlying83 Tryz.underlying3 (zero3 _) bm L.length D rfl hown _ _ rfl hkey ?_; intro c hat hwc; rw [hhas]; rw [hat1] at hat; injection hat with hat; injection hat with _ hat; rw [← hat])
          | go_in)
        refine bodyPost_ret (v := .tuple #[.int .i64 c, .int .i64 0]) ?_ rfl ⟨rfl, _, ⟨_, _, hT', rfl⟩, fun k hk => .inl hk, Kept.refl _ _⟩
        simp [results, Tryz.results89, go_sem]

end Go.Proofs.YtmijabhnbmmmfaaGreat


/- Text of a table of atoms; the document's table. -/
namespace Go.Proofs.YtmijabhnbmmmfaaGreat
open Go.RowKit Go.Maps Go.WideMaps

def txIs (L : List ByteArray) (n : Int) : Bool := decide (0 ≤ n ∧ n < L.length)
def txOf (L : List ByteArray) (n : Int) : ByteArray := if txIs L n then L.getD n.toNat ⟨#[]⟩ else ⟨#[]⟩

theorem row_cell {w : World} {a : Option Addr} {n c : Nat} {L : List ByteArray} (h : w.ownsRow 0 9 1 (.slice a n c) n (L.map Value.string)) {k : Nat} (hk : k < L.length) :
    ∃ g, a = some ⟨g, 0, none⟩ ∧ n ≤ c ∧ w.cell? ⟨g, k, none⟩ = some (.string (L.getD k ⟨#[]⟩)) := by
  have hl := h.1
  obtain ⟨_, ⟨e, rfl⟩ | ⟨g, cap, cur, e, hg, hh, hn, _⟩⟩ := id h
  · simp at hl; simp [hl] at hk
  · injection e with e1 e2 e3
    subst e1 e3
    refine ⟨g, rfl, hn, ?_⟩
    have := h.cells (g := g) rfl k (.string (L.getD k ⟨#[]⟩)) (by simp [hk])
    have ea : (⟨g, 0, none⟩ : Addr).add k = ⟨g, k, none⟩ := by
      unfold Addr.add
      split
      · rename_i h; subst h; rfl
      · simp
    rw [ea] at this
    exact this

theorem text_any {w : World} {b : Nat} {L : List ByteArray} {F : List Nat} (h : Tab w b L F) (n : Int) : Calls Tryz.prog 83 #[.pointer (some ⟨b, 0, none⟩), .int .i64 n] w fun e w' => e = .returned (.tuple #[.string (txOf L n), .bool (txIs L n)]) ∧ w' = w := by
  obtain ⟨m, v, ⟨c0, c1, f0, f1, row, mp, nb, nm, nv⟩, rfl⟩ := h
  obtain ⟨a, cap, rfl⟩ := row_shape row
  clear mp nb nm nv
  by_cases h0 : n < 0
  · have e1 : txIs L n = false := by simp [txIs]; omega
    have e2 : txOf L n = ⟨#[]⟩ := by simp [txOf, e1]
    rw [e1, e2]
    go_enter Tryz.func83, Tryz.ntmps83
    go_wp2
    refine bodyPost_ret (v := .tuple #[.string ⟨#[]⟩, .bool false]) ?_ rfl ⟨rfl, rfl⟩
    simp [results, Tryz.results83, go_sem]
  · by_cases h1 : n ≥ L.length
    · have e1 : txIs L n = false := by simp [txIs]; omega
      have e2 : txOf L n = ⟨#[]⟩ := by simp [txOf, e1]
      rw [e1, e2]
      go_enter Tryz.func83, Tryz.ntmps83
      go_wp2
      refine bodyPost_ret (v := .tuple #[.string ⟨#[]⟩, .bool false]) ?_ rfl ⟨rfl, rfl⟩
      simp [results, Tryz.results83, go_sem]
    · obtain ⟨k, rfl⟩ := Int.eq_ofNat_of_zero_le (by omega : 0 ≤ n)
      have hk : k < L.length := by omega
      have e1 : txIs L k = true := by simp [txIs]; omega
      have e2 : txOf L k = L.getD k ⟨#[]⟩ := by simp [txOf, e1]
      obtain ⟨g, rfl, hc, hcell⟩ := row_cell row hk
      rw [e1, e2]
      generalize L.getD k ⟨#[]⟩ = t at hcell
      clear row e1 e2
      go_enter Tryz.func83, Tryz.ntmps83
      go_wp2
      refine bodyPost_ret (v := .tuple #[.string t, .bool true]) ?_ rfl ⟨rfl, rfl⟩
      simp [results, Tryz.results83, go_sem]

structure RAt (w : World) (r : Nat) (v : Value) (L : List ByteArray) : Prop where
  c0 : w.cell? ⟨r, 0, none⟩ = some v
  f0 : w.frozen? ⟨r, 0, none⟩ = false
  row : w.ownsRow 0 9 1 v L.length (L.map Value.string)
  nb : v.ownBlock ≠ some r
def RTab (w : World) (r : Nat) (L : List ByteArray) (G : List Nat) : Prop := ∃ v, RAt w r v L ∧ G = r :: v.ownBlock.toList
theorem RTab.kept {w w' : World} {b : Nat} {L : List ByteArray} {F G : List Nat} (h : RTab w b L F) (k : Kept G w w') (hF : ∀ x, x ∈ F → x ∉ G) : RTab w' b L F := by
  obtain ⟨v, ⟨c0, f0, row, nb⟩, rfl⟩ := h
  have hblt : b < w.heap.size := cell_lt c0
  have hb : w'.heap[b]? = w.heap[b]? := k.block b hblt (hF b (by simp))
  refine ⟨v, ⟨(World.cell?_of_block hb).trans c0, (World.frozen?_of_block hb).trans f0, ?_, nb⟩, rfl⟩
  obtain ⟨e, h | ⟨g, cap, cur, rfl, hg, hc, r⟩⟩ := row
  · exact ⟨e, .inl h⟩
  · exact ⟨e, .inr ⟨g, cap, cur, rfl, hg, (k.block g (Array.getElem?_eq_some_iff.1 hc).1 (hF g (by simp [Value.ownBlock]))).trans hc, r⟩⟩
theorem RTab.lt {w : World} {b : Nat} {L : List ByteArray} {F : List Nat} (h : RTab w b L F) : ∀ x, x ∈ F → x < w.heap.size := by
  obtain ⟨v, ⟨c0, f0, row, nb⟩, rfl⟩ := h
  intro x hx
  simp only [List.mem_cons, Option.mem_toList] at hx
  rcases hx with rfl | hx
  · exact cell_lt c0
  · exact (row.lt x hx).2

end Go.Proofs.YtmijabhnbmmmfaaGreat


