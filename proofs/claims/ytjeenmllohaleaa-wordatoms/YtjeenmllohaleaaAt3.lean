/- Contracts of a table of atoms: NewAtoms, Number, Text, Len. -/
import Derived.Test.YtjeenmllohaleaaAt2
namespace Go.Proofs.Ytjeenmllohaleaa
open Go.RowKit Go.Maps Go.WideMaps

def Tab (w : World) (b : Nat) (L : List ByteArray) (F : List Nat) : Prop := ∃ m v, TAt w b m v L ∧ F = foot b m v
theorem Tab.kept {w w' : World} {b : Nat} {L : List ByteArray} {F G : List Nat} (h : Tab w b L F) (k : Kept G w w') (hF : ∀ x, x ∈ F → x ∉ G) : Tab w' b L F := by
  obtain ⟨m, v, h, rfl⟩ := h
  exact ⟨m, v, h.kept k hF, rfl⟩
theorem Tab.lt {w : World} {b : Nat} {L : List ByteArray} {F : List Nat} (h : Tab w b L F) : ∀ x, x ∈ F → x < w.heap.size := by
  obtain ⟨m, v, h, rfl⟩ := h
  exact h.lt
theorem Tab.mem {w : World} {b : Nat} {L : List ByteArray} {F : List Nat} (h : Tab w b L F) : b ∈ F := by
  obtain ⟨m, v, h, rfl⟩ := h
  simp [foot]

theorem new_any (w : World) : Calls Try.prog 22 #[] w fun e w' => e = .returned (.pointer (some ⟨w.heap.size, 0, none⟩)) ∧ Below w.heap.size w w' ∧ w'.heap.size = w.heap.size + 1 ∧ Tab w' w.heap.size [] [w.heap.size] := by
  go_enter Try.func22, Try.ntmps22
  go_wp2
  go_ret
  refine ⟨rfl, below_alloc _ _, by simp, none, .slice none 0 0, ⟨?_, ?_, ?_, ?_, World.ownsRow_nil _ _ _ _, .inl ⟨rfl, rfl⟩, by simp [Value.ownBlock], by simp, fun k e => by cases e⟩, by simp [foot, Value.ownBlock]⟩
  · simp
  · simp
  · simp
  · simp

set_option maxHeartbeats 1000000 in
theorem number_any {w : World} {b : Nat} {L : List ByteArray} {F : List Nat} {s : ByteArray} (h : Tab w b L F) (hL : L.length ≤ 100000) :
    Calls Try.prog 23 #[.pointer (some ⟨b, 0, none⟩), .string s] w fun e w' => e = .returned (.tuple #[.int .i64 (numN L s), .int .i64 (numE s)]) ∧
      ∃ F', Tab w' b (stepL L s) F' ∧ (∀ k, k ∈ F' → k ∈ F ∨ w.heap.size ≤ k) ∧ Kept F w w' := by
  by_cases hl : 64 < s.size
  · have hlb : longB s = true := by simp [longB, hl]
    have e1 : numN L s = 0 := by simp [numN, hlb]
    have e2 : numE s = 3 := by simp [numE, hlb]
    have e3 : stepL L s = L := by simp [stepL, hlb]
    rw [e1, e2, e3]
    have hl' : (s.size : Int) > 64 := by omega
    go_enter Try.func23, Try.ntmps23
    go_wp2
    refine bodyPost_ret (v := .tuple #[.int .i64 0, .int .i64 3]) ?_ rfl ⟨rfl, F, h, fun k hk => .inl hk, Kept.refl _ _⟩
    simp [results, Try.results23, go_sem]
  · have hlb : longB s = false := by simp [longB]; omega
    have hs : s.size ≤ 64 := by omega
    have hl' : ¬ (s.size : Int) > 64 := by omega
    have e2 : numE s = 0 := by simp [numE, hlb]
    rw [e2]
    have hkey : keyOf Try.prog 9 (.string s) = some (.string s.data.toList) := keyOf_string_mk Try.underlying9 (by unfold maxLen; omega)
    obtain ⟨m, v, hT, rfl⟩ := h
    have hT' := hT
    obtain ⟨c0, c1, f0, f1, row, mp, nb, nm, nv⟩ := hT
    obtain ⟨rfl, rfl⟩ | ⟨bm, D, rfl, hown, hMI⟩ := mp
    · have hrun := look_nil (w := w) true law9 Try.underlying63 (zero3 _) hkey
      have e1 : numN [] s = 0 := by simp [numN, hlb, pos]
      have e3 : stepL [] s = [s] := by simp [stepL, hlb, inL]
      rw [e1, e3]
      have hadd := add_none hT' hs
      clear nb nm nv row hT'
      go_enter Try.func23, Try.ntmps23
      go_wp2_with (go_at_call 31; refine hadd.mono ?_; rintro e w' ⟨rfl, v', r1, r2, r3⟩)
      refine bodyPost_ret (v := .tuple #[.int .i64 0, .int .i64 0]) ?_ rfl ⟨rfl, _, ⟨_, _, r1, rfl⟩, r2, r3⟩
      simp [results, Try.results23, go_sem]
    · obtain ⟨hhas, hat0⟩ := hMI s
      cases hin : inL L s
      · have e1 : numN L s = L.length := by simp [numN, hlb, pos_none hin]
        have e3 : stepL L s = L ++ [s] := by simp [stepL, hlb, hin]
        rw [e1, e3]
        rw [hin] at hhas
        have hadd := add_some hT' hs hL hin
        clear nb nm nv row hT' hat0
        go_enter Try.func23, Try.ntmps23
        go_wp2_with (first
          | (at_lookup; refine wpList_lookup_own_ok_int _ rfl _ _ 63 rfl 9 3 .i64 law9 Try.underlying63 Try.underlying3 (zero3 _) bm L.length D rfl hown _ _ rfl hkey ?_; intro c hat hwc; rw [hhas])
          | (go_at_call 31; refine hadd.mono ?_; rintro e w' ⟨rfl, v', r1, r2, r3⟩)
          | go_in)
        refine bodyPost_ret (v := .tuple #[.int .i64 L.length, .int .i64 0]) ?_ rfl ⟨rfl, _, ⟨_, _, r1, rfl⟩, r2, r3⟩
        simp [results, Try.results23, go_sem]
      · have e1 : numN L s = pos L s := by simp [numN, hlb]
        have e3 : stepL L s = L := by simp [stepL, hin]
        rw [e1, e3]
        have hat1 := hat0 hin
        rw [hin] at hhas
        clear nb nm nv row hat0
        go_enter Try.func23, Try.ntmps23
        go_wp2_with (first
          | (at_lookup; refine wpList_lookup_own_ok_int _ rfl _ _ 63 rfl 9 3 .i64 law9 Try.underlying63 Try.underlying3 (zero3 _) bm L.length D rfl hown _ _ rfl hkey ?_; intro c hat hwc; rw [hhas]; rw [hat1] at hat; injection hat with hat; injection hat with _ hat; rw [← hat])
          | go_in)
        refine bodyPost_ret (v := .tuple #[.int .i64 c, .int .i64 0]) ?_ rfl ⟨rfl, _, ⟨_, _, hT', rfl⟩, fun k hk => .inl hk, Kept.refl _ _⟩
        simp [results, Try.results23, go_sem]

theorem len_any {w : World} {b : Nat} {L : List ByteArray} {F : List Nat} (h : Tab w b L F) : Calls Try.prog 25 #[.pointer (some ⟨b, 0, none⟩)] w fun e w' => e = .returned (.int .i64 (L.length : Int)) ∧ w' = w := by
  obtain ⟨m, v, ⟨c0, c1, f0, f1, row, mp, nb, nm, nv⟩, rfl⟩ := h
  obtain ⟨a, cap, rfl⟩ := row_shape row
  clear row mp nb nm nv
  go_enter Try.func25, Try.ntmps25
  go_wp2
  go_ret
  exact ⟨rfl, rfl⟩
end Go.Proofs.Ytjeenmllohaleaa
