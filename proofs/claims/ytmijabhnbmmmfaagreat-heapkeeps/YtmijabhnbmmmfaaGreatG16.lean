import Derived.Test.YtmijabhnbmmmfaaGreatG15
/- The first text added to a table of atoms. -/
namespace Go.Proofs.YtmijabhnbmmmfaaGreat
open Go.RowKit Go.Maps Go.WideMaps

set_option maxHeartbeats 1000000 in
theorem add_none {w : World} {b : Nat} {v : Value} {L : List ByteArray} {s : ByteArray} (h : TAt w b none v L) (hs : s.size ≤ 64) :
    Calls Tryz.prog 102 #[.pointer (some ⟨b, 0, none⟩), .string s] w fun e w' => e = .returned (.int .i64 (L.length : Int)) ∧
      ∃ v', TAt w' b (some w.heap.size) v' (L ++ [s]) ∧ (∀ k, k ∈ foot b (some w.heap.size) v' → k ∈ foot b none v ∨ w.heap.size ≤ k) ∧ Kept (foot b none v) w w' := by
  obtain ⟨c0, c1, f0, f1, row, mp, nb, nm, nv⟩ := h
  have hLn : L = [] := by
    rcases mp with ⟨_, h⟩ | ⟨_, _, e, _⟩
    · exact h
    · cases e
  subst hLn
  simp only [List.length_nil, List.map_nil] at row
  have hblt : b < w.heap.size := cell_lt c0
  have hmm := @run_makeMap Tryz.prog
  have hmn := map_is_nil
  have hkey : keyOf Tryz.prog 9 (.string s) = some (.string s.data.toList) := keyOf_string_mk Tryz.underlying9 (by unfold maxLen; omega)
  obtain ⟨a, cap, rfl⟩ := row_shape row
  obtain ⟨i0, hi, hz0, hz1, hz2⟩ := info_parts info9
  have hrl := row.lt
  have hsw : (w.setCell ⟨b, 0, none⟩ (.map (some w.heap.size))).heap.size = w.heap.size := by simp
  have hba := below_alloc (w.setCell ⟨b, 0, none⟩ (.map (some w.heap.size))) (.map #[] 0)
  rw [hsw] at hba
  have hmade := World.ownsMap_made (w.setCell ⟨b, 0, none⟩ (.map (some w.heap.size))) Tryz.prog 9 (plainElem (H := Unit) Tryz.prog 3)
  rw [hsw] at hmade
  have A0 : TAt ((w.setCell ⟨b, 0, none⟩ (.map (some w.heap.size))).alloc (.map #[] 0)) b (some w.heap.size) (.slice a 0 cap) [] := by
    refine ⟨(hba.cell (p := ⟨b, 0, none⟩) hblt).trans (World.cell?_setCell_same _ _ _ c0), (hba.cell (p := ⟨b, 1, none⟩) hblt).trans ?_, (hba.frozen (p := ⟨b, 0, none⟩) hblt).trans ?_, (hba.frozen (p := ⟨b, 1, none⟩) hblt).trans ?_, (own_set row nb).alloc _, .inr ⟨_, _, rfl, hmade, mapIs_nil⟩, nb, by simp; omega, fun k e => ?_⟩
    · rw [World.cell?_setCell_other (h := by simp)]; exact c1
    · rw [World.frozen?_setCell]; exact f0
    · rw [World.frozen?_setCell]; exact f1
    · cases e
      intro e
      have := (hrl _ e).2
      omega
  have hk0 : Kept (foot b none (.slice a 0 cap)) w ((w.setCell ⟨b, 0, none⟩ (.map (some w.heap.size))).alloc (.map #[] 0)) := (Kept.set ⟨b, 0, none⟩ (.map (some w.heap.size)) (by simp [foot])).trans (Kept.of_below (by rw [hsw]; exact hba))
  have hs0 : ((w.setCell ⟨b, 0, none⟩ (.map (some w.heap.size))).alloc (.map #[] 0)).heap.size = w.heap.size + 1 := by simp
  have A0' := A0
  clear mp hsw hba hmade
  obtain ⟨d0, d1, g0, g1, row0, mp0, nb0, nm0, nv0⟩ := A0
  obtain ⟨h, _⟩ | ⟨bm', D, e, hown, hMI⟩ := mp0
  · cases h
  cases e
  simp only [List.length_nil, List.map_nil] at row0 hown
  go_enter Tryz.func102, Tryz.ntmps102
  go_wp2_with (first
    | (go_at_call 107; generalize hW : ((w.setCell ⟨b, 0, none⟩ (.map (some w.heap.size))).alloc (.map #[] 0)) = W at A0' hk0 hs0 d0 d1 g0 g1 row0 hown ⊢; refine (clone_any s _ hs).mono ?_; rintro e w1 ⟨rfl, hb1⟩
       have hblt' : b < W.heap.size := by omega
       have c0' : w1.cell? ⟨b, 0, none⟩ = some (.map (some w.heap.size)) := (hb1.cell (p := ⟨b, 0, none⟩) hblt').trans d0
       have c1' : w1.cell? ⟨b, 1, none⟩ = some (.slice a 0 cap) := (hb1.cell (p := ⟨b, 1, none⟩) hblt').trans d1
       have hown1 := hown.kept (grown_of_below hb1) (by simp)
       have row1 := row0.kept (grown_of_below hb1) (by cases a <;> simp [Value.ownBlock]))
    | (at_mapUpdate; refine wpList_mapUpdate_own _ rfl _ _ _ 83 rfl 9 3 law9 Tryz.underlying83 _ w.heap.size 0 D rfl hown1 (by unfold maxLen; omega) _ _ _ rfl rfl hkey _ [] (plainElem_int Tryz.underlying3 (WalkArith.wf_i64 (by omega))) ?_; intro w2 hown2 hgrow2
       have hb2 : w2.heap[b]? = W.heap[b]? := (hgrow2.block b (Nat.lt_of_lt_of_le hblt' hb1.size) (by simp; omega)).trans (hb1.block b hblt')
       have k2c : w2.cell? ⟨b, 1, none⟩ = some (.slice a 0 cap) := (World.cell?_of_block hb2).trans d1
       have k2f : w2.frozen? ⟨b, 1, none⟩ = false := (World.frozen?_of_block hb2).trans g1
       have row2 := row1.kept hgrow2 (Or.inr (nv0 _ rfl)))
    | (at_builtin; refine wpList_append_own_at _ rfl _ _ 35 rfl 0 9 i0 (.string ⟨#[]⟩) 1 16 Tryz.underlying35 hi hz0 hz1 hz2 rfl (by decide) _ _ _ rfl (row2.alloc _) ⟨w2.heap.size, 0, none⟩ 1 1 [.string s] rfl rfl (cell_one_new _ _ _) (by simp [Value.oneCell']) (by unfold maxLen; simp) (by simp) (by simp) ?_; intro v' w3 row3 hgrow3 hnil3 hloc3
       obtain ⟨a', cap', hv'⟩ := row_shape row3
       subst hv'
       have hb3 : w3.heap[b]? = W.heap[b]? := (hgrow3.block b (by simp; have := hgrow2.size; have := hb1.size; omega) (Ne.symm nb)).trans ((heap_alloc_old w2 _ (by have := hgrow2.size; have := hb1.size; omega)).trans hb2)
       have k3c : w3.cell? ⟨b, 1, none⟩ = some (.slice a 0 cap) := (World.cell?_of_block hb3).trans d1
       have k3f : w3.frozen? ⟨b, 1, none⟩ = false := (World.frozen?_of_block hb3).trans g1)
    | go_in)
  go_ret
  obtain ⟨r1, r2, r3⟩ := add_end A0' hMI hown.isMap rfl hb1 hown2 hgrow2 row3 hgrow3 hloc3
  refine ⟨rfl, _, r1, fun k hk => ?_, ?_⟩
  · rcases r2 k hk with h | h
    · simp only [foot, List.mem_cons, List.mem_append, Option.mem_toList] at h ⊢
      rcases h with h | h | h
      · exact .inl (.inl h)
      · right; cases h; omega
      · exact .inl (.inr (.inr h))
    · right; omega
  · refine ⟨r3.os.trans hk0.os, r3.tape.trans hk0.tape, r3.output.trans hk0.output, Nat.le_trans hk0.size r3.size, fun k hk hF => (r3.block k (by omega) (fun h => ?_)).trans (hk0.block k hk hF)⟩
    simp only [foot, List.mem_cons, List.mem_append, Option.mem_toList] at h hF
    rcases h with h | h | h
    · exact hF (.inl h)
    · cases h; omega
    · exact hF (.inr (.inr h))
end Go.Proofs.YtmijabhnbmmmfaaGreat


/- Contracts of a table of atoms: NewAtoms, Number, Text, Len. -/
namespace Go.Proofs.YtmijabhnbmmmfaaGreat
open Go.RowKit Go.Maps Go.WideMaps

def Tab (w : World) (b : Nat) (L : List ByteArray) (F : List Nat) : Prop := ∃ m v, TAt w b m v L ∧ F = foot b m v
theorem Tab.kept {w w' : World} {b : Nat} {L : List ByteArray} {F G : List Nat} (h : Tab w b L F) (k : Kept G w w') (hF : ∀ x, x ∈ F → x ∉ G) : Tab w' b L F := by
  obtain ⟨m, v, h, rfl⟩ := h
  exact ⟨m, v, h.kept k hF, rfl⟩
theorem Tab.lt {w : World} {b : Nat} {L : List ByteArray} {F : List Nat} (h : Tab w b L F) : ∀ x, x ∈ F → x < w.heap.size := by
  obtain ⟨m, v, h, rfl⟩ := h
  exact h.lt
theorem Tab.mem {w : World} {b : Nat} {L : List ByteArray} {F : List Nat} (h : Tab w b L F) : b ∈ F := by
  obtain ⟨m, v, h, rfl⟩ := h
  simp [foot]

theorem new_any (w : World) : Calls Tryz.prog 11 #[] w fun e w' => e = .returned (.pointer (some ⟨w.heap.size, 0, none⟩)) ∧ Below w.heap.size w w' ∧ w'.heap.size = w.heap.size + 1 ∧ Tab w' w.heap.size [] [w.heap.size] := by
  go_enter Tryz.func11, Tryz.ntmps11
  go_wp2
  go_ret
  refine ⟨rfl, below_alloc _ _, by simp, none, .slice none 0 0, ⟨?_, ?_, ?_, ?_, World.ownsRow_nil _ _ _ _, .inl ⟨rfl, rfl⟩, by simp [Value.ownBlock], by simp, fun k e => by cases e⟩, by simp [foot, Value.ownBlock]⟩
  · simp
  · simp
  · simp
  · simp

set_option maxHeartbeats 1000000 in
theorem number_any {w : World} {b : Nat} {L : List ByteArray} {F : List Nat} {s : ByteArray} (h : Tab w b L F) (hL : L.length ≤ 100000) :
    Calls Tryz.prog 89 #[.pointer (some ⟨b, 0, none⟩), .string s] w fun e w' => e = .returned (.tuple #[.int .i64 (numN L s), .int .i64 (numE s)]) ∧
      ∃ F', Tab w' b (stepL L s) F' ∧ (∀ k, k ∈ F' → k ∈ F ∨ w.heap.size ≤ k) ∧ Kept F w w' := by
  by_cases hl : 64 < s.size
  · have hlb : longB s = true := by simp [longB, hl]
    have e1 : numN L s = 0 := by simp [numN, hlb]
    have e2 : numE s = 3 := by simp [numE, hlb]
    have e3 : stepL L s = L := by simp [stepL, hlb]
    rw [e1, e2, e3]
    have hl' : (s.size : Int) > 64 := by omega
    go_enter Tryz.func89, Tryz.ntmps89
    go_wp2
    refine bodyPost_ret (v := .tuple #[.int .i64 0, .int .i64 3]) ?_ rfl ⟨rfl, F, h, fun k hk => .inl hk, Kept.refl _ _⟩
    simp [results, Tryz.results89, go_sem]
  · have hlb : longB s = false := by simp [longB]; omega
    have hs : s.size ≤ 64 := by omega
    have hl' : ¬ (s.size : Int) > 64 := by omega
    have e2 : numE s = 0 := by simp [numE, hlb]
    rw [e2]
    have hkey : keyOf Tryz.prog 9 (.string s) = some (.string s.data.toList) := keyOf_string_mk Tryz.underlying9 (by unfold maxLen; omega)
    obtain ⟨m, v, hT, rfl⟩ := h
    have hT' := hT
    obtain ⟨c0, c1, f0, f1, row, mp, nb, nm, nv⟩ := hT
    obtain ⟨rfl, rfl⟩ | ⟨bm, D, rfl, hown, hMI⟩ := mp
    · have hrun := look_nil (w := w) true law9 Tryz.underlying83 (zero3 _) hkey
      have e1 : numN [] s = 0 := by simp [numN, hlb, pos]
      have e3 : stepL [] s = [s] := by simp [stepL, hlb, inL]
      rw [e1, e3]
      have hadd := add_none hT' hs
      clear nb nm nv row hT'
      go_enter Tryz.func89, Tryz.ntmps89
      go_wp2_with (go_at_call 102; refine hadd.mono ?_; rintro e w' ⟨rfl, v', r1, r2, r3⟩)
      refine bodyPost_ret (v := .tuple #[.int .i64 0, .int .i64 0]) ?_ rfl ⟨rfl, _, ⟨_, _, r1, rfl⟩, r2, r3⟩
      simp [results, Tryz.results89, go_sem]
    · obtain ⟨hhas, hat0⟩ := hMI s
      cases hin : inL L s
      · have e1 : numN L s = L.length := by simp [numN, hlb, pos_none hin]
        have e3 : stepL L s = L ++ [s] := by simp [stepL, hlb, hin]
        rw [e1, e3]
        rw [hin] at hhas
        have hadd := add_some hT' hs hL hin
        clear nb nm nv row hT' hat0
        go_enter Tryz.func89, Tryz.ntmps89
        go_wp2_with (first
          | (at_lookup; refine wpList_lookup_own_ok_int _ rfl _ _ 83 rfl 9 3 .i64 law9 Tryz.underlying83 Tryz.underlying3 (zero3 _) bm L.length D rfl hown _ _ rfl hkey ?_; intro c hat hwc; rw [hhas])
          | (go_at_call 102; refine hadd.mono ?_; rintro e w' ⟨rfl, v', r1, r2, r3⟩)
          | go_in)
        refine bodyPost_ret (v := .tuple #[.int .i64 L.length, .int .i64 0]) ?_ rfl ⟨rfl, _, ⟨_, _, r1, rfl⟩, r2, r3⟩
        simp [results, Tryz.results89, go_sem]
      · have e1 : numN L s = pos L s := by simp [numN, hlb]
        have e3 : stepL L s = L := by simp [stepL, hin]
        rw [e1, e3]
        have hat1 := hat0 hin
        rw [hin] at hhas
        clear nb nm nv row hat0
        go_enter Tryz.func89, Tryz.ntmps89
        go_wp2_with (first
          | (at_lookup; refine wpList_lookup_own_ok_int _ rfl _ _ 83 rfl 9 3 .i64 law9 Tryz.underlying83 Tryz.underlying3 (zero3 _) bm L.length D rfl hown _ _ rfl hkey ?_; intro c hat hwc; rw [hhas]; rw [hat1] at hat; injection hat with hat; injection hat with _ hat; rw [← hat])
          | go_in)
        refine bodyPost_ret (v := .tuple #[.int .i64 c, .int .i64 0]) ?_ rfl ⟨rfl, _, ⟨_, _, hT', rfl⟩, fun k hk => .inl hk, Kept.refl _ _⟩
        simp [results, Tryz.results89, go_sem]

end Go.Proofs.YtmijabhnbmmmfaaGreat


