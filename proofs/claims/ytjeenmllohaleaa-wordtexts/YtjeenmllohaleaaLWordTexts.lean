/- The statement WordTexts walked: unlike texts have unlike numbers, there and back. -/
import Derived.Test.YtjeenmllohaleaaLWordAtoms
namespace Go.Proofs.Ytjeenmllohaleaa
open Go.RowKit Go.Maps Go.WideMaps Go.Sort
attribute [local go_sem ↓] Go.wp_at_zero Go.wp_at_succ

theorem infoI : (Try.prog.info? 3).map (fun i => (i.zero, i.size, i.bytes)) = some (some (.int .i64 0), 1, 8) := by kernel_rfl

/-- numbers stay as they are -/
theorem inL_step {L : List ByteArray} {s t : ByteArray} (h : inL L t = true) : inL (stepL L s) t = true := by
  unfold stepL; split
  · exact h
  · rw [inL_snoc, h]; rfl
theorem pos_step {L : List ByteArray} {s t : ByteArray} (h : inL L t = true) : pos (stepL L s) t = pos L t := by
  unfold stepL; split
  · rfl
  · exact pos_snoc_old h
theorem step_in {L : List ByteArray} {s : ByteArray} (h : longB s = false) : inL (stepL L s) s = true ∧ pos (stepL L s) s = pos L s := by
  unfold stepL
  cases hin : inL L s
  · simp only [h, Bool.or_self, Bool.false_eq_true, if_false]
    rw [inL_snoc, eqT_self, Bool.or_true, pos_snoc_new hin, pos_none hin]
    exact ⟨rfl, rfl⟩
  · simp [hin]
theorem acc_in {N : Nat → ByteArray} {j : Nat} (h : longB (N j) = false) : ∀ d, inL (acc N (j + 1 + d)) (N j) = true ∧ pos (acc N (j + 1 + d)) (N j) = pos (acc N j) (N j)
  | 0 => step_in h
  | d + 1 => by
    obtain ⟨h1, h2⟩ := acc_in h d
    exact ⟨inL_step h1, (pos_step h1).trans h2⟩
/-- the number of the j-th text among all -/
def kN (N : Nat → ByteArray) (len j : Nat) : Int := if longB (N j) then -1 else (pos (acc N len) (N j) : Int)
theorem kN_long {N : Nat → ByteArray} {len j : Nat} (h : longB (N j) = true) : kN N len j = -1 := by simp [kN, h]
theorem kN_short {N : Nat → ByteArray} {len j : Nat} (h : longB (N j) = false) (hj : j < len) : kN N len j = numN (acc N j) (N j) := by
  obtain ⟨d, rfl⟩ : ∃ d, len = j + 1 + d := ⟨len - (j + 1), by omega⟩
  simp [kN, h, numN, (acc_in h d).2]
theorem kN_at {N : Nat → ByteArray} {len j : Nat} (h : longB (N j) = false) (hj : j < len) : 0 ≤ kN N len j ∧ kN N len j < (acc N len).length ∧ txIs (acc N len) (kN N len j) = true ∧ txOf (acc N len) (kN N len j) = N j := by
  obtain ⟨d, rfl⟩ : ∃ d, len = j + 1 + d := ⟨len - (j + 1), by omega⟩
  have hin := (acc_in h d).1
  have hl := pos_lt hin
  have ht : txIs (acc N (j + 1 + d)) (kN N (j + 1 + d) j) = true := by simp [txIs, kN, h]; exact hl
  refine ⟨by simp [kN, h], by simp [kN, h]; exact hl, ht, ?_⟩
  unfold txOf
  rw [ht]
  simp [kN, h, List.getD_eq_getElem?_getD, pos_at hin]
theorem kN_same {N : Nat → ByteArray} {len i j : Nat} (hi : longB (N i) = false) (hj : longB (N j) = false) (h1 : i < len) (h2 : j < len) : (kN N len j == kN N len i) = ((N j).toList == (N i).toList) := by
  show _ = eqT (N j) (N i)
  cases h : eqT (N j) (N i)
  · have hne : ¬ kN N len j = kN N len i := fun e => by
      have a1 := (kN_at hi h1).2.2.2
      have a2 := (kN_at hj h2).2.2.2
      rw [e, a1] at a2
      rw [a2, eqT_self] at h
      cases h
    simpa using hne
  · have e := eqT_iff.1 h
    simp [kN, hi, e]

def kRow (N : Nat → ByteArray) (len k : Nat) : List Value := (List.range k).map fun j => .int .i64 (kN N len j)
theorem kRow_succ (N : Nat → ByteArray) (len k : Nat) : kRow N len (k + 1) = kRow N len k ++ [.int .i64 (kN N len k)] := by simp [kRow, List.range_succ]

/-- the table and the row of numbers, apart, in new blocks -/
structure Mid (n0 : Nat) (w wr : World) (T : Nat) (L : List ByteArray) (F : List Nat) (v : Value) (n : Nat) (xs : List Value) : Prop where
  tab : Tab wr T L F
  row : wr.ownsRow 0 3 1 v n xs
  apart : ∀ x, x ∈ F → v.ownBlock ≠ some x
  newF : ∀ x, x ∈ F → n0 ≤ x
  newV : ∀ x, v.ownBlock = some x → n0 ≤ x
  below : Below n0 w wr

theorem own_kept {w w' : World} {v : Value} {n : Nat} {e : TypeId} {xs : List Value} {F : List Nat} (h : w.ownsRow 0 e 1 v n xs) (k : Kept F w w') (hF : ∀ x, x ∈ F → v.ownBlock ≠ some x) : w'.ownsRow 0 e 1 v n xs := by
  obtain ⟨e, h | ⟨g, cap, cur, rfl, hg, hc, r⟩⟩ := h
  · exact ⟨e, .inl h⟩
  · exact ⟨e, .inr ⟨g, cap, cur, rfl, hg, (k.block g (Array.getElem?_eq_some_iff.1 hc).1 (fun h => hF g h rfl)).trans hc, r⟩⟩

theorem Mid.num {w wr w3 : World} {T : Nat} {L L' : List ByteArray} {F F' : List Nat} {v : Value} {n : Nat} {xs : List Value} (h : Mid w.heap.size w wr T L F v n xs)
    (t : Tab w3 T L' F') (f : ∀ k, k ∈ F' → k ∈ F ∨ wr.heap.size ≤ k) (k : Kept F wr w3) : Mid w.heap.size w w3 T L' F' v n xs := by
  have hb := h.below.size
  refine ⟨t, own_kept h.row k h.apart, fun x hx e => ?_, fun x hx => ?_, h.newV, k.below h.below (Nat.le_refl _) h.newF⟩
  · rcases f x hx with h1 | h1
    · exact h.apart x h1 e
    · have := (h.row.lt x e).2; omega
  · rcases f x hx with h1 | h1
    · exact h.newF x h1
    · omega

theorem Mid.app {w wr w3 : World} {T : Nat} {L : List ByteArray} {F : List Nat} {v v' : Value} {n n' : Nat} {xs xs' : List Value} {o : Obj} (h : Mid w.heap.size w wr T L F v n xs)
    (row : w3.ownsRow 0 3 1 v' n' xs') (hg : (wr.alloc o).grownBy w3 v.ownBlock) (hl : v'.ownBlock = v.ownBlock ∨ v'.ownBlock = some (wr.alloc o).heap.size) : Mid w.heap.size w w3 T L F v' n' xs' := by
  have hb := h.below.size
  have hk : Kept v.ownBlock.toList wr w3 := (Kept.of_below (below_alloc wr o)).trans (Kept.of_grown hg (fun k e _ => by simp [e]))
  have hsz : (wr.alloc o).heap.size = wr.heap.size + 1 := by simp
  refine ⟨h.tab.kept hk (fun x hx e => h.apart x hx (by simpa using e)), row, fun x hx e => ?_, h.newF, fun x e => ?_, hk.below h.below (Nat.le_refl _) (fun x hx => h.newV x (by simpa using hx))⟩
  · rcases hl with e1 | e1
    · rw [e1] at e; exact h.apart x hx e
    · rw [e1] at e; injection e with e; have := h.tab.lt x hx; omega
  · rcases hl with e1 | e1
    · rw [e1] at e; exact h.newV x e
    · rw [e1] at e; injection e with e; omega

theorem Mid.after {w wr w' : World} {T : Nat} {L : List ByteArray} {F : List Nat} {v : Value} {n : Nat} {xs : List Value} (h : Mid w.heap.size w wr T L F v n xs) (k : Below wr.heap.size wr w') : Mid w.heap.size w w' T L F v n xs :=
  ⟨h.tab.kept (Kept.of_below (F := []) k) (by simp), own_kept h.row (Kept.of_below (F := []) k) (by simp), h.apart, h.newF, h.newV, h.below.trans (k.mono h.below.size)⟩

theorem mid_start {w w1 w2 : World} (hb : Below w.heap.size w w1) (hb2 : Below w1.heap.size w1 w2) (ht : Tab w2 w1.heap.size [] [w1.heap.size]) : Mid w.heap.size w w2 w1.heap.size [] [w1.heap.size] (.slice none 0 0) 0 [] := by
  have hs := hb.size
  refine ⟨ht, World.ownsRow_nil _ _ _ _, by simp [Value.ownBlock], fun x hx => by simp at hx; omega, fun x e => (by cases e), hb.trans (hb2.mono hs)⟩

theorem int_cell {w : World} {a : Option Addr} {n c len : Nat} {N : Nat → ByteArray} (h : w.ownsRow 0 3 1 (.slice a n c) n (kRow N len n)) {k : Nat} (hk : k < n) :
    ∃ g, a = some ⟨g, 0, none⟩ ∧ n ≤ c ∧ w.cell? ⟨g, k, none⟩ = some (.int .i64 (kN N len k)) := by
  obtain ⟨_, ⟨e, rfl⟩ | ⟨g, cap, cur, e, hg, hh, hn, _⟩⟩ := id h
  · omega
  · injection e with e1 e2 e3
    subst e1 e3
    refine ⟨g, rfl, hn, ?_⟩
    have := h.cells (g := g) rfl k (.int .i64 (kN N len k)) (by simp [kRow, hk])
    have ea : (⟨g, 0, none⟩ : Addr).add k = ⟨g, k, none⟩ := by
      unfold Addr.add
      split
      · rename_i h; subst h; rfl
      · simp
    rw [ea] at this
    exact this

theorem wordTexts_big (a : Option Addr) (len cap : Nat) (w : World) (h : 200 < len) :
    Calls Try.prog 8 #[.slice a len cap] w fun e w' => e = .returned (.bool true) ∧ Below w.heap.size w w' := by
  go_enter Try.func8, Try.ntmps8
  go_wp2_with (first
    | (go_at_call 9; refine (known_any _).mono ?_; rintro e w1 ⟨rfl, hb1⟩))
  go_ret
  exact ⟨rfl, hb1⟩

theorem wordTexts_none (a : Option Addr) (cap : Nat) (w : World) :
    Calls Try.prog 8 #[.slice a 0 cap] w fun e w' => e = .returned (.bool true) ∧ Below w.heap.size w w' := by
  go_enter Try.func8, Try.ntmps8
  go_wp2_with (first
    | (go_at_call 9; refine (known_any _).mono ?_; rintro e w1 ⟨rfl, hb1⟩)
    | (go_at_call 22; refine (new_any _).mono ?_; rintro e w2 ⟨rfl, hb2, hzw, ht2⟩))
  have hst := mid_start hb1 hb2 ht2
  refine wp_loop_rounds 1 ?_
  rw [rounds_succ]
  go_wp2
  refine wp_loop_rounds 1 ?_
  rw [rounds_succ]
  go_wp2
  go_ret
  exact ⟨rfl, hst.below⟩

set_option maxHeartbeats 4000000 in
set_option maxRecDepth 100000 in
theorem wordTexts_some (b off len cap : Nat) (N : Nat → ByteArray) (w : World) (hlen : len ≤ 200) (hpos : 0 < len) (hb : b < w.heap.size)
    (hc : ∀ j, j < len → w.cell? ⟨b, off + j, none⟩ = some (.string (N j))) :
    Calls Try.prog 8 #[.slice (some ⟨b, off, none⟩) len cap] w fun e w' => e = .returned (.bool true) ∧ Below w.heap.size w w' := by
  obtain ⟨i0, hi, hz0, hz1, hz2⟩ := info_parts infoI
  go_enter Try.func8, Try.ntmps8
  go_wp2_with (first
    | (go_at_call 9; refine (known_any _).mono ?_; rintro e w1 ⟨rfl, hb1⟩)
    | (go_at_call 22; refine (new_any _).mono ?_; rintro e w2 ⟨rfl, hb2, hzw, ht2⟩))
  have hst := mid_start hb1 hb2 ht2
  clear ht2
  go_loopw [4, 5] (fun v i wr => ∃ (k : Nat) (F : List Nat), k ≤ len ∧ i = .int .i64 k ∧ Mid w.heap.size w wr w1.heap.size (acc N k) F v k (kRow N len k)) (fun _ i _ => len - (intOf i).toNat)
  case atStart => exact ⟨0, _, Nat.zero_le _, rfl, hst⟩
  case round =>
    obtain ⟨k, F, hk, rfl, hM⟩ := hrel
    have hcx : k < len → wr.cell? ⟨b, off + k, none⟩ = some (.string (N k)) := fun h => (hM.below.cell (p := ⟨b, off + k, none⟩) hb).trans (hc k h)
    have hal := acc_len N k
    by_cases hlt : k < len
    · cases hlg : longB (N k)
      · have hE : numE (N k) = 0 := by simp [numE, hlg]
        go_wp2_with (first
          | (go_at_call 23; refine (number_any (s := N k) hM.tab (by omega)).mono ?_; rw [hE]; rintro e w3 ⟨rfl, F3, ht3, hF3, hk3⟩
             have hM3 := hM.num ht3 hF3 hk3)
          | (at_builtin; refine wpList_append_own_at _ rfl _ _ 58 rfl 0 3 i0 (.int .i64 0) 1 8 Try.underlying58 hi hz0 hz1 hz2 rfl (by decide) _ _ _ rfl (hM3.row.alloc _) ⟨w3.heap.size, 0, none⟩ 1 1 [.int .i64 (numN (acc N k) (N k))] rfl rfl (cell_one_new _ _ _) (by simp [Value.oneCell']) (by unfold maxLen; omega) (by omega) (by simp) ?_; intro v' w4 row4 hgrow4 hnil4 hloc4)
          | go_in)
        exact ⟨⟨k + 1, F3, by omega, by simp, by rw [kRow_succ, kN_short hlg hlt]; exact hM3.app row4 hgrow4 hloc4⟩, by simp [intOf]; omega⟩
      · have hE : numE (N k) = 3 := by simp [numE, hlg]
        have hV := kN_long (len := len) hlg
        have hsz : 64 < (N k).size := by simpa [longB] using hlg
        have hcx3 : ∀ w3, Kept F wr w3 → w3.cell? ⟨b, off + k, none⟩ = some (.string (N k)) := fun w3 hk3 => ((hk3.below hM.below (Nat.le_refl _) hM.newF).cell (p := ⟨b, off + k, none⟩) hb).trans (hc k hlt)
        go_wp2_with (first
          | (go_at_call 23; refine (number_any (s := N k) hM.tab (by omega)).mono ?_; rw [hE]; rintro e w3 ⟨rfl, F3, ht3, hF3, hk3⟩
             have hM3 := hM.num ht3 hF3 hk3
             have hcy := hcx3 w3 hk3)
          | (at_builtin; refine wpList_append_own_at _ rfl _ _ 58 rfl 0 3 i0 (.int .i64 0) 1 8 Try.underlying58 hi hz0 hz1 hz2 rfl (by decide) _ _ _ rfl (hM3.row.alloc _) ⟨w3.heap.size, 0, none⟩ 1 1 [.int .i64 (-1)] rfl rfl (cell_one_new _ _ _) (by simp [Value.oneCell']) (by unfold maxLen; omega) (by omega) (by simp) ?_; intro v' w4 row4 hgrow4 hnil4 hloc4)
          | go_in)
        exact ⟨⟨k + 1, F3, by omega, by simp, by rw [kRow_succ, hV]; exact hM3.app row4 hgrow4 hloc4⟩, by simp [intOf]; omega⟩
    · obtain rfl : k = len := by omega
      have hd : decide (k < k) = false := decide_eq_false (by omega)
      obtain ⟨a4, cap4, hv4⟩ := row_shape hM.row
      rw [hv4] at hM
      obtain ⟨g, ha4, hcap4, _⟩ := int_cell hM.row hpos
      rw [ha4] at hM hv4
      subst hv4
      go_wp2
      go_loopw [8] (fun i wr => ∃ (j : Nat), j ≤ k ∧ i = .int .i64 j ∧ Mid w.heap.size w wr w1.heap.size (acc N k) F (.slice (some ⟨g, 0, none⟩) k cap4) k (kRow N k k)) (fun i _ => k - (intOf i).toNat)
      case atStart => exact ⟨0, Nat.zero_le _, rfl, hM⟩
      case round =>
        obtain ⟨j, hj, rfl, hQ⟩ := hrel
        by_cases hjl : j < k
        · have hnj : ∀ m, m < k → wr.cell? ⟨g, m, none⟩ = some (.int .i64 (kN N k m)) := fun m hm => by
            obtain ⟨g', e, _, h⟩ := int_cell hQ.row hm
            injection e with e; injection e with e; rw [e]; exact h
          have hlj : ∀ m, m < k → wr.cell? ⟨b, off + m, none⟩ = some (.string (N m)) := fun m hm => (hQ.below.cell (p := ⟨b, off + m, none⟩) hb).trans (hc m hm)
          have n1 := hnj j hjl
          have l1 := hlj j hjl
          cases hlg : longB (N j)
          · obtain ⟨q1, q2, q3, q4⟩ := kN_at (len := k) hlg hjl
            have hT : ∀ w, Tab w w1.heap.size (acc N k) F → Calls Try.prog 26 #[.pointer (some ⟨w1.heap.size, 0, none⟩), .int .i64 (kN N k j)] w fun e w' => e = .returned (.tuple #[.string (N j), .bool true]) ∧ w' = w := fun w h => by
              have := text_any h (kN N k j)
              rw [q3, q4] at this
              exact this
            clear q3 q4
            have hsame : ∀ m, m < k → longB (N m) = false → (kN N k m == kN N k j) = ((N m).toList == (N j).toList) := fun m hm hl => kN_same hlg hl hjl hm
            obtain ⟨K, hK⟩ : ∃ K, kN N k j = K := ⟨_, rfl⟩
            rw [hK] at n1 q1 q2 hT hsame
            clear hnj hlj
            have q0 : ¬ K < 0 := by omega
            go_wp2_with (first
              | (go_at_call 26; refine (hT _ hQ.tab).mono ?_; rintro e wt ⟨rfl, rfl⟩)
              | go_in)
            have n2 := cell_regrown n1
            have l2 := cell_regrown l1
            have hlenQ : ∀ d os, Calls Try.prog 25 #[.pointer (some ⟨w1.heap.size, 0, none⟩)] (grow (redrawn wt d) os) fun e w' => e = .returned (.int .i64 ((acc N k).length : Int)) ∧ Below (grow (redrawn wt d) os).heap.size (grow (redrawn wt d) os) w' := fun d os =>
              (len_any (hQ.after (below_regrown wt d os)).tab).mono (by rintro e w' ⟨rfl, rfl⟩; exact ⟨rfl, Below.refl _ _⟩)
            refine wp_region_quiet_below (by kernel_rfl) (by kernel_rfl) ?_
            repeat (first
              | go_big_quiet_step (first | (go_at_call 25; exact Calls.regrown_of (hlenQ _ _)))
              | quiet_step (first | (go_at_call 25; exact Calls.regrown_of (hlenQ _ _))))
            refine wpQuiet_nil ?_
            intro _ hw'
            obtain ⟨⟨dq, osq⟩, hw2⟩ := hw'
            subst hw2
            go_wp2
            have hQ2 := hQ.after (below_regrown wt dq osq)
            have n3 := n2 dq osq
            have l3 := l2 dq osq
            clear hlenQ n2 l2 n1 l1 hT
            generalize hwi : grow (redrawn wt dq) osq = wi at hQ2 n3 l3 ⊢
            go_loopw [11] (fun i wr => ∃ (m : Nat), m ≤ j ∧ i = .int .i64 m ∧ Mid w.heap.size w wr w1.heap.size (acc N k) F (.slice (some ⟨g, 0, none⟩) k cap4) k (kRow N k k)) (fun i _ => j - (intOf i).toNat)
            case atStart => exact ⟨0, Nat.zero_le _, rfl, hQ2⟩
            case round =>
              obtain ⟨m, hm, rfl, hI⟩ := hrel
              by_cases hmj : m < j
              · have hcj : ∀ m, m < k → wr.cell? ⟨g, m, none⟩ = some (.int .i64 (kN N k m)) := fun m hm => by
                  obtain ⟨g', e, _, h⟩ := int_cell hI.row hm
                  injection e with e; injection e with e; rw [e]; exact h
                have hlj : ∀ m, m < k → wr.cell? ⟨b, off + m, none⟩ = some (.string (N m)) := fun m hm => (hI.below.cell (p := ⟨b, off + m, none⟩) hb).trans (hc m hm)
                have a1 := cell_regrown (hcj m (by omega))
                have a2 := cell_regrown (hcj j hjl)
                rw [hK] at a2
                have a3 := cell_regrown (hlj m (by omega))
                have a4 := cell_regrown (hlj j hjl)
                clear hcj hlj
                cases hlm : longB (N m)
                · have hsm := hsame m (by omega) hlm
                  have hm0 := (kN_at (len := k) hlm (by omega : m < k)).1
                  clear hsame
                  go_wp2
                  refine wp_region_quiet_below (by kernel_rfl) (by kernel_rfl) ?_
                  repeat (first | go_big_quiet_step (fail) | quiet_step (fail))
                  refine wpQuiet_nil ?_
                  intro _ hw'
                  obtain ⟨⟨dr, osr⟩, hw2⟩ := hw'
                  subst hw2
                  go_wp2
                  exact ⟨⟨m + 1, by omega, by simp, hI.after (below_regrown wr dr osr)⟩, by simp [intOf]; omega⟩
                · rw [kN_long hlm] at a1
                  clear hsame
                  go_wp2
                  refine wp_region_quiet_below (by kernel_rfl) (by kernel_rfl) ?_
                  repeat (first | go_big_quiet_step (fail) | quiet_step (fail))
                  refine wpQuiet_nil ?_
                  intro _ hw'
                  obtain ⟨⟨dr, osr⟩, hw2⟩ := hw'
                  subst hw2
                  go_wp2
                  exact ⟨⟨m + 1, by omega, by simp, hI.after (below_regrown wr dr osr)⟩, by simp [intOf]; omega⟩
              · go_wp2
                exact ⟨⟨j + 1, by omega, by simp, hI⟩, by simp [intOf]; omega⟩
          · rw [kN_long hlg] at n1
            clear hnj hlj
            go_wp2
            exact ⟨⟨j + 1, by omega, by simp, hQ⟩, by simp [intOf]; omega⟩
        · go_wp2
          go_ret
          exact ⟨rfl, hQ.below⟩

theorem wordTexts_pos (b off len cap : Nat) (N : Nat → ByteArray) (w : World) (hlen : len ≤ 200) (hb : b < w.heap.size)
    (hc : ∀ j, j < len → w.cell? ⟨b, off + j, none⟩ = some (.string (N j))) :
    Calls Try.prog 8 #[.slice (some ⟨b, off, none⟩) len cap] w fun e w' => e = .returned (.bool true) ∧ Below w.heap.size w w' := by
  by_cases hpos : 0 < len
  · exact wordTexts_some b off len cap N w hlen hpos hb hc
  · obtain rfl : len = 0 := by omega
    exact wordTexts_none _ _ w
end Go.Proofs.Ytjeenmllohaleaa
