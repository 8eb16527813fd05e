/- All: the names, sorted by their bytes. -/
import Derived.Test.YtfhgohpldpnkbaaNm5
import Derived.Test.YtfhgohpldpnkbaaShelfS
import Derived.Maps.RangeWalk
import Derived.Maps.AppendAt
import Derived.OwnWalk
import Derived.LoopTactic
import Derived.Sort.OwnSorted
import Derived.LoopN
namespace Go.Proofs.Ytfhgohpldpnkbaa
open Go.RowKit Go.Lib Go.Maps Go.WideMaps Go.Sort

abbrev nms (R : List NP) : List Value := R.map fun x => .string x.1
theorem infoS : (Try.prog.info? 9).map (fun i => (i.zero, i.size, i.bytes)) = some (some (.string ⟨#[]⟩), 1, 16) := by kernel_rfl
theorem OwnD.mem {D : DataW Unit} {R : List NP} (h : OwnD D R) (hR : Reg R) (x : List UInt8) : Maps.has D (.string x) = true ↔ x ∈ R.map fun y => y.1.data.toList := by
  have := (h ⟨x.toArray⟩).1
  simp only [kS] at this
  rw [this, Option.isSome_iff_exists]
  constructor
  · rintro ⟨p, hp⟩
    exact List.mem_map.2 ⟨_, (whN_iff hR).1 hp, rfl⟩
  · intro hm
    obtain ⟨y, hy, rfl⟩ := List.mem_map.1 hm
    exact ⟨y.2, (whN_iff hR).2 (by simpa using hy)⟩
theorem sorted_names {D : DataW Unit} {R : List NP} (h : OwnD D R) (hR : Reg R) {ss : List (List UInt8)} {left : Lit → Bool} (hC : Collected D left ss) (hl : ∀ k, left k = false) : (ss.mergeSort (fun x y => decide (x ≤ y))).map encStr = nms R ∧ ss.length = R.length := by
  have hs : (R.map fun y => y.1.data.toList).Pairwise (· < ·) := List.pairwise_map.2 (hR.srt.imp fun h => ltT_iff.1 h)
  have hp : ss.Perm (R.map fun y => y.1.data.toList) := by
    refine (List.perm_ext_iff_of_nodup hC.1 (hs.imp fun h e => by rw [e] at h; exact List.lt_irrefl _ h)).2 fun x => ?_
    rw [hC.2 x, hl, ← h.mem hR]
    simp
  refine ⟨?_, by simpa using hp.length_eq⟩
  have e1 : ss.mergeSort (fun x y => decide (x ≤ y)) = R.map fun y => y.1.data.toList := by
    rw [mergeSort_of_perm hp]
    exact List.mergeSort_of_pairwise (hs.imp fun h => by simp only [decide_eq_true_eq]; exact List.le_of_lt h)
  rw [e1, List.map_map]
  rfl

theorem Below.grown_of {a b : World} (h : Below a.heap.size a b) : a.grownBy b none := ⟨h.os, h.tape, h.output, h.size, fun k hk _ => h.block k hk⟩

set_option maxRecDepth 100000 in
set_option maxHeartbeats 2000000 in
theorem pall {w : World} {b K : Nat} {D : Nat → Prop} {R : List NP} (h : PN w b D K R) (hK : K ≤ 1000000) :
    Calls Try.prog 12 #[.pointer (some ⟨b, 0, none⟩)] w fun e w' => ∃ g cap, e = .returned (.slice (some ⟨g, 0, none⟩) R.length cap) ∧ w'.ownsRow w.heap.size ST 1 (.slice (some ⟨g, 0, none⟩) R.length cap) R.length (nms R) ∧ Below w.heap.size w w' := by
  obtain ⟨m, h, hd⟩ := h
  obtain ⟨c0, c1, f0, f1, hlt⟩ := h.duo
  obtain ⟨i0, hi, hz0, hz1, hz2⟩ := info_parts infoS
  have hreg := h.reg
  rcases h.mp with ⟨rfl, rfl⟩ | ⟨a, c, D0, E0, rfl, hown, _, hO, _, n1, n2, n3⟩
  · simp only [Option.map_none] at c0
    have hlen := @Maps.len_nil Try.prog ST w MO OT undMO
    clear h hd c1 f0 f1 hreg
    go_enter Try.func12, Try.ntmps12
    go_wp2_with (first
      | (at_make; refine wpList_make_own _ rfl _ _ 27 rfl w.heap.size 9 i0 (.string ⟨#[]⟩) 1 Try.underlying27 hi hz0 hz1 _ _ _ 0 rfl rfl rfl (by omega) (Nat.zero_le _) (Nat.le_refl _) ?_; intro w1 hrow1 hg1
         have c0' : w1.cell? ⟨b, 0, none⟩ = some (.map none) := (World.cell?_of_block (hg1.block b hlt (by simp))).trans c0
         have hrg := run_range_nilMap (P := Try.prog) w1 MO ST OT undMO
         have hnx : ∀ ty, (Instr.next (.pointer (some ⟨w1.heap.size, 0, none⟩)) false ty).run Try.prog (w1.alloc (.mapIter none 0 #[] 0)) = _ := fun ty => run_next_nilMap _ ty 0 0 #[])
      | go_in)
    refine wp_loop_rounds 1 ?_
    rw [rounds_succ]
    have hrow2 := hrow1.alloc (.mapIter none 0 #[] 0)
    rcases hrow2.2 with ⟨hnil, _⟩ | ⟨g, cap, cur, hv, hbase, hb, h1, h2, h3, h4⟩
    · cases hnil
    cases hv
    have hH : Holds encStr (w1.alloc (.mapIter none 0 #[] 0)) w.heap.size 0 ([] : List (List UInt8)).toArray := fun j hj => absurd hj (by simp)
    have hc := Try.slices_Sort_string w.heap.size 0 0 [] _ hH (Array.getElem?_eq_some_iff.1 hb).1 (by decide)
    go_wp2_with (go_at_call 20; refine hc.mono ?_; rintro e w' ⟨rfl, nn, os, rfl⟩)
    go_ret
    exact ⟨_, _, rfl, ownsRow_sorted (ss := []) (ts := []) rfl hbase hb h1 h2 h3, (((Below.refl _ _).grown hg1 (Nat.le_refl _) (fun j hj => by cases hj)).alloc hg1.size _).grown (grownBy_sorted _) (by have := hg1.size; simp; omega) (fun j hj => by cases hj; exact Nat.le_refl _)⟩
  · simp only [Option.map_some] at c0
    have hbl := hown.lt
    have hmax := hown.size_le
    have hac : a ≠ b := n1
    clear h hd c1 f0 f1 n2 n3
    go_enter Try.func12, Try.ntmps12
    go_wp2_with (first
      | (at_len; refine wpList_len_own _ rfl _ MO rfl ST OT undMO _ a K _ rfl hown ?_)
      | (at_make; refine wpList_make_own _ rfl _ _ 27 rfl w.heap.size 9 i0 (.string ⟨#[]⟩) 1 Try.underlying27 hi hz0 hz1 _ _ _ (Maps.size D0) rfl rfl rfl (by rw [hz2]; omega) (by unfold maxLen; omega) (Nat.le_refl _) ?_; intro w1 hrow1 hg1
         have c0' : w1.cell? ⟨b, 0, none⟩ = some (.map (some a)) := (World.cell?_of_block (hg1.block b hlt (by simp))).trans c0)
      | (at_range; refine wpList_range_own _ rfl _ MO rfl ST OT lawS undMO _ a K _ rfl (hown.kept hg1 (by simp)) ?_; intro w0 hrg0 hg0 hs0)
      | go_in)
    go_frame
    go_loopw [3] (fun v wr => ∃ (left : Lit → Bool) (cnt : Nat) (ss : List (List UInt8)), wr.ranges Try.prog ST oElem a w1.heap.size K D0 left cnt ∧ ss.length + cnt ≤ Maps.size D0 ∧
        wr.ownsRow w.heap.size ST 1 v ss.length (ss.map encStr) ∧ v ≠ .slice none 0 0 ∧ Collected D0 left ss ∧ Below w.heap.size w wr)
      (fun _ wr => wr.rangeLeft a w1.heap.size)
    case atStart =>
      exact ⟨_, _, [], hrg0, by simp, hrow1.kept hg0 (Or.inr (by simp [Value.ownBlock])), by simp, Collected.start D0,
        ((Below.refl _ _).grown hg1 (Nat.le_refl _) (fun j hj => by cases hj)).grown hg0 hg1.size (fun j hj => by cases hj)⟩
    case round =>
      obtain ⟨left, cnt, ss, hrg, hcs, hrow, hnn, hC, hnx⟩ := hrel
      go_wp2_with (first
        | (at_next; refine wpList_next_ranges _ rfl _ rfl ST lawS oElem encStr (fun v : Value => v) (fun key kl hk => by obtain ⟨x, hx, _⟩ := Maps.keyOf_str Try.underlying9 hk; exact ⟨x, hx⟩) (fun v _ _ => ⟨v, rfl⟩) a w1.heap.size K _ _ _ rfl hrg ?_ ?_)
        | go_in)
      · intro hc0 hl0
        obtain ⟨hso, hln⟩ := sorted_names hO hreg hC hl0
        rcases hrow.2 with ⟨hnil, _⟩ | ⟨g, cap, cur, rfl, hbase, hb, h1, h2, h3, h4⟩
        · exact absurd hnil hnn
        have hH : Holds encStr wr g 0 ss.toArray := holds_of_block hb (by simpa using h4)
        have hgl : g < wr.heap.size := (Array.getElem?_eq_some_iff.1 hb).1
        have hc := Try.slices_Sort_string g 0 cap ss wr hH hgl (by omega)
        have HL := hidb hln
        clear hln
        go_wp2_with (go_at_call 20; refine hc.mono ?_; rintro e w' ⟨rfl, nn, os, rfl⟩)
        go_ret
        have hfin := ownsRow_sorted (n := nn) (os := os) (ts := ss.mergeSort (fun x y => decide (x ≤ y))) (by simp) hbase hb h1 h2 h3
        rw [hso] at hfin
        rw [HL.out] at hfin ⊢
        exact ⟨g, cap, rfl, hfin, hnx.grown (grownBy_sorted _) hnx.size (fun j hj => by cases hj; exact hbase)⟩
      · intro x c kl yd yp w2 cnt2 hkey hlk hv hat hrg2 hlt2 hg2 hs2 hen
        obtain ⟨x', ex, rfl, _⟩ := Maps.keyOf_str Try.underlying9 hkey
        obtain rfl : x = x' := encStr_inj ex
        have hrow2 := hrow.kept hg2 (Or.inr (row_ne_iter hrow hrg).symm)
        have hx64 : (⟨x.toArray⟩ : ByteArray).size ≤ 64 := by
          have hm := (hO.mem hreg x).1 (has_true_of_atKey hat)
          obtain ⟨y, hy, rfl⟩ := List.mem_map.1 hm
          have := (ok_size (hreg.ok y hy).1).2.1
          simpa using this
        have hstep := hC.step hlk hat
        have hnx2 := hnx.grown hg2 hnx.size (fun j hj => by cases hj; exact hg1.size)
        have hs23 := hg2.size
        have hnxs := hnx.size
        obtain ⟨xs, hxs⟩ : ∃ xs : ByteArray, (⟨x.toArray⟩ : ByteArray) = xs := ⟨_, rfl⟩
        have hxe : encStr x = .string xs := by simp only [encStr, hxs]
        rw [hxs] at hx64
        simp only [hxe] at hen ⊢
        have C := hidb (clone_any xs w2 hx64)
        clear hs2
        go_wp2_with (first
          | (go_at_call 19; refine C.out.mono ?_; clear C; rintro e w3 ⟨rfl, hb3⟩
             have hrow3 := hrow2.kept (Below.grown_of hb3) (by simp; exact Classical.em _)
             have hrg3 := hrg2.kept (Below.grown_of hb3) (by simp) (by simp))
          | (at_builtin; refine wpList_append_own _ rfl _ _ 27 rfl w.heap.size 9 i0 (.string ⟨#[]⟩) 1 16 Try.underlying27 hi hz0 hz1 hz2 rfl (by decide) _ _ _ rfl (hrow3.alloc _) ⟨w3.heap.size, 0, none⟩ 1 1 [.string xs] rfl rfl (cell_one_new _ _ _) (by simp [Value.oneCell']) (by unfold maxLen; omega) (by omega) (by have := hb3.size; simp; omega) ?_; intro v' w4 hown' hg4 hnil4; go_frame)
          | go_in)
        have hrg4 := (hrg3.alloc _).kept hg4 (row_ne_low hrow3 hbl) (row_ne_iter hrow3 hrg3)
        go_roundw
        case rel =>
          refine ⟨_, cnt2, ss ++ [x], hrg4, by simp; omega, by rw [List.map_append, List.map_cons, List.map_nil, hxe]; simpa using hown', fun hv' => by have := (hnil4.1 hv').2; omega, hstep, ?_⟩
          exact ((hnx2.trans (hb3.mono (by omega))).alloc (by have := hb3.size; omega) _).grown hg4 (by have := hb3.size; simp; omega) (fun j hj => (hrow3.lt j hj).1)
        case measure => rw [hrg4.left_eq, hrg.left_eq]; exact hlt2
end Go.Proofs.Ytfhgohpldpnkbaa
