/- The reference's signs. -/
import Derived.Test.YtecgddiohoeboaaDoorLy1
import Derived.BigQuiet
namespace Go.Proofs.YtecgddiohoeboaaDoor
open Go.RowKit Go.Lib
attribute [local go_sem] store_float f64bits
attribute [local go_sem ↓] Go.wp_at_zero Go.wp_at_succ

theorem ext_list (s : ByteArray) (a b : Nat) : (s.extract a b).data.toList = (s.data.toList.drop a).take (b - a) := by simp [ByteArray.data_extract]

theorem sub_prefix (s : ByteArray) (i : Nat) (hi : i ≤ s.size) (x : ByteArray) : Lib.hasPrefix (s.extract i s.size).data.toList x.data.toList = (decide (i + x.size ≤ s.size) && ((s.extract i (i + x.size)).toList == x.toList)) := by
  unfold Lib.hasPrefix
  have hl : (s.data.toList.drop i).length = s.size - i := by rw [List.length_drop]; rfl
  have e1 : (s.extract i s.size).data.toList = s.data.toList.drop i := by rw [ext_list, List.take_of_length_le (by rw [hl]; exact Nat.le_refl _)]
  have e2 : (s.extract i (i + x.size)).data.toList = (s.data.toList.drop i).take x.size := by rw [ext_list, Nat.add_sub_cancel_left]
  rw [ByteArray.toList_eq, ByteArray.toList_eq, e1, e2]
  have hx : x.data.toList.length = x.size := rfl
  rw [Bool.eq_iff_iff]
  simp only [Bool.and_eq_true, decide_eq_true_eq, beq_iff_eq, List.isPrefixOf_iff_prefix]
  constructor
  · intro h
    have h1 := h.length_le
    rw [hl, hx] at h1
    exact ⟨by omega, by rw [← hx]; exact (List.prefix_iff_eq_take.1 h).symm⟩
  · rintro ⟨h1, h2⟩
    rw [← h2]
    exact List.take_prefix _ _

def sgS : Option (List UInt8) → ByteArray
  | some l => ⟨l.toArray⟩
  | none => ⟨#[]⟩

set_option maxHeartbeats 1000000 in
set_option maxRecDepth 1000000 in
theorem rsign_any (s : ByteArray) (i : Nat) (hi : i ≤ s.size) (hs : s.size ≤ 65536) (w : World) : Calls Tryd.prog 48 #[.string s, .int .i64 (i : Int)] w fun e w' => e = .returned (.string (sgS (signAt s i))) ∧ Below w.heap.size w w' := by
  have hpre : ∀ x : ByteArray, Lib.hasPrefix (s.extract i s.size).data.toList x.data.toList = (decide (i + x.size ≤ s.size) && ((s.extract i (i + x.size)).toList == x.toList)) := sub_prefix s i hi
  unfold signAt
  obtain ⟨Pf, hPf⟩ : ∃ Pf : List UInt8 → Bool, (fun l => Lib.hasPrefix (s.extract i s.size).data.toList l) = Pf := ⟨_, rfl⟩
  have hPl : ∀ l : List UInt8, Pf l = (decide (i + (⟨l.toArray⟩ : ByteArray).size ≤ s.size) && ((s.extract i (i + (⟨l.toArray⟩ : ByteArray).size)).toList == (⟨l.toArray⟩ : ByteArray).toList)) := fun l => by
    rw [← hPf]; exact hpre ⟨l.toArray⟩
  rw [hPf]
  obtain ⟨o, ho⟩ : ∃ o, signL.find? Pf = o := ⟨_, rfl⟩
  rw [ho]
  have hfs : (signL.drop 0).find? Pf = o := ho
  clear hpre hPf ho
  go_enter Tryd.func48, Tryd.ntmps48
  go_wp2_with fail
  generalize hW1 : World.alloc w _ = W1
  have hcell : ∀ j l, signL[j]? = some l → W1.cell? ⟨w.heap.size, j, none⟩ = some (.string ⟨l.toArray⟩) := by
    intro j l hl
    rw [← hW1, World.cell?_alloc_new]
    have hj : j < 27 := by
      have := (List.getElem?_eq_some_iff.1 hl).1
      simpa [signL] using this
    match j, hj, hl with
    | 0, _, hl => cases hl; rfl
    | 1, _, hl => cases hl; rfl
    | 2, _, hl => cases hl; rfl
    | 3, _, hl => cases hl; rfl
    | 4, _, hl => cases hl; rfl
    | 5, _, hl => cases hl; rfl
    | 6, _, hl => cases hl; rfl
    | 7, _, hl => cases hl; rfl
    | 8, _, hl => cases hl; rfl
    | 9, _, hl => cases hl; rfl
    | 10, _, hl => cases hl; rfl
    | 11, _, hl => cases hl; rfl
    | 12, _, hl => cases hl; rfl
    | 13, _, hl => cases hl; rfl
    | 14, _, hl => cases hl; rfl
    | 15, _, hl => cases hl; rfl
    | 16, _, hl => cases hl; rfl
    | 17, _, hl => cases hl; rfl
    | 18, _, hl => cases hl; rfl
    | 19, _, hl => cases hl; rfl
    | 20, _, hl => cases hl; rfl
    | 21, _, hl => cases hl; rfl
    | 22, _, hl => cases hl; rfl
    | 23, _, hl => cases hl; rfl
    | 24, _, hl => cases hl; rfl
    | 25, _, hl => cases hl; rfl
    | 26, _, hl => cases hl; rfl
  have hB1 : Below w.heap.size w W1 := by rw [← hW1]; exact below_new _ _
  have hlt1 : w.heap.size < W1.heap.size := by rw [← hW1]; simp
  clear hW1
  go_loopg [6] 27 (fun gf s6 wx => ∃ j : Nat, s6 = .int .i64 (j : Int) ∧ j + gf = 27 ∧ Below W1.heap.size W1 wx ∧ (signL.drop j).find? Pf = o)
  case atStart => exact ⟨0, rfl, rfl, Below.refl _ _, hfs⟩
  case round =>
    obtain ⟨j, rfl, hjg, hbw, hfi⟩ := hrel
    have HBW := hidb (hB1.trans (hbw.mono hB1.size))
    have HBW1 := hidb hbw
    by_cases hj : j < 27
    · obtain ⟨g', rfl⟩ : ∃ g', gk = g' + 1 := ⟨gk - 1, by omega⟩
      obtain ⟨l, hl⟩ := sign_has j hj
      have hmem : l ∈ signL := List.mem_of_getElem? hl
      have hd := sign_drop j l hl
      have hl3 := sign_len l hmem
      have hc0 : wr.cell? ⟨w.heap.size, j, none⟩ = some (.string ⟨l.toArray⟩) := (hbw.cell (p := ⟨w.heap.size, j, none⟩) hlt1).trans (hcell j l hl)
      rw [hd] at hfi
      have hp := hPl l
      have hsz : (⟨l.toArray⟩ : ByteArray).size = l.length := by simp [ByteArray.size]
      obtain ⟨x, hx⟩ : ∃ x, (⟨l.toArray⟩ : ByteArray) = x := ⟨_, rfl⟩
      rw [hx] at hc0 hp hsz
      have i0 : (0 : Int) ≤ (j : Int) := by omega
      have i1 : (j : Int) < 27 := by omega
      have i2 : (0 : Int) ≤ (i : Int) := by omega
      have hxs : x.size ≤ 3 := by omega
      have hw : IntKind.i64.wrap ((i : Int) + (x.size : Int)) = (i : Int) + (x.size : Int) := by rw [IntKind.wrap_i64]; omega
      have HX := hidb hx
      clear hmem hd hbw hcell hPl hx hl hsz hB1
      simp only [List.find?_cons] at hfi
      by_cases hle : i + x.size ≤ s.size
      · have i3 : (i : Int) + (x.size : Int) ≤ (s.size : Int) := by omega
        have i4 : (i : Int) ≤ (i : Int) + (x.size : Int) := by omega
        have hd1 : decide (i + x.size ≤ s.size) = true := by simpa using hle
        rw [hd1, Bool.true_and] at hp
        have htn : ((i : Int) + (x.size : Int)).toNat = i + x.size := by omega
        cases hq : ((s.extract i (i + x.size)).toList == x.toList) <;> rw [hq] at hp <;> rw [hp] at hfi <;> simp only at hfi
        · go_wp2_with fail
          go_region_held3 (fun w' => w'.cell? ⟨w.heap.size, j, none⟩ = some (.string x)) (go_keep) (fail)
          go_wp2_with fail
          go_roundg g'
          case measure => omega
          case rel => exact ⟨j + 1, by simp, by omega, HBW1.out.drew, hfi⟩
        · subst hfi
          go_wp2_with fail
          go_region_held3 (fun w' => w'.cell? ⟨w.heap.size, j, none⟩ = some (.string x)) (go_keep) (fail)
          go_wp2_with fail
          go_ret
          exact ⟨by rw [← HX.out]; rfl, HBW.out.drew⟩
      · have i5 : decide ((i : Int) + (x.size : Int) ≤ (s.size : Int)) = false := by simp; omega
        have hd1 : decide (i + x.size ≤ s.size) = false := by simpa using hle
        rw [hd1, Bool.false_and] at hp
        rw [hp] at hfi
        simp only at hfi
        clear hle hp hl3 hxs hd1
        go_wp2_with fail
        go_quiet (fail)
        go_wp2_with fail
        go_roundg g'
        case measure => omega
        case rel => exact ⟨j + 1, by simp, by omega, below_drewN HBW1.out _, hfi⟩
    · obtain rfl : j = 27 := by omega
      obtain rfl : none = o := (sign_none Pf).symm.trans hfi
      clear hcell hPl
      go_wp2_with fail
      go_ret
      exact ⟨rfl, HBW.out⟩
end Go.Proofs.YtecgddiohoeboaaDoor
