/- The document's registry: Register. -/
import Derived.Test.YtfhgohpldpnkbaaNn3
import Derived.Test.YtfhgohpldpnkbaaNm5
namespace Go.Proofs.Ytfhgohpldpnkbaa
open Go.RowKit Go.Lib Go.Maps

set_option maxRecDepth 100000 in
set_option maxHeartbeats 4000000 in
theorem rreg_sn {w : World} {r n c0 c1 : Nat} {g0 : Nat} {E : Nat → Prop} {R : List NP} (hF : Fd w r (.slice (some ⟨g0, 0, none⟩) n c0) (.slice none n c1) n n (nms R) (pds R)) (hRN : RN w r E R) (hn : R.length = n) (hN : n ≤ 80000) (hnc0 : n ≤ c0) (hnc1 : n ≤ c1) (hz1c : c1 = 0) {s : ByteArray} {p : Int} (hm : may R s p = true) :
    Calls Try.prog 15 #[.pointer (some ⟨r, 0, none⟩), .string s, .int .i64 p] w fun e w' => e = .returned (.int .i64 0) ∧ RU w w' r E (insN R s p) := by
  subst hz1c
  obtain rfl : n = 0 := by omega
  obtain ⟨m1, m2, m3, m4⟩ := may_iff.1 hm
  obtain ⟨z1, z2, z3⟩ := ok_size m1
  have C1 : Hid (Calls Try.prog 9 #[.pointer (some ⟨r, 0, none⟩), .string s] w fun e w' => e = .returned (.tuple #[.int .i64 0, .bool false]) ∧ w' = w) := hidb (by have := rwhere hRN (by omega) s; rw [m2] at this; exact this)
  have C2 : Hid (Calls Try.prog 11 #[.pointer (some ⟨r, 0, none⟩), .int .i64 p] w fun e w' => e = .returned (.tuple #[.string ⟨#[]⟩, .bool false]) ∧ w' = w) := hidb (by have := rof hRN (by omega) p; rw [m4] at this; exact this)
  have e1 : ¬ s.toList = [] := fun e => by
    have : s = ⟨#[]⟩ := by
      apply ByteArray.ext
      rw [ByteArray.toList_eq] at e
      simpa using e
    rw [this] at z1; simp [ByteArray.size] at z1
  have e2 : (s.toList == []) = false := by simp [e1]
  have e3 : ¬ s.toList = [117, 110, 100, 101, 102, 105, 110, 101, 100] := fun e => by
    refine z3 (tl_inj ?_)
    rw [ByteArray.toList_eq] at e
    rw [e]; rfl
  have e4 : (s.toList == [117, 110, 100, 101, 102, 105, 110, 101, 100]) = false := by simp [e3]
  have e5 : ¬ (s.size : Int) > 64 := by omega
  have e6 : ¬ p < 1 := by omega
  have c00 := hF.duo.c0
  have c11 := hF.duo.c1
  have ff0 := hF.duo.f0
  have ff1 := hF.duo.f1
  have hrl := hF.duo.lt
  have HF := hidb hF
  have HRN := hidb hRN
  have HN : Hid (R.length = 0 ∧ 0 ≤ 80000 ∧ 0 ≤ c0 ∧ 0 ≤ 0) := hidb ⟨by omega, by omega, by omega, by omega⟩
  obtain ⟨i0, hi0, hz0, hz1, hz2⟩ := info_parts infoS
  obtain ⟨j0, hj0, hy0, hy1, hy2⟩ := info_parts infoI
  clear hm m1 m2 m3 m4 z1 z2 z3 hF hRN hn hN hnc0 hnc1
  go_enter Try.func15, Try.ntmps15
  go_wp2_with (first
    | (go_at_call 9; refine C1.out.mono ?_; clear C1; rintro e w' ⟨rfl, rfl⟩)
    | (go_at_call 11; refine C2.out.mono ?_; clear C2; rintro e w' ⟨rfl, rfl⟩))
  rename World => w
  clear e1 e2 e3 e4 e5 e6
  go_loopw [11] (fun iv wr => ∃ i : Nat, iv = .int .i64 (i : Int) ∧ i ≤ 0 ∧ i ≤ plc R s ∧ wr = w) (fun iv _ => 0 - (RowKit.intOf iv).toNat)
  case atStart => exact ⟨0, rfl, by omega, by omega, rfl⟩
  case round =>
  obtain ⟨i, rfl, hi, hf, rfl⟩ := hrel
  rename World => w
  have HI := hidb (And.intro hi hf)
  clear hi hf
  have s0 : (0 : Int) ≤ (i : Int) := by omega
  obtain ⟨lt, hlt⟩ : ∃ lt : Bool, (∃ y, R[i]? = some y ∧ ltT y.1 s = true) = (lt = true) := ⟨decide (∃ y, R[i]? = some y ∧ ltT y.1 s = true), by simp⟩
  cases lt
  case true =>
    obtain ⟨y, hy, hq⟩ := hlt.mpr rfl
    have := HN.out.1
    rw [List.getElem?_eq_none (by omega)] at hy
    cases hy
  have hpl : plc R s = i := by
    rcases Nat.lt_or_ge i R.length with k | k
    · have hy : R[i]? = some R[i] := List.getElem?_eq_getElem k
      refine plc_hit HI.out.2 hy ?_
      cases hq : ltT R[i].1 s
      · rfl
      · exact absurd (hlt.mp ⟨_, hy, hq⟩) (by simp)
    · have := plc_le R s
      have := HI.out.2
      omega
  have HPL : Hid (plc R s = i ∧ i ≤ 0) := hidb ⟨hpl, HI.out.1⟩
  by_cases hk0 : c0 = 0
  case pos =>
    subst c0
    obtain rfl : i = 0 := by have := HI.out.1; omega
    have s1 : ¬ ((0 : Nat) : Int) < 0 := by omega
    have s2 : (0 : Int) ≤ (0 : Int) := by omega
    have HW := hidb hrl
    have M1 : True := trivial
    have M2 : True := trivial
    have M3 : True := trivial
    have M4 : True := trivial
    have M5 : True := trivial
    have M6 : True := trivial
    clear hlt HI hpl
    have HAD0 : Hid ((if 0 = 0 then some (⟨g0, 0, none⟩ : Addr) else some ⟨g0, 0, none⟩) = some ⟨g0, 0, none⟩) := hidb (if_pos rfl)
    go_wp2_with (first
          | (at_builtin; clear M1; refine wpList_append_own_at _ rfl _ _ 27 rfl w.heap.size 9 i0 (.string ⟨#[]⟩) 1 16 Try.underlying27 hi0 hz0 hz1 hz2 rfl (by decide) (.slice (some ⟨w.heap.size, 0, none⟩) 0 0) 0 [] rfl (made0 w 9) ⟨g0, 0, none⟩ 0 0 (nms (R.take 0)) rfl (ntl HN.out.1 HPL.out.2) (by rw [← nms_take]; exact head_news HF.out.o0 (below_new _ _) (by have := HN.out; have := HPL.out; omega)) (nms_one _) (by have := HN.out; have := HPL.out; unfold maxLen; omega) (by have := HN.out; have := HPL.out; omega) (by simp) ?_; intro v1 Y1 hown1 hgrow1 hnil1 hat1
             have hb1 : Below w.heap.size w Y1 := (below_new w (.cells #[] 9)).grown hgrow1 (by simp) (fun k e => by have : k = w.heap.size := (by simpa [Value.ownBlock] using e.symm); omega)
             rw [Nat.zero_add, List.nil_append] at hown1
             obtain ⟨q1, d1, rfl, -⟩ := row_sl hown1
             clear hgrow1 hnil1 hat1)
          | (at_builtin; clear M2; refine wpList_append_own_at _ rfl _ _ 27 rfl w.heap.size 9 i0 (.string ⟨#[]⟩) 1 16 Try.underlying27 hi0 hz0 hz1 hz2 rfl (by decide) (.slice q1 0 d1) 0 _ rfl (hown1.alloc _) ⟨Y1.heap.size, 0, none⟩ 1 1 [.string s] rfl rfl (cell_one_new _ _ _) (by simp [Value.oneCell']) (by have := HN.out; have := HPL.out; unfold maxLen; omega) (by have := HN.out; have := HPL.out; omega) (by have := hb1.size; simp; omega) ?_; intro v2 Y2 hown2 hgrow2 hnil2 hat2
             have hb2 : Below w.heap.size w Y2 := (hb1.alloc hb1.size _).grown hgrow2 (by have := hb1.size; simp; omega) (fun k e => (hown1.lt k e).1)
             obtain ⟨q2, d2, rfl, -⟩ := row_sl hown2
             have HO2 := hidb (And.intro hown2 hb2)
             clear hgrow2 hnil2 hat2 hown1 hb1 hown2
             have c112 := (HF.out.keep hb2).duo.c1
             have hrl2 : r < Y2.heap.size := by have := hb2.size; have := HW.out; omega
             clear hb2)
          | (at_builtin; clear M3; refine wpList_append_own_none rfl _ _ 28 rfl Y2.heap.size 3 j0 1 Try.underlying28 hj0 _ 0 [] rfl (made0 Y2 3) rfl ?_
             have hb3 : Below Y2.heap.size Y2 (Y2.alloc (.cells #[] 3)) := below_new _ _
             have hown3 : (Y2.alloc (.cells #[] 3)).ownsRow Y2.heap.size 3 1 (.slice (some ⟨Y2.heap.size, 0, none⟩) 0 0) 0 (pds (R.take 0)) := made0 Y2 3
             obtain ⟨Y3, hY3⟩ : ∃ Y3, Y2.alloc (.cells #[] 3) = Y3 := ⟨_, rfl⟩
             rw [hY3] at hb3 hown3 ⊢
             obtain ⟨q3, hq3⟩ : ∃ q3, some (⟨Y2.heap.size, 0, none⟩ : Addr) = q3 := ⟨_, rfl⟩
             rw [hq3] at hown3 ⊢
             clear hY3 hq3)
          | (at_builtin; clear M4; refine wpList_append_own_at _ rfl _ _ 28 rfl Y2.heap.size 3 j0 (.int .i64 0) 1 8 Try.underlying28 hj0 hy0 hy1 hy2 rfl (by decide) (.slice q3 0 0) 0 _ rfl (hown3.alloc _) ⟨Y3.heap.size, 0, none⟩ 1 1 [.int .i64 p] rfl rfl (cell_one_new _ _ _) (by simp [Value.oneCell']) (by have := HN.out; have := HPL.out; unfold maxLen; omega) (by have := HN.out; have := HPL.out; omega) (by have := hb3.size; simp; omega) ?_; intro v4 Y4 hown4 hgrow4 hnil4 hat4
             have hb4 : Below Y2.heap.size Y2 Y4 := (hb3.alloc hb3.size _).grown hgrow4 (by have := hb3.size; simp; omega) (fun k e => (hown3.lt k e).1)
             have hb4w : Below w.heap.size w Y4 := HO2.out.2.trans (hb4.mono HO2.out.2.size)
             have hown24 := row_keep HO2.out.1 hb4
             have hF4 := HF.out.keep hb4w
             have c004 := hF4.duo.c0
             have f004 := hF4.duo.f0
             obtain ⟨q4, d4, rfl, -⟩ := row_sl hown4
             have hlt2 : ∀ k, (Value.slice q2 (0 + 1) d2).ownBlock = some k → w.heap.size ≤ k ∧ k < Y2.heap.size := fun k e => HO2.out.1.lt k e
             have HO4 := hidb (And.intro hown4 (And.intro hown24 (And.intro hb4w (And.intro hlt2 (And.intro hF4 hb4)))))
             clear hgrow4 hnil4 hat4 hown3 hb3 hown4 hb4 hown24 hlt2 hF4 c112
             have hrl4 : r < Y4.heap.size := by have := hb4w.size; have := HW.out; omega
             clear hb4w)
          | (at_builtin; clear M5; refine wpList_append_own_at _ rfl _ _ 27 rfl w.heap.size 9 i0 (.string ⟨#[]⟩) 1 16 Try.underlying27 hi0 hz0 hz1 hz2 rfl (by decide) (.slice q2 (0 + 1) d2) (0 + 1) _ rfl HO4.out.2.1 ⟨g0, 0, none⟩ 0 0 (nms (R.drop 0)) rfl (ndl HN.out.1 HPL.out.2) (by rw [← nms_drop]; exact cut_from HF.out.o0 HO4.out.2.2.1 (by have := HN.out; have := HPL.out; omega) HAD0.out) (nms_one _) (by have := HN.out; have := HPL.out; unfold maxLen; omega) (by have := HN.out; have := HPL.out; omega) (by have := HO4.out.2.2.1.size; omega) ?_; intro v5 Y5 hown5 hgrow5 hnil5 hat5
             obtain ⟨hb5, hown45, hsep⟩ := after5 HO4.out.1 HO4.out.2.2.1 HO4.out.2.2.2.1 hgrow5 hat5
             obtain ⟨q5, d5, rfl, -⟩ := row_sl hown5
             have hF5 := HF.out.keep hb5
             have c05 := hF5.duo.c0
             have f05 := hF5.duo.f0
             obtain ⟨hF6, hbt6, hg6⟩ := HF.out.new0 hb5 hown5
             have c16 := hF6.duo.c1
             have HO6 := hidb (And.intro hF6 (And.intro hbt6 hg6))
             have HO5 := hidb (And.intro hown45 (And.intro hsep (show Y4.heap.size ≤ Y5.heap.size from hgrow5.size)))
             have HB2 := hidb HO2.out.2.size
             have hrl5 : r < Y5.heap.size := by have := hb5.size; have := HW.out; omega
             clear hb5 hown45 hsep hown5 hgrow5 hnil5 hat5 hF5 hF6 hbt6 hg6)
          | (at_builtin; clear M6; refine wpList_append_own_none rfl _ _ 28 rfl Y2.heap.size 3 j0 1 Try.underlying28 hj0 _ _ _ rfl (row_but HO5.out.1 ((But.refl (fun k => k = r) Y5).setCell (p := ⟨r, 0, none⟩) (fun _ => rfl) _) (fun k e e' => by have := (HO5.out.1.lt k e).1; have := HW.out; have := HB2.out; omega)) rfl ?_
             obtain ⟨v6, hv6⟩ : ∃ v6, Value.slice q4 (0 + 1) d4 = v6 := ⟨_, rfl⟩
             have hown6 : (Y5.setCell ⟨r, 0, none⟩ (.slice q5 (0 + 1 + 0) d5)).ownsRow Y2.heap.size 3 1 v6 (0 + 1) (pds (R.take 0) ++ [.int .i64 p] ++ pds (R.drop 0)) := by rw [← hv6, show R.drop 0 = [] from by have := HN.out.1; simpa using List.eq_nil_of_length_eq_zero this, show pds [] = [] from rfl, List.append_nil]; exact (row_but HO5.out.1 ((But.refl (fun k => k = r) Y5).setCell (p := ⟨r, 0, none⟩) (fun _ => rfl) _) (fun k e e' => by have := (HO5.out.1.lt k e).1; have := HW.out; have := HB2.out; omega))
             have hgrow6 : (Y5.setCell ⟨r, 0, none⟩ (.slice q5 (0 + 1 + 0) d5)).grownBy (Y5.setCell ⟨r, 0, none⟩ (.slice q5 (0 + 1 + 0) d5)) (Value.slice q4 (0 + 1) d4).ownBlock := World.grownBy.refl _ _
             have hat6 := trivial
             have hnil6 := trivial
             rw [show Value.slice q4 (0 + 1) d4 = v6 from hv6]
             clear hv6
             obtain ⟨hRU, c17, f17⟩ := rn_end (E := E) (R' := insN R s p) HW.out HB2.out HO6.out.1 HO6.out.2.1 (fun k e => by have := HO6.out.2.2 k e; simpa using this) (fun k e => (HO5.out.1.lt k e).1) HO5.out.2.1 hgrow6 hown6 (by rw [← ins_names R s p, HPL.out.1]) (by rw [← ins_pids R s p, HPL.out.1])
             obtain ⟨q6, d6, rfl, -⟩ := row_sl hown6
             have HRU := hidb hRU
             clear hRU hown6 hgrow6 hnil6 hat6))
    go_ret
    exact ⟨rfl, HRU.out⟩
  case neg =>
    obtain rfl : i = 0 := by have := HI.out.1; omega
    have s1 : ¬ ((0 : Nat) : Int) < 0 := by omega
    have s2 : (0 : Int) ≤ (c0 : Int) := by omega
    have HW := hidb hrl
    have M1 : True := trivial
    have M2 : True := trivial
    have M3 : True := trivial
    have M4 : True := trivial
    have M5 : True := trivial
    have M6 : True := trivial
    clear hlt HI hpl
    have HAD0 : Hid ((if c0 = 0 then some (⟨g0, 0, none⟩ : Addr) else some ⟨g0, 0, none⟩) = some ⟨g0, 0, none⟩) := hidb (if_neg hk0)
    go_wp2_with (first
          | (at_builtin; clear M1; refine wpList_append_own_at _ rfl _ _ 27 rfl w.heap.size 9 i0 (.string ⟨#[]⟩) 1 16 Try.underlying27 hi0 hz0 hz1 hz2 rfl (by decide) (.slice (some ⟨w.heap.size, 0, none⟩) 0 0) 0 [] rfl (made0 w 9) ⟨g0, 0, none⟩ 0 c0 (nms (R.take 0)) rfl (ntl HN.out.1 HPL.out.2) (by rw [← nms_take]; exact head_news HF.out.o0 (below_new _ _) (by have := HN.out; have := HPL.out; omega)) (nms_one _) (by have := HN.out; have := HPL.out; unfold maxLen; omega) (by have := HN.out; have := HPL.out; omega) (by simp) ?_; intro v1 Y1 hown1 hgrow1 hnil1 hat1
             have hb1 : Below w.heap.size w Y1 := (below_new w (.cells #[] 9)).grown hgrow1 (by simp) (fun k e => by have : k = w.heap.size := (by simpa [Value.ownBlock] using e.symm); omega)
             rw [Nat.zero_add, List.nil_append] at hown1
             obtain ⟨q1, d1, rfl, -⟩ := row_sl hown1
             clear hgrow1 hnil1 hat1)
          | (at_builtin; clear M2; refine wpList_append_own_at _ rfl _ _ 27 rfl w.heap.size 9 i0 (.string ⟨#[]⟩) 1 16 Try.underlying27 hi0 hz0 hz1 hz2 rfl (by decide) (.slice q1 0 d1) 0 _ rfl (hown1.alloc _) ⟨Y1.heap.size, 0, none⟩ 1 1 [.string s] rfl rfl (cell_one_new _ _ _) (by simp [Value.oneCell']) (by have := HN.out; have := HPL.out; unfold maxLen; omega) (by have := HN.out; have := HPL.out; omega) (by have := hb1.size; simp; omega) ?_; intro v2 Y2 hown2 hgrow2 hnil2 hat2
             have hb2 : Below w.heap.size w Y2 := (hb1.alloc hb1.size _).grown hgrow2 (by have := hb1.size; simp; omega) (fun k e => (hown1.lt k e).1)
             obtain ⟨q2, d2, rfl, -⟩ := row_sl hown2
             have HO2 := hidb (And.intro hown2 hb2)
             clear hgrow2 hnil2 hat2 hown1 hb1 hown2
             have c112 := (HF.out.keep hb2).duo.c1
             have hrl2 : r < Y2.heap.size := by have := hb2.size; have := HW.out; omega
             clear hb2)
          | (at_builtin; clear M3; refine wpList_append_own_none rfl _ _ 28 rfl Y2.heap.size 3 j0 1 Try.underlying28 hj0 _ 0 [] rfl (made0 Y2 3) rfl ?_
             have hb3 : Below Y2.heap.size Y2 (Y2.alloc (.cells #[] 3)) := below_new _ _
             have hown3 : (Y2.alloc (.cells #[] 3)).ownsRow Y2.heap.size 3 1 (.slice (some ⟨Y2.heap.size, 0, none⟩) 0 0) 0 (pds (R.take 0)) := made0 Y2 3
             obtain ⟨Y3, hY3⟩ : ∃ Y3, Y2.alloc (.cells #[] 3) = Y3 := ⟨_, rfl⟩
             rw [hY3] at hb3 hown3 ⊢
             obtain ⟨q3, hq3⟩ : ∃ q3, some (⟨Y2.heap.size, 0, none⟩ : Addr) = q3 := ⟨_, rfl⟩
             rw [hq3] at hown3 ⊢
             clear hY3 hq3)
          | (at_builtin; clear M4; refine wpList_append_own_at _ rfl _ _ 28 rfl Y2.heap.size 3 j0 (.int .i64 0) 1 8 Try.underlying28 hj0 hy0 hy1 hy2 rfl (by decide) (.slice q3 0 0) 0 _ rfl (hown3.alloc _) ⟨Y3.heap.size, 0, none⟩ 1 1 [.int .i64 p] rfl rfl (cell_one_new _ _ _) (by simp [Value.oneCell']) (by have := HN.out; have := HPL.out; unfold maxLen; omega) (by have := HN.out; have := HPL.out; omega) (by have := hb3.size; simp; omega) ?_; intro v4 Y4 hown4 hgrow4 hnil4 hat4
             have hb4 : Below Y2.heap.size Y2 Y4 := (hb3.alloc hb3.size _).grown hgrow4 (by have := hb3.size; simp; omega) (fun k e => (hown3.lt k e).1)
             have hb4w : Below w.heap.size w Y4 := HO2.out.2.trans (hb4.mono HO2.out.2.size)
             have hown24 := row_keep HO2.out.1 hb4
             have hF4 := HF.out.keep hb4w
             have c004 := hF4.duo.c0
             have f004 := hF4.duo.f0
             obtain ⟨q4, d4, rfl, -⟩ := row_sl hown4
             have hlt2 : ∀ k, (Value.slice q2 (0 + 1) d2).ownBlock = some k → w.heap.size ≤ k ∧ k < Y2.heap.size := fun k e => HO2.out.1.lt k e
             have HO4 := hidb (And.intro hown4 (And.intro hown24 (And.intro hb4w (And.intro hlt2 (And.intro hF4 hb4)))))
             clear hgrow4 hnil4 hat4 hown3 hb3 hown4 hb4 hown24 hlt2 hF4 c112
             have hrl4 : r < Y4.heap.size := by have := hb4w.size; have := HW.out; omega
             clear hb4w)
          | (at_builtin; clear M5; refine wpList_append_own_at _ rfl _ _ 27 rfl w.heap.size 9 i0 (.string ⟨#[]⟩) 1 16 Try.underlying27 hi0 hz0 hz1 hz2 rfl (by decide) (.slice q2 (0 + 1) d2) (0 + 1) _ rfl HO4.out.2.1 ⟨g0, 0, none⟩ 0 c0 (nms (R.drop 0)) rfl (ndl HN.out.1 HPL.out.2) (by rw [← nms_drop]; exact cut_from HF.out.o0 HO4.out.2.2.1 (by have := HN.out; have := HPL.out; omega) HAD0.out) (nms_one _) (by have := HN.out; have := HPL.out; unfold maxLen; omega) (by have := HN.out; have := HPL.out; omega) (by have := HO4.out.2.2.1.size; omega) ?_; intro v5 Y5 hown5 hgrow5 hnil5 hat5
             obtain ⟨hb5, hown45, hsep⟩ := after5 HO4.out.1 HO4.out.2.2.1 HO4.out.2.2.2.1 hgrow5 hat5
             obtain ⟨q5, d5, rfl, -⟩ := row_sl hown5
             have hF5 := HF.out.keep hb5
             have c05 := hF5.duo.c0
             have f05 := hF5.duo.f0
             obtain ⟨hF6, hbt6, hg6⟩ := HF.out.new0 hb5 hown5
             have c16 := hF6.duo.c1
             have HO6 := hidb (And.intro hF6 (And.intro hbt6 hg6))
             have HO5 := hidb (And.intro hown45 (And.intro hsep (show Y4.heap.size ≤ Y5.heap.size from hgrow5.size)))
             have HB2 := hidb HO2.out.2.size
             have hrl5 : r < Y5.heap.size := by have := hb5.size; have := HW.out; omega
             clear hb5 hown45 hsep hown5 hgrow5 hnil5 hat5 hF5 hF6 hbt6 hg6)
          | (at_builtin; clear M6; refine wpList_append_own_none rfl _ _ 28 rfl Y2.heap.size 3 j0 1 Try.underlying28 hj0 _ _ _ rfl (row_but HO5.out.1 ((But.refl (fun k => k = r) Y5).setCell (p := ⟨r, 0, none⟩) (fun _ => rfl) _) (fun k e e' => by have := (HO5.out.1.lt k e).1; have := HW.out; have := HB2.out; omega)) rfl ?_
             obtain ⟨v6, hv6⟩ : ∃ v6, Value.slice q4 (0 + 1) d4 = v6 := ⟨_, rfl⟩
             have hown6 : (Y5.setCell ⟨r, 0, none⟩ (.slice q5 (0 + 1 + 0) d5)).ownsRow Y2.heap.size 3 1 v6 (0 + 1) (pds (R.take 0) ++ [.int .i64 p] ++ pds (R.drop 0)) := by rw [← hv6, show R.drop 0 = [] from by have := HN.out.1; simpa using List.eq_nil_of_length_eq_zero this, show pds [] = [] from rfl, List.append_nil]; exact (row_but HO5.out.1 ((But.refl (fun k => k = r) Y5).setCell (p := ⟨r, 0, none⟩) (fun _ => rfl) _) (fun k e e' => by have := (HO5.out.1.lt k e).1; have := HW.out; have := HB2.out; omega))
             have hgrow6 : (Y5.setCell ⟨r, 0, none⟩ (.slice q5 (0 + 1 + 0) d5)).grownBy (Y5.setCell ⟨r, 0, none⟩ (.slice q5 (0 + 1 + 0) d5)) (Value.slice q4 (0 + 1) d4).ownBlock := World.grownBy.refl _ _
             have hat6 := trivial
             have hnil6 := trivial
             rw [show Value.slice q4 (0 + 1) d4 = v6 from hv6]
             clear hv6
             obtain ⟨hRU, c17, f17⟩ := rn_end (E := E) (R' := insN R s p) HW.out HB2.out HO6.out.1 HO6.out.2.1 (fun k e => by have := HO6.out.2.2 k e; simpa using this) (fun k e => (HO5.out.1.lt k e).1) HO5.out.2.1 hgrow6 hown6 (by rw [← ins_names R s p, HPL.out.1]) (by rw [← ins_pids R s p, HPL.out.1])
             obtain ⟨q6, d6, rfl, -⟩ := row_sl hown6
             have HRU := hidb hRU
             clear hRU hown6 hgrow6 hnil6 hat6))
    go_ret
    exact ⟨rfl, HRU.out⟩

set_option maxRecDepth 100000 in
set_option maxHeartbeats 4000000 in
theorem rreg_ns {w : World} {r n c0 c1 : Nat} {g1 : Nat} {E : Nat → Prop} {R : List NP} (hF : Fd w r (.slice none n c0) (.slice (some ⟨g1, 0, none⟩) n c1) n n (nms R) (pds R)) (hRN : RN w r E R) (hn : R.length = n) (hN : n ≤ 80000) (hnc0 : n ≤ c0) (hnc1 : n ≤ c1) (hz0c : c0 = 0) {s : ByteArray} {p : Int} (hm : may R s p = true) :
    Calls Try.prog 15 #[.pointer (some ⟨r, 0, none⟩), .string s, .int .i64 p] w fun e w' => e = .returned (.int .i64 0) ∧ RU w w' r E (insN R s p) := by
  subst hz0c
  obtain rfl : n = 0 := by omega
  obtain ⟨m1, m2, m3, m4⟩ := may_iff.1 hm
  obtain ⟨z1, z2, z3⟩ := ok_size m1
  have C1 : Hid (Calls Try.prog 9 #[.pointer (some ⟨r, 0, none⟩), .string s] w fun e w' => e = .returned (.tuple #[.int .i64 0, .bool false]) ∧ w' = w) := hidb (by have := rwhere hRN (by omega) s; rw [m2] at this; exact this)
  have C2 : Hid (Calls Try.prog 11 #[.pointer (some ⟨r, 0, none⟩), .int .i64 p] w fun e w' => e = .returned (.tuple #[.string ⟨#[]⟩, .bool false]) ∧ w' = w) := hidb (by have := rof hRN (by omega) p; rw [m4] at this; exact this)
  have e1 : ¬ s.toList = [] := fun e => by
    have : s = ⟨#[]⟩ := by
      apply ByteArray.ext
      rw [ByteArray.toList_eq] at e
      simpa using e
    rw [this] at z1; simp [ByteArray.size] at z1
  have e2 : (s.toList == []) = false := by simp [e1]
  have e3 : ¬ s.toList = [117, 110, 100, 101, 102, 105, 110, 101, 100] := fun e => by
    refine z3 (tl_inj ?_)
    rw [ByteArray.toList_eq] at e
    rw [e]; rfl
  have e4 : (s.toList == [117, 110, 100, 101, 102, 105, 110, 101, 100]) = false := by simp [e3]
  have e5 : ¬ (s.size : Int) > 64 := by omega
  have e6 : ¬ p < 1 := by omega
  have c00 := hF.duo.c0
  have c11 := hF.duo.c1
  have ff0 := hF.duo.f0
  have ff1 := hF.duo.f1
  have hrl := hF.duo.lt
  have HF := hidb hF
  have HRN := hidb hRN
  have HN : Hid (R.length = 0 ∧ 0 ≤ 80000 ∧ 0 ≤ 0 ∧ 0 ≤ c1) := hidb ⟨by omega, by omega, by omega, by omega⟩
  obtain ⟨i0, hi0, hz0, hz1, hz2⟩ := info_parts infoS
  obtain ⟨j0, hj0, hy0, hy1, hy2⟩ := info_parts infoI
  clear hm m1 m2 m3 m4 z1 z2 z3 hF hRN hn hN hnc0 hnc1
  go_enter Try.func15, Try.ntmps15
  go_wp2_with (first
    | (go_at_call 9; refine C1.out.mono ?_; clear C1; rintro e w' ⟨rfl, rfl⟩)
    | (go_at_call 11; refine C2.out.mono ?_; clear C2; rintro e w' ⟨rfl, rfl⟩))
  rename World => w
  clear e1 e2 e3 e4 e5 e6
  go_loopw [11] (fun iv wr => ∃ i : Nat, iv = .int .i64 (i : Int) ∧ i ≤ 0 ∧ i ≤ plc R s ∧ wr = w) (fun iv _ => 0 - (RowKit.intOf iv).toNat)
  case atStart => exact ⟨0, rfl, by omega, by omega, rfl⟩
  case round =>
  obtain ⟨i, rfl, hi, hf, rfl⟩ := hrel
  rename World => w
  have HI := hidb (And.intro hi hf)
  clear hi hf
  have s0 : (0 : Int) ≤ (i : Int) := by omega
  obtain ⟨lt, hlt⟩ : ∃ lt : Bool, (∃ y, R[i]? = some y ∧ ltT y.1 s = true) = (lt = true) := ⟨decide (∃ y, R[i]? = some y ∧ ltT y.1 s = true), by simp⟩
  cases lt
  case true =>
    obtain ⟨y, hy, hq⟩ := hlt.mpr rfl
    have := HN.out.1
    rw [List.getElem?_eq_none (by omega)] at hy
    cases hy
  have hpl : plc R s = i := by
    rcases Nat.lt_or_ge i R.length with k | k
    · have hy : R[i]? = some R[i] := List.getElem?_eq_getElem k
      refine plc_hit HI.out.2 hy ?_
      cases hq : ltT R[i].1 s
      · rfl
      · exact absurd (hlt.mp ⟨_, hy, hq⟩) (by simp)
    · have := plc_le R s
      have := HI.out.2
      omega
  have HPL : Hid (plc R s = i ∧ i ≤ 0) := hidb ⟨hpl, HI.out.1⟩
  by_cases hk1 : c1 = 0
  case pos =>
    subst c1
    obtain rfl : i = 0 := by have := HI.out.1; omega
    have s1 : ¬ ((0 : Nat) : Int) < 0 := by omega
    have s3 : (0 : Int) ≤ (0 : Int) := by omega
    have HW := hidb hrl
    have M1 : True := trivial
    have M2 : True := trivial
    have M3 : True := trivial
    have M4 : True := trivial
    have M5 : True := trivial
    have M6 : True := trivial
    clear hlt HI hpl
    have HAD1 : Hid ((if 0 = 0 then some (⟨g1, 0, none⟩ : Addr) else some ⟨g1, 0, none⟩) = some ⟨g1, 0, none⟩) := hidb (if_pos rfl)
    go_wp2_with (first
          | (at_builtin; clear M1; refine wpList_append_own_none rfl _ _ 27 rfl w.heap.size 9 i0 1 Try.underlying27 hi0 _ 0 [] rfl (made0 w 9) rfl ?_
             have hb1 : Below w.heap.size w (w.alloc (.cells #[] 9)) := below_new _ _
             have hown1 : (w.alloc (.cells #[] 9)).ownsRow w.heap.size 9 1 (.slice (some ⟨w.heap.size, 0, none⟩) 0 0) 0 (nms (R.take 0)) := made0 w 9
             obtain ⟨Y1, hY1⟩ : ∃ Y1, w.alloc (.cells #[] 9) = Y1 := ⟨_, rfl⟩
             rw [hY1] at hb1 hown1 ⊢
             obtain ⟨q1, hq1⟩ : ∃ q1, some (⟨w.heap.size, 0, none⟩ : Addr) = q1 := ⟨_, rfl⟩
             rw [hq1] at hown1 ⊢
             clear hY1 hq1)
          | (at_builtin; clear M2; refine wpList_append_own_at _ rfl _ _ 27 rfl w.heap.size 9 i0 (.string ⟨#[]⟩) 1 16 Try.underlying27 hi0 hz0 hz1 hz2 rfl (by decide) (.slice q1 0 0) 0 _ rfl (hown1.alloc _) ⟨Y1.heap.size, 0, none⟩ 1 1 [.string s] rfl rfl (cell_one_new _ _ _) (by simp [Value.oneCell']) (by have := HN.out; have := HPL.out; unfold maxLen; omega) (by have := HN.out; have := HPL.out; omega) (by have := hb1.size; simp; omega) ?_; intro v2 Y2 hown2 hgrow2 hnil2 hat2
             have hb2 : Below w.heap.size w Y2 := (hb1.alloc hb1.size _).grown hgrow2 (by have := hb1.size; simp; omega) (fun k e => (hown1.lt k e).1)
             obtain ⟨q2, d2, rfl, -⟩ := row_sl hown2
             have HO2 := hidb (And.intro hown2 hb2)
             clear hgrow2 hnil2 hat2 hown1 hb1 hown2
             have c112 := (HF.out.keep hb2).duo.c1
             have hrl2 : r < Y2.heap.size := by have := hb2.size; have := HW.out; omega
             clear hb2)
          | (at_builtin; clear M3; refine wpList_append_own_at _ rfl _ _ 28 rfl Y2.heap.size 3 j0 (.int .i64 0) 1 8 Try.underlying28 hj0 hy0 hy1 hy2 rfl (by decide) (.slice (some ⟨Y2.heap.size, 0, none⟩) 0 0) 0 [] rfl (made0 Y2 3) ⟨g1, 0, none⟩ 0 0 (pds (R.take 0)) rfl (ptl HN.out.1 HPL.out.2) (by rw [← pds_take]; exact head_news HF.out.o1 (HO2.out.2.trans ((below_new Y2 _).mono HO2.out.2.size)) (by have := HN.out; have := HPL.out; omega)) (pds_one _) (by have := HN.out; have := HPL.out; unfold maxLen; omega) (by have := HN.out; have := HPL.out; omega) (by simp) ?_; intro v3 Y3 hown3 hgrow3 hnil3 hat3
             have hb3 : Below Y2.heap.size Y2 Y3 := (below_new Y2 (.cells #[] 3)).grown hgrow3 (by simp) (fun k e => by have : k = Y2.heap.size := (by simpa [Value.ownBlock] using e.symm); omega)
             rw [Nat.zero_add, List.nil_append] at hown3
             obtain ⟨q3, d3, rfl, -⟩ := row_sl hown3
             clear hgrow3 hnil3 hat3)
          | (at_builtin; clear M4; refine wpList_append_own_at _ rfl _ _ 28 rfl Y2.heap.size 3 j0 (.int .i64 0) 1 8 Try.underlying28 hj0 hy0 hy1 hy2 rfl (by decide) (.slice q3 0 d3) 0 _ rfl (hown3.alloc _) ⟨Y3.heap.size, 0, none⟩ 1 1 [.int .i64 p] rfl rfl (cell_one_new _ _ _) (by simp [Value.oneCell']) (by have := HN.out; have := HPL.out; unfold maxLen; omega) (by have := HN.out; have := HPL.out; omega) (by have := hb3.size; simp; omega) ?_; intro v4 Y4 hown4 hgrow4 hnil4 hat4
             have hb4 : Below Y2.heap.size Y2 Y4 := (hb3.alloc hb3.size _).grown hgrow4 (by have := hb3.size; simp; omega) (fun k e => (hown3.lt k e).1)
             have hb4w : Below w.heap.size w Y4 := HO2.out.2.trans (hb4.mono HO2.out.2.size)
             have hown24 := row_keep HO2.out.1 hb4
             have hF4 := HF.out.keep hb4w
             have c004 := hF4.duo.c0
             have f004 := hF4.duo.f0
             obtain ⟨q4, d4, rfl, -⟩ := row_sl hown4
             have hlt2 : ∀ k, (Value.slice q2 (0 + 1) d2).ownBlock = some k → w.heap.size ≤ k ∧ k < Y2.heap.size := fun k e => HO2.out.1.lt k e
             have HO4 := hidb (And.intro hown4 (And.intro hown24 (And.intro hb4w (And.intro hlt2 (And.intro hF4 hb4)))))
             clear hgrow4 hnil4 hat4 hown3 hb3 hown4 hb4 hown24 hlt2 hF4 c112
             have hrl4 : r < Y4.heap.size := by have := hb4w.size; have := HW.out; omega
             clear hb4w)
          | (at_builtin; clear M5; refine wpList_append_own_none rfl _ _ 27 rfl w.heap.size 9 i0 1 Try.underlying27 hi0 _ _ _ rfl HO4.out.2.1 rfl ?_
             obtain ⟨v5, hv5⟩ : ∃ v5, Value.slice q2 (0 + 1) d2 = v5 := ⟨_, rfl⟩
             have hown5 : Y4.ownsRow w.heap.size 9 1 v5 (0 + 1) (nms (R.take 0) ++ [.string s] ++ nms (R.drop 0)) := by rw [← hv5, show R.drop 0 = [] from by have := HN.out.1; simpa using List.eq_nil_of_length_eq_zero this, show nms [] = [] from rfl, List.append_nil]; exact HO4.out.2.1
             have hgrow5 : Y4.grownBy Y4 (Value.slice q2 (0 + 1) d2).ownBlock := World.grownBy.refl _ _
             have hat5 : v5.ownBlock = (Value.slice q2 (0 + 1) d2).ownBlock ∨ v5.ownBlock = some Y4.heap.size := .inl (by rw [hv5])
             have hnil5 := trivial
             rw [show Value.slice q2 (0 + 1) d2 = v5 from hv5]
             clear hv5
             obtain ⟨hb5, hown45, hsep⟩ := after5 HO4.out.1 HO4.out.2.2.1 HO4.out.2.2.2.1 hgrow5 hat5
             obtain ⟨q5, d5, rfl, -⟩ := row_sl hown5
             have hF5 := HF.out.keep hb5
             have c05 := hF5.duo.c0
             have f05 := hF5.duo.f0
             obtain ⟨hF6, hbt6, hg6⟩ := HF.out.new0 hb5 hown5
             have c16 := hF6.duo.c1
             have HO6 := hidb (And.intro hF6 (And.intro hbt6 hg6))
             have HO5 := hidb (And.intro hown45 (And.intro hsep (show Y4.heap.size ≤ Y4.heap.size from hgrow5.size)))
             have HB2 := hidb HO2.out.2.size
             have hrl5 : r < Y4.heap.size := by have := hb5.size; have := HW.out; omega
             clear hb5 hown45 hsep hown5 hgrow5 hnil5 hat5 hF5 hF6 hbt6 hg6)
          | (at_builtin; clear M6; refine wpList_append_own_at _ rfl _ _ 28 rfl Y2.heap.size 3 j0 (.int .i64 0) 1 8 Try.underlying28 hj0 hy0 hy1 hy2 rfl (by decide) (.slice q4 (0 + 1) d4) (0 + 1) _ rfl (row_but HO5.out.1 ((But.refl (fun k => k = r) Y4).setCell (p := ⟨r, 0, none⟩) (fun _ => rfl) _) (fun k e e' => by have := (HO5.out.1.lt k e).1; have := HW.out; have := HB2.out; omega)) ⟨g1, 0, none⟩ 0 0 (pds (R.drop 0)) rfl (pdl HN.out.1 HPL.out.2) (by rw [← pds_drop]; exact cut_from HO6.out.1.o1 (Below.refl _ _) (by have := HN.out; have := HPL.out; omega) HAD1.out) (pds_one _) (by have := HN.out; have := HPL.out; unfold maxLen; omega) (by have := HN.out; have := HPL.out; omega) (by have := HO4.out.2.2.2.2.2.size; have := HO5.out.2.2; simp; omega) ?_; intro v6 Y6 hown6 hgrow6 hnil6 hat6
             obtain ⟨hRU, c17, f17⟩ := rn_end (E := E) (R' := insN R s p) HW.out HB2.out HO6.out.1 HO6.out.2.1 (fun k e => by have := HO6.out.2.2 k e; simpa using this) (fun k e => (HO5.out.1.lt k e).1) HO5.out.2.1 hgrow6 hown6 (by rw [← ins_names R s p, HPL.out.1]) (by rw [← ins_pids R s p, HPL.out.1])
             obtain ⟨q6, d6, rfl, -⟩ := row_sl hown6
             have HRU := hidb hRU
             clear hRU hown6 hgrow6 hnil6 hat6))
    go_ret
    exact ⟨rfl, HRU.out⟩
  case neg =>
    obtain rfl : i = 0 := by have := HI.out.1; omega
    have s1 : ¬ ((0 : Nat) : Int) < 0 := by omega
    have s3 : (0 : Int) ≤ (c1 : Int) := by omega
    have HW := hidb hrl
    have M1 : True := trivial
    have M2 : True := trivial
    have M3 : True := trivial
    have M4 : True := trivial
    have M5 : True := trivial
    have M6 : True := trivial
    clear hlt HI hpl
    have HAD1 : Hid ((if c1 = 0 then some (⟨g1, 0, none⟩ : Addr) else some ⟨g1, 0, none⟩) = some ⟨g1, 0, none⟩) := hidb (if_neg hk1)
    go_wp2_with (first
          | (at_builtin; clear M1; refine wpList_append_own_none rfl _ _ 27 rfl w.heap.size 9 i0 1 Try.underlying27 hi0 _ 0 [] rfl (made0 w 9) rfl ?_
             have hb1 : Below w.heap.size w (w.alloc (.cells #[] 9)) := below_new _ _
             have hown1 : (w.alloc (.cells #[] 9)).ownsRow w.heap.size 9 1 (.slice (some ⟨w.heap.size, 0, none⟩) 0 0) 0 (nms (R.take 0)) := made0 w 9
             obtain ⟨Y1, hY1⟩ : ∃ Y1, w.alloc (.cells #[] 9) = Y1 := ⟨_, rfl⟩
             rw [hY1] at hb1 hown1 ⊢
             obtain ⟨q1, hq1⟩ : ∃ q1, some (⟨w.heap.size, 0, none⟩ : Addr) = q1 := ⟨_, rfl⟩
             rw [hq1] at hown1 ⊢
             clear hY1 hq1)
          | (at_builtin; clear M2; refine wpList_append_own_at _ rfl _ _ 27 rfl w.heap.size 9 i0 (.string ⟨#[]⟩) 1 16 Try.underlying27 hi0 hz0 hz1 hz2 rfl (by decide) (.slice q1 0 0) 0 _ rfl (hown1.alloc _) ⟨Y1.heap.size, 0, none⟩ 1 1 [.string s] rfl rfl (cell_one_new _ _ _) (by simp [Value.oneCell']) (by have := HN.out; have := HPL.out; unfold maxLen; omega) (by have := HN.out; have := HPL.out; omega) (by have := hb1.size; simp; omega) ?_; intro v2 Y2 hown2 hgrow2 hnil2 hat2
             have hb2 : Below w.heap.size w Y2 := (hb1.alloc hb1.size _).grown hgrow2 (by have := hb1.size; simp; omega) (fun k e => (hown1.lt k e).1)
             obtain ⟨q2, d2, rfl, -⟩ := row_sl hown2
             have HO2 := hidb (And.intro hown2 hb2)
             clear hgrow2 hnil2 hat2 hown1 hb1 hown2
             have c112 := (HF.out.keep hb2).duo.c1
             have hrl2 : r < Y2.heap.size := by have := hb2.size; have := HW.out; omega
             clear hb2)
          | (at_builtin; clear M3; refine wpList_append_own_at _ rfl _ _ 28 rfl Y2.heap.size 3 j0 (.int .i64 0) 1 8 Try.underlying28 hj0 hy0 hy1 hy2 rfl (by decide) (.slice (some ⟨Y2.heap.size, 0, none⟩) 0 0) 0 [] rfl (made0 Y2 3) ⟨g1, 0, none⟩ 0 c1 (pds (R.take 0)) rfl (ptl HN.out.1 HPL.out.2) (by rw [← pds_take]; exact head_news HF.out.o1 (HO2.out.2.trans ((below_new Y2 _).mono HO2.out.2.size)) (by have := HN.out; have := HPL.out; omega)) (pds_one _) (by have := HN.out; have := HPL.out; unfold maxLen; omega) (by have := HN.out; have := HPL.out; omega) (by simp) ?_; intro v3 Y3 hown3 hgrow3 hnil3 hat3
             have hb3 : Below Y2.heap.size Y2 Y3 := (below_new Y2 (.cells #[] 3)).grown hgrow3 (by simp) (fun k e => by have : k = Y2.heap.size := (by simpa [Value.ownBlock] using e.symm); omega)
             rw [Nat.zero_add, List.nil_append] at hown3
             obtain ⟨q3, d3, rfl, -⟩ := row_sl hown3
             clear hgrow3 hnil3 hat3)
          | (at_builtin; clear M4; refine wpList_append_own_at _ rfl _ _ 28 rfl Y2.heap.size 3 j0 (.int .i64 0) 1 8 Try.underlying28 hj0 hy0 hy1 hy2 rfl (by decide) (.slice q3 0 d3) 0 _ rfl (hown3.alloc _) ⟨Y3.heap.size, 0, none⟩ 1 1 [.int .i64 p] rfl rfl (cell_one_new _ _ _) (by simp [Value.oneCell']) (by have := HN.out; have := HPL.out; unfold maxLen; omega) (by have := HN.out; have := HPL.out; omega) (by have := hb3.size; simp; omega) ?_; intro v4 Y4 hown4 hgrow4 hnil4 hat4
             have hb4 : Below Y2.heap.size Y2 Y4 := (hb3.alloc hb3.size _).grown hgrow4 (by have := hb3.size; simp; omega) (fun k e => (hown3.lt k e).1)
             have hb4w : Below w.heap.size w Y4 := HO2.out.2.trans (hb4.mono HO2.out.2.size)
             have hown24 := row_keep HO2.out.1 hb4
             have hF4 := HF.out.keep hb4w
             have c004 := hF4.duo.c0
             have f004 := hF4.duo.f0
             obtain ⟨q4, d4, rfl, -⟩ := row_sl hown4
             have hlt2 : ∀ k, (Value.slice q2 (0 + 1) d2).ownBlock = some k → w.heap.size ≤ k ∧ k < Y2.heap.size := fun k e => HO2.out.1.lt k e
             have HO4 := hidb (And.intro hown4 (And.intro hown24 (And.intro hb4w (And.intro hlt2 (And.intro hF4 hb4)))))
             clear hgrow4 hnil4 hat4 hown3 hb3 hown4 hb4 hown24 hlt2 hF4 c112
             have hrl4 : r < Y4.heap.size := by have := hb4w.size; have := HW.out; omega
             clear hb4w)
          | (at_builtin; clear M5; refine wpList_append_own_none rfl _ _ 27 rfl w.heap.size 9 i0 1 Try.underlying27 hi0 _ _ _ rfl HO4.out.2.1 rfl ?_
             obtain ⟨v5, hv5⟩ : ∃ v5, Value.slice q2 (0 + 1) d2 = v5 := ⟨_, rfl⟩
             have hown5 : Y4.ownsRow w.heap.size 9 1 v5 (0 + 1) (nms (R.take 0) ++ [.string s] ++ nms (R.drop 0)) := by rw [← hv5, show R.drop 0 = [] from by have := HN.out.1; simpa using List.eq_nil_of_length_eq_zero this, show nms [] = [] from rfl, List.append_nil]; exact HO4.out.2.1
             have hgrow5 : Y4.grownBy Y4 (Value.slice q2 (0 + 1) d2).ownBlock := World.grownBy.refl _ _
             have hat5 : v5.ownBlock = (Value.slice q2 (0 + 1) d2).ownBlock ∨ v5.ownBlock = some Y4.heap.size := .inl (by rw [hv5])
             have hnil5 := trivial
             rw [show Value.slice q2 (0 + 1) d2 = v5 from hv5]
             clear hv5
             obtain ⟨hb5, hown45, hsep⟩ := after5 HO4.out.1 HO4.out.2.2.1 HO4.out.2.2.2.1 hgrow5 hat5
             obtain ⟨q5, d5, rfl, -⟩ := row_sl hown5
             have hF5 := HF.out.keep hb5
             have c05 := hF5.duo.c0
             have f05 := hF5.duo.f0
             obtain ⟨hF6, hbt6, hg6⟩ := HF.out.new0 hb5 hown5
             have c16 := hF6.duo.c1
             have HO6 := hidb (And.intro hF6 (And.intro hbt6 hg6))
             have HO5 := hidb (And.intro hown45 (And.intro hsep (show Y4.heap.size ≤ Y4.heap.size from hgrow5.size)))
             have HB2 := hidb HO2.out.2.size
             have hrl5 : r < Y4.heap.size := by have := hb5.size; have := HW.out; omega
             clear hb5 hown45 hsep hown5 hgrow5 hnil5 hat5 hF5 hF6 hbt6 hg6)
          | (at_builtin; clear M6; refine wpList_append_own_at _ rfl _ _ 28 rfl Y2.heap.size 3 j0 (.int .i64 0) 1 8 Try.underlying28 hj0 hy0 hy1 hy2 rfl (by decide) (.slice q4 (0 + 1) d4) (0 + 1) _ rfl (row_but HO5.out.1 ((But.refl (fun k => k = r) Y4).setCell (p := ⟨r, 0, none⟩) (fun _ => rfl) _) (fun k e e' => by have := (HO5.out.1.lt k e).1; have := HW.out; have := HB2.out; omega)) ⟨g1, 0, none⟩ 0 c1 (pds (R.drop 0)) rfl (pdl HN.out.1 HPL.out.2) (by rw [← pds_drop]; exact cut_from HO6.out.1.o1 (Below.refl _ _) (by have := HN.out; have := HPL.out; omega) HAD1.out) (pds_one _) (by have := HN.out; have := HPL.out; unfold maxLen; omega) (by have := HN.out; have := HPL.out; omega) (by have := HO4.out.2.2.2.2.2.size; have := HO5.out.2.2; simp; omega) ?_; intro v6 Y6 hown6 hgrow6 hnil6 hat6
             obtain ⟨hRU, c17, f17⟩ := rn_end (E := E) (R' := insN R s p) HW.out HB2.out HO6.out.1 HO6.out.2.1 (fun k e => by have := HO6.out.2.2 k e; simpa using this) (fun k e => (HO5.out.1.lt k e).1) HO5.out.2.1 hgrow6 hown6 (by rw [← ins_names R s p, HPL.out.1]) (by rw [← ins_pids R s p, HPL.out.1])
             obtain ⟨q6, d6, rfl, -⟩ := row_sl hown6
             have HRU := hidb hRU
             clear hRU hown6 hgrow6 hnil6 hat6))
    go_ret
    exact ⟨rfl, HRU.out⟩

set_option maxRecDepth 100000 in
set_option maxHeartbeats 4000000 in
theorem rreg_nn {w : World} {r n c0 c1 : Nat} {E : Nat → Prop} {R : List NP} (hF : Fd w r (.slice none n c0) (.slice none n c1) n n (nms R) (pds R)) (hRN : RN w r E R) (hn : R.length = n) (hN : n ≤ 80000) (hnc0 : n ≤ c0) (hnc1 : n ≤ c1) (hz0c : c0 = 0) (hz1c : c1 = 0) {s : ByteArray} {p : Int} (hm : may R s p = true) :
    Calls Try.prog 15 #[.pointer (some ⟨r, 0, none⟩), .string s, .int .i64 p] w fun e w' => e = .returned (.int .i64 0) ∧ RU w w' r E (insN R s p) := by
  subst hz0c
  obtain rfl : n = 0 := by omega
  subst hz1c
  obtain ⟨m1, m2, m3, m4⟩ := may_iff.1 hm
  obtain ⟨z1, z2, z3⟩ := ok_size m1
  have C1 : Hid (Calls Try.prog 9 #[.pointer (some ⟨r, 0, none⟩), .string s] w fun e w' => e = .returned (.tuple #[.int .i64 0, .bool false]) ∧ w' = w) := hidb (by have := rwhere hRN (by omega) s; rw [m2] at this; exact this)
  have C2 : Hid (Calls Try.prog 11 #[.pointer (some ⟨r, 0, none⟩), .int .i64 p] w fun e w' => e = .returned (.tuple #[.string ⟨#[]⟩, .bool false]) ∧ w' = w) := hidb (by have := rof hRN (by omega) p; rw [m4] at this; exact this)
  have e1 : ¬ s.toList = [] := fun e => by
    have : s = ⟨#[]⟩ := by
      apply ByteArray.ext
      rw [ByteArray.toList_eq] at e
      simpa using e
    rw [this] at z1; simp [ByteArray.size] at z1
  have e2 : (s.toList == []) = false := by simp [e1]
  have e3 : ¬ s.toList = [117, 110, 100, 101, 102, 105, 110, 101, 100] := fun e => by
    refine z3 (tl_inj ?_)
    rw [ByteArray.toList_eq] at e
    rw [e]; rfl
  have e4 : (s.toList == [117, 110, 100, 101, 102, 105, 110, 101, 100]) = false := by simp [e3]
  have e5 : ¬ (s.size : Int) > 64 := by omega
  have e6 : ¬ p < 1 := by omega
  have c00 := hF.duo.c0
  have c11 := hF.duo.c1
  have ff0 := hF.duo.f0
  have ff1 := hF.duo.f1
  have hrl := hF.duo.lt
  have HF := hidb hF
  have HRN := hidb hRN
  have HN : Hid (R.length = 0 ∧ 0 ≤ 80000 ∧ 0 ≤ 0 ∧ 0 ≤ 0) := hidb ⟨by omega, by omega, by omega, by omega⟩
  obtain ⟨i0, hi0, hz0, hz1, hz2⟩ := info_parts infoS
  obtain ⟨j0, hj0, hy0, hy1, hy2⟩ := info_parts infoI
  clear hm m1 m2 m3 m4 z1 z2 z3 hF hRN hn hN hnc0 hnc1
  go_enter Try.func15, Try.ntmps15
  go_wp2_with (first
    | (go_at_call 9; refine C1.out.mono ?_; clear C1; rintro e w' ⟨rfl, rfl⟩)
    | (go_at_call 11; refine C2.out.mono ?_; clear C2; rintro e w' ⟨rfl, rfl⟩))
  rename World => w
  clear e1 e2 e3 e4 e5 e6
  go_loopw [11] (fun iv wr => ∃ i : Nat, iv = .int .i64 (i : Int) ∧ i ≤ 0 ∧ i ≤ plc R s ∧ wr = w) (fun iv _ => 0 - (RowKit.intOf iv).toNat)
  case atStart => exact ⟨0, rfl, by omega, by omega, rfl⟩
  case round =>
  obtain ⟨i, rfl, hi, hf, rfl⟩ := hrel
  rename World => w
  have HI := hidb (And.intro hi hf)
  clear hi hf
  have s0 : (0 : Int) ≤ (i : Int) := by omega
  obtain ⟨lt, hlt⟩ : ∃ lt : Bool, (∃ y, R[i]? = some y ∧ ltT y.1 s = true) = (lt = true) := ⟨decide (∃ y, R[i]? = some y ∧ ltT y.1 s = true), by simp⟩
  cases lt
  case true =>
    obtain ⟨y, hy, hq⟩ := hlt.mpr rfl
    have := HN.out.1
    rw [List.getElem?_eq_none (by omega)] at hy
    cases hy
  have hpl : plc R s = i := by
    rcases Nat.lt_or_ge i R.length with k | k
    · have hy : R[i]? = some R[i] := List.getElem?_eq_getElem k
      refine plc_hit HI.out.2 hy ?_
      cases hq : ltT R[i].1 s
      · rfl
      · exact absurd (hlt.mp ⟨_, hy, hq⟩) (by simp)
    · have := plc_le R s
      have := HI.out.2
      omega
  have HPL : Hid (plc R s = i ∧ i ≤ 0) := hidb ⟨hpl, HI.out.1⟩
  obtain rfl : i = 0 := by have := HI.out.1; omega
  have s1 : ¬ ((0 : Nat) : Int) < 0 := by omega
  have HW := hidb hrl
  have M1 : True := trivial
  have M2 : True := trivial
  have M3 : True := trivial
  have M4 : True := trivial
  have M5 : True := trivial
  have M6 : True := trivial
  clear hlt HI hpl
  go_wp2_with (first
        | (at_builtin; clear M1; refine wpList_append_own_none rfl _ _ 27 rfl w.heap.size 9 i0 1 Try.underlying27 hi0 _ 0 [] rfl (made0 w 9) rfl ?_
           have hb1 : Below w.heap.size w (w.alloc (.cells #[] 9)) := below_new _ _
           have hown1 : (w.alloc (.cells #[] 9)).ownsRow w.heap.size 9 1 (.slice (some ⟨w.heap.size, 0, none⟩) 0 0) 0 (nms (R.take 0)) := made0 w 9
           obtain ⟨Y1, hY1⟩ : ∃ Y1, w.alloc (.cells #[] 9) = Y1 := ⟨_, rfl⟩
           rw [hY1] at hb1 hown1 ⊢
           obtain ⟨q1, hq1⟩ : ∃ q1, some (⟨w.heap.size, 0, none⟩ : Addr) = q1 := ⟨_, rfl⟩
           rw [hq1] at hown1 ⊢
           clear hY1 hq1)
        | (at_builtin; clear M2; refine wpList_append_own_at _ rfl _ _ 27 rfl w.heap.size 9 i0 (.string ⟨#[]⟩) 1 16 Try.underlying27 hi0 hz0 hz1 hz2 rfl (by decide) (.slice q1 0 0) 0 _ rfl (hown1.alloc _) ⟨Y1.heap.size, 0, none⟩ 1 1 [.string s] rfl rfl (cell_one_new _ _ _) (by simp [Value.oneCell']) (by have := HN.out; have := HPL.out; unfold maxLen; omega) (by have := HN.out; have := HPL.out; omega) (by have := hb1.size; simp; omega) ?_; intro v2 Y2 hown2 hgrow2 hnil2 hat2
           have hb2 : Below w.heap.size w Y2 := (hb1.alloc hb1.size _).grown hgrow2 (by have := hb1.size; simp; omega) (fun k e => (hown1.lt k e).1)
           obtain ⟨q2, d2, rfl, -⟩ := row_sl hown2
           have HO2 := hidb (And.intro hown2 hb2)
           clear hgrow2 hnil2 hat2 hown1 hb1 hown2
           have c112 := (HF.out.keep hb2).duo.c1
           have hrl2 : r < Y2.heap.size := by have := hb2.size; have := HW.out; omega
           clear hb2)
        | (at_builtin; clear M3; refine wpList_append_own_none rfl _ _ 28 rfl Y2.heap.size 3 j0 1 Try.underlying28 hj0 _ 0 [] rfl (made0 Y2 3) rfl ?_
           have hb3 : Below Y2.heap.size Y2 (Y2.alloc (.cells #[] 3)) := below_new _ _
           have hown3 : (Y2.alloc (.cells #[] 3)).ownsRow Y2.heap.size 3 1 (.slice (some ⟨Y2.heap.size, 0, none⟩) 0 0) 0 (pds (R.take 0)) := made0 Y2 3
           obtain ⟨Y3, hY3⟩ : ∃ Y3, Y2.alloc (.cells #[] 3) = Y3 := ⟨_, rfl⟩
           rw [hY3] at hb3 hown3 ⊢
           obtain ⟨q3, hq3⟩ : ∃ q3, some (⟨Y2.heap.size, 0, none⟩ : Addr) = q3 := ⟨_, rfl⟩
           rw [hq3] at hown3 ⊢
           clear hY3 hq3)
        | (at_builtin; clear M4; refine wpList_append_own_at _ rfl _ _ 28 rfl Y2.heap.size 3 j0 (.int .i64 0) 1 8 Try.underlying28 hj0 hy0 hy1 hy2 rfl (by decide) (.slice q3 0 0) 0 _ rfl (hown3.alloc _) ⟨Y3.heap.size, 0, none⟩ 1 1 [.int .i64 p] rfl rfl (cell_one_new _ _ _) (by simp [Value.oneCell']) (by have := HN.out; have := HPL.out; unfold maxLen; omega) (by have := HN.out; have := HPL.out; omega) (by have := hb3.size; simp; omega) ?_; intro v4 Y4 hown4 hgrow4 hnil4 hat4
           have hb4 : Below Y2.heap.size Y2 Y4 := (hb3.alloc hb3.size _).grown hgrow4 (by have := hb3.size; simp; omega) (fun k e => (hown3.lt k e).1)
           have hb4w : Below w.heap.size w Y4 := HO2.out.2.trans (hb4.mono HO2.out.2.size)
           have hown24 := row_keep HO2.out.1 hb4
           have hF4 := HF.out.keep hb4w
           have c004 := hF4.duo.c0
           have f004 := hF4.duo.f0
           obtain ⟨q4, d4, rfl, -⟩ := row_sl hown4
           have hlt2 : ∀ k, (Value.slice q2 (0 + 1) d2).ownBlock = some k → w.heap.size ≤ k ∧ k < Y2.heap.size := fun k e => HO2.out.1.lt k e
           have HO4 := hidb (And.intro hown4 (And.intro hown24 (And.intro hb4w (And.intro hlt2 (And.intro hF4 hb4)))))
           clear hgrow4 hnil4 hat4 hown3 hb3 hown4 hb4 hown24 hlt2 hF4 c112
           have hrl4 : r < Y4.heap.size := by have := hb4w.size; have := HW.out; omega
           clear hb4w)
        | (at_builtin; clear M5; refine wpList_append_own_none rfl _ _ 27 rfl w.heap.size 9 i0 1 Try.underlying27 hi0 _ _ _ rfl HO4.out.2.1 rfl ?_
           obtain ⟨v5, hv5⟩ : ∃ v5, Value.slice q2 (0 + 1) d2 = v5 := ⟨_, rfl⟩
           have hown5 : Y4.ownsRow w.heap.size 9 1 v5 (0 + 1) (nms (R.take 0) ++ [.string s] ++ nms (R.drop 0)) := by rw [← hv5, show R.drop 0 = [] from by have := HN.out.1; simpa using List.eq_nil_of_length_eq_zero this, show nms [] = [] from rfl, List.append_nil]; exact HO4.out.2.1
           have hgrow5 : Y4.grownBy Y4 (Value.slice q2 (0 + 1) d2).ownBlock := World.grownBy.refl _ _
           have hat5 : v5.ownBlock = (Value.slice q2 (0 + 1) d2).ownBlock ∨ v5.ownBlock = some Y4.heap.size := .inl (by rw [hv5])
           have hnil5 := trivial
           rw [show Value.slice q2 (0 + 1) d2 = v5 from hv5]
           clear hv5
           obtain ⟨hb5, hown45, hsep⟩ := after5 HO4.out.1 HO4.out.2.2.1 HO4.out.2.2.2.1 hgrow5 hat5
           obtain ⟨q5, d5, rfl, -⟩ := row_sl hown5
           have hF5 := HF.out.keep hb5
           have c05 := hF5.duo.c0
           have f05 := hF5.duo.f0
           obtain ⟨hF6, hbt6, hg6⟩ := HF.out.new0 hb5 hown5
           have c16 := hF6.duo.c1
           have HO6 := hidb (And.intro hF6 (And.intro hbt6 hg6))
           have HO5 := hidb (And.intro hown45 (And.intro hsep (show Y4.heap.size ≤ Y4.heap.size from hgrow5.size)))
           have HB2 := hidb HO2.out.2.size
           have hrl5 : r < Y4.heap.size := by have := hb5.size; have := HW.out; omega
           clear hb5 hown45 hsep hown5 hgrow5 hnil5 hat5 hF5 hF6 hbt6 hg6)
        | (at_builtin; clear M6; refine wpList_append_own_none rfl _ _ 28 rfl Y2.heap.size 3 j0 1 Try.underlying28 hj0 _ _ _ rfl (row_but HO5.out.1 ((But.refl (fun k => k = r) Y4).setCell (p := ⟨r, 0, none⟩) (fun _ => rfl) _) (fun k e e' => by have := (HO5.out.1.lt k e).1; have := HW.out; have := HB2.out; omega)) rfl ?_
           obtain ⟨v6, hv6⟩ : ∃ v6, Value.slice q4 (0 + 1) d4 = v6 := ⟨_, rfl⟩
           have hown6 : (Y4.setCell ⟨r, 0, none⟩ (.slice q5 (0 + 1) d5)).ownsRow Y2.heap.size 3 1 v6 (0 + 1) (pds (R.take 0) ++ [.int .i64 p] ++ pds (R.drop 0)) := by rw [← hv6, show R.drop 0 = [] from by have := HN.out.1; simpa using List.eq_nil_of_length_eq_zero this, show pds [] = [] from rfl, List.append_nil]; exact (row_but HO5.out.1 ((But.refl (fun k => k = r) Y4).setCell (p := ⟨r, 0, none⟩) (fun _ => rfl) _) (fun k e e' => by have := (HO5.out.1.lt k e).1; have := HW.out; have := HB2.out; omega))
           have hgrow6 : (Y4.setCell ⟨r, 0, none⟩ (.slice q5 (0 + 1) d5)).grownBy (Y4.setCell ⟨r, 0, none⟩ (.slice q5 (0 + 1) d5)) (Value.slice q4 (0 + 1) d4).ownBlock := World.grownBy.refl _ _
           have hat6 := trivial
           have hnil6 := trivial
           rw [show Value.slice q4 (0 + 1) d4 = v6 from hv6]
           clear hv6
           obtain ⟨hRU, c17, f17⟩ := rn_end (E := E) (R' := insN R s p) HW.out HB2.out HO6.out.1 HO6.out.2.1 (fun k e => by have := HO6.out.2.2 k e; simpa using this) (fun k e => (HO5.out.1.lt k e).1) HO5.out.2.1 hgrow6 hown6 (by rw [← ins_names R s p, HPL.out.1]) (by rw [← ins_pids R s p, HPL.out.1])
           obtain ⟨q6, d6, rfl, -⟩ := row_sl hown6
           have HRU := hidb hRU
           clear hRU hown6 hgrow6 hnil6 hat6))
  go_ret
  exact ⟨rfl, HRU.out⟩

end Go.Proofs.Ytfhgohpldpnkbaa
