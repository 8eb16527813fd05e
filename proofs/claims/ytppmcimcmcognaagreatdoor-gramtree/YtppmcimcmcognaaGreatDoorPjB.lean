import Derived.Test.YtppmcimcmcognaaGreatDoorG31
import Derived.Test.YtppmcimcmcognaaGreatDoorG33
import Derived.Test.YtppmcimcmcognaaGreatDoorG19
import Derived.Deep.OwnRows
import Derived.Deep.LoopGhost
import Derived.BigQuiet
/- GramTree, walked. -/
namespace Go.Proofs.YtppmcimcmcognaaGreatDoor
open Go.RowKit Go.Lib
attribute [local go_sem] store_float f64bits
attribute [local go_sem ↓] Go.wp_at_zero Go.wp_at_succ

/-- A row of counts in memory. -/
structure OC (w : World) (g N : Nat) (f : Nat → Nat) : Prop where
  c : ∀ j, j < N → w.cell? ⟨g, j, none⟩ = some (.int .i64 ((f j : Nat) : Int))
  z : ∀ j, j < N → w.frozen? ⟨g, j, none⟩ = false
  lt : g < w.heap.size
theorem OC.but {S : Nat → Prop} {w w' : World} {g N : Nat} {f : Nat → Nat} (h : OC w g N f) (hb : But S w w') (hs : ¬ S g) : OC w' g N f :=
  ⟨fun j hj => (hb.cell (p := ⟨g, j, none⟩) h.lt hs).trans (h.c j hj), fun j hj => (hb.frozen (p := ⟨g, j, none⟩) h.lt hs).trans (h.z j hj), Nat.lt_of_lt_of_le h.lt hb.size⟩
theorem OC.bump {w : World} {g N x : Nat} {f f' : Nat → Nat} (h : OC w g N f) (hf : ∀ j, f' j = f j + if x = j then 1 else 0) : OC (w.setCell ⟨g, x, none⟩ (.int .i64 ((f x : Int) + 1))) g N f' := by
  refine ⟨fun j hj => ?_, fun j hj => by rw [World.frozen?_setCell]; exact h.z j hj, by simp [World.setCell]; exact h.lt⟩
  by_cases hxj : x = j
  · subst hxj
    rw [World.cell?_setCell_same _ _ _ (h.c x hj), hf x, if_pos rfl]
    simp
  · rw [World.cell?_setCell_other _ _ _ _ (by intro he; cases he; exact hxj rfl), h.c j hj, hf j, if_neg hxj]
    rfl
theorem OC.as {w : World} {g N : Nat} {f f' : Nat → Nat} (h : OC w g N f) (hf : ∀ j, j < N → f j = f' j) : OC w g N f' := ⟨fun j hj => by rw [h.c j hj, hf j hj], h.z, h.lt⟩
theorem OC.made (w : World) (t : TypeId) (N : Nat) : OC (w.alloc (.cells (madeCells #[.int .i64 0] N) t)) w.heap.size N (fun _ => 0) :=
  ⟨fun j hj => by rw [World.cell?_alloc_new]; simp [madeCells, hj, Nat.mod_one], fun j hj => World.frozen?_alloc_new _ _ _ _, by simp⟩


set_option maxHeartbeats 8000000 in
set_option maxRecDepth 100000 in
theorem GramTree_walk (s : ByteArray) (w : World) (hT : LexTab w) : Calls Tryz.prog 8 #[.string s] w fun e w' => e = .returned (.bool true) ∧ Below w.heap.size w w' := by
  have cK := known6_any w hT
  by_cases hl : 16384 < s.size
  · have h1 : (16384 : Int) < (s.size : Int) := by omega
    go_enter Tryz.func8, Tryz.ntmps8
    go_wp2_with (first
      | (go_at_call 9; refine cK.mono ?_; rintro e w1 ⟨rfl, hb1⟩))
    go_ret
    exact ⟨rfl, hb1⟩
  have h1 : ¬ (16384 : Int) < (s.size : Int) := by omega
  have GT : ∀ {wx : World}, Below w.heap.size w wx → LexTab wx := fun hb => hT.but (But.of_below (S := fun _ => False) hb) (fun _ e => e.elim)
  have HTF : Hid (∀ r st, parseP s = .ok (r, st) → TreeF st.ns r s.size) := hidb (fun r st h => tree_facts s h)
  have HTE : Hid (∀ er p, parseP s = .error (er, p) → er ≠ 0 ∧ p ≤ s.size) := hidb (fun er p h => parse_err s h)
  go_enter Tryz.func8, Tryz.ntmps8
  go_wp2_with (first
    | (go_at_call 9; refine cK.mono ?_; rintro e w0 ⟨rfl, hb0⟩; have HB0 := hidb hb0; clear hb0))
  refine (Parse_any s _ (GT HB0.out)).mono ?_
  rintro e w1 ⟨hb1, ⟨er, p, hr, rfl⟩ | ⟨r, st, V, hr, rfl, hn⟩⟩
  · obtain ⟨her, hpl⟩ := HTE.out _ _ hr
    have HB1 := hidb (HB0.out.trans (hb1.mono HB0.out.size))
    have k1 : (0 : Int) ≤ (p : Int) := by omega
    have k2 : (p : Int) ≤ (s.size : Int) := by omega
    have k3 : (er == 0) = false := by simpa using her
    have k4 : (er != 0) = true := by simpa using her
    clear her hr HTF HTE hb1
    go_wp2_with fail
    go_ret
    exact ⟨rfl, (HB1.out.alloc HB1.out.size _).alloc (by have := HB1.out.size; simp; omega) _⟩
  · obtain ⟨hroot, ⟨nr, hnr, hk24⟩, hat, hinc, hlow, hone, hcl⟩ := HTF.out _ _ hr
    have HB1 := hidb (HB0.out.trans (hb1.mono HB0.out.size))
    obtain ⟨aa, ca, rfl, hnd⟩ := hn.head
    obtain ⟨q, v, rfl, hq, hL, hc⟩ := hnd r nr hnr
    have hfew := hn.few
    generalize hns : st.ns = ns at *
    obtain ⟨N, hN⟩ : ∃ N, ns.length = N := ⟨_, rfl⟩
    rw [hN] at hroot hfew ⊢
    have HN := hidb hN
    have HND : Hid (∀ (i : Nat) (n : Nd), ns[i]? = some n → ∃ v, LRow w1 v n.l ∧ ∀ j, j < 6 → w1.cell? ⟨q, i * 6 + j, none⟩ = (n.cells v)[j]?) := hidb (fun i n hi => by
      obtain ⟨q', v', he, _, h3, h4⟩ := hnd i n hi
      cases he
      exact ⟨v', h3, h4⟩)
    have c24 : w1.cell? ⟨q, r * 6, none⟩ = some (.int .i64 24) := by
      have := hc 0 (by omega)
      rw [Nat.add_zero] at this
      rw [this, ← hk24]
      rfl
    have HAt := hidb hat
    have HInc := hidb hinc
    have HLow := hidb hlow
    have HOne := hidb hone
    have HCl := hidb hcl
    have hX : Below w1.heap.size w1 ((w1.alloc (.cells #[.slice (some ⟨q, 0, none⟩) N ca, .int .i64 (r : Int)] 25)).alloc (.cells #[.int .i64 0, .int .i64 0] 28)) := ((Below.refl _ _).alloc (Nat.le_refl _) _).alloc (by simp) _
    have c24' := (hX.cell (p := ⟨q, r * 6, none⟩) hq).trans c24
    have D1 : Duo ((w1.alloc (.cells #[.slice (some ⟨q, 0, none⟩) N ca, .int .i64 (r : Int)] 25)).alloc (.cells #[.int .i64 0, .int .i64 0] 28)) w1.heap.size (.slice (some ⟨q, 0, none⟩) N ca) (.int .i64 (r : Int)) := (Duo.new w1 _ _ _).keep (below_new _ _)
    have HX := hidb hX
    have HD1 := hidb D1
    have hmk := run_make_row' (P := Tryz.prog) 44 3 (.int .i64 0) 8 Tryz.underlying44 (by kernel_rfl) rfl .i64 .i64 N (by omega) (by omega)
    have e0 : (0 : Int) ≤ (r : Int) := by omega
    have e1 : (r : Int) < (N : Int) := by omega
    have e2 : ((N : Int) == 0) = false := by simp; omega
    have e3 : IntKind.i64.wrap ((N : Int) - 1) = (r : Int) := by rw [IntKind.wrap_i64]; omega
    have e4 : (((r : Nat) : Int) != ((r : Nat) : Int)) = false := by simp
    have e5 : (N : Int) - 1 = (r : Int) := by omega
    have HSM : Hid (∀ (i : Nat) (n : Nd), ns[i]? = some n → n.l.length ≤ 20000) := hidb (fun i n hi => by
      have h1 := (TreeF.mk (M := s.size) (r := r) (by rw [hN]; exact hroot) ⟨nr, hnr, hk24⟩ hat hinc hlow hone hcl).short hi
      omega)
    clear hroot hat hinc hlow hone hcl hnd hc hL hn hr hb1 HTF HTE hnr hk24 hX D1 hN c24 cK hns
    go_wp2_with fail
    have hW2 : ((w1.alloc (.cells #[.slice (some ⟨q, 0, none⟩) N ca, .int .i64 (r : Int)] 25)).alloc (.cells #[.int .i64 0, .int .i64 0] 28)).heap.size = w1.heap.size + 1 + 1 := by simp
    have hO := OC.made ((w1.alloc (.cells #[.slice (some ⟨q, 0, none⟩) N ca, .int .i64 (r : Int)] 25)).alloc (.cells #[.int .i64 0, .int .i64 0] 28)) 3 N
    rw [hW2] at hO
    have hB3 : Below w1.heap.size w1 (((w1.alloc (.cells #[.slice (some ⟨q, 0, none⟩) N ca, .int .i64 (r : Int)] 25)).alloc (.cells #[.int .i64 0, .int .i64 0] 28)).alloc (.cells (madeCells #[.int .i64 0] N) 3)) := HX.out.alloc HX.out.size _
    have hD3 := HD1.out.keep (below_new _ (.cells (madeCells #[.int .i64 0] N) 3))
    clear hmk c24'
    generalize (((w1.alloc (.cells #[.slice (some ⟨q, 0, none⟩) N ca, .int .i64 (r : Int)] 25)).alloc (.cells #[.int .i64 0, .int .i64 0] 28)).alloc (.cells (madeCells #[.int .i64 0] N) 3)) = W3 at hO hB3 hD3 ⊢
    have HB3 := hidb hB3
    have HD3 := hidb hD3
    clear hW2 HX HD1 hB3 hD3
    go_loopg [7] N (fun gf s7 wx => ∃ i : Nat, s7 = .int .i64 (i : Int) ∧ i + gf = N ∧ OC wx (w1.heap.size + 1 + 1) N (cnt ns i [] 0) ∧ But (· = w1.heap.size + 1 + 1) W3 wx)
    case atStart => exact ⟨0, rfl, by omega, hO.as (fun j _ => (cnt_zero ns [] j).symm), But.refl _ _⟩
    case round =>
      obtain ⟨i, rfl, hig, hoc, hbt⟩ := hrel
      obtain ⟨p0, p1, _, _, pl⟩ := HD3.out.but hbt (by omega)
      by_cases hi : i < N
      · obtain ⟨g', rfl⟩ : ∃ g', gk = g' + 1 := ⟨gk - 1, by omega⟩
        obtain ⟨n, hn⟩ : ∃ n, ns[i]? = some n := ⟨_, List.getElem?_eq_getElem (by have := HN.out; omega)⟩
        obtain ⟨v, hL, hc⟩ := HND.out i n hn
        have hMs : n.l.length ≤ 20000 := HSM.out i n hn
        have hbW : Below w1.heap.size w1 wr := HB3.out.trans (hbt.below HB3.out.size (fun k hk => by omega))
        have hpl : n.p ≤ s.size := HAt.out i n hn
        have HI : Hid (∀ (a x y : Nat), n.l[a]? = some x → n.l[a + 1]? = some y → x < y) := hidb (HInc.out i n hn)
        have HL : Hid (∀ (a x : Nat), n.l[a]? = some x → x < i) := hidb (HLow.out i n hn)
        have HC : Hid (n.k = 21 → ∃ (pre : List Nat) (g b : Nat) (ng nb : Nd), n.l = pre ++ [g, b] ∧ n.n = ((pre.length : Nat) : Int) ∧ ns[g]? = some ng ∧ ng.k = 22 ∧ ns[b]? = some nb ∧ nb.k = 19) := hidb (fun h => HCl.out i n hn h)
        have HCN : Hid (∀ j, cnt ns (i + 1) [] 0 j = cnt ns i n.l n.l.length j) := hidb (fun j => cnt_next ns i n hn [] j)
        have HC1 : Hid (∀ k j, j < i → cnt ns i n.l k j ≤ 1) := hidb (fun k j hj => by
          have h1 := cnt_one ns i n hn k j
          have h2 := HOne.out j (by have := HN.out; omega)
          split at h2 <;> omega)
        have HC0 : Hid (∀ j, cnt ns i [] 0 j = cnt ns i n.l 0 j) := hidb (fun j => by simp [cnt])
        obtain ⟨nk, nx, nn, nf, nl, np⟩ := n
        simp only at hL hMs hpl HI HL HC HCN HC0 HC1
        obtain ⟨la, cla, rfl, hra⟩ := hL.head
        obtain ⟨M, hM⟩ : ∃ M, nl.length = M := ⟨_, rfl⟩
        simp only [hM] at hc
        rw [hM] at hMs HCN
        have a0 : wr.cell? ⟨q, i * 6, none⟩ = some (.int .i64 nk) := (hbW.cell (p := ⟨q, i * 6, none⟩) hq).trans (hc 0 (by omega))
        have a1 : wr.cell? ⟨q, i * 6 + 1, none⟩ = some (.string nx) := (hbW.cell (p := ⟨q, i * 6 + 1, none⟩) hq).trans (hc 1 (by omega))
        have a2 : wr.cell? ⟨q, i * 6 + 2, none⟩ = some (.int .i64 nn) := (hbW.cell (p := ⟨q, i * 6 + 2, none⟩) hq).trans (hc 2 (by omega))
        have a3 : wr.cell? ⟨q, i * 6 + 3, none⟩ = some (.float .f64 nf) := (hbW.cell (p := ⟨q, i * 6 + 3, none⟩) hq).trans (hc 3 (by omega))
        have a4 : wr.cell? ⟨q, i * 6 + 4, none⟩ = some (.slice la M cla) := (hbW.cell (p := ⟨q, i * 6 + 4, none⟩) hq).trans (hc 4 (by omega))
        have a5 : wr.cell? ⟨q, i * 6 + 5, none⟩ = some (.int .i64 (np : Int)) := (hbW.cell (p := ⟨q, i * 6 + 5, none⟩) hq).trans (hc 5 (by omega))
        have hz := hbW.size
        have hq3 : q < wr.heap.size := by omega
        have i0 : (0 : Int) ≤ (i : Int) := by omega
        have i1 : (i : Int) < (N : Int) := by omega
        have i2 : ¬ (np : Int) < 0 := by omega
        have i3 : ¬ (s.size : Int) < (np : Int) := by omega
        have HO := hidb hoc
        have HBT := hidb hbt
        have HRA := hidb hra
        have HM := hidb hM
        clear hc hra hL hn hM hoc hbt hpl hbW
        go_wp2_with fail
        have X1 := Six.new wr 46 (.int .i64 nk) (.string nx) (.int .i64 nn) (.float .f64 nf) (.slice la M cla) (.int .i64 (np : Int))
        have hO4 := HO.out.but (But.of_below (S := fun _ => False) (below_new wr (.cells #[.int .i64 nk, .string nx, .int .i64 nn, .float .f64 nf, .slice la M cla, .int .i64 (np : Int)] 46))) (fun h => h)
        have hB4 := HBT.out.alloc (.cells #[.int .i64 nk, .string nx, .int .i64 nn, .float .f64 nf, .slice la M cla, .int .i64 (np : Int)] 46)
        have hwz : wr.heap.size < (wr.alloc (.cells #[.int .i64 nk, .string nx, .int .i64 nn, .float .f64 nf, .slice la M cla, .int .i64 (np : Int)] 46)).heap.size := by simp
        generalize (wr.alloc (.cells #[.int .i64 nk, .string nx, .int .i64 nn, .float .f64 nf, .slice la M cla, .int .i64 (np : Int)] 46)) = W4 at X1 hO4 hB4 hwz ⊢
        have hgw : w1.heap.size + 1 + 1 < wr.heap.size := HO.out.lt
        generalize wr.heap.size = xb at X1 hwz hgw hz hq3 ⊢
        have HX1 := hidb X1
        have HB4 := hidb hB4
        clear a0 a1 a2 a3 a4 a5 p0 p1 X1 hB4 HO HBT
        go_loopg [9] M (fun gf s9 wy => ∃ k : Nat, s9 = .int .i64 (k : Int) ∧ k + gf = M ∧ OC wy (w1.heap.size + 1 + 1) N (cnt ns i nl k) ∧ But (· = w1.heap.size + 1 + 1) W4 wy)
        case atStart => exact ⟨0, rfl, by omega, hO4.as (fun j _ => HC0.out j), But.refl _ _⟩
        case round =>
          obtain ⟨k, rfl, hkg, hoc, hbt⟩ := hrel
          have hX := HX1.out.but hbt (by omega)
          have x4 := hX.c4
          have hxl := hX.lt
          by_cases hk : k < M
          · obtain ⟨g2, rfl⟩ : ∃ g2, gk = g2 + 1 := ⟨gk - 1, by omega⟩
            obtain ⟨x, hx⟩ : ∃ x, nl[k]? = some x := ⟨_, List.getElem?_eq_getElem (by have := HM.out; omega)⟩
            obtain ⟨bl, rfl, hbl, hcl⟩ := HRA.out k x hx
            have hbY : ∀ j, wr.cell? ⟨bl, j, none⟩ = w1.cell? ⟨bl, j, none⟩ := fun j => by
              have h5 := HB4.out.trans (hbt)
              exact (h5.cell (p := ⟨bl, j, none⟩) (by have := HB3.out.size; show bl < _; omega) (by show ¬ bl = _; omega)).trans (HB3.out.cell (p := ⟨bl, j, none⟩) hbl)
            have c0 : wr.cell? ⟨bl, k, none⟩ = some (.int .i64 (x : Int)) := (hbY k).trans (hcl k x hx)
            have hxi := HL.out k x hx
            have j0 : (0 : Int) ≤ (k : Int) := by omega
            have j1 : (k : Int) < (M : Int) := by omega
            have hgo : ∀ nq : Nat, OC (wr.drewN nq) (w1.heap.size + 1 + 1) N (cnt ns i nl k) ∧ But (· = w1.heap.size + 1 + 1) W4 (wr.drewN nq) ∧ (wr.drewN nq).cell? ⟨bl, k, none⟩ = some (.int .i64 (x : Int)) := fun nq => by
              have hbd : Below wr.heap.size wr (wr.drewN nq) := below_drewN (Below.refl _ _) nq
              exact ⟨hoc.but (But.of_below (S := fun _ => False) hbd) (fun h => h), hbt.trans (But.of_below hbd), (hbd.cell (p := ⟨bl, k, none⟩) (cell_lt c0)).trans c0⟩
            have HGO := hidb hgo
            have hcx : cnt ns i nl k x ≤ 1 := HC1.out k x (by omega)
            have HST : Hid (∀ j, cnt ns i nl (k + 1) j = cnt ns i nl k j + if x = j then 1 else 0) := hidb (fun j => cnt_step ns i nl k j x hx)
            by_cases hk0 : k = 0
            · subst hk0
              clear hgo hoc hbt hbY hcl hX j0 j1
              have j1 : (0 : Int) < (M : Int) := by omega
              go_wp2_with fail
              have d0 : decide ((x : Int) < 0) = false := by simp
              have d1 : decide (i ≤ x) = false := by simp; omega
              go_big_quiet (fail)
              obtain ⟨o5, b5, c5⟩ := HGO.out nq
              have x5 := (HX1.out.but b5 (by omega)).c4
              have oc := o5.c x (by omega)
              have of := o5.z x (by omega)
              have hgl := o5.lt
              have hb5 := cell_lt c5
              have hx5 := cell_lt x5
              obtain ⟨C, hC⟩ : ∃ C, cnt ns i nl 0 x = C := ⟨_, rfl⟩
              rw [hC] at oc hcx
              have HC5 := hidb hC
              have HO5 := hidb o5
              have HB5 := hidb b5
              have m0 : (0 : Int) ≤ (x : Int) := by omega
              have m1 : (x : Int) < (N : Int) := by omega
              clear o5 b5 hC x4 c0 hxl
              generalize wr.drewN nq = W5 at oc of hgl c5 x5 hb5 hx5 HO5 HB5 ⊢
              go_wp2_with fail
              go_roundg g2
              case measure => omega
              case rel =>
                have hbu := HO5.out.bump (x := x) HST.out
                rw [HC5.out] at hbu
                exact ⟨0 + 1, by simp, by omega, hbu, HB5.out.setCell (fun _ => rfl) _⟩
            · obtain ⟨k1, hk1⟩ : ∃ k1, k = k1 + 1 := ⟨k - 1, by omega⟩
              obtain ⟨y, hy⟩ : ∃ y, nl[k1]? = some y := ⟨_, List.getElem?_eq_getElem (by have := HM.out; omega)⟩
              have c1 : wr.cell? ⟨bl, k1, none⟩ = some (.int .i64 (y : Int)) := (hbY k1).trans (hcl k1 y hy)
              have hyx := HI.out k1 y x hy (hk1 ▸ hx)
              have v1 : IntKind.i64.wrap ((k : Int) - 1) = (k1 : Int) := by rw [IntKind.wrap_i64]; omega
              have j2 : (0 : Int) ≤ (k1 : Int) := by omega
              have j3 : (k1 : Int) < (M : Int) := by omega
              have HK1 := hidb hk1
              clear hgo hoc hbt hbY hcl hX hk1 hk0
              go_wp2_with fail
              have d0 : decide ((x : Int) < 0) = false := by simp
              have d1 : decide (i ≤ x) = false := by simp; omega
              have d2 : decide (0 < k) = true := by have := HK1.out; simp; omega
              have d3 : decide (x ≤ y) = false := by simp; omega
              go_big_quiet (fail)
              obtain ⟨o5, b5, c5⟩ := HGO.out nq
              have x5 := (HX1.out.but b5 (by omega)).c4
              have oc := o5.c x (by omega)
              have of := o5.z x (by omega)
              have hgl := o5.lt
              have hb5 := cell_lt c5
              have hx5 := cell_lt x5
              obtain ⟨C, hC⟩ : ∃ C, cnt ns i nl k x = C := ⟨_, rfl⟩
              rw [hC] at oc hcx
              have HC5 := hidb hC
              have HO5 := hidb o5
              have HB5 := hidb b5
              have m0 : (0 : Int) ≤ (x : Int) := by omega
              have m1 : (x : Int) < (N : Int) := by omega
              clear o5 b5 hC x4 c0 hxl
              generalize wr.drewN nq = W5 at oc of hgl c5 x5 hb5 hx5 HO5 HB5 ⊢
              go_wp2_with fail
              go_roundg g2
              case measure => omega
              case rel =>
                have hbu := HO5.out.bump (x := x) HST.out
                rw [HC5.out] at hbu
                exact ⟨k + 1, by simp, by omega, hbu, HB5.out.setCell (fun _ => rfl) _⟩
          · have hkM : k = M := by omega
            subst hkM
            have j1 : ¬ (k : Int) < (k : Int) := by omega
            have HOC := hidb hoc
            have HBT := hidb hbt
            clear hoc hbt hX
            go_wp2_with fail
            have hX := HX1.out.but HBT.out (by omega)
            obtain ⟨x0, x1, x2, x3, x4, x5, _, _, _, _, _, _, xl⟩ := hX
            have hfin : ∀ nq : Nat, ∃ i' : Nat, Value.int .i64 ((i : Int) + 1) = .int .i64 (i' : Int) ∧ i' + g' = N ∧ OC (wr.drewN nq) (w1.heap.size + 1 + 1) N (cnt ns i' [] 0) ∧ But (· = w1.heap.size + 1 + 1) W3 (wr.drewN nq) := fun nq => by
              have hbd : Below wr.heap.size wr (wr.drewN nq) := below_drewN (Below.refl _ _) nq
              exact ⟨i + 1, by simp, by omega, (HOC.out.but (But.of_below (S := fun _ => False) hbd) (fun h => h)).as (fun j _ => (HCN.out j).symm), (HB4.out.trans HBT.out).trans (But.of_below hbd)⟩
            have HFIN := hidb hfin
            clear hfin
            by_cases hk21 : nk = 21
            · subst hk21
              obtain ⟨pre, gg, bb, ng, nb, hnl, hnn, hng, hk22, hnb, hk19⟩ := HC.out rfl
              obtain ⟨P, hP⟩ : ∃ P, pre.length = P := ⟨_, rfl⟩
              rw [hP] at hnn
              subst hnn
              have hg1 : nl[P]? = some gg := by rw [hnl, List.getElem?_append_right (by omega), hP, Nat.sub_self]; rfl
              have hg2 : nl[P + 1]? = some bb := by rw [hnl, List.getElem?_append_right (by omega), hP, show P + 1 - P = 1 by omega]; rfl
              have hkP : k = P + 2 := by rw [← HM.out, hnl, List.length_append, hP]; rfl
              obtain ⟨bl, rfl, hbl, hcl⟩ := HRA.out P gg hg1
              have hbY : ∀ b j, b < w1.heap.size → wr.cell? ⟨b, j, none⟩ = w1.cell? ⟨b, j, none⟩ := fun b j hb => by
                have h5 := HB4.out.trans HBT.out
                exact (h5.cell (p := ⟨b, j, none⟩) (by have := HB3.out.size; show b < _; omega) (by show ¬ b = _; omega)).trans (HB3.out.cell (p := ⟨b, j, none⟩) hb)
              obtain ⟨P1, hP1⟩ : ∃ P1, P + 1 = P1 := ⟨_, rfl⟩
              have y0 : wr.cell? ⟨bl, P, none⟩ = some (.int .i64 (gg : Int)) := (hbY bl P hbl).trans (hcl P gg hg1)
              have y1 : wr.cell? ⟨bl, P1, none⟩ = some (.int .i64 (bb : Int)) := (hbY bl P1 hbl).trans (hcl P1 bb (hP1 ▸ hg2))
              obtain ⟨_, _, hcg⟩ := HND.out gg ng hng
              obtain ⟨_, _, hcb⟩ := HND.out bb nb hnb
              have y2 : wr.cell? ⟨q, gg * 6, none⟩ = some (.int .i64 22) := by
                rw [hbY q _ hq]
                have := hcg 0 (by omega)
                rw [Nat.add_zero] at this
                rw [this, ← hk22]; rfl
              have y3 : wr.cell? ⟨q, bb * 6, none⟩ = some (.int .i64 19) := by
                rw [hbY q _ hq]
                have := hcb 0 (by omega)
                rw [Nat.add_zero] at this
                rw [this, ← hk19]; rfl
              have hgN : gg < N := by have := (List.getElem?_eq_some_iff.1 hng).1; have := HN.out; omega
              have hbN : bb < N := by have := (List.getElem?_eq_some_iff.1 hnb).1; have := HN.out; omega
              obtain ⟨p0, p1, _, _, pl⟩ := HD3.out.but (HB4.out.trans HBT.out) (by omega)
              have v1 : IntKind.i64.wrap ((P : Int) + 2) = (k : Int) := by rw [IntKind.wrap_i64]; omega
              have v2 : IntKind.i64.wrap ((P : Int) + 1) = (P1 : Int) := by rw [IntKind.wrap_i64]; omega
              have k6 : (((k : Nat) : Int) != ((k : Nat) : Int)) = false := by simp
              have m0 : (0 : Int) ≤ (P : Int) := by omega
              have m1 : (P : Int) < (k : Int) := by omega
              have m2 : (0 : Int) ≤ (P1 : Int) := by omega
              have m3 : (P1 : Int) < (k : Int) := by omega
              have m4 : (0 : Int) ≤ (gg : Int) := by omega
              have m5 : (gg : Int) < (N : Int) := by omega
              have m6 : (0 : Int) ≤ (bb : Int) := by omega
              have m7 : (bb : Int) < (N : Int) := by omega
              clear hnl hP hg1 hg2 hkP hcl hbY hP1 hcg hcb hng hnb hk22 hk19
              go_big_quiet (fail)
              have hf := HFIN.out nq
              have HF := hidb hf
              clear hf
              generalize wr.drewN nq = W5 at HF ⊢
              go_wp2_with fail
              go_roundg g'
              case measure => omega
              case rel => exact HF.out
            · have d0 : (nk == 21) = false := by simpa using hk21
              clear hk21
              go_big_quiet (fail)
              have hf := HFIN.out nq
              have HF := hidb hf
              clear hf
              generalize wr.drewN nq = W5 at HF ⊢
              go_wp2_with fail
              go_roundg g'
              case measure => omega
              case rel => exact HF.out
      · have hiN : i = N := by omega
        subst hiN
        have hoc2 : OC wr (w1.heap.size + 1 + 1) i (fun j => if j = r then 0 else 1) := hoc.as (fun j hj => by
          have h1 := cnt_all ns [] j
          rw [HN.out] at h1
          rw [h1, HOne.out j (by rw [HN.out]; exact hj)])
        have j1 : ¬ (i : Int) < (i : Int) := by omega
        have HOC := hidb hoc2
        have HBT := hidb hbt
        clear hoc hoc2 hbt
        go_wp2_with fail
        go_loopg [10] r (fun gf s10 wz => ∃ j : Nat, s10 = .int .i64 (j : Int) ∧ j + gf = r ∧ wz = wr)
        case atStart => exact ⟨0, rfl, by omega, rfl⟩
        case round =>
          obtain ⟨j, rfl, hjg, hwz⟩ := hrel
          obtain rfl := hwz.symm
          have f1 : IntKind.i64.wrap ((i : Int) - 1) = (r : Int) := by rw [IntKind.wrap_i64]; omega
          have f2 : (i : Int) - 1 = (r : Int) := by omega
          by_cases hj : j < r
          · obtain ⟨g2, rfl⟩ : ∃ g2, gk = g2 + 1 := ⟨gk - 1, by omega⟩
            have oc : wr.cell? ⟨w1.heap.size + 1 + 1, j, none⟩ = some (.int .i64 1) := by
              have := HOC.out.c j (by omega)
              rw [if_neg (by omega)] at this
              exact this
            have m0 : (0 : Int) ≤ (j : Int) := by omega
            have m1 : (j : Int) < (r : Int) := by omega
            have m2 : (j : Int) < (i : Int) := by omega
            have hgl := HOC.out.lt
            go_wp2_with fail
            go_roundg g2
            case measure => omega
            case rel => exact ⟨j + 1, by simp, by omega, rfl⟩
          · have m1 : ¬ (j : Int) < (r : Int) := by omega
            have oc : wr.cell? ⟨w1.heap.size + 1 + 1, r, none⟩ = some (.int .i64 0) := by
              have := HOC.out.c r (by omega)
              rw [if_pos rfl] at this
              exact this
            have m0 : (0 : Int) ≤ (r : Int) := by omega
            have m2 : (r : Int) < (i : Int) := by omega
            have hgl := HOC.out.lt
            go_wp2_with fail
            go_ret
            exact ⟨rfl, (HB1.out.trans (HB3.out.mono HB1.out.size)).trans (HBT.out.below (Nat.le_trans HB1.out.size HB3.out.size) (fun k hk => by have := HB1.out.size; omega))⟩
end Go.Proofs.YtppmcimcmcognaaGreatDoor


