import Derived.Test.YtdpfmmbfidknfaaGreatDoorG45
import Derived.Deep.RegionHeld2
import Derived.Test.YtdpfmmbfidknfaaGreatDoorG27
import Derived.Test.YtdpfmmbfidknfaaGreatDoorG37
import Derived.Deep.LoopGhost
import Derived.BigQuiet
/- known. -/
namespace Go.Proofs.YtdpfmmbfidknfaaGreatDoor
open Go.RowKit Go.Lib
attribute [local go_sem] store_float f64bits
attribute [local go_sem ↓] Go.wp_at_zero Go.wp_at_succ

theorem Nodes.node {w : World} {B : Nat} {V : Value} {ns : List Nd} (h : Nodes w B V ns) {i : Nat} {n : Nd} (hi : ns[i]? = some n) :
    ∃ q cap v, V = .slice (some ⟨q, 0, none⟩) ns.length cap ∧ B ≤ q ∧ q < w.heap.size ∧ LRow w v n.l ∧ (∀ j, j < 6 → w.cell? ⟨q, i * 6 + j, none⟩ = (n.cells v)[j]?) := by
  obtain ⟨⟨vs, hl, ho, hr⟩, _⟩ := h
  have hlt := (List.getElem?_eq_some_iff.1 hi).1
  obtain ⟨v, hv⟩ : ∃ v, vs[i]? = some v := ⟨_, List.getElem?_eq_getElem (by omega)⟩
  have hlow := ho.lt
  rcases ho.2 with ⟨_, h0⟩ | ⟨q, cap, cur, hV, _⟩
  · omega
  · subst hV
    exact ⟨q, cap, v, rfl, (hlow q rfl).1, (hlow q rfl).2, (hr i n v hi hv).1, fun j hj => (ho.cellAt (i * 6 + j) (by omega)).trans (ndCells_get ns vs i n v hi hv j hj)⟩

theorem known1 {w w' : World} {e : Ending} (h : ParseR w (parseP src1) e w') : ∃ q cap, e = .returned (.tuple #[.agg #[.slice (some ⟨q, 0, none⟩) 13 cap, .int .i64 12], .agg #[.int .i64 0, .int .i64 0]]) ∧
    q < w'.heap.size ∧ w'.cell? ⟨q, 18, none⟩ = some (.int .i64 9) ∧ w'.cell? ⟨q, 19, none⟩ = some (.string ⟨#[62]⟩) ∧ w'.cell? ⟨q, 72, none⟩ = some (.int .i64 24) ∧ w'.cell? ⟨q, 73, none⟩ = some (.string ⟨#[109]⟩) ∧ Below w.heap.size w w' := by
  have h1 := src1_is
  obtain ⟨hb, ⟨er, p, hr, he⟩ | ⟨r, s, V, hr, he, hn⟩⟩ := h
  · rw [hr] at h1; cases h1
  · rw [hr] at h1
    simp only [is1, Bool.and_eq_true, decide_eq_true_eq] at h1
    obtain ⟨⟨⟨h2, h3⟩, h4⟩, h5⟩ := h1
    obtain ⟨n3, hn3⟩ : ∃ n, s.ns[3]? = some n := ⟨_, List.getElem?_eq_getElem (by omega)⟩
    obtain ⟨n12, hn12⟩ : ∃ n, s.ns[12]? = some n := ⟨_, List.getElem?_eq_getElem (by omega)⟩
    simp only [hn3, Bool.and_eq_true, decide_eq_true_eq] at h4
    simp only [hn12, Bool.and_eq_true, decide_eq_true_eq] at h5
    obtain ⟨q, cap, v, hV, _, hq, _, hc⟩ := hn.node hn3
    obtain ⟨q', cap', v', hV', _, _, _, hc'⟩ := hn.node hn12
    obtain ⟨rfl, rfl⟩ : q = q' ∧ cap = cap' := by rw [hV] at hV'; cases hV'; exact ⟨rfl, rfl⟩
    have k0 := hc 0 (by omega); have k1 := hc 1 (by omega); have k2 := hc' 0 (by omega); have k3 := hc' 1 (by omega)
    simp only [Nd.cells, List.getElem?_cons_zero, List.getElem?_cons_succ, h4.1, h4.2, h5.1, h5.2] at k0 k1 k2 k3
    rw [h3] at hV
    subst h2
    exact ⟨q, cap, by rw [he, hV]; rfl, hq, k0, k1, k2, k3, hb⟩

theorem known2 {w w' : World} {e : Ending} (h : ParseR w (parseP src2) e w') : e = .returned (.tuple #[.agg #[.slice none 0 0, .int .i64 0], .agg #[.int .i64 24, .int .i64 22]]) ∧ Below w.heap.size w w' := by
  obtain ⟨hb, ⟨er, p, hr, he⟩ | ⟨r, s, V, hr, he, hn⟩⟩ := h
  · rw [src2_is] at hr; cases hr; exact ⟨he, hb⟩
  · rw [src2_is] at hr; cases hr

set_option maxHeartbeats 4000000 in
set_option maxRecDepth 100000 in
theorem known6_any (w : World) (hT : LexTab w) : Calls Tryz.prog 5 #[] w fun e w' => e = .returned (.bool true) ∧ Below w.heap.size w w' := by
  have GT : ∀ {wx : World}, Below w.heap.size w wx → LexTab wx := fun hb => hT.but (But.of_below (S := fun _ => False) hb) (fun _ e => e.elim)
  have HT := hidb hT
  clear hT
  have M0 : Hid True := hidb trivial
  go_enter Tryz.func5, Tryz.ntmps5
  go_wp2_with (first
    | (go_at_call 6; clear M0; refine (Parse_any src1 w HT.out).mono ?_; rintro e w1 h1; obtain ⟨q, cap, rfl, hq, k0, k1, k2, k3, hb⟩ := known1 h1; have HB := hidb hb; have HQ := hidb hq; have hX : Below w1.heap.size w1 ((w1.alloc (.cells #[.slice (some ⟨q, 0, none⟩) 13 cap, .int .i64 12] 25)).alloc (.cells #[.int .i64 0, .int .i64 0] 28)) := (((Below.refl _ _).alloc (Nat.le_refl _) _).alloc (by simp) _); have HX := hidb hX; have D1 := hidb ((Duo.new w1 25 (.slice (some ⟨q, 0, none⟩) 13 cap) (.int .i64 12)).keep (below_new _ (.cells #[.int .i64 0, .int .i64 0] 28))); have hDD := Duo.new (w1.alloc (.cells #[.slice (some ⟨q, 0, none⟩) 13 cap, .int .i64 12] 25)) 28 (.int .i64 0) (.int .i64 0); have hsz : (w1.alloc (.cells #[.slice (some ⟨q, 0, none⟩) 13 cap, .int .i64 12] 25)).heap.size = w1.heap.size + 1 := (by simp); rw [hsz] at hDD; have D2 := hidb hDD; clear h1 hb hX hDD hsz)
    | (go_at_call 6; refine (Parse_any src2 ((w1.alloc (.cells #[.slice (some ⟨q, 0, none⟩) 13 cap, .int .i64 12] 25)).alloc (.cells #[.int .i64 0, .int .i64 0] 28)) (GT (HB.out.trans (HX.out.mono HB.out.size)))).mono ?_; rintro e w2 h2; obtain ⟨rfl, hb2⟩ := known2 h2; have HB2 := hidb hb2; have hc : ∀ j, w2.cell? ⟨q, j, none⟩ = w1.cell? ⟨q, j, none⟩ := (fun j => (hb2.cell (p := ⟨q, j, none⟩) (Nat.lt_of_lt_of_le HQ.out HX.out.size)).trans (HX.out.cell (p := ⟨q, j, none⟩) HQ.out)); have hY : Below w2.heap.size w2 ((w2.alloc (.cells #[.slice none 0 0, .int .i64 0] 25)).alloc (.cells #[.int .i64 24, .int .i64 22] 28)) := (((Below.refl _ _).alloc (Nat.le_refl _) _).alloc (by simp) _); have hqY : q < w2.heap.size := Nat.lt_of_lt_of_le HQ.out (Nat.le_trans HX.out.size hb2.size); have hcY : ∀ j, ((w2.alloc (.cells #[.slice none 0 0, .int .i64 0] 25)).alloc (.cells #[.int .i64 24, .int .i64 22] 28)).cell? ⟨q, j, none⟩ = w1.cell? ⟨q, j, none⟩ := (fun j => (hY.cell (p := ⟨q, j, none⟩) hqY).trans (hc j)); have HY := hidb hY; have m0 := (hcY 18).trans k0; have m1 := (hcY 19).trans k1; have m2 := (hcY 72).trans k2; have m3 := (hcY 73).trans k3; obtain ⟨a0, a1, b0, b1, -⟩ := (D1.out.keep hb2).keep hY; obtain ⟨a2, a3, b2, b3, -⟩ := (D2.out.keep hb2).keep hY; clear h2 hb2 hc hcY hY hqY k0 k1 k2 k3))
  have z1 := HB.out.size
  have z2 := HX.out.size
  have z3 := HB2.out.size
  exact bodyPost_ret (v := .bool true) (by simp [results, Tryz.results5, go_sem]) rfl ⟨rfl, ((HB.out.trans (HX.out.mono z1)).trans (HB2.out.mono (by omega))).trans (HY.out.mono (by omega))⟩
end Go.Proofs.YtdpfmmbfidknfaaGreatDoor


/- The law's Same on trees. -/
namespace Go.Proofs.YtdpfmmbfidknfaaGreatDoor
open Go.RowKit Go.Lib
attribute [local go_sem] store_float f64bits
attribute [local go_sem ↓] Go.wp_at_zero Go.wp_at_succ

/-- A row of places, its head spelt. -/
theorem LRow.head {w : World} {v : Value} {l : List Nat} (h : LRow w v l) : ∃ a c, v = .slice a l.length c ∧ ∀ (k x : Nat), l[k]? = some x → ∃ b, a = some ⟨b, 0, none⟩ ∧ b < w.heap.size ∧ ∀ (j y : Nat), l[j]? = some y → w.cell? ⟨b, j, none⟩ = some (.int .i64 (y : Int)) := by
  rcases h with ⟨rfl, rfl⟩ | ⟨b, cap, rfl, hl, hc⟩
  · exact ⟨none, 0, rfl, fun k x h => by simp at h⟩
  · exact ⟨_, cap, rfl, fun k x _ => ⟨b, rfl, hl, hc⟩⟩
/-- A row of nodes, its head spelt. -/
theorem Nodes.head {w : World} {B : Nat} {V : Value} {ns : List Nd} (h : Nodes w B V ns) : ∃ a c, V = .slice a ns.length c ∧ ∀ (i : Nat) (n : Nd), ns[i]? = some n → ∃ q v, a = some ⟨q, 0, none⟩ ∧ q < w.heap.size ∧ LRow w v n.l ∧ ∀ j, j < 6 → w.cell? ⟨q, i * 6 + j, none⟩ = (n.cells v)[j]? := by
  by_cases h0 : ns.length = 0
  · obtain ⟨⟨vs, _, ho, _⟩, _⟩ := h
    have hn : ns = [] := List.eq_nil_of_length_eq_zero h0
    subst hn
    rcases ho.2 with ⟨hv, _⟩ | ⟨q, cap, cur, hv, _⟩
    · exact ⟨none, 0, hv, fun i n hi => by simp at hi⟩
    · exact ⟨_, _, hv, fun i n hi => by simp at hi⟩
  · obtain ⟨n0, hn0⟩ : ∃ n, ns[0]? = some n := ⟨_, List.getElem?_eq_getElem (by omega)⟩
    obtain ⟨q, cap, v, hV, _⟩ := h.node hn0
    refine ⟨_, cap, hV, fun i n hi => ?_⟩
    obtain ⟨q', cap', v', hV', _, hq', hL, hc⟩ := h.node hi
    rw [hV] at hV'
    cases hV'
    exact ⟨q, v', rfl, hq', hL, hc⟩
theorem bareN_k {m n : Nd} (h : bareN m = bareN n) : m.k = n.k := by
  have h2 : (bareN m).k = (bareN n).k := by rw [h]
  exact h2
theorem bareN_f {m n : Nd} (h : bareN m = bareN n) : m.f = n.f := by
  have h2 : (bareN m).f = (bareN n).f := by rw [h]
  exact h2
theorem bare_at {l l' : List Nd} (h : l.map bareN = l'.map bareN) {i : Nat} {m : Nd} (hi : l[i]? = some m) : ∃ n, l'[i]? = some n ∧ bareN m = bareN n := by
  have h1 : (l.map bareN)[i]? = some (bareN m) := by rw [List.getElem?_map, hi]; rfl
  rw [h, List.getElem?_map] at h1
  cases hn : l'[i]? with
  | none => rw [hn] at h1; cases h1
  | some n => rw [hn] at h1; exact ⟨n, rfl, (Option.some.inj h1).symm⟩

set_option maxHeartbeats 4000000 in
set_option maxRecDepth 100000 in
theorem same_trees (at' : Bool) {ns ns' : List Nd} (hbr : ns.map bareN = ns'.map bareN) (hat : at' = true → ns = ns') (hsm : ∀ (i : Nat) (n : Nd), ns[i]? = some n → n.l.length ≤ 20000) (r : Nat) {w : World} {Ba Bb : Nat} {Va Vb : Value} (ha : Nodes w Ba Va ns) (hb : Nodes w Bb Vb ns') :
    Calls Tryz.prog 8 #[.agg #[Va, iv r], .agg #[Vb, iv r], .bool at'] w fun e w' => e = .returned (.bool true) ∧ Below w.heap.size w w' := by
  obtain ⟨aa, ca, rfl, hna⟩ := ha.head
  obtain ⟨ab, cb, rfl, hnb⟩ := hb.head
  have hlen : ns'.length = ns.length := by have := congrArg List.length hbr; simpa using this.symm
  rw [hlen]
  obtain ⟨N, hN⟩ : ∃ N, ns.length = N := ⟨_, rfl⟩
  have hfew := ha.few
  rw [hN] at hfew ⊢
  have HNA := hidb hna
  have HNB := hidb hnb
  have HBR := hidb hbr
  have HAT := hidb hat
  have HSM := hidb hsm
  have HN := hidb hN
  clear hna hnb ha hb hbr hlen hat hN hsm
  have D1 : Duo ((w.alloc (.cells #[.slice aa N ca, iv r] 25)).alloc (.cells #[.slice ab N cb, iv r] 25)) w.heap.size (.slice aa N ca) (iv r) := (Duo.new w _ _ _).keep (below_new _ _)
  have D2 : Duo ((w.alloc (.cells #[.slice aa N ca, iv r] 25)).alloc (.cells #[.slice ab N cb, iv r] 25)) (w.heap.size + 1) (.slice ab N cb) (iv r) := by
    have := Duo.new (w.alloc (.cells #[.slice aa N ca, iv r] 25)) 25 (.slice ab N cb) (iv r)
    simpa using this
  have hX : Below w.heap.size w ((w.alloc (.cells #[.slice aa N ca, iv r] 25)).alloc (.cells #[.slice ab N cb, iv r] 25)) := ((Below.refl _ _).alloc (Nat.le_refl _) _).alloc (by simp) _
  have HD1 := hidb D1
  have HD2 := hidb D2
  have HX := hidb hX
  clear D1 D2 hX
  go_enter Tryz.func8, Tryz.ntmps8
  go_wp2_with fail
  generalize ((w.alloc (.cells #[.slice aa N ca, iv r] 25)).alloc (.cells #[.slice ab N cb, iv r] 25)) = X at HD1 HD2 HX ⊢
  go_loopg [7] N (fun gf s7 wx => ∃ j : Nat, s7 = .int .i64 (j : Int) ∧ j + gf = N ∧ Below X.heap.size X wx)
  case atStart => exact ⟨0, rfl, by omega, Below.refl _ _⟩
  case round =>
    obtain ⟨j, rfl, hjg, hbw⟩ := hrel
    obtain ⟨p0, p1, _, _, pl⟩ := HD1.out.keep hbw
    obtain ⟨q0, q1, _, _, ql⟩ := HD2.out.keep hbw
    by_cases hj : j < N
    · obtain ⟨g', rfl⟩ : ∃ g', gk = g' + 1 := ⟨gk - 1, by omega⟩
      obtain ⟨n, hn⟩ : ∃ n, ns[j]? = some n := ⟨_, List.getElem?_eq_getElem (by have := HN.out; omega)⟩
      obtain ⟨n', hn', hbn⟩ := bare_at HBR.out hn
      obtain ⟨qa, va, rfl, hqa, hLa, hca⟩ := HNA.out j n hn
      obtain ⟨qb, vb, rfl, hqb, hLb, hcb⟩ := HNB.out j n' hn'
      have hbW : Below w.heap.size w wr := HX.out.trans (hbw.mono HX.out.size)
      have hpp : at' = true → n'.p = n.p := fun h => by have := HAT.out h; rw [this] at hn; rw [hn] at hn'; cases hn'; rfl
      have hll := Gm.bareN_l hbn
      obtain ⟨la, cla, rfl, hra⟩ := hLa.head
      obtain ⟨lb, clb, rfl, hrb⟩ := hLb.head
      rw [← hll] at hrb hcb
      obtain ⟨nk, nx, nn, nf, nl, np⟩ := n
      obtain ⟨nk', nx', nn', nf', nl', np'⟩ := n'
      obtain rfl : nk = nk' := bareN_k hbn
      obtain rfl : nx = nx' := Gm.bareN_x hbn
      obtain rfl : nn = nn' := Gm.bareN_n hbn
      obtain rfl : nf = nf' := bareN_f hbn
      simp only at hra hrb hcb hca hpp hll
      have hMs : nl.length ≤ 20000 := HSM.out j _ hn
      obtain ⟨M, hM⟩ : ∃ M, nl.length = M := ⟨_, rfl⟩
      rw [hM] at hcb hca hMs
      have a0 : wr.cell? ⟨qa, j * 6, none⟩ = some (.int .i64 nk) := (hbW.cell (p := ⟨qa, j * 6, none⟩) hqa).trans (hca 0 (by omega))
      have a1 : wr.cell? ⟨qa, j * 6 + 1, none⟩ = some (.string nx) := (hbW.cell (p := ⟨qa, j * 6 + 1, none⟩) hqa).trans (hca 1 (by omega))
      have a2 : wr.cell? ⟨qa, j * 6 + 2, none⟩ = some (.int .i64 nn) := (hbW.cell (p := ⟨qa, j * 6 + 2, none⟩) hqa).trans (hca 2 (by omega))
      have a3 : wr.cell? ⟨qa, j * 6 + 3, none⟩ = some (.float .f64 nf) := (hbW.cell (p := ⟨qa, j * 6 + 3, none⟩) hqa).trans (hca 3 (by omega))
      have a4 : wr.cell? ⟨qa, j * 6 + 4, none⟩ = some (.slice la M cla) := (hbW.cell (p := ⟨qa, j * 6 + 4, none⟩) hqa).trans (hca 4 (by omega))
      have a5 : wr.cell? ⟨qa, j * 6 + 5, none⟩ = some (.int .i64 (np : Int)) := (hbW.cell (p := ⟨qa, j * 6 + 5, none⟩) hqa).trans (hca 5 (by omega))
      have b0 : wr.cell? ⟨qb, j * 6, none⟩ = some (.int .i64 nk) := (hbW.cell (p := ⟨qb, j * 6, none⟩) hqb).trans (hcb 0 (by omega))
      have b1 : wr.cell? ⟨qb, j * 6 + 1, none⟩ = some (.string nx) := (hbW.cell (p := ⟨qb, j * 6 + 1, none⟩) hqb).trans (hcb 1 (by omega))
      have b2 : wr.cell? ⟨qb, j * 6 + 2, none⟩ = some (.int .i64 nn) := (hbW.cell (p := ⟨qb, j * 6 + 2, none⟩) hqb).trans (hcb 2 (by omega))
      have b3 : wr.cell? ⟨qb, j * 6 + 3, none⟩ = some (.float .f64 nf) := (hbW.cell (p := ⟨qb, j * 6 + 3, none⟩) hqb).trans (hcb 3 (by omega))
      have b4 : wr.cell? ⟨qb, j * 6 + 4, none⟩ = some (.slice lb M clb) := (hbW.cell (p := ⟨qb, j * 6 + 4, none⟩) hqb).trans (hcb 4 (by omega))
      have b5 : wr.cell? ⟨qb, j * 6 + 5, none⟩ = some (.int .i64 (np' : Int)) := (hbW.cell (p := ⟨qb, j * 6 + 5, none⟩) hqb).trans (hcb 5 (by omega))
      have hz := hbW.size
      have hqa3 : qa < wr.heap.size := by omega
      have hqb3 : qb < wr.heap.size := by omega
      have i0 : (0 : Int) ≤ (j : Int) := by omega
      have i1 : (j : Int) < (N : Int) := by omega
      have HBW := hidb hbw
      have HRA := hidb hra
      have HRB := hidb hrb
      have HM := hidb hM
      have HPP := hidb hpp
      clear hca hcb hbw hra hrb hLa hLb hn hn' hbn hll hM hpp
      go_wp2_with fail
      have X1 := (Six.new wr 34 (.int .i64 nk) (.string nx) (.int .i64 nn) (.float .f64 nf) (.slice la M cla) (.int .i64 (np : Int))).keep (below_new _ (Obj.cells #[.int .i64 nk, .string nx, .int .i64 nn, .float .f64 nf, .slice lb M clb, .int .i64 (np' : Int)] 34))
      have X2 := Six.new (wr.alloc (Obj.cells #[.int .i64 nk, .string nx, .int .i64 nn, .float .f64 nf, .slice la M cla, .int .i64 (np : Int)] 34)) 34 (.int .i64 nk) (.string nx) (.int .i64 nn) (.float .f64 nf) (.slice lb M clb) (.int .i64 (np' : Int))
      have hs1 : (wr.alloc (Obj.cells #[.int .i64 nk, .string nx, .int .i64 nn, .float .f64 nf, .slice la M cla, .int .i64 (np : Int)] 34)).heap.size = wr.heap.size + 1 := by simp
      rw [hs1] at X2
      have HB2 : Hid (Below X.heap.size X ((wr.alloc (Obj.cells #[.int .i64 nk, .string nx, .int .i64 nn, .float .f64 nf, .slice la M cla, .int .i64 (np : Int)] 34)).alloc (Obj.cells #[.int .i64 nk, .string nx, .int .i64 nn, .float .f64 nf, .slice lb M clb, .int .i64 (np' : Int)] 34))) := hidb ((HBW.out.alloc HBW.out.size _).alloc (by have := HBW.out.size; simp; omega) _)
      generalize hW2 : ((wr.alloc (Obj.cells #[.int .i64 nk, .string nx, .int .i64 nn, .float .f64 nf, .slice la M cla, .int .i64 (np : Int)] 34)).alloc (Obj.cells #[.int .i64 nk, .string nx, .int .i64 nn, .float .f64 nf, .slice lb M clb, .int .i64 (np' : Int)] 34)) = W2 at *
      clear hW2 a0 a1 a2 a3 a4 a5 b0 b1 b2 b3 b4 b5 hs1 p0 p1 q0 q1
      have HX1 := hidb X1
      have HX2 := hidb X2
      obtain ⟨x0, x1, x2, x3, x4, x5, _, _, _, _, _, _, _⟩ := X1
      obtain ⟨y0, y1, y2, y3, y4, y5, _, _, _, _, _, _, _⟩ := X2
      have k1 : (nk != nk) = false := by simp
      have k2 : (!(nx.toList == nx.toList)) = false := by simp
      have k3 : (nn != nn) = false := by simp
      have k4 : (((nf : Nat) : Int) != ((nf : Nat) : Int)) = false := by simp
      have k6 : (((M : Nat) : Int) != ((M : Nat) : Int)) = false := by simp
      have hpp2 : at' = false ∨ (at' = true ∧ np' = np) := by
        cases hh : at' with
        | false => exact .inl rfl
        | true => exact .inr ⟨rfl, HPP.out hh⟩
      have k5 : (((np : Nat) : Int) != ((np : Nat) : Int)) = false := by simp
      clear HPP HAT
      rcases hpp2 with rfl | ⟨rfl, rfl⟩
      all_goals (
        go_quiet (fail)
        have HB4 := hidb (below_drewN HB2.out nq)
        have hbd : Below W2.heap.size W2 (W2.drewN nq) := below_drewN (Below.refl _ _) nq
        have HX3 := hidb (HX1.out.keep hbd)
        have HX4 := hidb (HX2.out.keep hbd)
        clear hbd x0 x1 x2 x3 x4 x5 y0 y1 y2 y3 y4 y5 HX1 HX2
        generalize W2.drewN nq = W4 at HB4 HX3 HX4 ⊢
        go_wp2_with fail
        go_loopg [10] M (fun gf s10 wy => ∃ k : Nat, s10 = .int .i64 (k : Int) ∧ k + gf = M ∧ Below W4.heap.size W4 wy)
        case atStart => exact ⟨0, rfl, by omega, Below.refl _ _⟩
        case round =>
          obtain ⟨k, rfl, hkg, hby⟩ := hrel
          have x4 := (HX3.out.keep hby).c4
          have y4 := (HX4.out.keep hby).c4
          by_cases hk : k < M
          · obtain ⟨g2, rfl⟩ : ∃ g2, gk = g2 + 1 := ⟨gk - 1, by omega⟩
            obtain ⟨x, hx⟩ : ∃ x, nl[k]? = some x := ⟨_, List.getElem?_eq_getElem (by have := HM.out; omega)⟩
            obtain ⟨ba, rfl, hba, hcA⟩ := HRA.out k x hx
            obtain ⟨bb, rfl, hbb, hcB⟩ := HRB.out k x hx
            have hbY : Below w.heap.size w wr := (HX.out.trans (HB4.out.mono HX.out.size)).trans (hby.mono (Nat.le_trans HX.out.size HB4.out.size))
            have c0 : wr.cell? ⟨ba, k, none⟩ = some (.int .i64 (x : Int)) := (hbY.cell (p := ⟨ba, k, none⟩) hba).trans (hcA k x hx)
            have c1 : wr.cell? ⟨bb, k, none⟩ = some (.int .i64 (x : Int)) := (hbY.cell (p := ⟨bb, k, none⟩) hbb).trans (hcB k x hx)
            have j0 : (0 : Int) ≤ (k : Int) := by omega
            have j1 : (k : Int) < (M : Int) := by omega
            have l0 : (((x : Nat) : Int) != ((x : Nat) : Int)) = false := by simp
            have HBY := hidb hby
            clear hby hbY hcA hcB
            go_wp2_with fail
            go_quiet (fail)
            go_wp2_with fail
            go_roundg g2
            case measure => omega
            case rel => exact ⟨k + 1, by simp, by omega, below_drewN HBY.out _⟩
          · have j1 : ¬ (k : Int) < (M : Int) := by omega
            have HBY := hidb hby
            clear hby
            go_wp2_with fail
            go_roundg g'
            case measure => omega
            case rel => exact ⟨j + 1, by simp, by omega, HB4.out.trans (HBY.out.mono HB4.out.size)⟩)
    · have i1 : ¬ (j : Int) < (N : Int) := by omega
      go_wp2_with fail
      go_ret
      exact ⟨rfl, HX.out.trans (hbw.mono HX.out.size)⟩
end Go.Proofs.YtdpfmmbfidknfaaGreatDoor


