import Derived.Test.YtppmcimcmcognaaGreatDoorG32
import Derived.Test.YtppmcimcmcognaaGreatDoorG19
import Derived.Deep.LoopGhost
import Derived.BigQuiet
import Derived.Test.YtppmcimcmcognaaGreatDoorG28
/- The tree of tokens does not hang on places. -/
namespace Go.Proofs.YtppmcimcmcognaaGreatDoor
namespace Gm
variable {e e' : PM Nat}
theorem bare_getD {l l' : List Nd} (h : l.map bareN = l'.map bareN) (i : Nat) (d : Nd) : bareN (l.getD i d) = bareN (l'.getD i d) := by
  have h1 : (l.map bareN)[i]? = (l'.map bareN)[i]? := by rw [h]
  rw [List.getElem?_map, List.getElem?_map] at h1
  rw [List.getD_eq_getElem?_getD, List.getD_eq_getElem?_getD]
  cases h2 : l[i]? with
  | none =>
    rw [h2] at h1
    cases h3 : l'[i]? with
    | none => rfl
    | some n => rw [h3] at h1; cases h1
  | some m =>
    rw [h2] at h1
    cases h3 : l'[i]? with
    | none => rw [h3] at h1; cases h1
    | some n => rw [h3] at h1; exact Option.some.inj h1
theorem bareN_x {m n : Nd} (h : bareN m = bareN n) : m.x = n.x := by
  have h2 : (bareN m).x = (bareN n).x := by rw [h]
  exact h2
theorem bareN_n {m n : Nd} (h : bareN m = bareN n) : m.n = n.n := by
  have h2 : (bareN m).n = (bareN n).n := by rw [h]
  exact h2
theorem bareN_l {m n : Nd} (h : bareN m = bareN n) : m.l = n.l := by
  have h2 : (bareN m).l = (bareN n).l := by rw [h]
  exact h2
theorem bl_function (he : Bl Eq e e') : Bl Eq (functionOf e) (functionOf e') :=
  bl_bind bl_here fun t t' _ => bl_bind (bl_clauses (bl_fclause he)) fun c _ h => by
    subst h
    exact bl_bind (bl_need _) fun _ _ _ => fun s s' hs => by
      have hc := bareN_l (bare_getD (bare_ns hs) c ⟨0, ⟨#[]⟩, 0, 0, [], 0⟩)
      have hf := bare_getD (bare_ns hs) ((s'.ns.getD c ⟨0, ⟨#[]⟩, 0, 0, [], 0⟩).l.headD 0) ⟨0, ⟨#[]⟩, 0, 0, [], 0⟩
      simp only [hc]
      exact bl_lay (by simp only [bareN, bareN_x hf, bareN_n hf]) s s' hs
theorem bl_functions (he : Bl Eq e e') : ∀ k l, Bl Eq (functions e k l) (functions e' k l)
  | 0, _ => bl_pure rfl
  | k + 1, l => bl_bind bl_here fun _ _ ht => bl_ite (by rw [ht.k]) (bl_pure rfl) (bl_bind (bl_function he) fun _ _ h => by subst h; exact bl_functions he k _)
theorem bl_module (he : Bl Eq e e') : Bl Eq (module e) (module e') :=
  bl_bind bl_here fun _ _ _ => bl_bind (bl_need _) fun _ _ _ => bl_bind bl_here fun _ _ hu => bl_if (TkS_isA hu _) (bl_bind bl_next fun _ _ _ => bl_bind (bl_need _) fun _ _ _ => bl_bind (bl_needK _) fun _ _ hn => bl_bind (bl_need _) fun _ _ _ => bl_bind (bl_need _) fun _ _ _ => bl_bind bl_left fun _ _ h => by subst h; exact bl_bind (bl_functions he _ _) fun _ _ h => by subst h; exact bl_lay (by simp only [bareN, hn.x])) (bl_giveUp _)
end Gm
/-- Tokens that are the same but for places make trees that are the same but for places, or faults of one number. -/
theorem tree_blind (ts ts' : List Tk) (h : ts.map bareT = ts'.map bareT) : RR Eq (Gm.module (Gm.expr 201) ⟨ts, [], 0⟩) (Gm.module (Gm.expr 201) ⟨ts', [], 0⟩) :=
  Gm.bl_module (Gm.bl_expr 201) _ _ (by simp only [bareS, h])
end Go.Proofs.YtppmcimcmcognaaGreatDoor


/- The law's Same on trees. -/
namespace Go.Proofs.YtppmcimcmcognaaGreatDoor
open Go.RowKit Go.Lib
attribute [local go_sem] store_float f64bits
attribute [local go_sem ↓] Go.wp_at_zero Go.wp_at_succ

/-- A row of places, its head spelt. -/
theorem LRow.head {w : World} {v : Value} {l : List Nat} (h : LRow w v l) : ∃ a c, v = .slice a l.length c ∧ ∀ (k x : Nat), l[k]? = some x → ∃ b, a = some ⟨b, 0, none⟩ ∧ b < w.heap.size ∧ ∀ (j y : Nat), l[j]? = some y → w.cell? ⟨b, j, none⟩ = some (.int .i64 (y : Int)) := by
  rcases h with ⟨rfl, rfl⟩ | ⟨b, cap, rfl, hl, hc⟩
  · exact ⟨none, 0, rfl, fun k x h => by simp at h⟩
  · exact ⟨_, cap, rfl, fun k x _ => ⟨b, rfl, hl, hc⟩⟩
/-- A row of nodes, its head spelt. -/
theorem Nodes.head {w : World} {B : Nat} {V : Value} {ns : List Nd} (h : Nodes w B V ns) : ∃ a c, V = .slice a ns.length c ∧ ∀ (i : Nat) (n : Nd), ns[i]? = some n → ∃ q v, a = some ⟨q, 0, none⟩ ∧ q < w.heap.size ∧ LRow w v n.l ∧ ∀ j, j < 6 → w.cell? ⟨q, i * 6 + j, none⟩ = (n.cells v)[j]? := by
  by_cases h0 : ns.length = 0
  · obtain ⟨⟨vs, _, ho, _⟩, _⟩ := h
    have hn : ns = [] := List.eq_nil_of_length_eq_zero h0
    subst hn
    rcases ho.2 with ⟨hv, _⟩ | ⟨q, cap, cur, hv, _⟩
    · exact ⟨none, 0, hv, fun i n hi => by simp at hi⟩
    · exact ⟨_, _, hv, fun i n hi => by simp at hi⟩
  · obtain ⟨n0, hn0⟩ : ∃ n, ns[0]? = some n := ⟨_, List.getElem?_eq_getElem (by omega)⟩
    obtain ⟨q, cap, v, hV, _⟩ := h.node hn0
    refine ⟨_, cap, hV, fun i n hi => ?_⟩
    obtain ⟨q', cap', v', hV', _, hq', hL, hc⟩ := h.node hi
    rw [hV] at hV'
    cases hV'
    exact ⟨q, v', rfl, hq', hL, hc⟩
theorem bareN_k {m n : Nd} (h : bareN m = bareN n) : m.k = n.k := by
  have h2 : (bareN m).k = (bareN n).k := by rw [h]
  exact h2
theorem bareN_f {m n : Nd} (h : bareN m = bareN n) : m.f = n.f := by
  have h2 : (bareN m).f = (bareN n).f := by rw [h]
  exact h2
theorem bare_at {l l' : List Nd} (h : l.map bareN = l'.map bareN) {i : Nat} {m : Nd} (hi : l[i]? = some m) : ∃ n, l'[i]? = some n ∧ bareN m = bareN n := by
  have h1 : (l.map bareN)[i]? = some (bareN m) := by rw [List.getElem?_map, hi]; rfl
  rw [h, List.getElem?_map] at h1
  cases hn : l'[i]? with
  | none => rw [hn] at h1; cases h1
  | some n => rw [hn] at h1; exact ⟨n, rfl, (Option.some.inj h1).symm⟩

set_option maxHeartbeats 4000000 in
set_option maxRecDepth 100000 in
theorem same_trees (at' : Bool) {ns ns' : List Nd} (hbr : ns.map bareN = ns'.map bareN) (hat : at' = true → ns = ns') (hsm : ∀ (i : Nat) (n : Nd), ns[i]? = some n → n.l.length ≤ 20000) (r : Nat) {w : World} {Ba Bb : Nat} {Va Vb : Value} (ha : Nodes w Ba Va ns) (hb : Nodes w Bb Vb ns') :
    Calls Tryz.prog 12 #[.agg #[Va, iv r], .agg #[Vb, iv r], .bool at'] w fun e w' => e = .returned (.bool true) ∧ Below w.heap.size w w' := by
  obtain ⟨aa, ca, rfl, hna⟩ := ha.head
  obtain ⟨ab, cb, rfl, hnb⟩ := hb.head
  have hlen : ns'.length = ns.length := by have := congrArg List.length hbr; simpa using this.symm
  rw [hlen]
  obtain ⟨N, hN⟩ : ∃ N, ns.length = N := ⟨_, rfl⟩
  have hfew := ha.few
  rw [hN] at hfew ⊢
  have HNA := hidb hna
  have HNB := hidb hnb
  have HBR := hidb hbr
  have HAT := hidb hat
  have HSM := hidb hsm
  have HN := hidb hN
  clear hna hnb ha hb hbr hlen hat hN hsm
  have D1 : Duo ((w.alloc (.cells #[.slice aa N ca, iv r] 25)).alloc (.cells #[.slice ab N cb, iv r] 25)) w.heap.size (.slice aa N ca) (iv r) := (Duo.new w _ _ _).keep (below_new _ _)
  have D2 : Duo ((w.alloc (.cells #[.slice aa N ca, iv r] 25)).alloc (.cells #[.slice ab N cb, iv r] 25)) (w.heap.size + 1) (.slice ab N cb) (iv r) := by
    have := Duo.new (w.alloc (.cells #[.slice aa N ca, iv r] 25)) 25 (.slice ab N cb) (iv r)
    simpa using this
  have hX : Below w.heap.size w ((w.alloc (.cells #[.slice aa N ca, iv r] 25)).alloc (.cells #[.slice ab N cb, iv r] 25)) := ((Below.refl _ _).alloc (Nat.le_refl _) _).alloc (by simp) _
  have HD1 := hidb D1
  have HD2 := hidb D2
  have HX := hidb hX
  clear D1 D2 hX
  go_enter Tryz.func12, Tryz.ntmps12
  go_wp2_with fail
  generalize ((w.alloc (.cells #[.slice aa N ca, iv r] 25)).alloc (.cells #[.slice ab N cb, iv r] 25)) = X at HD1 HD2 HX ⊢
  go_loopg [7] N (fun gf s7 wx => ∃ j : Nat, s7 = .int .i64 (j : Int) ∧ j + gf = N ∧ Below X.heap.size X wx)
  case atStart => exact ⟨0, rfl, by omega, Below.refl _ _⟩
  case round =>
    obtain ⟨j, rfl, hjg, hbw⟩ := hrel
    obtain ⟨p0, p1, _, _, pl⟩ := HD1.out.keep hbw
    obtain ⟨q0, q1, _, _, ql⟩ := HD2.out.keep hbw
    by_cases hj : j < N
    · obtain ⟨g', rfl⟩ : ∃ g', gk = g' + 1 := ⟨gk - 1, by omega⟩
      obtain ⟨n, hn⟩ : ∃ n, ns[j]? = some n := ⟨_, List.getElem?_eq_getElem (by have := HN.out; omega)⟩
      obtain ⟨n', hn', hbn⟩ := bare_at HBR.out hn
      obtain ⟨qa, va, rfl, hqa, hLa, hca⟩ := HNA.out j n hn
      obtain ⟨qb, vb, rfl, hqb, hLb, hcb⟩ := HNB.out j n' hn'
      have hbW : Below w.heap.size w wr := HX.out.trans (hbw.mono HX.out.size)
      have hpp : at' = true → n'.p = n.p := fun h => by have := HAT.out h; rw [this] at hn; rw [hn] at hn'; cases hn'; rfl
      have hll := Gm.bareN_l hbn
      obtain ⟨la, cla, rfl, hra⟩ := hLa.head
      obtain ⟨lb, clb, rfl, hrb⟩ := hLb.head
      rw [← hll] at hrb hcb
      obtain ⟨nk, nx, nn, nf, nl, np⟩ := n
      obtain ⟨nk', nx', nn', nf', nl', np'⟩ := n'
      obtain rfl : nk = nk' := bareN_k hbn
      obtain rfl : nx = nx' := Gm.bareN_x hbn
      obtain rfl : nn = nn' := Gm.bareN_n hbn
      obtain rfl : nf = nf' := bareN_f hbn
      simp only at hra hrb hcb hca hpp hll
      have hMs : nl.length ≤ 20000 := HSM.out j _ hn
      obtain ⟨M, hM⟩ : ∃ M, nl.length = M := ⟨_, rfl⟩
      rw [hM] at hcb hca hMs
      have a0 : wr.cell? ⟨qa, j * 6, none⟩ = some (.int .i64 nk) := (hbW.cell (p := ⟨qa, j * 6, none⟩) hqa).trans (hca 0 (by omega))
      have a1 : wr.cell? ⟨qa, j * 6 + 1, none⟩ = some (.string nx) := (hbW.cell (p := ⟨qa, j * 6 + 1, none⟩) hqa).trans (hca 1 (by omega))
      have a2 : wr.cell? ⟨qa, j * 6 + 2, none⟩ = some (.int .i64 nn) := (hbW.cell (p := ⟨qa, j * 6 + 2, none⟩) hqa).trans (hca 2 (by omega))
      have a3 : wr.cell? ⟨qa, j * 6 + 3, none⟩ = some (.float .f64 nf) := (hbW.cell (p := ⟨qa, j * 6 + 3, none⟩) hqa).trans (hca 3 (by omega))
      have a4 : wr.cell? ⟨qa, j * 6 + 4, none⟩ = some (.slice la M cla) := (hbW.cell (p := ⟨qa, j * 6 + 4, none⟩) hqa).trans (hca 4 (by omega))
      have a5 : wr.cell? ⟨qa, j * 6 + 5, none⟩ = some (.int .i64 (np : Int)) := (hbW.cell (p := ⟨qa, j * 6 + 5, none⟩) hqa).trans (hca 5 (by omega))
      have b0 : wr.cell? ⟨qb, j * 6, none⟩ = some (.int .i64 nk) := (hbW.cell (p := ⟨qb, j * 6, none⟩) hqb).trans (hcb 0 (by omega))
      have b1 : wr.cell? ⟨qb, j * 6 + 1, none⟩ = some (.string nx) := (hbW.cell (p := ⟨qb, j * 6 + 1, none⟩) hqb).trans (hcb 1 (by omega))
      have b2 : wr.cell? ⟨qb, j * 6 + 2, none⟩ = some (.int .i64 nn) := (hbW.cell (p := ⟨qb, j * 6 + 2, none⟩) hqb).trans (hcb 2 (by omega))
      have b3 : wr.cell? ⟨qb, j * 6 + 3, none⟩ = some (.float .f64 nf) := (hbW.cell (p := ⟨qb, j * 6 + 3, none⟩) hqb).trans (hcb 3 (by omega))
      have b4 : wr.cell? ⟨qb, j * 6 + 4, none⟩ = some (.slice lb M clb) := (hbW.cell (p := ⟨qb, j * 6 + 4, none⟩) hqb).trans (hcb 4 (by omega))
      have b5 : wr.cell? ⟨qb, j * 6 + 5, none⟩ = some (.int .i64 (np' : Int)) := (hbW.cell (p := ⟨qb, j * 6 + 5, none⟩) hqb).trans (hcb 5 (by omega))
      have hz := hbW.size
      have hqa3 : qa < wr.heap.size := by omega
      have hqb3 : qb < wr.heap.size := by omega
      have i0 : (0 : Int) ≤ (j : Int) := by omega
      have i1 : (j : Int) < (N : Int) := by omega
      have HBW := hidb hbw
      have HRA := hidb hra
      have HRB := hidb hrb
      have HM := hidb hM
      have HPP := hidb hpp
      clear hca hcb hbw hra hrb hLa hLb hn hn' hbn hll hM hpp
      go_wp2_with fail
      have X1 := (Six.new wr 46 (.int .i64 nk) (.string nx) (.int .i64 nn) (.float .f64 nf) (.slice la M cla) (.int .i64 (np : Int))).keep (below_new _ (Obj.cells #[.int .i64 nk, .string nx, .int .i64 nn, .float .f64 nf, .slice lb M clb, .int .i64 (np' : Int)] 46))
      have X2 := Six.new (wr.alloc (Obj.cells #[.int .i64 nk, .string nx, .int .i64 nn, .float .f64 nf, .slice la M cla, .int .i64 (np : Int)] 46)) 46 (.int .i64 nk) (.string nx) (.int .i64 nn) (.float .f64 nf) (.slice lb M clb) (.int .i64 (np' : Int))
      have hs1 : (wr.alloc (Obj.cells #[.int .i64 nk, .string nx, .int .i64 nn, .float .f64 nf, .slice la M cla, .int .i64 (np : Int)] 46)).heap.size = wr.heap.size + 1 := by simp
      rw [hs1] at X2
      have HB2 : Hid (Below X.heap.size X ((wr.alloc (Obj.cells #[.int .i64 nk, .string nx, .int .i64 nn, .float .f64 nf, .slice la M cla, .int .i64 (np : Int)] 46)).alloc (Obj.cells #[.int .i64 nk, .string nx, .int .i64 nn, .float .f64 nf, .slice lb M clb, .int .i64 (np' : Int)] 46))) := hidb ((HBW.out.alloc HBW.out.size _).alloc (by have := HBW.out.size; simp; omega) _)
      generalize hW2 : ((wr.alloc (Obj.cells #[.int .i64 nk, .string nx, .int .i64 nn, .float .f64 nf, .slice la M cla, .int .i64 (np : Int)] 46)).alloc (Obj.cells #[.int .i64 nk, .string nx, .int .i64 nn, .float .f64 nf, .slice lb M clb, .int .i64 (np' : Int)] 46)) = W2 at *
      clear hW2 a0 a1 a2 a3 a4 a5 b0 b1 b2 b3 b4 b5 hs1 p0 p1 q0 q1
      have HX1 := hidb X1
      have HX2 := hidb X2
      obtain ⟨x0, x1, x2, x3, x4, x5, _, _, _, _, _, _, _⟩ := X1
      obtain ⟨y0, y1, y2, y3, y4, y5, _, _, _, _, _, _, _⟩ := X2
      have k1 : (nk != nk) = false := by simp
      have k2 : (!(nx.toList == nx.toList)) = false := by simp
      have k3 : (nn != nn) = false := by simp
      have k4 : (((nf : Nat) : Int) != ((nf : Nat) : Int)) = false := by simp
      have k6 : (((M : Nat) : Int) != ((M : Nat) : Int)) = false := by simp
      have hpp2 : at' = false ∨ (at' = true ∧ np' = np) := by
        cases hh : at' with
        | false => exact .inl rfl
        | true => exact .inr ⟨rfl, HPP.out hh⟩
      have k5 : (((np : Nat) : Int) != ((np : Nat) : Int)) = false := by simp
      clear HPP HAT
      rcases hpp2 with rfl | ⟨rfl, rfl⟩
      all_goals (
        go_quiet (fail)
        have HB4 := hidb (below_drewN HB2.out nq)
        have hbd : Below W2.heap.size W2 (W2.drewN nq) := below_drewN (Below.refl _ _) nq
        have HX3 := hidb (HX1.out.keep hbd)
        have HX4 := hidb (HX2.out.keep hbd)
        clear hbd x0 x1 x2 x3 x4 x5 y0 y1 y2 y3 y4 y5 HX1 HX2
        generalize W2.drewN nq = W4 at HB4 HX3 HX4 ⊢
        go_wp2_with fail
        go_loopg [10] M (fun gf s10 wy => ∃ k : Nat, s10 = .int .i64 (k : Int) ∧ k + gf = M ∧ Below W4.heap.size W4 wy)
        case atStart => exact ⟨0, rfl, by omega, Below.refl _ _⟩
        case round =>
          obtain ⟨k, rfl, hkg, hby⟩ := hrel
          have x4 := (HX3.out.keep hby).c4
          have y4 := (HX4.out.keep hby).c4
          by_cases hk : k < M
          · obtain ⟨g2, rfl⟩ : ∃ g2, gk = g2 + 1 := ⟨gk - 1, by omega⟩
            obtain ⟨x, hx⟩ : ∃ x, nl[k]? = some x := ⟨_, List.getElem?_eq_getElem (by have := HM.out; omega)⟩
            obtain ⟨ba, rfl, hba, hcA⟩ := HRA.out k x hx
            obtain ⟨bb, rfl, hbb, hcB⟩ := HRB.out k x hx
            have hbY : Below w.heap.size w wr := (HX.out.trans (HB4.out.mono HX.out.size)).trans (hby.mono (Nat.le_trans HX.out.size HB4.out.size))
            have c0 : wr.cell? ⟨ba, k, none⟩ = some (.int .i64 (x : Int)) := (hbY.cell (p := ⟨ba, k, none⟩) hba).trans (hcA k x hx)
            have c1 : wr.cell? ⟨bb, k, none⟩ = some (.int .i64 (x : Int)) := (hbY.cell (p := ⟨bb, k, none⟩) hbb).trans (hcB k x hx)
            have j0 : (0 : Int) ≤ (k : Int) := by omega
            have j1 : (k : Int) < (M : Int) := by omega
            have l0 : (((x : Nat) : Int) != ((x : Nat) : Int)) = false := by simp
            have HBY := hidb hby
            clear hby hbY hcA hcB
            go_wp2_with fail
            go_quiet (fail)
            go_wp2_with fail
            go_roundg g2
            case measure => omega
            case rel => exact ⟨k + 1, by simp, by omega, below_drewN HBY.out _⟩
          · have j1 : ¬ (k : Int) < (M : Int) := by omega
            have HBY := hidb hby
            clear hby
            go_wp2_with fail
            go_roundg g'
            case measure => omega
            case rel => exact ⟨j + 1, by simp, by omega, HB4.out.trans (HBY.out.mono HB4.out.size)⟩)
    · have i1 : ¬ (j : Int) < (N : Int) := by omega
      go_wp2_with fail
      go_ret
      exact ⟨rfl, HX.out.trans (hbw.mono HX.out.size)⟩
end Go.Proofs.YtppmcimcmcognaaGreatDoor


/- The reference's small functions. -/
namespace Go.Proofs.YtppmcimcmcognaaGreatDoor
open Go.RowKit Go.Lib
attribute [local go_sem] store_float f64bits
attribute [local go_sem ↓] Go.wp_at_zero Go.wp_at_succ

theorem rdigit_any (n : Nat) (w : World) : Calls Tryz.prog 56 #[.int .u8 (n : Int)] w fun e w' => e = .returned (.bool (pDigit n)) ∧ w' = w := by
  unfold pDigit
  by_cases h1 : 48 ≤ n <;> by_cases h2 : n ≤ 57 <;> (have i1 : ((48 : Int) ≤ (n : Int)) = (48 ≤ n) := by (apply propext; omega)) <;> (have i2 : ((n : Int) ≤ 57) = (n ≤ 57) := by (apply propext; omega)) <;> (go_enter Tryz.func56, Tryz.ntmps56; go_wp2; go_ret; refine ⟨?_, rfl⟩; simp [h1, h2]) <;> omega

theorem rletter_any (n : Nat) (w : World) : Calls Tryz.prog 80 #[.int .u8 (n : Int)] w fun e w' => e = .returned (.bool (pName n)) ∧ w' = w := by
  go_enter Tryz.func80, Tryz.ntmps80
  go_wp2
  all_goals (go_ret; refine ⟨congrArg (fun b => Ending.returned (Value.bool b)) ?_, rfl⟩; simp only [pName, pSmall, pCapital, pDigit]; rw [Bool.eq_iff_iff]; simp; omega)

theorem rhexed_any (n : Nat) (w : World) : Calls Tryz.prog 83 #[.int .u8 (n : Int)] w fun e w' => e = .returned (.int .i64 (match hexd n with | some d => (d : Int) | none => -1)) ∧ w' = w := by
  have cD := rdigit_any n w
  unfold hexd
  cases hd : pDigit n <;> rw [hd] at cD
  · simp only [Bool.false_eq_true, if_false]
    by_cases h1 : 97 ≤ n
    · have i1 : (97 : Int) ≤ (n : Int) := by omega
      by_cases h2 : n ≤ 102
      · have i2 : (n : Int) ≤ 102 := by omega
        rw [if_pos ⟨h1, h2⟩]
        go_enter Tryz.func83, Tryz.ntmps83
        go_wp2_with (go_at_call 56; refine cD.mono ?_; rintro e w' ⟨rfl, hw'⟩; obtain rfl := hw'.symm)
        go_ret
        exact ⟨congrArg (fun b => Ending.returned (Value.int .i64 b)) (by omega), rfl⟩
      · have i2 : ¬ (n : Int) ≤ 102 := by omega
        rw [if_neg (by omega)]
        go_enter Tryz.func83, Tryz.ntmps83
        go_wp2_with (go_at_call 56; refine cD.mono ?_; rintro e w' ⟨rfl, hw'⟩; obtain rfl := hw'.symm)
        go_ret
        exact ⟨rfl, rfl⟩
    · have i1 : ¬ (97 : Int) ≤ (n : Int) := by omega
      rw [if_neg (by omega)]
      go_enter Tryz.func83, Tryz.ntmps83
      go_wp2_with (go_at_call 56; refine cD.mono ?_; rintro e w' ⟨rfl, hw'⟩; obtain rfl := hw'.symm)
      go_ret
      exact ⟨rfl, rfl⟩
  · simp only [if_true]
    simp [pDigit] at hd
    have i1 : (48 : Int) ≤ (n : Int) := by omega
    have i2 : (n : Int) ≤ 57 := by omega
    go_enter Tryz.func83, Tryz.ntmps83
    go_wp2_with (go_at_call 56; refine cD.mono ?_; rintro e w' ⟨rfl, hw'⟩; obtain rfl := hw'.symm)
    go_ret
    exact ⟨congrArg (fun b => Ending.returned (Value.int .i64 b)) (by omega), rfl⟩

theorem at_byte (s : ByteArray) (p : Nat) (h : p < s.size) : (s[p]'h).toNat = bt s p := by unfold bt; rw [get_of_lt _ _ h]

set_option maxHeartbeats 1000000 in
theorem rword_any (s : ByteArray) (i : Nat) (hi : i ≤ s.size) (hs : s.size ≤ 65536) (w : World) : Calls Tryz.prog 54 #[.string s, .int .i64 (i : Int)] w fun e w' => e = .returned (.int .i64 (goes pName s i : Nat)) ∧ w' = w := by
  go_enter Tryz.func54, Tryz.ntmps54
  go_wp2_with fail
  go_loopg [1] (s.size - i) (fun gf s1 wx => ∃ p : Nat, s1 = .int .i64 (p : Int) ∧ p ≤ s.size ∧ p + gf = s.size ∧ goes pName s p = goes pName s i ∧ wx = w)
  case atStart => exact ⟨i, rfl, hi, by omega, rfl, rfl⟩
  case round =>
    obtain ⟨p, rfl, hp, hgf, hgo, hwx⟩ := hrel
    obtain rfl := hwx.symm
    by_cases hlt : p < s.size
    · obtain ⟨g', rfl⟩ : ∃ g', gk = g' + 1 := ⟨gk - 1, by omega⟩
      have i0 : (0 : Int) ≤ (p : Int) := by omega
      have i1 : (p : Int) < (s.size : Int) := by omega
      have hb := fun h => at_byte s p h
      have cL := rletter_any (bt s p)
      have h1 := goes_on (p := pName) hlt
      have h2 := goes_stop (p := pName) (s := s) (i := p)
      obtain ⟨c, hc⟩ : ∃ c, bt s p = c := ⟨_, rfl⟩
      rw [hc] at cL h1 h2
      simp only [hc] at hb
      cases hn : pName c <;> rw [hn] at cL
      · have hg := h2 hn
        clear h1 h2 hc
        go_wp2_with (first | (go_at_call 80; refine (cL _).mono ?_; rintro e w' ⟨rfl, hw'⟩; obtain rfl := hw'.symm))
        go_ret
        refine ⟨?_, rfl⟩
        rw [← hgo, hg]
        rfl
      · have hg := h1 hn
        clear h1 h2 hc
        go_wp2_with (first | (go_at_call 80; refine (cL _).mono ?_; rintro e w' ⟨rfl, hw'⟩; obtain rfl := hw'.symm))
        go_roundg g'
        case measure => omega
        case rel => exact ⟨p + 1, by simp, by omega, by omega, by rw [← hg]; exact hgo, rfl⟩
    · have i1 : ¬ (p : Int) < (s.size : Int) := by omega
      go_wp2_with fail
      go_ret
      refine ⟨?_, rfl⟩
      rw [← hgo, goes_end (by omega)]
      rfl

set_option maxHeartbeats 1000000 in
theorem rwhole_any (D : ByteArray) (h : Digs D) (hs : D.size ≤ 18) (w : World) : Calls Tryz.prog 82 #[.string D] w fun e w' => e = .returned (.int .i64 (wor D D.size : Nat)) ∧ w' = w := by
  go_enter Tryz.func82, Tryz.ntmps82
  go_wp2_with fail
  go_loopg [3, 4] D.size (fun gf s3 s4 wx => ∃ pos : Nat, s3 = .int .i64 (wor D pos : Nat) ∧ s4 = .int .i64 (pos : Int) ∧ pos + gf = D.size ∧ wx = w)
  case atStart => exact ⟨0, rfl, rfl, by omega, rfl⟩
  case round =>
    obtain ⟨pos, rfl, rfl, hgf, hwx⟩ := hrel
    obtain rfl := hwx.symm
    by_cases hlt : pos < D.size
    · obtain ⟨g', rfl⟩ : ∃ g', gk = g' + 1 := ⟨gk - 1, by omega⟩
      have i0 : (0 : Int) ≤ (pos : Int) := by omega
      have i1 : (pos : Int) < (D.size : Int) := by omega
      have hd := h pos hlt
      simp [pDigit] at hd
      have hb := fun h => at_byte D pos h
      have hv : wor D pos < 100000000000000000 := by
        have h1 := wor_lt D h pos (by omega)
        have h2 : 10 ^ pos ≤ 10 ^ 17 := Nat.pow_le_pow_right (by omega) (by omega)
        omega
      have hsu : wor D (pos + 1) = wor D pos * 10 + (bt D pos - 48) := rfl
      obtain ⟨V, hV⟩ : ∃ V, wor D pos = V := ⟨_, rfl⟩
      obtain ⟨c, hc⟩ : ∃ c, bt D pos = c := ⟨_, rfl⟩
      rw [hV] at hv hsu ⊢
      rw [hc] at hd hsu
      obtain ⟨X, hX⟩ : ∃ X : Int, (V : Int) = X := ⟨_, rfl⟩
      obtain ⟨Y, hY⟩ : ∃ Y : Int, (c : Int) = Y := ⟨_, rfl⟩
      have hb2 : ∀ h, (((D[pos]'h).toNat : Nat) : Int) = Y := fun h => by rw [hb h, hc, hY]
      rw [hX]
      have x0 : 0 ≤ X := by omega
      have x1 : X < 100000000000000000 := by omega
      have y0 : 48 ≤ Y := by omega
      have y1 : Y ≤ 57 := by omega
      have u1 : IntKind.u8.wrap (Y - 48) = Y - 48 := by rw [IntKind.wrap_u8]; omega
      have HR : Hid ((wor D (pos + 1) : Int) = 10 * X + (Y - 48)) := hidb (by omega)
      clear hv hsu hX hY hd hV hc hb
      go_wp2_with fail
      go_roundg g'
      case measure => omega
      case rel => exact ⟨pos + 1, by rw [HR.out], by simp, by omega, rfl⟩
    · obtain rfl : pos = D.size := by omega
      have i1 : ¬ (D.size : Int) < (D.size : Int) := by omega
      go_wp2_with fail
      go_ret
      exact ⟨rfl, rfl⟩
end Go.Proofs.YtppmcimcmcognaaGreatDoor


