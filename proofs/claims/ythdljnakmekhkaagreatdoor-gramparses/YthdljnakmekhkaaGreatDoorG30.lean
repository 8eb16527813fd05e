import Derived.Test.YthdljnakmekhkaaGreatDoorG05
import Derived.Test.YthdljnakmekhkaaGreatDoorG29
import Derived.Test.YthdljnakmekhkaaGreatDoorG09
import Derived.Deep.LoopGhost
import Derived.BigQuiet
import Derived.Test.YthdljnakmekhkaaGreatDoorG24
/- The grammar does not look at places. -/
namespace Go.Proofs.YthdljnakmekhkaaGreatDoor

/-- A token, a node, a state without places. -/
def bareT (t : Tk) : Tk := { t with p := 0 }
def bareN (n : Nd) : Nd := { n with p := 0 }
def bareS (s : PS) : PS := ⟨s.ts.map bareT, s.ns.map bareN, s.o⟩

/-- Two steps' ends: faults of one number, or values that are alike and states that are the same but for places. -/
def RR {α : Type} (r : α → α → Prop) : Except (Int × Nat) (α × PS) → Except (Int × Nat) (α × PS) → Prop
  | .error e, .error e' => e.1 = e'.1
  | .ok (a, s), .ok (b, t) => r a b ∧ bareS s = bareS t
  | _, _ => False
def Bl {α : Type} (r : α → α → Prop) (m m' : PM α) : Prop := ∀ s s', bareS s = bareS s' → RR r (m s) (m' s')
abbrev TkS (t u : Tk) : Prop := bareT t = bareT u

theorem TkS.k {t u : Tk} (h : TkS t u) : t.k = u.k := by
  have h2 : (bareT t).k = (bareT u).k := by rw [h]
  exact h2
theorem TkS.x {t u : Tk} (h : TkS t u) : t.x = u.x := by
  have h2 : (bareT t).x = (bareT u).x := by rw [h]
  exact h2
theorem TkS.n {t u : Tk} (h : TkS t u) : t.n = u.n := by
  have h2 : (bareT t).n = (bareT u).n := by rw [h]
  exact h2
theorem TkS.f {t u : Tk} (h : TkS t u) : t.f = u.f := by
  have h2 : (bareT t).f = (bareT u).f := by rw [h]
  exact h2

namespace Gm
variable {e e' : PM Nat}
abbrev TkL (l l' : List Tk) : Prop := l.map bareT = l'.map bareT
end Gm
end Go.Proofs.YthdljnakmekhkaaGreatDoor


/- The tree of tokens does not hang on places. -/
namespace Go.Proofs.YthdljnakmekhkaaGreatDoor
namespace Gm
variable {e e' : PM Nat}
theorem bareN_x {m n : Nd} (h : bareN m = bareN n) : m.x = n.x := by
  have h2 : (bareN m).x = (bareN n).x := by rw [h]
  exact h2
theorem bareN_n {m n : Nd} (h : bareN m = bareN n) : m.n = n.n := by
  have h2 : (bareN m).n = (bareN n).n := by rw [h]
  exact h2
theorem bareN_l {m n : Nd} (h : bareN m = bareN n) : m.l = n.l := by
  have h2 : (bareN m).l = (bareN n).l := by rw [h]
  exact h2
end Gm
end Go.Proofs.YthdljnakmekhkaaGreatDoor


/- The law's Same on trees. -/
namespace Go.Proofs.YthdljnakmekhkaaGreatDoor
open Go.RowKit Go.Lib
attribute [local go_sem] store_float f64bits
attribute [local go_sem ↓] Go.wp_at_zero Go.wp_at_succ

/-- A row of places, its head spelt. -/
theorem LRow.head {w : World} {v : Value} {l : List Nat} (h : LRow w v l) : ∃ a c, v = .slice a l.length c ∧ ∀ (k x : Nat), l[k]? = some x → ∃ b, a = some ⟨b, 0, none⟩ ∧ b < w.heap.size ∧ ∀ (j y : Nat), l[j]? = some y → w.cell? ⟨b, j, none⟩ = some (.int .i64 (y : Int)) := by
  rcases h with ⟨rfl, rfl⟩ | ⟨b, cap, rfl, hl, hc⟩
  · exact ⟨none, 0, rfl, fun k x h => by simp at h⟩
  · exact ⟨_, cap, rfl, fun k x _ => ⟨b, rfl, hl, hc⟩⟩
/-- A row of nodes, its head spelt. -/
theorem Nodes.head {w : World} {B : Nat} {V : Value} {ns : List Nd} (h : Nodes w B V ns) : ∃ a c, V = .slice a ns.length c ∧ ∀ (i : Nat) (n : Nd), ns[i]? = some n → ∃ q v, a = some ⟨q, 0, none⟩ ∧ q < w.heap.size ∧ LRow w v n.l ∧ ∀ j, j < 6 → w.cell? ⟨q, i * 6 + j, none⟩ = (n.cells v)[j]? := by
  by_cases h0 : ns.length = 0
  · obtain ⟨⟨vs, _, ho, _⟩, _⟩ := h
    have hn : ns = [] := List.eq_nil_of_length_eq_zero h0
    subst hn
    rcases ho.2 with ⟨hv, _⟩ | ⟨q, cap, cur, hv, _⟩
    · exact ⟨none, 0, hv, fun i n hi => by simp at hi⟩
    · exact ⟨_, _, hv, fun i n hi => by simp at hi⟩
  · obtain ⟨n0, hn0⟩ : ∃ n, ns[0]? = some n := ⟨_, List.getElem?_eq_getElem (by omega)⟩
    obtain ⟨q, cap, v, hV, _⟩ := h.node hn0
    refine ⟨_, cap, hV, fun i n hi => ?_⟩
    obtain ⟨q', cap', v', hV', _, hq', hL, hc⟩ := h.node hi
    rw [hV] at hV'
    cases hV'
    exact ⟨q, v', rfl, hq', hL, hc⟩
theorem bareN_k {m n : Nd} (h : bareN m = bareN n) : m.k = n.k := by
  have h2 : (bareN m).k = (bareN n).k := by rw [h]
  exact h2
theorem bareN_f {m n : Nd} (h : bareN m = bareN n) : m.f = n.f := by
  have h2 : (bareN m).f = (bareN n).f := by rw [h]
  exact h2
theorem bare_at {l l' : List Nd} (h : l.map bareN = l'.map bareN) {i : Nat} {m : Nd} (hi : l[i]? = some m) : ∃ n, l'[i]? = some n ∧ bareN m = bareN n := by
  have h1 : (l.map bareN)[i]? = some (bareN m) := by rw [List.getElem?_map, hi]; rfl
  rw [h, List.getElem?_map] at h1
  cases hn : l'[i]? with
  | none => rw [hn] at h1; cases h1
  | some n => rw [hn] at h1; exact ⟨n, rfl, (Option.some.inj h1).symm⟩

set_option maxHeartbeats 4000000 in
set_option maxRecDepth 100000 in
theorem same_trees (at' : Bool) {ns ns' : List Nd} (hbr : ns.map bareN = ns'.map bareN) (hat : at' = true → ns = ns') (hsm : ∀ (i : Nat) (n : Nd), ns[i]? = some n → n.l.length ≤ 20000) (r : Nat) {w : World} {Ba Bb : Nat} {Va Vb : Value} (ha : Nodes w Ba Va ns) (hb : Nodes w Bb Vb ns') :
    Calls Tryz.prog 12 #[.agg #[Va, iv r], .agg #[Vb, iv r], .bool at'] w fun e w' => e = .returned (.bool true) ∧ Below w.heap.size w w' := by
  obtain ⟨aa, ca, rfl, hna⟩ := ha.head
  obtain ⟨ab, cb, rfl, hnb⟩ := hb.head
  have hlen : ns'.length = ns.length := by have := congrArg List.length hbr; simpa using this.symm
  rw [hlen]
  obtain ⟨N, hN⟩ : ∃ N, ns.length = N := ⟨_, rfl⟩
  have hfew := ha.few
  rw [hN] at hfew ⊢
  have HNA := hidb hna
  have HNB := hidb hnb
  have HBR := hidb hbr
  have HAT := hidb hat
  have HSM := hidb hsm
  have HN := hidb hN
  clear hna hnb ha hb hbr hlen hat hN hsm
  have D1 : Duo ((w.alloc (.cells #[.slice aa N ca, iv r] 25)).alloc (.cells #[.slice ab N cb, iv r] 25)) w.heap.size (.slice aa N ca) (iv r) := (Duo.new w _ _ _).keep (below_new _ _)
  have D2 : Duo ((w.alloc (.cells #[.slice aa N ca, iv r] 25)).alloc (.cells #[.slice ab N cb, iv r] 25)) (w.heap.size + 1) (.slice ab N cb) (iv r) := by
    have := Duo.new (w.alloc (.cells #[.slice aa N ca, iv r] 25)) 25 (.slice ab N cb) (iv r)
    simpa using this
  have hX : Below w.heap.size w ((w.alloc (.cells #[.slice aa N ca, iv r] 25)).alloc (.cells #[.slice ab N cb, iv r] 25)) := ((Below.refl _ _).alloc (Nat.le_refl _) _).alloc (by simp) _
  have HD1 := hidb D1
  have HD2 := hidb D2
  have HX := hidb hX
  clear D1 D2 hX
  go_enter Tryz.func12, Tryz.ntmps12
  go_wp2_with fail
  generalize ((w.alloc (.cells #[.slice aa N ca, iv r] 25)).alloc (.cells #[.slice ab N cb, iv r] 25)) = X at HD1 HD2 HX ⊢
  go_loopg [7] N (fun gf s7 wx => ∃ j : Nat, s7 = .int .i64 (j : Int) ∧ j + gf = N ∧ Below X.heap.size X wx)
  case atStart => exact ⟨0, rfl, by omega, Below.refl _ _⟩
  case round =>
    obtain ⟨j, rfl, hjg, hbw⟩ := hrel
    obtain ⟨p0, p1, _, _, pl⟩ := HD1.out.keep hbw
    obtain ⟨q0, q1, _, _, ql⟩ := HD2.out.keep hbw
    by_cases hj : j < N
    · obtain ⟨g', rfl⟩ : ∃ g', gk = g' + 1 := ⟨gk - 1, by omega⟩
      obtain ⟨n, hn⟩ : ∃ n, ns[j]? = some n := ⟨_, List.getElem?_eq_getElem (by have := HN.out; omega)⟩
      obtain ⟨n', hn', hbn⟩ := bare_at HBR.out hn
      obtain ⟨qa, va, rfl, hqa, hLa, hca⟩ := HNA.out j n hn
      obtain ⟨qb, vb, rfl, hqb, hLb, hcb⟩ := HNB.out j n' hn'
      have hbW : Below w.heap.size w wr := HX.out.trans (hbw.mono HX.out.size)
      have hpp : at' = true → n'.p = n.p := fun h => by have := HAT.out h; rw [this] at hn; rw [hn] at hn'; cases hn'; rfl
      have hll := Gm.bareN_l hbn
      obtain ⟨la, cla, rfl, hra⟩ := hLa.head
      obtain ⟨lb, clb, rfl, hrb⟩ := hLb.head
      rw [← hll] at hrb hcb
      obtain ⟨nk, nx, nn, nf, nl, np⟩ := n
      obtain ⟨nk', nx', nn', nf', nl', np'⟩ := n'
      obtain rfl : nk = nk' := bareN_k hbn
      obtain rfl : nx = nx' := Gm.bareN_x hbn
      obtain rfl : nn = nn' := Gm.bareN_n hbn
      obtain rfl : nf = nf' := bareN_f hbn
      simp only at hra hrb hcb hca hpp hll
      have hMs : nl.length ≤ 20000 := HSM.out j _ hn
      obtain ⟨M, hM⟩ : ∃ M, nl.length = M := ⟨_, rfl⟩
      rw [hM] at hcb hca hMs
      have a0 : wr.cell? ⟨qa, j * 6, none⟩ = some (.int .i64 nk) := (hbW.cell (p := ⟨qa, j * 6, none⟩) hqa).trans (hca 0 (by omega))
      have a1 : wr.cell? ⟨qa, j * 6 + 1, none⟩ = some (.string nx) := (hbW.cell (p := ⟨qa, j * 6 + 1, none⟩) hqa).trans (hca 1 (by omega))
      have a2 : wr.cell? ⟨qa, j * 6 + 2, none⟩ = some (.int .i64 nn) := (hbW.cell (p := ⟨qa, j * 6 + 2, none⟩) hqa).trans (hca 2 (by omega))
      have a3 : wr.cell? ⟨qa, j * 6 + 3, none⟩ = some (.float .f64 nf) := (hbW.cell (p := ⟨qa, j * 6 + 3, none⟩) hqa).trans (hca 3 (by omega))
      have a4 : wr.cell? ⟨qa, j * 6 + 4, none⟩ = some (.slice la M cla) := (hbW.cell (p := ⟨qa, j * 6 + 4, none⟩) hqa).trans (hca 4 (by omega))
      have a5 : wr.cell? ⟨qa, j * 6 + 5, none⟩ = some (.int .i64 (np : Int)) := (hbW.cell (p := ⟨qa, j * 6 + 5, none⟩) hqa).trans (hca 5 (by omega))
      have b0 : wr.cell? ⟨qb, j * 6, none⟩ = some (.int .i64 nk) := (hbW.cell (p := ⟨qb, j * 6, none⟩) hqb).trans (hcb 0 (by omega))
      have b1 : wr.cell? ⟨qb, j * 6 + 1, none⟩ = some (.string nx) := (hbW.cell (p := ⟨qb, j * 6 + 1, none⟩) hqb).trans (hcb 1 (by omega))
      have b2 : wr.cell? ⟨qb, j * 6 + 2, none⟩ = some (.int .i64 nn) := (hbW.cell (p := ⟨qb, j * 6 + 2, none⟩) hqb).trans (hcb 2 (by omega))
      have b3 : wr.cell? ⟨qb, j * 6 + 3, none⟩ = some (.float .f64 nf) := (hbW.cell (p := ⟨qb, j * 6 + 3, none⟩) hqb).trans (hcb 3 (by omega))
      have b4 : wr.cell? ⟨qb, j * 6 + 4, none⟩ = some (.slice lb M clb) := (hbW.cell (p := ⟨qb, j * 6 + 4, none⟩) hqb).trans (hcb 4 (by omega))
      have b5 : wr.cell? ⟨qb, j * 6 + 5, none⟩ = some (.int .i64 (np' : Int)) := (hbW.cell (p := ⟨qb, j * 6 + 5, none⟩) hqb).trans (hcb 5 (by omega))
      have hz := hbW.size
      have hqa3 : qa < wr.heap.size := by omega
      have hqb3 : qb < wr.heap.size := by omega
      have i0 : (0 : Int) ≤ (j : Int) := by omega
      have i1 : (j : Int) < (N : Int) := by omega
      have HBW := hidb hbw
      have HRA := hidb hra
      have HRB := hidb hrb
      have HM := hidb hM
      have HPP := hidb hpp
      clear hca hcb hbw hra hrb hLa hLb hn hn' hbn hll hM hpp
      go_wp2_with fail
      have X1 := (Six.new wr 46 (.int .i64 nk) (.string nx) (.int .i64 nn) (.float .f64 nf) (.slice la M cla) (.int .i64 (np : Int))).keep (below_new _ (Obj.cells #[.int .i64 nk, .string nx, .int .i64 nn, .float .f64 nf, .slice lb M clb, .int .i64 (np' : Int)] 46))
      have X2 := Six.new (wr.alloc (Obj.cells #[.int .i64 nk, .string nx, .int .i64 nn, .float .f64 nf, .slice la M cla, .int .i64 (np : Int)] 46)) 46 (.int .i64 nk) (.string nx) (.int .i64 nn) (.float .f64 nf) (.slice lb M clb) (.int .i64 (np' : Int))
      have hs1 : (wr.alloc (Obj.cells #[.int .i64 nk, .string nx, .int .i64 nn, .float .f64 nf, .slice la M cla, .int .i64 (np : Int)] 46)).heap.size = wr.heap.size + 1 := by simp
      rw [hs1] at X2
      have HB2 : Hid (Below X.heap.size X ((wr.alloc (Obj.cells #[.int .i64 nk, .string nx, .int .i64 nn, .float .f64 nf, .slice la M cla, .int .i64 (np : Int)] 46)).alloc (Obj.cells #[.int .i64 nk, .string nx, .int .i64 nn, .float .f64 nf, .slice lb M clb, .int .i64 (np' : Int)] 46))) := hidb ((HBW.out.alloc HBW.out.size _).alloc (by have := HBW.out.size; simp; omega) _)
      generalize hW2 : ((wr.alloc (Obj.cells #[.int .i64 nk, .string nx, .int .i64 nn, .float .f64 nf, .slice la M cla, .int .i64 (np : Int)] 46)).alloc (Obj.cells #[.int .i64 nk, .string nx, .int .i64 nn, .float .f64 nf, .slice lb M clb, .int .i64 (np' : Int)] 46)) = W2 at *
      clear hW2 a0 a1 a2 a3 a4 a5 b0 b1 b2 b3 b4 b5 hs1 p0 p1 q0 q1
      have HX1 := hidb X1
      have HX2 := hidb X2
      obtain ⟨x0, x1, x2, x3, x4, x5, _, _, _, _, _, _, _⟩ := X1
      obtain ⟨y0, y1, y2, y3, y4, y5, _, _, _, _, _, _, _⟩ := X2
      have k1 : (nk != nk) = false := by simp
      have k2 : (!(nx.toList == nx.toList)) = false := by simp
      have k3 : (nn != nn) = false := by simp
      have k4 : (((nf : Nat) : Int) != ((nf : Nat) : Int)) = false := by simp
      have k6 : (((M : Nat) : Int) != ((M : Nat) : Int)) = false := by simp
      have hpp2 : at' = false ∨ (at' = true ∧ np' = np) := by
        cases hh : at' with
        | false => exact .inl rfl
        | true => exact .inr ⟨rfl, HPP.out hh⟩
      have k5 : (((np : Nat) : Int) != ((np : Nat) : Int)) = false := by simp
      clear HPP HAT
      rcases hpp2 with rfl | ⟨rfl, rfl⟩
      all_goals (
        go_quiet (fail)
        have HB4 := hidb (below_drewN HB2.out nq)
        have hbd : Below W2.heap.size W2 (W2.drewN nq) := below_drewN (Below.refl _ _) nq
        have HX3 := hidb (HX1.out.keep hbd)
        have HX4 := hidb (HX2.out.keep hbd)
        clear hbd x0 x1 x2 x3 x4 x5 y0 y1 y2 y3 y4 y5 HX1 HX2
        generalize W2.drewN nq = W4 at HB4 HX3 HX4 ⊢
        go_wp2_with fail
        go_loopg [10] M (fun gf s10 wy => ∃ k : Nat, s10 = .int .i64 (k : Int) ∧ k + gf = M ∧ Below W4.heap.size W4 wy)
        case atStart => exact ⟨0, rfl, by omega, Below.refl _ _⟩
        case round =>
          obtain ⟨k, rfl, hkg, hby⟩ := hrel
          have x4 := (HX3.out.keep hby).c4
          have y4 := (HX4.out.keep hby).c4
          by_cases hk : k < M
          · obtain ⟨g2, rfl⟩ : ∃ g2, gk = g2 + 1 := ⟨gk - 1, by omega⟩
            obtain ⟨x, hx⟩ : ∃ x, nl[k]? = some x := ⟨_, List.getElem?_eq_getElem (by have := HM.out; omega)⟩
            obtain ⟨ba, rfl, hba, hcA⟩ := HRA.out k x hx
            obtain ⟨bb, rfl, hbb, hcB⟩ := HRB.out k x hx
            have hbY : Below w.heap.size w wr := (HX.out.trans (HB4.out.mono HX.out.size)).trans (hby.mono (Nat.le_trans HX.out.size HB4.out.size))
            have c0 : wr.cell? ⟨ba, k, none⟩ = some (.int .i64 (x : Int)) := (hbY.cell (p := ⟨ba, k, none⟩) hba).trans (hcA k x hx)
            have c1 : wr.cell? ⟨bb, k, none⟩ = some (.int .i64 (x : Int)) := (hbY.cell (p := ⟨bb, k, none⟩) hbb).trans (hcB k x hx)
            have j0 : (0 : Int) ≤ (k : Int) := by omega
            have j1 : (k : Int) < (M : Int) := by omega
            have l0 : (((x : Nat) : Int) != ((x : Nat) : Int)) = false := by simp
            have HBY := hidb hby
            clear hby hbY hcA hcB
            go_wp2_with fail
            go_quiet (fail)
            go_wp2_with fail
            go_roundg g2
            case measure => omega
            case rel => exact ⟨k + 1, by simp, by omega, below_drewN HBY.out _⟩
          · have j1 : ¬ (k : Int) < (M : Int) := by omega
            have HBY := hidb hby
            clear hby
            go_wp2_with fail
            go_roundg g'
            case measure => omega
            case rel => exact ⟨j + 1, by simp, by omega, HB4.out.trans (HBY.out.mono HB4.out.size)⟩)
    · have i1 : ¬ (j : Int) < (N : Int) := by omega
      go_wp2_with fail
      go_ret
      exact ⟨rfl, HX.out.trans (hbw.mono HX.out.size)⟩
end Go.Proofs.YthdljnakmekhkaaGreatDoor


/- GramParses, walked. -/
namespace Go.Proofs.YthdljnakmekhkaaGreatDoor
namespace Rf
open Go.RowKit Go.Lib
attribute [local go_sem] store_float f64bits
attribute [local go_sem ↓] Go.wp_at_zero Go.wp_at_succ

/-- A result: the root, the fault's number, its place, the nodes. -/
structure Fl where
  r : Nat
  er : Int
  p : Nat
  ns : List Nd
def flat : Except (Int × Nat) (Nat × PS) → Fl
  | .error (er, p) => ⟨0, er, p, []⟩
  | .ok (r, s) => ⟨r, 0, 0, s.ns⟩
theorem nodes_nil (w : World) (B : Nat) : Nodes w B (.slice none 0 0) [] := ⟨⟨[], rfl, World.ownsRow_nil _ _ _ _, by simp⟩, by simp⟩
theorem told_flat {w w' : World} {R : Except (Int × Nat) (Nat × PS)} {e : Ending} (h : ParseR w R e w') : ∃ a m c, e = .returned (.tuple #[.agg #[.slice a m c, iv (flat R).r], .agg #[.int .i64 (flat R).er, .int .i64 (((flat R).p : Nat) : Int)]]) ∧ Nodes w' w.heap.size (.slice a m c) (flat R).ns ∧ Below w.heap.size w w' := by
  obtain ⟨hb, ⟨er, p, rfl, he⟩ | ⟨r, s, V, rfl, he, hn⟩⟩ := h
  · exact ⟨none, 0, 0, he, nodes_nil _ _, hb⟩
  · obtain ⟨a, m, c, rfl⟩ := nodes_sl hn
    exact ⟨a, m, c, he, hn, hb⟩
theorem rise_len {l : List Nat} (h : l.Pairwise (· < ·)) {m : Nat} (hm : ∀ c ∈ l, c < m) : l.length ≤ m := by
  have hup : ∀ (a x : Nat), l[a]? = some x → a ≤ x := by
    intro a
    induction a with
    | zero => intro x _; exact Nat.zero_le _
    | succ a ih =>
      intro x hx
      have hx1 := (List.getElem?_eq_some_iff.1 hx).1
      have h1 := ih _ (List.getElem?_eq_getElem (show a < l.length by omega))
      have h2 := List.pairwise_iff_getElem.1 h a (a + 1) (by omega) hx1 (by omega)
      have h3 := (List.getElem?_eq_some_iff.1 hx).2
      omega
  rcases Nat.eq_zero_or_pos l.length with h0 | h0
  · omega
  · have ha : l.length - 1 < l.length := by omega
    have h1 := hup _ _ (List.getElem?_eq_getElem ha)
    have h2 := hm _ (List.getElem_mem ha)
    omega
theorem flat_short (s : ByteArray) {i : Nat} {n : Nd} (hf : (flat (parseP s)).ns.length ≤ 16384) (h : (flat (parseP s)).ns[i]? = some n) : n.l.length ≤ 20000 := by
  cases hp : parseP s with
  | error e => rw [hp] at h; simp [flat] at h
  | ok q =>
    obtain ⟨r, st⟩ := q
    rw [hp] at h hf
    unfold parseP at hp
    cases hA : allT s with
    | inr e => rw [hA] at hp; cases hp
    | inl l =>
      rw [hA] at hp
      have hk := (tree_forest l hp).kid i n h
      have h1 := rise_len hk.1 (fun c hc => (hk.2 c hc).2)
      have h2 := (List.getElem?_eq_some_iff.1 h).1
      simp only [flat] at hf h2
      omega

set_option maxHeartbeats 4000000 in
set_option maxRecDepth 100000 in
theorem GramParses_walk (s : ByteArray) (w : World) (hT : LexTab w) : Calls Tryz.prog 3 #[.string s] w fun e w' => e = .returned (.bool true) ∧ Below w.heap.size w w' := by
  have cK := known6_any w hT
  by_cases hl : 16384 < s.size
  · have h1 : (16384 : Int) < (s.size : Int) := by omega
    go_enter Tryz.func3, Tryz.ntmps3
    go_wp2_with (first
      | (go_at_call 9; refine cK.mono ?_; rintro e w1 ⟨rfl, hb1⟩))
    go_ret
    exact ⟨rfl, hb1⟩
  have h1 : ¬ (16384 : Int) < (s.size : Int) := by omega
  have GT : ∀ {wx : World}, Below w.heap.size w wx → LexTab wx := fun hb => hT.but (But.of_below (S := fun _ => False) hb) (fun _ e => e.elim)
  have HSH := hidb (fun (i : Nat) (n : Nd) (hf : (flat (parseP s)).ns.length ≤ 16384) (h : (flat (parseP s)).ns[i]? = some n) => flat_short s hf h)
  have cP : ∀ wx, Below w.heap.size w wx → Calls Tryz.prog 10 #[.string s] wx fun e w' => ∃ a m c, e = .returned (.tuple #[.agg #[.slice a m c, iv (flat (parseP s)).r], .agg #[.int .i64 (flat (parseP s)).er, .int .i64 (((flat (parseP s)).p : Nat) : Int)]]) ∧ Nodes w' wx.heap.size (.slice a m c) (flat (parseP s)).ns ∧ Below wx.heap.size wx w' := fun wx hb => (Parse_any s wx (GT hb)).mono fun _ _ h => told_flat h
  have cR : ∀ wx, Calls Tryz.prog 11 #[.string s] wx fun e w' => ∃ a m c, e = .returned (.tuple #[.agg #[.slice a m c, iv (flat (parseP s)).r], .agg #[.int .i64 (flat (parseP s)).er, .int .i64 (((flat (parseP s)).p : Nat) : Int)]]) ∧ Nodes w' wx.heap.size (.slice a m c) (flat (parseP s)).ns ∧ Below wx.heap.size wx w' := fun wx => (rParse_any s wx).mono fun _ _ h => told_flat h
  generalize flat (parseP s) = F at HSH cP cR
  obtain ⟨r, er, p, ns⟩ := F
  simp only at HSH cP cR
  go_enter Tryz.func3, Tryz.ntmps3
  go_wp2_with (first
    | (go_at_call 9; refine cK.mono ?_; rintro e w1 ⟨rfl, hb1⟩; have HB1 := hidb hb1; clear hb1)
    | (go_at_call 10; refine (cP _ HB1.out).mono ?_; rintro e w2 ⟨a, m, c, rfl, hn, hb⟩; have HN2 := hidb hn; have HB2 := hidb hb; clear hn hb))
  obtain ⟨W3, hW3⟩ : ∃ W3, ((w2.alloc (.cells #[.slice a m c, .int .i64 (r : Int)] 25)).alloc (.cells #[.int .i64 er, .int .i64 (p : Int)] 28)) = W3 := ⟨_, rfl⟩
  have hb3 : Below w2.heap.size w2 W3 := by rw [← hW3]; exact ((Below.refl _ _).alloc (Nat.le_refl _) _).alloc (by simp) _
  have hz3 : W3.heap.size = w2.heap.size + 1 + 1 := by rw [← hW3]; simp
  have dA : Duo W3 w2.heap.size (.slice a m c) (.int .i64 (r : Int)) := by rw [← hW3]; exact (Duo.new w2 _ _ _).keep (below_new _ _)
  have dF : Duo W3 (w2.heap.size + 1) (.int .i64 er) (.int .i64 (p : Int)) := by
    rw [← hW3]
    have := Duo.new (w2.alloc (.cells #[.slice a m c, .int .i64 (r : Int)] 25)) 28 (.int .i64 er) (.int .i64 (p : Int))
    simpa using this
  have HN3 := hidb (HN2.out.but (But.of_below (S := fun _ => False) hb3) (fun _ h => h.elim))
  have HB3 := hidb ((HB1.out.trans (HB2.out.mono HB1.out.size)).trans (hb3.mono (Nat.le_trans HB1.out.size HB2.out.size)))
  have HDA := hidb dA
  have HDF := hidb dF
  rw [hW3]
  clear hW3 hb3 dA dF HN2
  have hw1 := HB1.out.size
  have hw2 := HB2.out.size
  generalize w2.heap.size = ka at HDA HDF hz3 hw2 ⊢
  refine (cR W3).mono ?_
  rintro e w4 ⟨a', m', c', rfl, hn, hb⟩
  obtain ⟨W5, hW5⟩ : ∃ W5, ((w4.alloc (.cells #[.slice a' m' c', .int .i64 (r : Int)] 25)).alloc (.cells #[.int .i64 er, .int .i64 (p : Int)] 28)) = W5 := ⟨_, rfl⟩
  have hb5 : Below w4.heap.size w4 W5 := by rw [← hW5]; exact ((Below.refl _ _).alloc (Nat.le_refl _) _).alloc (by simp) _
  have hz4 := hb.size
  have dA5 := (HDA.out.keep hb).keep hb5
  have dF5 := (HDF.out.keep hb).keep hb5
  have dB5 : Duo W5 w4.heap.size (.slice a' m' c') (.int .i64 (r : Int)) := by rw [← hW5]; exact (Duo.new w4 _ _ _).keep (below_new _ _)
  have dG5 : Duo W5 (w4.heap.size + 1) (.int .i64 er) (.int .i64 (p : Int)) := by
    rw [← hW5]
    have := Duo.new (w4.alloc (.cells #[.slice a' m' c', .int .i64 (r : Int)] 25)) 28 (.int .i64 er) (.int .i64 (p : Int))
    simpa using this
  have HNA := hidb ((HN3.out.but (But.of_below (S := fun _ => False) hb) (fun _ h => h.elim)).but (But.of_below (S := fun _ => False) hb5) (fun _ h => h.elim))
  have HNB := hidb (hn.but (But.of_below (S := fun _ => False) hb5) (fun _ h => h.elim))
  have HB5 := hidb ((HB3.out.trans (hb.mono HB3.out.size)).trans (hb5.mono (Nat.le_trans HB3.out.size hb.size)))
  obtain ⟨a0, a1, -, -, al⟩ := dA5
  obtain ⟨f0, f1, -, -, fl⟩ := dF5
  obtain ⟨b0, b1, -, -, bl⟩ := dB5
  obtain ⟨g0, g1, -, -, gl⟩ := dG5
  have HFW := hidb HNA.out.few
  rw [← hW5] at a0 a1 f0 f1 b0 b1 g0 g1 al fl bl gl
  have HW5 := hidb hW5
  clear hn hb hb5 hW5
  go_wp2_with (go_at_call 12; rw [HW5.out]; refine (same_trees true rfl (fun _ => rfl) (fun i n h => HSH.out i n HFW.out h) r HNA.out HNB.out).mono ?_; rintro e w6 ⟨rfl, hb6⟩; have HB6 := hidb (HB5.out.trans (hb6.mono HB5.out.size)); clear hb6)
  go_ret
  exact ⟨rfl, HB6.out⟩
end Rf
end Go.Proofs.YthdljnakmekhkaaGreatDoor
