/- ownAll: the signals of a lane, each copied. -/
import Derived.Test.YtodelafnboimnaaGreatEe4
import Derived.Test.YtodelafnboimnaaGreatEpS
namespace Go.Proofs.YtodelafnboimnaaGreat
open Go.RowKit Go.Lib
attribute [local go_sem] store_float f64bits
attribute [local go_sem ↓] Go.wp_at_zero Go.wp_at_succ

/-- What is stored where it lies already changes nothing. -/
theorem setCell_self {w : World} {p : Addr} {v : Value} (h : w.cell? p = some v) (hs : p.spot = none) : w.setCell p v = w := by
  obtain ⟨b, o, s⟩ := p
  simp only at hs
  subst hs
  unfold World.cell? at h
  simp only at h
  have e : w.heap.modify b (fun x => match x with | .cells c elem frozen => Obj.cells (c.setIfInBounds o v) elem frozen | o => o) = w.heap := by
    apply Array.ext
    · simp
    · intro i h1 h2
      rw [Array.getElem_modify]
      split
      · rename_i hb
        subst hb
        rw [Array.getElem?_eq_getElem h2] at h
        split at h
        · rename_i c elem frozen heq
          have hq : w.heap[b] = .cells c elem frozen := by simpa using heq
          rw [hq]
          simp only [Option.isSome_none, Bool.false_eq_true, if_false] at h
          obtain ⟨ho, hv⟩ := Array.getElem?_eq_some_iff.1 h
          subst hv
          have e2 : c.setIfInBounds o c[o] = c := by
            apply Array.ext
            · simp
            · intro i h3 h4
              rw [Array.getElem_setIfInBounds (by simpa using h4)]
              split
              · rename_i hh; subst hh; rfl
              · rfl
          simp [e2]
        · cases h
      · rfl
  exact congrArg (fun hp => ({ w with heap := hp } : World)) e

def sgls (ss : List (Int × Int × Int × Int)) : List Value := ss.flatMap fun s => sgl s.1 s.2.1 s.2.2.1 s.2.2.2
theorem sgls_drop (ss : List (Int × Int × Int × Int)) (i : Nat) : (sgls ss).drop (i * 12) = sgls (ss.drop i) := by
  induction ss generalizing i with
  | nil => simp [sgls]
  | cons s ss ih =>
    cases i with
    | zero => simp
    | succ i =>
      have e : sgls (s :: ss) = sgl s.1 s.2.1 s.2.2.1 s.2.2.2 ++ sgls ss := rfl
      rw [e, List.drop_succ_cons, ← ih i, show (i + 1) * 12 = 12 + i * 12 by omega, ← List.drop_drop]
      congr 1
theorem sgls_at {ss : List (Int × Int × Int × Int)} {i : Nat} {s : Int × Int × Int × Int} (h : ss[i]? = some s) (q : Nat) (hq : q < 12) : (sgls ss)[i * 12 + q]? = (sgl s.1 s.2.1 s.2.2.1 s.2.2.2)[q]? := by
  have e := sgls_drop ss i
  have e2 : ss.drop i = s :: ss.drop (i + 1) := by
    obtain ⟨hl, he⟩ := List.getElem?_eq_some_iff.1 h
    rw [List.drop_eq_getElem_cons hl, he]
  rw [e2] at e
  have e3 := congrArg (fun l => l[q]?) e
  simp only [List.getElem?_drop] at e3
  rw [e3]
  show (sgl s.1 s.2.1 s.2.2.1 s.2.2.2 ++ sgls (ss.drop (i + 1)))[q]? = _
  exact List.getElem?_append_left (by simpa [sgl] using hq)

set_option maxHeartbeats 2000000 in
set_option maxRecDepth 100000 in
theorem ownAll_any {w : World} {B rb N : Nat} {V : Value} {ss : List (Int × Int × Int × Int)} (h : Rw ST 12 w B rb V (sgls ss) ss.length N) (hN : N ≤ 1000000) (hss : ss.length ≤ 1000000) :
    Calls Tryz.prog 27 #[.pointer (some ⟨rb, 0, none⟩)] w fun e w' => ∃ v, e = .returned v ∧ w'.ownsRow w.heap.size ST 12 v ss.length (sgls ss) ∧ Below w.heap.size w w' := by
  have HA := hidb (allS_any h hN)
  clear h
  go_enter Tryz.func27, Tryz.ntmps27
  go_wp2_with (go_at_call 45; refine HA.out.mono ?_; rintro e w1 ⟨v, rfl, hO, hb1⟩; obtain ⟨a, c, rfl⟩ := own_sl hO; have HO := hidb hO; have HB := hidb hb1; clear hO hb1 HA)
  go_loopw [9] (fun iv wr => ∃ m : Nat, m ≤ ss.length ∧ iv = .int .i64 m ∧ wr.ownsRow w.heap.size ST 12 (.slice a ss.length c) ss.length (sgls ss) ∧ Below w.heap.size w wr) (fun iv _ => ss.length - (intOf iv).toNat)
  case atStart => exact ⟨0, by omega, rfl, HO.out, HB.out⟩
  case round =>
  obtain ⟨m, hm, rfl, hO, hbel⟩ := hrel
  have HW := hidb hbel
  clear hbel
  by_cases hml : m < ss.length
  · have hmb : (m : Int) < (ss.length : Int) := by omega
    have hmz : (0 : Int) ≤ (m : Int) := by omega
    have hmw : IntKind.i64.wrap ((m : Int) + 1) = (m : Int) + 1 := by rw [IntKind.wrap_i64]; omega
    obtain ⟨g, rfl⟩ : ∃ g, a = some ⟨g, 0, none⟩ := by
      rcases hO.2 with ⟨_, h0⟩ | ⟨g, cap, cur, hv, _⟩
      · omega
      · exact ⟨g, by simpa using (Value.slice.inj hv).1⟩
    obtain ⟨⟨x0, x1, x2, x3⟩, hx⟩ : ∃ s, ss[m]? = some s := ⟨_, List.getElem?_eq_getElem hml⟩
    have yy : ∀ q, q < 12 → wr.cell? ⟨g, m * 12 + q, none⟩ = (sgl x0 x1 x2 x3)[q]? := fun q hq => (hO.cellAt _ (by omega)).trans (sgls_at hx q hq)
    have HOR := hidb hO
    have hgl : g < wr.heap.size := World.block_lt_of_cell? wr _ (yy 0 (by omega))
    have y0 : wr.cell? ⟨g, m * 12, none⟩ = some (.int .i64 x0) := yy 0 (by omega)
    have z0 := hO.frozenAt (m * 12)
    have y1 : wr.cell? ⟨g, m * 12 + 1, none⟩ = some (.int .i64 x1) := yy 1 (by omega)
    have z1 := hO.frozenAt (m * 12 + 1)
    have y2 : wr.cell? ⟨g, m * 12 + 2, none⟩ = some (.int .i64 x2) := yy 2 (by omega)
    have z2 := hO.frozenAt (m * 12 + 2)
    have y3 : wr.cell? ⟨g, m * 12 + 3, none⟩ = some (.int .i64 x3) := yy 3 (by omega)
    have z3 := hO.frozenAt (m * 12 + 3)
    have y4 : wr.cell? ⟨g, m * 12 + 4, none⟩ = some (.int .i64 0) := yy 4 (by omega)
    have z4 := hO.frozenAt (m * 12 + 4)
    have y5 : wr.cell? ⟨g, m * 12 + 5, none⟩ = some (.bool false) := yy 5 (by omega)
    have z5 := hO.frozenAt (m * 12 + 5)
    have y6 : wr.cell? ⟨g, m * 12 + 6, none⟩ = some (.string ⟨#[]⟩) := yy 6 (by omega)
    have z6 := hO.frozenAt (m * 12 + 6)
    have y7 : wr.cell? ⟨g, m * 12 + 7, none⟩ = some (.int .i64 0) := yy 7 (by omega)
    have z7 := hO.frozenAt (m * 12 + 7)
    have y8 : wr.cell? ⟨g, m * 12 + 8, none⟩ = some (.int .i64 0) := yy 8 (by omega)
    have z8 := hO.frozenAt (m * 12 + 8)
    have y9 : wr.cell? ⟨g, m * 12 + 9, none⟩ = some (.float .f64 0) := yy 9 (by omega)
    have z9 := hO.frozenAt (m * 12 + 9)
    have y10 : wr.cell? ⟨g, m * 12 + 10, none⟩ = some (.string ⟨#[]⟩) := yy 10 (by omega)
    have z10 := hO.frozenAt (m * 12 + 10)
    have y11 : wr.cell? ⟨g, m * 12 + 11, none⟩ = some (.slice none 0 0) := yy 11 (by omega)
    have z11 := hO.frozenAt (m * 12 + 11)
    clear hx hO
    have HOW := hidb (own_leaf x0 x1 x2 x3 0 false ⟨#[]⟩ 0 0 0 ⟨#[]⟩ none 0)
    generalize ss.length = L at *
    clear yy HO HB
    go_wp2_with (go_at_call 35; refine (HOW.out _).mono ?_; rintro e w2 ⟨rfl, hb2⟩; have k0 := (hb2.cell (p := ⟨g, m * 12, none⟩) hgl).trans y0; have j0 := (hb2.frozen (p := ⟨g, m * 12, none⟩) hgl).trans z0; have k1 := (hb2.cell (p := ⟨g, m * 12 + 1, none⟩) hgl).trans y1; have j1 := (hb2.frozen (p := ⟨g, m * 12 + 1, none⟩) hgl).trans z1; have k2 := (hb2.cell (p := ⟨g, m * 12 + 2, none⟩) hgl).trans y2; have j2 := (hb2.frozen (p := ⟨g, m * 12 + 2, none⟩) hgl).trans z2; have k3 := (hb2.cell (p := ⟨g, m * 12 + 3, none⟩) hgl).trans y3; have j3 := (hb2.frozen (p := ⟨g, m * 12 + 3, none⟩) hgl).trans z3; have k4 := (hb2.cell (p := ⟨g, m * 12 + 4, none⟩) hgl).trans y4; have j4 := (hb2.frozen (p := ⟨g, m * 12 + 4, none⟩) hgl).trans z4; have k5 := (hb2.cell (p := ⟨g, m * 12 + 5, none⟩) hgl).trans y5; have j5 := (hb2.frozen (p := ⟨g, m * 12 + 5, none⟩) hgl).trans z5; have k6 := (hb2.cell (p := ⟨g, m * 12 + 6, none⟩) hgl).trans y6; have j6 := (hb2.frozen (p := ⟨g, m * 12 + 6, none⟩) hgl).trans z6; have k7 := (hb2.cell (p := ⟨g, m * 12 + 7, none⟩) hgl).trans y7; have j7 := (hb2.frozen (p := ⟨g, m * 12 + 7, none⟩) hgl).trans z7; have k8 := (hb2.cell (p := ⟨g, m * 12 + 8, none⟩) hgl).trans y8; have j8 := (hb2.frozen (p := ⟨g, m * 12 + 8, none⟩) hgl).trans z8; have k9 := (hb2.cell (p := ⟨g, m * 12 + 9, none⟩) hgl).trans y9; have j9 := (hb2.frozen (p := ⟨g, m * 12 + 9, none⟩) hgl).trans z9; have k10 := (hb2.cell (p := ⟨g, m * 12 + 10, none⟩) hgl).trans y10; have j10 := (hb2.frozen (p := ⟨g, m * 12 + 10, none⟩) hgl).trans z10; have k11 := (hb2.cell (p := ⟨g, m * 12 + 11, none⟩) hgl).trans y11; have j11 := (hb2.frozen (p := ⟨g, m * 12 + 11, none⟩) hgl).trans z11; have HO2 := hidb (row_but HOR.out (But.of_below (S := fun _ => False) hb2) (fun _ _ h => h)); have HW2 := hidb (HW.out.trans (hb2.mono HW.out.size)); clear hb2)
    rw [setCell_self k0 rfl, setCell_self k1 rfl, setCell_self k2 rfl, setCell_self k3 rfl, setCell_self k4 rfl, setCell_self k5 rfl, setCell_self k6 rfl, setCell_self k7 rfl, setCell_self k8 rfl, setCell_self k9 rfl, setCell_self k10 rfl, setCell_self k11 rfl]
    exact ⟨⟨m + 1, by omega, by go_num, HO2.out, HW2.out⟩, by simp [intOf]; omega⟩
  have hmn : ¬ (m : Int) < (ss.length : Int) := by omega
  go_wp2_with fail
  go_ret
  exact ⟨_, rfl, hO, HW.out⟩
end Go.Proofs.YtodelafnboimnaaGreat
