import Derived.Test.YtpcpdehnppfbfaaGreatG20
import Derived.Test.YtpcpdehnppfbfaaGreatG08
import Derived.Test.YtpcpdehnppfbfaaGreatG12
import Derived.Test.YtpcpdehnppfbfaaGreatG14
/- ownAll of a lane of any signals. -/
namespace Go.Proofs.YtpcpdehnppfbfaaGreat
open Go.RowKit Go.Lib
attribute [local go_sem] store_float f64bits
attribute [local go_sem ↓] Go.wp_at_zero Go.wp_at_succ

structure SG where
  x0 : Int
  x1 : Int
  x2 : Int
  x3 : Int
  x4 : Int
  lk : Bool
  nm : ByteArray
  t : Tr
def SG.cells (s : SG) : List Value := sgc s.x0 s.x1 s.x2 s.x3 s.x4 s.lk s.nm s.t
def SG.same (s s' : SG) : Prop := (s.x0 = s'.x0 ∧ s.x1 = s'.x1 ∧ s.x2 = s'.x2 ∧ s.x3 = s'.x3 ∧ s.x4 = s'.x4 ∧ s.lk = s'.lk ∧ s.nm = s'.nm) ∧ Sm s.t s'.t
theorem SG.len (s : SG) : s.cells.length = 12 := by
  obtain ⟨x0, x1, x2, x3, x4, lk, nm, ⟨k, n, f, s, a, c, ks⟩⟩ := s
  rfl
def sgcs (l : List SG) : List Value := l.flatMap SG.cells
theorem sgcs_len (l : List SG) : (sgcs l).length = l.length * 12 := by
  induction l with
  | nil => rfl
  | cons s l ih => unfold sgcs at ih ⊢; rw [List.flatMap_cons, List.length_append, ih, SG.len, List.length_cons]; omega
theorem sgcs_app (a b : List SG) : sgcs (a ++ b) = sgcs a ++ sgcs b := List.flatMap_append
theorem sgcs_one (l : List SG) : ∀ u ∈ sgcs l, u.oneCell' = true := by
  intro u hu
  obtain ⟨⟨x0, x1, x2, x3, x4, lk, nm, ⟨k, n, f, s, a, c, ks⟩⟩, _, h⟩ := List.mem_flatMap.1 hu
  simp only [SG.cells, sgc, sgr, List.mem_cons, List.not_mem_nil, or_false] at h
  rcases h with rfl | rfl | rfl | rfl | rfl | rfl | rfl | rfl | rfl | rfl | rfl | rfl <;> rfl
theorem sgcs_at {l : List SG} {m q : Nat} {s : SG} (h : l[m]? = some s) (hq : q < 12) : (sgcs l)[m * 12 + q]? = s.cells[q]? := by
  obtain ⟨hl, he⟩ := List.getElem?_eq_some_iff.1 h
  have e : l = l.take m ++ (s :: l.drop (m + 1)) := by rw [← he, ← List.drop_eq_getElem_cons hl, List.take_append_drop]
  have hm : (l.take m).length = m := by simp; omega
  rw [e, sgcs_app, List.getElem?_append_right (by rw [sgcs_len, hm]; omega), sgcs_len, hm, show m * 12 + q - m * 12 = q by omega]
  show (s.cells ++ sgcs (l.drop (m + 1)))[q]? = _
  exact List.getElem?_append_left (by rw [SG.len]; exact hq)
theorem set12 {A B : List Value} {m : Nat} (hA : A.length = m * 12) (a0 a1 a2 a3 a4 a5 a6 a7 a8 a9 a10 a11 b0 b1 b2 b3 b4 b5 b6 b7 b8 b9 b10 b11 : Value) :
    ((((((((((((A ++ [a0, a1, a2, a3, a4, a5, a6, a7, a8, a9, a10, a11] ++ B).set (m * 12) b0).set (m * 12 + 1) b1).set (m * 12 + 2) b2).set (m * 12 + 3) b3).set (m * 12 + 4) b4).set (m * 12 + 5) b5).set (m * 12 + 6) b6).set (m * 12 + 7) b7).set (m * 12 + 8) b8).set (m * 12 + 9) b9).set (m * 12 + 10) b10).set (m * 12 + 11) b11 = A ++ [b0, b1, b2, b3, b4, b5, b6, b7, b8, b9, b10, b11] ++ B := by
  rw [List.append_assoc]
  rw [List.set_append_right _ _ (by omega)]
  rw [List.set_append_right _ _ (by omega)]
  rw [List.set_append_right _ _ (by omega)]
  rw [List.set_append_right _ _ (by omega)]
  rw [List.set_append_right _ _ (by omega)]
  rw [List.set_append_right _ _ (by omega)]
  rw [List.set_append_right _ _ (by omega)]
  rw [List.set_append_right _ _ (by omega)]
  rw [List.set_append_right _ _ (by omega)]
  rw [List.set_append_right _ _ (by omega)]
  rw [List.set_append_right _ _ (by omega)]
  rw [List.set_append_right _ _ (by omega)]
  rw [show m * 12 - A.length = 0 by omega, show m * 12 + 1 - A.length = 1 by omega, show m * 12 + 2 - A.length = 2 by omega, show m * 12 + 3 - A.length = 3 by omega, show m * 12 + 4 - A.length = 4 by omega, show m * 12 + 5 - A.length = 5 by omega, show m * 12 + 6 - A.length = 6 by omega, show m * 12 + 7 - A.length = 7 by omega, show m * 12 + 8 - A.length = 8 by omega, show m * 12 + 9 - A.length = 9 by omega, show m * 12 + 10 - A.length = 10 by omega, show m * 12 + 11 - A.length = 11 by omega]
  rw [List.append_assoc]
  rfl
set_option maxHeartbeats 4000000 in
set_option maxRecDepth 100000 in
theorem ownAll_sig {w : World} {B rb N : Nat} {V : Value} {ss : List SG} (h : Rw ST 12 w B rb V (sgcs ss) ss.length N) (hN : N ≤ 1000000) (hss : ss.length ≤ 1000000) (hin : ∀ s ∈ ss, s.t.In w 0 ∧ Small s.t ∧ cnT s.t ≤ 1000000000) :
    Calls Tryz.prog 26 #[.pointer (some ⟨rb, 0, none⟩)] w fun e w' => ∃ (a : Option Addr) (c : Nat) (ds : List SG), e = .returned (.slice a ss.length c) ∧ w'.ownsRow w.heap.size ST 12 (.slice a ss.length c) ss.length (sgcs ds) ∧ ds.length = ss.length ∧ (∀ (i : Nat) (s d : SG), ss[i]? = some s → ds[i]? = some d → s.same d) ∧ (∀ d ∈ ds, d.t.In w' 0 ∧ d.t.On (fun q => w.heap.size ≤ q ∧ (Value.slice a ss.length c).ownBlock ≠ some q)) ∧ Below w.heap.size w w' := by
  have HA := hidb (allS_any h hN)
  have HI := hidb hin
  clear h hin
  go_enter Tryz.func26, Tryz.ntmps26
  go_wp2_with (go_at_call 42; refine HA.out.mono ?_; rintro e w1 ⟨v, rfl, hO, hb1⟩; obtain ⟨a, c, rfl⟩ := own_sl hO; have HO := hidb hO; have HB := hidb hb1; clear hO hb1 HA)
  go_loopw [9] (fun iv wr => ∃ m : Nat, m ≤ ss.length ∧ iv = .int .i64 m ∧ (∃ ds : List SG, ds.length = m ∧ wr.ownsRow w.heap.size ST 12 (.slice a ss.length c) ss.length (sgcs (ds ++ ss.drop m)) ∧ (∀ (i : Nat) (s d : SG), ss[i]? = some s → ds[i]? = some d → s.same d) ∧ (∀ d ∈ ds, d.t.In wr 0 ∧ d.t.On (fun q => w.heap.size ≤ q ∧ (Value.slice a ss.length c).ownBlock ≠ some q))) ∧ Below w.heap.size w wr) (fun iv _ => ss.length - (intOf iv).toNat)
  case atStart => exact ⟨0, by omega, rfl, ⟨[], rfl, HO.out, fun i s d _ h => by simp at h, fun d h => by simp at h⟩, HB.out⟩
  case round =>
  obtain ⟨m, hm, rfl, ⟨ds, hdm, hO, hsame, hds⟩, hbel⟩ := hrel
  have HW := hidb hbel
  have HSA := hidb hsame
  have HDS := hidb hds
  have HDM := hidb hdm
  clear hbel hsame hds hdm
  by_cases hml : m < ss.length
  · have hmb : (m : Int) < (ss.length : Int) := by omega
    have hmz : (0 : Int) ≤ (m : Int) := by omega
    have hmw : IntKind.i64.wrap ((m : Int) + 1) = (m : Int) + 1 := by rw [IntKind.wrap_i64]; omega
    obtain ⟨g, rfl⟩ : ∃ g, a = some ⟨g, 0, none⟩ := by
      rcases hO.2 with ⟨_, h0⟩ | ⟨g, cap, cur, hv, _⟩
      · omega
      · exact ⟨g, by simpa using (Value.slice.inj hv).1⟩
    obtain ⟨⟨x0, x1, x2, x3, x4, lk, nm, ⟨tk, tn, tf, ts, ta, tc, tks⟩⟩, hx⟩ : ∃ s, ss[m]? = some s := ⟨_, List.getElem?_eq_getElem hml⟩
    have hdrop : ss.drop m = ⟨x0, x1, x2, x3, x4, lk, nm, .mk tk tn tf ts ta tc tks⟩ :: ss.drop (m + 1) := by rw [List.drop_eq_getElem_cons hml, (List.getElem?_eq_some_iff.1 hx).2]
    have hx2 : (ds ++ ss.drop m)[m]? = some ⟨x0, x1, x2, x3, x4, lk, nm, .mk tk tn tf ts ta tc tks⟩ := by rw [List.getElem?_append_right (by have := HDM.out; omega), HDM.out, hdrop]; simp
    have yy : ∀ q, q < 12 → wr.cell? ⟨g, m * 12 + q, none⟩ = (sgr x0 x1 x2 x3 x4 lk nm tk tn tf ts ta tks.length tc)[q]? := fun q hq => (hO.cellAt _ (by omega)).trans (sgcs_at hx2 hq)
    have HX := hidb hx
    have HDR := hidb hdrop
    have HOR := hidb hO
    have hgl : g < wr.heap.size := World.block_lt_of_cell? wr _ (yy 0 (by omega))
    have HGL := hidb hgl
    obtain ⟨hi1, hi2, hi3⟩ := HI.out _ (List.mem_of_getElem? hx)
    have HOW := hidb (own_any x0 x1 x2 x3 x4 lk nm tk tn tf ts ta tc tks wr (in_below HW.out hi1) hi2 hi3)
    clear hi1 hi2 hi3 hx2 hdrop hx
    obtain ⟨TL, hTL⟩ : ∃ TL, tks.length = TL := ⟨_, rfl⟩
    rw [hTL] at yy HOW
    have HTL := hidb hTL
    clear hTL
    have y0 : wr.cell? ⟨g, m * 12, none⟩ = some (.int .i64 x0) := yy 0 (by omega)
    have z0 := hO.frozenAt (m * 12)
    have y1 : wr.cell? ⟨g, m * 12 + 1, none⟩ = some (.int .i64 x1) := yy 1 (by omega)
    have z1 := hO.frozenAt (m * 12 + 1)
    have y2 : wr.cell? ⟨g, m * 12 + 2, none⟩ = some (.int .i64 x2) := yy 2 (by omega)
    have z2 := hO.frozenAt (m * 12 + 2)
    have y3 : wr.cell? ⟨g, m * 12 + 3, none⟩ = some (.int .i64 x3) := yy 3 (by omega)
    have z3 := hO.frozenAt (m * 12 + 3)
    have y4 : wr.cell? ⟨g, m * 12 + 4, none⟩ = some (.int .i64 x4) := yy 4 (by omega)
    have z4 := hO.frozenAt (m * 12 + 4)
    have y5 : wr.cell? ⟨g, m * 12 + 5, none⟩ = some (.bool lk) := yy 5 (by omega)
    have z5 := hO.frozenAt (m * 12 + 5)
    have y6 : wr.cell? ⟨g, m * 12 + 6, none⟩ = some (.string nm) := yy 6 (by omega)
    have z6 := hO.frozenAt (m * 12 + 6)
    have y7 : wr.cell? ⟨g, m * 12 + 7, none⟩ = some (.int .i64 tk) := yy 7 (by omega)
    have z7 := hO.frozenAt (m * 12 + 7)
    have y8 : wr.cell? ⟨g, m * 12 + 8, none⟩ = some (.int .i64 tn) := yy 8 (by omega)
    have z8 := hO.frozenAt (m * 12 + 8)
    have y9 : wr.cell? ⟨g, m * 12 + 9, none⟩ = some (.float .f64 tf) := yy 9 (by omega)
    have z9 := hO.frozenAt (m * 12 + 9)
    have y10 : wr.cell? ⟨g, m * 12 + 10, none⟩ = some (.string ts) := yy 10 (by omega)
    have z10 := hO.frozenAt (m * 12 + 10)
    have y11 : wr.cell? ⟨g, m * 12 + 11, none⟩ = some (.slice ta TL tc) := yy 11 (by omega)
    have z11 := hO.frozenAt (m * 12 + 11)
    clear hO yy HO HB
    obtain ⟨L, hL⟩ : ∃ L, ss.length = L := ⟨_, rfl⟩
    have HL := hidb hL
    rw [hL] at HOR HDS hmb hml hm ⊢
    clear hL
    go_wp2_with (go_at_call 21; refine HOW.out.mono ?_; rintro e w2 ⟨k', n', f', s', a', c', ks', rfl, hsm', hin', hb2⟩; obtain ⟨L', hL'⟩ : ∃ L', ks'.length = L' := ⟨_, rfl⟩; have HL2 := hidb hL'; rw [hL']; have HSM := hidb hsm'; have HIN := hidb hin'; clear hL' hsm' hin'; have k0 := (hb2.cell (p := ⟨g, m * 12, none⟩) hgl).trans y0; have j0 := (hb2.frozen (p := ⟨g, m * 12, none⟩) hgl).trans z0; have k1 := (hb2.cell (p := ⟨g, m * 12 + 1, none⟩) hgl).trans y1; have j1 := (hb2.frozen (p := ⟨g, m * 12 + 1, none⟩) hgl).trans z1; have k2 := (hb2.cell (p := ⟨g, m * 12 + 2, none⟩) hgl).trans y2; have j2 := (hb2.frozen (p := ⟨g, m * 12 + 2, none⟩) hgl).trans z2; have k3 := (hb2.cell (p := ⟨g, m * 12 + 3, none⟩) hgl).trans y3; have j3 := (hb2.frozen (p := ⟨g, m * 12 + 3, none⟩) hgl).trans z3; have k4 := (hb2.cell (p := ⟨g, m * 12 + 4, none⟩) hgl).trans y4; have j4 := (hb2.frozen (p := ⟨g, m * 12 + 4, none⟩) hgl).trans z4; have k5 := (hb2.cell (p := ⟨g, m * 12 + 5, none⟩) hgl).trans y5; have j5 := (hb2.frozen (p := ⟨g, m * 12 + 5, none⟩) hgl).trans z5; have k6 := (hb2.cell (p := ⟨g, m * 12 + 6, none⟩) hgl).trans y6; have j6 := (hb2.frozen (p := ⟨g, m * 12 + 6, none⟩) hgl).trans z6; have k7 := (hb2.cell (p := ⟨g, m * 12 + 7, none⟩) hgl).trans y7; have j7 := (hb2.frozen (p := ⟨g, m * 12 + 7, none⟩) hgl).trans z7; have k8 := (hb2.cell (p := ⟨g, m * 12 + 8, none⟩) hgl).trans y8; have j8 := (hb2.frozen (p := ⟨g, m * 12 + 8, none⟩) hgl).trans z8; have k9 := (hb2.cell (p := ⟨g, m * 12 + 9, none⟩) hgl).trans y9; have j9 := (hb2.frozen (p := ⟨g, m * 12 + 9, none⟩) hgl).trans z9; have k10 := (hb2.cell (p := ⟨g, m * 12 + 10, none⟩) hgl).trans y10; have j10 := (hb2.frozen (p := ⟨g, m * 12 + 10, none⟩) hgl).trans z10; have k11 := (hb2.cell (p := ⟨g, m * 12 + 11, none⟩) hgl).trans y11; have j11 := (hb2.frozen (p := ⟨g, m * 12 + 11, none⟩) hgl).trans z11; have HO2 := hidb (row_but HOR.out (But.of_below (S := fun _ => False) hb2) (fun _ _ h => h)); have HW2 := hidb (HW.out.trans (hb2.mono HW.out.size)); have HB2 := hidb hb2; clear hb2)
    have hge := (row_lt HOR.out g rfl).2
    have e1 : sgcs (ds ++ ss.drop m) = sgcs ds ++ [.int .i64 x0, .int .i64 x1, .int .i64 x2, .int .i64 x3, .int .i64 x4, .bool lk, .string nm, .int .i64 tk, .int .i64 tn, .float .f64 tf, .string ts, .slice ta TL tc] ++ sgcs (ss.drop (m + 1)) := by
      rw [HDR.out, sgcs_app, List.append_assoc, ← HTL.out]
      rfl
    have hO2 := HO2.out
    rw [e1] at hO2
    have hown := ((((((((((((hO2.stored (m * 12) (.int .i64 x0)).1.stored (m * 12 + 1) (.int .i64 x1)).1.stored (m * 12 + 2) (.int .i64 x2)).1.stored (m * 12 + 3) (.int .i64 x3)).1.stored (m * 12 + 4) (.int .i64 x4)).1.stored (m * 12 + 5) (.bool lk)).1.stored (m * 12 + 6) (.string nm)).1.stored (m * 12 + 7) (.int .i64 k')).1.stored (m * 12 + 8) (.int .i64 n')).1.stored (m * 12 + 9) (.float .f64 f')).1.stored (m * 12 + 10) (.string s')).1.stored (m * 12 + 11) (.slice a' L' c')).1
    rw [set12 (A := sgcs ds) (by rw [sgcs_len, HDM.out])] at hown
    have e2 : sgcs ds ++ [.int .i64 x0, .int .i64 x1, .int .i64 x2, .int .i64 x3, .int .i64 x4, .bool lk, .string nm, .int .i64 k', .int .i64 n', .float .f64 f', .string s', .slice a' L' c'] ++ sgcs (ss.drop (m + 1)) = sgcs ((ds ++ [⟨x0, x1, x2, x3, x4, lk, nm, .mk k' n' f' s' a' c' ks'⟩]) ++ ss.drop (m + 1)) := by
      rw [sgcs_app, sgcs_app, ← HL2.out]
      rfl
    rw [e2] at hown
    have hng : ¬ (w.heap.size ≤ g ∧ (Value.slice (some ⟨g, 0, none⟩) L c).ownBlock ≠ some g) := fun h => h.2 rfl
    refine ⟨⟨m + 1, by omega, by go_num, ⟨ds ++ [⟨x0, x1, x2, x3, x4, lk, nm, .mk k' n' f' s' a' c' ks'⟩], by rw [List.length_append, HDM.out]; rfl, hown, fun i s d hs hd => ?_, fun d hd => ?_⟩, ((((((((((((HW2.out.setCell (by first | exact fun h => absurd h (by simp only []; omega) | (simp only []; omega)) _).setCell (by first | exact fun h => absurd h (by simp only []; omega) | (simp only []; omega)) _).setCell (by first | exact fun h => absurd h (by simp only []; omega) | (simp only []; omega)) _).setCell (by first | exact fun h => absurd h (by simp only []; omega) | (simp only []; omega)) _).setCell (by first | exact fun h => absurd h (by simp only []; omega) | (simp only []; omega)) _).setCell (by first | exact fun h => absurd h (by simp only []; omega) | (simp only []; omega)) _).setCell (by first | exact fun h => absurd h (by simp only []; omega) | (simp only []; omega)) _).setCell (by first | exact fun h => absurd h (by simp only []; omega) | (simp only []; omega)) _).setCell (by first | exact fun h => absurd h (by simp only []; omega) | (simp only []; omega)) _).setCell (by first | exact fun h => absurd h (by simp only []; omega) | (simp only []; omega)) _).setCell (by first | exact fun h => absurd h (by simp only []; omega) | (simp only []; omega)) _).setCell (by first | exact fun h => absurd h (by simp only []; omega) | (simp only []; omega)) _)⟩, by simp [intOf]; omega⟩
    · by_cases him : i < m
      · rw [List.getElem?_append_left (by rw [HDM.out]; exact him)] at hd
        exact HSA.out i s d hs hd
      · have hlen := (List.getElem?_eq_some_iff.1 hd).1
        rw [List.length_append, HDM.out] at hlen
        obtain rfl : i = m := by simp at hlen; omega
        rw [List.getElem?_append_right (by rw [HDM.out]; omega), HDM.out, Nat.sub_self] at hd
        obtain rfl := Option.some.inj hd
        obtain rfl := Option.some.inj (HX.out.symm.trans hs)
        exact ⟨⟨rfl, rfl, rfl, rfl, rfl, rfl, rfl⟩, HSM.out⟩
    · rcases List.mem_append.1 hd with hd | hd
      · obtain ⟨h1, h2⟩ := HDS.out d hd
        exact ⟨(in_set1 (in_set1 (in_set1 (in_set1 (in_set1 (in_set1 (in_set1 (in_set1 (in_set1 (in_set1 (in_set1 (in_set1 (in_below HB2.out h1) h2 hng _) h2 hng _) h2 hng _) h2 hng _) h2 hng _) h2 hng _) h2 hng _) h2 hng _) h2 hng _) h2 hng _) h2 hng _) h2 hng _), h2⟩
      · obtain rfl := List.mem_singleton.1 hd
        refine ⟨in_base (Nat.zero_le _) _ (in_set (in_set (in_set (in_set (in_set (in_set (in_set (in_set (in_set (in_set (in_set (in_set HIN.out (by exact HGL.out) _) (by exact HGL.out) _) (by exact HGL.out) _) (by exact HGL.out) _) (by exact HGL.out) _) (by exact HGL.out) _) (by exact HGL.out) _) (by exact HGL.out) _) (by exact HGL.out) _) (by exact HGL.out) _) (by exact HGL.out) _) (by exact HGL.out) _), on_mono (fun q hq => ⟨by have := HW.out.size; omega, fun e => ?_⟩) _ (on_from _ HIN.out)⟩
        have e3 : g = q := by simpa [Value.ownBlock] using e
        have := HGL.out
        omega
  have hmn : ¬ (m : Int) < (ss.length : Int) := by omega
  rw [List.drop_eq_nil_of_le (by omega), List.append_nil] at hO
  go_wp2_with fail
  go_ret
  exact ⟨a, c, rfl, ds, hO, by rw [HDM.out]; omega, HSA.out, HDS.out, HW.out⟩
end Go.Proofs.YtpcpdehnppfbfaaGreat


/- Lanes of an ether with any signals: each lane, rising by its ends, with its signals copied. -/
namespace Go.Proofs.YtpcpdehnppfbfaaGreat
open Go.RowKit Go.Lib Go.Maps
attribute [local go_sem] store_float f64bits
attribute [local go_sem ↓] Go.wp_at_zero Go.wp_at_succ

variable {w0 w : World} {eb all N : Nat} {mv : Value} {f : Int → Int → Option Lane}

abbrev NT : Nat := 45

theorem keysP (w : World) (mb : Option Nat) : Calls Tryz.prog KF #[.map mb] w fun e w' => e = .returned (.func (.func K1) #[] #[.pointer (some ⟨w.heap.size, 0, none⟩)]) ∧ w' = w.alloc (.cells #[.map mb] MT) := callsIn_wide.1 (keys_in Fence.wide 0 trivial rfl mb w)

/-- The rows of lanes that are told. -/
def lvs (rs : List (Int × Int × Value)) : List Value := rs.flatMap fun r => [.int .i64 r.1, .int .i64 r.2.1, r.2.2]
theorem lvs_append (a b : List (Int × Int × Value)) : lvs (a ++ b) = lvs a ++ lvs b := by simp [lvs]

theorem kvs_at {ks : List (Int × Int)} {m : Nat} {x : Int × Int} (h : ks[m]? = some x) : (kvs ks)[m * 2]? = some (.int .i64 x.1) ∧ (kvs ks)[m * 2 + 1]? = some (.int .i64 x.2) := by
  obtain ⟨hl, he⟩ := List.getElem?_eq_some_iff.1 h
  have e : ks = ks.take m ++ x :: ks.drop (m + 1) := by rw [← he, ← List.drop_eq_getElem_cons hl, List.take_append_drop]
  have hk : kvs ks = kvs (ks.take m) ++ (.int .i64 x.1 :: .int .i64 x.2 :: kvs (ks.drop (m + 1))) := by
    conv => lhs; rw [e]
    rw [kvs_append]; rfl
  have hn : (kvs (ks.take m)).length = m * 2 := by rw [kvs_length]; simp; omega
  rw [hk]
  constructor
  · rw [List.getElem?_append_right (by omega), show m * 2 - (kvs (ks.take m)).length = 0 by omega]; rfl
  · rw [List.getElem?_append_right (by omega), show m * 2 + 1 - (kvs (ks.take m)).length = 1 by omega]; rfl

theorem ent_ownAll : Ent 26 := by
  intro args w
  kernel_rfl
theorem step_ownAll {rb : Nat} {ops : Array Oper} {o : Oper} {a : Act} {w : World} {K : Act → World → Prop} {Q : Exit → Act → World → Prop} {E : Prop} (hg : o.guard = none) (hrun : (execOp a.eval o).run Tryz.prog w = .ok (.enter 26 #[.pointer (some ⟨rb, 0, none⟩)]) w)
    {R : Value → World → Prop} (hc : Calls Tryz.prog 26 #[.pointer (some ⟨rb, 0, none⟩)] w fun e w' => ∃ v, e = .returned v ∧ R v w') (h : ∀ v w', R v w' → K (a.put o.dst v) w') :
    if Region.wanted o (yielded ops a.tmps) = true then Oper.wp Tryz.prog o a w K Q else E := by
  have hw : Region.wanted o (yielded ops a.tmps) = true := by simp [Region.wanted, hg]
  rw [if_pos hw]
  unfold Oper.wp
  rw [hrun, Oper.upon_enter]
  refine hc.mono fun e w'' hh => ?_
  obtain ⟨v, rfl, hr⟩ := hh
  exact h v w'' hr
theorem infoN : ∃ i0, Tryz.prog.info? NT = some i0 ∧ i0.zero = some (.agg #[.int .i64 0, .int .i64 0, .slice none 0 0]) ∧ i0.size = 3 ∧ i0.bytes = 40 := info_parts (show (Tryz.prog.info? NT).map (fun i => (i.zero, i.size, i.bytes)) = some (some (.agg #[.int .i64 0, .int .i64 0, .slice none 0 0]), 3, 40) by kernel_rfl)
theorem row_ne {w : World} {C C' e e' size size' n n' : Nat} {V V' : Value} {xs xs' : List Value} (h : w.ownsRow C e size V n xs) (h' : w.ownsRow C' e' size' V' n' xs') (hne : e ≠ e') : ∀ k, V.ownBlock = some k → ¬ V'.ownBlock = some k := by
  intro k hk hk'
  rcases h.2 with ⟨rfl, _⟩ | ⟨g, cap, cur, rfl, _, hg, _⟩
  · simp [Value.ownBlock] at hk
  rcases h'.2 with ⟨rfl, _⟩ | ⟨g', cap', cur', rfl, _, hg', _⟩
  · simp [Value.ownBlock] at hk'
  simp [Value.ownBlock] at hk hk'
  subst hk hk'
  rw [hg] at hg'
  simp at hg'
  exact hne hg'.2

theorem lane_far {wr w5 : World} {C e size n eb : Nat} {tv x0 x1 x2 : Value} {xs : List Value} {o : Obj} (h : wr.ownsRow C e size tv n xs) (heb : eb < C) (m0 : w5.cell? ⟨wr.heap.size, 0, none⟩ = some x0) (m1 : w5.cell? ⟨wr.heap.size, 1, none⟩ = some x1) (m2 : w5.cell? ⟨eb, 0, none⟩ = some x2) :
    wr.heap.size < (w5.alloc o).heap.size ∧ ¬ tv.ownBlock = some wr.heap.size ∧ ¬ tv.ownBlock = some eb ∧ (w5.alloc o).cell? ⟨wr.heap.size, 0, none⟩ = some x0 ∧ (w5.alloc o).cell? ⟨wr.heap.size, 1, none⟩ = some x1 ∧ eb < (w5.alloc o).heap.size ∧ (w5.alloc o).cell? ⟨eb, 0, none⟩ = some x2 := by
  have l0 := World.block_lt_of_cell? _ _ m0
  have l2 := World.block_lt_of_cell? _ _ m2
  have hb := below_new w5 o
  refine ⟨Nat.lt_of_lt_of_le l0 hb.size, fun e => ?_, fun e => ?_, (hb.cell (p := ⟨wr.heap.size, 0, none⟩) l0).trans m0, (hb.cell (p := ⟨wr.heap.size, 1, none⟩) l0).trans m1, Nat.lt_of_lt_of_le l2 hb.size, (hb.cell l2).trans m2⟩
  · have := (row_lt h _ e).1; omega
  · have := (row_lt h _ e).2; omega

/-- Signals of a lane. -/
def SigG (f : Int → Int → Option Lane) (sig : Int → Int → List SG) : Prop := ∀ a b l, f a b = some l → l.xs = sgcs (sig a b) ∧ l.k = (sig a b).length
abbrev lvr (r : Int × Int × Value × List SG) : Int × Int × Value := (r.1, r.2.1, r.2.2.1)
/-- The same signals but for memory. -/
def SamL (ss ds : List SG) : Prop := ds.length = ss.length ∧ ∀ (i : Nat) (s d : SG), ss[i]? = some s → ds[i]? = some d → s.same d
/-- The rows that were told, their signals copied. -/
def ToldG (C : Nat) (w : World) (sig : Int → Int → List SG) (tv : Value) (n : Nat) (rs : List (Int × Int × Value × List SG)) : Prop :=
  w.ownsRow C NT 3 tv n (lvs (rs.map lvr)) ∧ rs.length = n ∧ ∀ r, r ∈ rs → w.ownsRow C ST 12 r.2.2.1 (sig r.1 r.2.1).length (sgcs r.2.2.2) ∧ SamL (sig r.1 r.2.1) r.2.2.2 ∧ ∀ d ∈ r.2.2.2, d.t.In w 0 ∧ d.t.On (fun q => C ≤ q ∧ tv.ownBlock ≠ some q ∧ r.2.2.1.ownBlock ≠ some q)
def TLG (w w' : World) (f : Int → Int → Option Lane) (sig : Int → Int → List SG) (tv : Value) : Prop := ∃ ks rs, LKeys f ks ∧ Rise ks ∧ rs.map (fun r => (r.1, r.2.1)) = ks ∧ ToldG w.heap.size w' sig tv rs.length rs ∧ Below w.heap.size w w'

/-- One more lane is told. -/
theorem told_moreG {C : Nat} {sig : Int → Int → List SG} {wr X w5 w6 : World} {tv tv' v : Value} {m : Nat} {rs : List (Int × Int × Value × List SG)} {ds : List SG} {xa xb : Int} {o : Obj} (h : ToldG C wr sig tv m rs) (hX : Below wr.heap.size wr X) (hC : C ≤ wr.heap.size) (h5 : Below X.heap.size X w5) (hv : w5.ownsRow X.heap.size ST 12 v (sig xa xb).length (sgcs ds))
    (hs : SamL (sig xa xb) ds) (ht5 : ∀ d ∈ ds, d.t.In w5 0 ∧ d.t.On (fun q => X.heap.size ≤ q ∧ v.ownBlock ≠ some q)) (hg : (w5.alloc o).grownBy w6 tv.ownBlock) (hown : w6.ownsRow C NT 3 tv' (m + 1) (lvs (rs.map lvr) ++ [.int .i64 xa, .int .i64 xb, v])) (hat : tv'.ownBlock = tv.ownBlock ∨ tv'.ownBlock = some (w5.alloc o).heap.size) :
    ToldG C w6 sig tv' (m + 1) (rs ++ [(xa, xb, v, ds)]) ∧ Below wr.heap.size wr (w5.alloc o) ∧ But (fun k => tv.ownBlock = some k) (w5.alloc o) w6 := by
  have hbw : Below wr.heap.size wr (w5.alloc o) := (hX.trans (h5.mono hX.size)).alloc (Nat.le_trans hX.size h5.size) _
  have ht := row_but h.1 (But.of_below (S := fun _ => False) hbw) (fun _ _ h => h)
  have hbt := grown_but hg
  have htv : ∀ k, tv.ownBlock = some k → k < wr.heap.size := fun k hk => (row_lt h.1 k hk).1
  have s1 := hX.size
  have s5 := h5.size
  have sa : (w5.alloc o).heap.size = w5.heap.size + 1 := by simp
  refine ⟨⟨by rw [List.map_append, lvs_append]; exact hown, by simp [h.2.1], fun r hr => ?_⟩, hbw, hbt⟩
  rcases List.mem_append.1 hr with hr | hr
  · obtain ⟨h1, h2, h3⟩ := h.2.2 r hr
    have q := row_but h1 (But.of_below (S := fun _ => False) hbw) (fun _ _ h => h)
    refine ⟨row_but q hbt (row_ne q ht (by decide)), h2, fun d hd => ?_⟩
    obtain ⟨d1, d2⟩ := h3 d hd
    have d3 := on_and _ d2 (on_all _ d1)
    refine ⟨in_on (fun p hp => (hbt.block p (by have := hbw.size; have := hp.2; omega) (fun e => hp.1.2.1 e)).trans (hbw.block p hp.2)) _ d1 d3, on_mono (fun p hp => ⟨hp.1.1, fun e => ?_, hp.1.2.2⟩) _ d3⟩
    rcases hat with a | a
    · exact hp.1.2.1 (a ▸ e)
    · rw [a] at e
      have : (w5.alloc o).heap.size = p := by simpa using e
      have := hp.2
      have := hbw.size
      omega
  · simp only [List.mem_singleton] at hr
    subst hr
    have q := row_base (hv.alloc o) (show C ≤ X.heap.size from Nat.le_trans hC hX.size)
    refine ⟨row_but q hbt (row_ne q ht (by decide)), hs, fun d hd => ?_⟩
    obtain ⟨d1, d2⟩ := ht5 d hd
    have d3 := on_and _ d2 (on_all _ d1)
    have d4 := in_below (below_new w5 o) d1
    refine ⟨in_on (fun p hp => hbt.block p (by have := hp.2; omega) (fun e => by have := htv p e; have := hp.1.1; omega)) _ d4 d3, on_mono (fun p hp => ⟨by have := hp.1.1; omega, fun e => ?_, hp.1.2⟩) _ d3⟩
    rcases hat with a | a
    · have := htv p (a ▸ e)
      have := hp.1.1
      omega
    · rw [a] at e
      have : (w5.alloc o).heap.size = p := by simpa using e
      have := hp.2
      omega

set_option maxHeartbeats 2000000 in
set_option maxRecDepth 100000 in
theorem lanes_sig {sig : Int → Int → List SG} (h : EO w0 w eb mv f all N) (hN : N ≤ 1000000) (hsig : SigG f sig) (hmany : ∀ ks, LKeys f ks → ks.length ≤ 1000000) (hin : ∀ a b l, f a b = some l → ∀ s ∈ sig a b, s.t.In w 0 ∧ Small s.t ∧ cnT s.t ≤ 1000000000) :
    Calls Tryz.prog 11 #[.pointer (some ⟨eb, 0, none⟩)] w fun e w' => ∃ tv, e = .returned tv ∧ TLG w w' f sig tv := by
  obtain ⟨c0, c1, f0, f1, hlt⟩ := h.duo
  obtain ⟨mm, rfl⟩ : ∃ mm, mv = .map mm := by
    rcases h.map with ⟨e, _⟩ | ⟨mb, _, e, _⟩
    · exact ⟨_, e⟩
    · exact ⟨_, e⟩
  have KP := hidb (keysP w mm)
  have hmp : (Value.map mm = .map none ∧ ∀ a b, f a b = none) ∨ ∃ mb n, Value.map mm = .map (some mb) ∧ EM (w.alloc (.cells #[.map mm] MT)) mb n (fun a b => (f a b).map Lane.rb) ∧ n ≤ N := by
    rcases h.map with e | ⟨mb, n, e, he, hn, _⟩
    · exact .inl e
    · exact .inr ⟨mb, n, e, he.but (But.of_below (S := fun _ => False) (below_new w _)) (fun h => h), hn⟩
  have SA := hidb (sorted_rise (w := w.alloc (.cells #[.map mm] MT)) (Bm := w.heap.size) (by simp) (by simp [go_sem]) hN hmany hmp)
  have HE := hidb h
  have HSG := hidb hsig
  have HIN := hidb hin
  have H12 := hidb hmany
  clear h hmp hmany hsig hin
  go_enter Tryz.func11, Tryz.ntmps11
  go_wp2_with (first
    | (go_at_call 24; refine KP.out.mono ?_; rintro e w1 ⟨rfl, rfl⟩)
    | (go_at_call 23; refine SA.out.mono ?_; rintro e w2 ⟨q, c, ks, rfl, hk, hr, ho, hb⟩; have HK := hidb hk; have HRI := hidb hr; clear hr; have HO := hidb ho; have HB := hidb (show Below w.heap.size w w2 from (below_new w _).trans (hb.mono (by simp))); have HB2 := hidb hb; clear hk ho hb KP SA))
  have hL12 := H12.out ks HK.out
  generalize hL : ks.length = L at *
  have HL := hidb hL
  clear hL
  have HC : Hid (w.heap.size + 1 ≤ w2.heap.size) := hidb (by have := HB2.out.size; simpa using this)
  clear HB2
  go_loopw [3, 13] (fun tv iv wr => ∃ (m : Nat) (rs : List (Int × Int × Value × List SG)), m ≤ L ∧ iv = .int .i64 m ∧ rs.map (fun r => (r.1, r.2.1)) = ks.take m ∧ ToldG w2.heap.size wr sig tv m rs ∧ Below w2.heap.size w2 wr) (fun _ iv _ => L - (RowKit.intOf iv).toNat)
  case atStart => exact ⟨0, [], by omega, rfl, rfl, ⟨World.ownsRow_nil _ _ _ _, rfl, fun _ h => absurd h (List.not_mem_nil)⟩, Below.refl _ _⟩
  case round =>
  obtain ⟨m, rs, hm, rfl, hrs, htold, hbel⟩ := hrel
  obtain ⟨qt, ct, rfl⟩ := own_sl htold.1
  have HRS := hidb hrs
  have HT := hidb htold
  have HW := hidb hbel
  clear hrs htold hbel
  by_cases hmL : m < L
  · have hmb : (m : Int) < (L : Int) := by omega
    have hmz : (0 : Int) ≤ (m : Int) := by omega
    have hmw : IntKind.i64.wrap ((m : Int) + 1) = (m : Int) + 1 := by rw [IntKind.wrap_i64]; omega
    have hkl := HL.out
    obtain ⟨⟨xa, xb⟩, hx⟩ : ∃ x, ks[m]? = some x := ⟨_, List.getElem?_eq_getElem (by omega)⟩
    obtain ⟨hwa, hwb⟩ := HK.out.2.2 _ (List.mem_of_getElem? hx)
    obtain ⟨l, hl⟩ : ∃ l, f xa xb = some l := Option.isSome_iff_exists.1 ((HK.out.2.1 xa xb hwa hwb).1 (List.mem_of_getElem? hx))
    obtain ⟨mb, rfl⟩ : ∃ mb, mm = some mb := by
      rcases HE.out.map with ⟨_, e⟩ | ⟨mb, _, e, _⟩
      · rw [e] at hl; cases hl
      · exact ⟨mb, by simpa using e⟩
    obtain ⟨g, rfl⟩ : ∃ g, q = some ⟨g, 0, none⟩ := by
      rcases HO.out.2 with ⟨_, h0⟩ | ⟨g, cap, cur, hv, _⟩
      · omega
      · exact ⟨g, by simpa using (Value.slice.inj hv).1⟩
    obtain ⟨e0, e1⟩ := kvs_at hx
    have hgl := (row_lt HO.out g rfl).1
    have k0 : wr.cell? ⟨g, m * 2, none⟩ = some (.int .i64 xa) := (HW.out.cell (p := ⟨g, m * 2, none⟩) hgl).trans ((HO.out.cellAt _ (by omega)).trans e0)
    have k1 : wr.cell? ⟨g, m * 2 + 1, none⟩ = some (.int .i64 xb) := (HW.out.cell (p := ⟨g, m * 2 + 1, none⟩) hgl).trans ((HO.out.cellAt _ (by omega)).trans e1)
    have HBW := hidb (HB.out.trans (HW.out.mono HB.out.size))
    have hbx : Below w.heap.size w (wr.alloc (.cells #[.int .i64 xa, .int .i64 xb] KT)) := HBW.out.trans ((below_new wr _).mono HBW.out.size)
    have HEX := hidb (HE.out.keep hbx)
    obtain ⟨c0, -, -, -, -⟩ := HEX.out.duo
    obtain ⟨s1, s2⟩ := HSG.out xa xb l hl
    have HRW := (HEX.out.lane xa xb l hl).2.2.1
    rw [s1, s2] at HRW
    have hsl : (sig xa xb).length ≤ 1000000 := by
      obtain ⟨_, _, _, _, _, e1, e2⟩ := HRW
      omega
    have OA := hidb (ownAll_sig (HRW.keep ((Below.refl _ _).drew)) hN hsl (fun s hs => by have := HIN.out xa xb l hl s hs; exact ⟨in_below ((Below.refl _ _).drew) (in_below hbx this.1), this.2⟩))
    have hlk : (Instr.lookup MT (.map (some mb)) (.agg #[.int .i64 xa, .int .i64 xb]) false).run Tryz.prog (wr.alloc (.cells #[.int .i64 xa, .int .i64 xb] KT)).drew = .ok (.pointer (some ⟨l.rb, 0, none⟩)) (wr.alloc (.cells #[.int .i64 xa, .int .i64 xb] KT)).drew := by
      rcases HEX.out.map with ⟨e, _⟩ | ⟨mb', n', e, he, _⟩
      · cases e
      · obtain rfl : mb = mb' := by simpa using e
        exact EM.look1 (he.but (But.of_below (S := fun _ => False) ((Below.refl _ _).drew)) (fun h => h)) hwa hwb (by simp [hl])
    obtain ⟨i0, hi, hz0, hz1, hz2⟩ := infoN
    have p0 : (wr.alloc (.cells #[.int .i64 xa, .int .i64 xb] KT)).drew.cell? ⟨wr.heap.size, 0, none⟩ = some (.int .i64 xa) := by rw [cell_drew]; simp [go_sem]
    have p1 : (wr.alloc (.cells #[.int .i64 xa, .int .i64 xb] KT)).drew.cell? ⟨wr.heap.size, 1, none⟩ = some (.int .i64 xb) := by rw [cell_drew]; simp [go_sem]
    have HP0 := hidb p0
    have HC0 : Hid ((wr.alloc (.cells #[.int .i64 xa, .int .i64 xb] KT)).drew.cell? ⟨eb, 0, none⟩ = some (.map (some mb))) := hidb c0
    have HEB : Hid (eb < w2.heap.size) := hidb (by have := HC.out; omega)
    have HP1 := hidb p1
    clear p0 p1
    have z1 : m + 1 ≤ maxLen := by unfold maxLen; omega
    have z2 : (m + 1) * 40 ≤ 140737488355328 := by omega
    have HCW : Hid (w2.heap.size ≤ wr.heap.size) := hidb HW.out.size
    have HX := hidb hx
    have HLL := hidb hl
    clear s1 s2 HRW hx hl e0 e1 hbx hkl
    go_wp2_with fail
    go_region_held3 (fun w' => w'.cell? ⟨wr.heap.size, 0, none⟩ = some (.int .i64 xa) ∧ w'.cell? ⟨wr.heap.size, 1, none⟩ = some (.int .i64 xb) ∧ w'.cell? ⟨eb, 0, none⟩ = some (.map (some mb)))
      (first | with_reducible exact ⟨HP0.out, HP1.out, HC0.out⟩ | with_reducible exact ⟨m0, m1, m2⟩ | with_reducible exact ⟨HS0.out.2.2.2.1, HS0.out.2.2.2.2.1, HS0.out.2.2.2.2.2.2⟩ | with_reducible exact ⟨q0, q1, q2⟩ | go_keep) (first
      | (go_at_call 26; refine OA.out.mono ?_; rintro e w5 ⟨a5, c5, ds5, rfl, ho5, hl5, hs5, ht5, hb5⟩; have HS5 := hidb (And.intro hl5 hs5); have HT5 := hidb ht5; clear hl5 hs5 ht5; have m0 := (hb5.cell (World.block_lt_of_cell? _ _ HP0.out)).trans HP0.out; have m1 := (hb5.cell (World.block_lt_of_cell? _ _ HP1.out)).trans HP1.out; have m2 := (hb5.cell (World.block_lt_of_cell? _ _ HC0.out)).trans HC0.out; have HO5 := hidb ho5; have HB5 := hidb hb5; have hz5 : w2.heap.size ≤ (w5.alloc (.cells #[.int .i64 xa, .int .i64 xb, .slice a5 (sig xa xb).length c5] NT)).heap.size := (by have := hb5.size; have := HCW.out; simp at this ⊢; simp [World.drew] at *; omega); have HS0 := hidb (lane_far (o := .cells #[.int .i64 xa, .int .i64 xb, .slice a5 (sig xa xb).length c5] NT) HT.out.1 HEB.out m0 m1 m2); clear ho5 hb5)
      | (refine step_app rfl (.tmp 17) (.tmp 30) 42 rfl w2.heap.size NT i0 (.agg #[.int .i64 0, .int .i64 0, .slice none 0 0]) 3 40 Tryz.underlying42 hi hz0 hz1 hz2 rfl (by decide) (.slice qt m ct) m (lvs (rs.map lvr)) rfl (row_but HT.out.1 (But.of_below (S := fun _ => False) ((((below_new wr _).drew).trans (HB5.out.mono (by simp))).alloc (by have := HB5.out.size; simp at this ⊢; omega) _)) (fun _ _ h => h)) ⟨w5.heap.size, 0, none⟩ 1 1 [.int .i64 xa, .int .i64 xb, .slice a5 (sig xa xb).length c5] rfl rfl (World.news_of_block (at_new w5 _)) (by simp [Value.oneCell']) z1 z2 hz5 ?_; intro v' w6 hown hgrow hat; obtain ⟨a6, c6, rfl⟩ := own_sl hown; have HTM := hidb (told_moreG HT.out ((below_new wr _).drew) HCW.out HB5.out HO5.out HS5.out HT5.out hgrow hown hat); have q0 := (HTM.out.2.2.cell (p := ⟨wr.heap.size, 0, none⟩) HS0.out.1 HS0.out.2.1).trans HS0.out.2.2.2.1; have q1 := (HTM.out.2.2.cell (p := ⟨wr.heap.size, 1, none⟩) HS0.out.1 HS0.out.2.1).trans HS0.out.2.2.2.2.1; have q2 := (HTM.out.2.2.cell (p := ⟨eb, 0, none⟩) HS0.out.2.2.2.2.2.1 HS0.out.2.2.1).trans HS0.out.2.2.2.2.2.2; clear hown hgrow hat))
    go_wp2_with fail
    go_roundw
    case rel =>
      refine ⟨m + 1, rs ++ [(xa, xb, .slice a5 (sig xa xb).length c5, ds5)], by omega, by go_num, ?_, HTM.out.1, (HW.out.trans (HTM.out.2.1.mono HW.out.size)).trans (HTM.out.2.2.below (Nat.le_trans HW.out.size HTM.out.2.1.size) (fun k e => (row_lt HT.out.1 k e).2))⟩
      rw [List.map_append, HRS.out, List.take_add_one, HX.out]
      rfl
    case measure => simp [RowKit.intOf]; omega
  · have hmn : ¬ (m : Int) < (L : Int) := by omega
    go_wp2_with fail
    go_ret
    obtain rfl : m = L := by omega
    have e := HT.out.2.1
    have hk := HL.out
    refine ⟨_, rfl, ks, rs, HK.out, HRI.out, by rw [HRS.out, ← hk, List.take_length], ⟨?_, rfl, fun r hr => ⟨row_base (HT.out.2.2 r hr).1 (by have := HC.out; omega), (HT.out.2.2 r hr).2.1, fun d hd => ⟨((HT.out.2.2 r hr).2.2 d hd).1, on_mono (fun q hq => ⟨by have := HC.out; have := hq.1; omega, hq.2⟩) _ ((HT.out.2.2 r hr).2.2 d hd).2⟩⟩⟩, HB.out.trans (HW.out.mono HB.out.size)⟩
    rw [e]
    exact row_base HT.out.1 (by have := HC.out; omega)
end Go.Proofs.YtpcpdehnppfbfaaGreat


