import Derived.Test.YtpcpdehnppfbfaaGreatG21
import Derived.Test.YtpcpdehnppfbfaaGreatG25
/- ownAll of a lane of any signals: the copies may be spoilt. -/
namespace Go.Proofs.YtpcpdehnppfbfaaGreat
open Go.RowKit Go.Lib
attribute [local go_sem] store_float f64bits
attribute [local go_sem ↓] Go.wp_at_zero Go.wp_at_succ

/-- The terms of a row of signals may be spoilt, over blocks from C on but the row's own. -/
def SpS (C : Nat) (w : World) (v : Value) (ds : List SG) : Prop := ∀ d ∈ ds, ∃ H, SpH (Ap w C v) w H d.t.sl
set_option maxHeartbeats 4000000 in
set_option maxRecDepth 100000 in
theorem ownAll_sp {w : World} {B rb N : Nat} {V : Value} {ss : List SG} (h : Rw ST 12 w B rb V (sgcs ss) ss.length N) (hN : N ≤ 1000000) (hss : ss.length ≤ 1000000) (hin : ∀ s ∈ ss, s.t.In w 0 ∧ Small s.t ∧ cnT s.t ≤ 1000000000) :
    Calls Tryz.prog 26 #[.pointer (some ⟨rb, 0, none⟩)] w fun e w' => ∃ (a : Option Addr) (c : Nat) (ds : List SG), e = .returned (.slice a ss.length c) ∧ w'.ownsRow w.heap.size ST 12 (.slice a ss.length c) ss.length (sgcs ds) ∧ ds.length = ss.length ∧ (∀ (i : Nat) (s d : SG), ss[i]? = some s → ds[i]? = some d → s.same d) ∧ (∀ d ∈ ds, d.t.In w' 0 ∧ d.t.On (fun q => w.heap.size ≤ q ∧ (Value.slice a ss.length c).ownBlock ≠ some q)) ∧ SpS w.heap.size w' (.slice a ss.length c) ds ∧ Below w.heap.size w w' := by
  have HA := hidb (allS_any h hN)
  have HI := hidb hin
  clear h hin
  go_enter Tryz.func26, Tryz.ntmps26
  go_wp2_with (go_at_call 42; refine HA.out.mono ?_; rintro e w1 ⟨v, rfl, hO, hb1⟩; obtain ⟨a, c, rfl⟩ := own_sl hO; have HO := hidb hO; have HB := hidb hb1; clear hO hb1 HA)
  go_loopw [9] (fun iv wr => ∃ m : Nat, m ≤ ss.length ∧ iv = .int .i64 m ∧ (∃ ds : List SG, ds.length = m ∧ wr.ownsRow w.heap.size ST 12 (.slice a ss.length c) ss.length (sgcs (ds ++ ss.drop m)) ∧ (∀ (i : Nat) (s d : SG), ss[i]? = some s → ds[i]? = some d → s.same d) ∧ (∀ d ∈ ds, d.t.In wr 0 ∧ d.t.On (fun q => w.heap.size ≤ q ∧ (Value.slice a ss.length c).ownBlock ≠ some q)) ∧ SpS w.heap.size wr (.slice a ss.length c) ds) ∧ Below w.heap.size w wr) (fun iv _ => ss.length - (intOf iv).toNat)
  case atStart => exact ⟨0, by omega, rfl, ⟨[], rfl, HO.out, fun i s d _ h => by simp at h, fun d h => by simp at h, fun d h => by simp at h⟩, HB.out⟩
  case round =>
  obtain ⟨m, hm, rfl, ⟨ds, hdm, hO, hsame, hds, hsps⟩, hbel⟩ := hrel
  have HSP := hidb hsps
  clear hsps
  have HW := hidb hbel
  have HSA := hidb hsame
  have HDS := hidb hds
  have HDM := hidb hdm
  clear hbel hsame hds hdm
  by_cases hml : m < ss.length
  · have hmb : (m : Int) < (ss.length : Int) := by omega
    have hmz : (0 : Int) ≤ (m : Int) := by omega
    have hmw : IntKind.i64.wrap ((m : Int) + 1) = (m : Int) + 1 := by rw [IntKind.wrap_i64]; omega
    obtain ⟨g, rfl⟩ : ∃ g, a = some ⟨g, 0, none⟩ := by
      rcases hO.2 with ⟨_, h0⟩ | ⟨g, cap, cur, hv, _⟩
      · omega
      · exact ⟨g, by simpa using (Value.slice.inj hv).1⟩
    obtain ⟨⟨x0, x1, x2, x3, x4, lk, nm, ⟨tk, tn, tf, ts, ta, tc, tks⟩⟩, hx⟩ : ∃ s, ss[m]? = some s := ⟨_, List.getElem?_eq_getElem hml⟩
    have hdrop : ss.drop m = ⟨x0, x1, x2, x3, x4, lk, nm, .mk tk tn tf ts ta tc tks⟩ :: ss.drop (m + 1) := by rw [List.drop_eq_getElem_cons hml, (List.getElem?_eq_some_iff.1 hx).2]
    have hx2 : (ds ++ ss.drop m)[m]? = some ⟨x0, x1, x2, x3, x4, lk, nm, .mk tk tn tf ts ta tc tks⟩ := by rw [List.getElem?_append_right (by have := HDM.out; omega), HDM.out, hdrop]; simp
    have yy : ∀ q, q < 12 → wr.cell? ⟨g, m * 12 + q, none⟩ = (sgr x0 x1 x2 x3 x4 lk nm tk tn tf ts ta tks.length tc)[q]? := fun q hq => (hO.cellAt _ (by omega)).trans (sgcs_at hx2 hq)
    have HX := hidb hx
    have HDR := hidb hdrop
    have HOR := hidb hO
    have hgl : g < wr.heap.size := World.block_lt_of_cell? wr _ (yy 0 (by omega))
    have HGL := hidb hgl
    obtain ⟨hi1, hi2, hi3⟩ := HI.out _ (List.mem_of_getElem? hx)
    have HOW := hidb (own_sp x0 x1 x2 x3 x4 lk nm tk tn tf ts ta tc tks wr (in_below HW.out hi1) hi2 hi3)
    clear hi1 hi2 hi3 hx2 hdrop hx
    obtain ⟨TL, hTL⟩ : ∃ TL, tks.length = TL := ⟨_, rfl⟩
    rw [hTL] at yy HOW
    have HTL := hidb hTL
    clear hTL
    have y0 : wr.cell? ⟨g, m * 12, none⟩ = some (.int .i64 x0) := yy 0 (by omega)
    have z0 := hO.frozenAt (m * 12)
    have y1 : wr.cell? ⟨g, m * 12 + 1, none⟩ = some (.int .i64 x1) := yy 1 (by omega)
    have z1 := hO.frozenAt (m * 12 + 1)
    have y2 : wr.cell? ⟨g, m * 12 + 2, none⟩ = some (.int .i64 x2) := yy 2 (by omega)
    have z2 := hO.frozenAt (m * 12 + 2)
    have y3 : wr.cell? ⟨g, m * 12 + 3, none⟩ = some (.int .i64 x3) := yy 3 (by omega)
    have z3 := hO.frozenAt (m * 12 + 3)
    have y4 : wr.cell? ⟨g, m * 12 + 4, none⟩ = some (.int .i64 x4) := yy 4 (by omega)
    have z4 := hO.frozenAt (m * 12 + 4)
    have y5 : wr.cell? ⟨g, m * 12 + 5, none⟩ = some (.bool lk) := yy 5 (by omega)
    have z5 := hO.frozenAt (m * 12 + 5)
    have y6 : wr.cell? ⟨g, m * 12 + 6, none⟩ = some (.string nm) := yy 6 (by omega)
    have z6 := hO.frozenAt (m * 12 + 6)
    have y7 : wr.cell? ⟨g, m * 12 + 7, none⟩ = some (.int .i64 tk) := yy 7 (by omega)
    have z7 := hO.frozenAt (m * 12 + 7)
    have y8 : wr.cell? ⟨g, m * 12 + 8, none⟩ = some (.int .i64 tn) := yy 8 (by omega)
    have z8 := hO.frozenAt (m * 12 + 8)
    have y9 : wr.cell? ⟨g, m * 12 + 9, none⟩ = some (.float .f64 tf) := yy 9 (by omega)
    have z9 := hO.frozenAt (m * 12 + 9)
    have y10 : wr.cell? ⟨g, m * 12 + 10, none⟩ = some (.string ts) := yy 10 (by omega)
    have z10 := hO.frozenAt (m * 12 + 10)
    have y11 : wr.cell? ⟨g, m * 12 + 11, none⟩ = some (.slice ta TL tc) := yy 11 (by omega)
    have z11 := hO.frozenAt (m * 12 + 11)
    clear hO yy HO HB
    obtain ⟨L, hL⟩ : ∃ L, ss.length = L := ⟨_, rfl⟩
    have HL := hidb hL
    rw [hL] at HOR HDS HSP hmb hml hm ⊢
    clear hL
    go_wp2_with (go_at_call 21; refine HOW.out.mono ?_; rintro e w2 ⟨k', n', f', s', a', c', ks', rfl, hsm', hin', hb2, hsp2⟩; have HS2 := hidb hsp2; clear hsp2; obtain ⟨L', hL'⟩ : ∃ L', ks'.length = L' := ⟨_, rfl⟩; have HL2 := hidb hL'; rw [hL']; have HSM := hidb hsm'; have HIN := hidb hin'; clear hL' hsm' hin'; have k0 := (hb2.cell (p := ⟨g, m * 12, none⟩) hgl).trans y0; have j0 := (hb2.frozen (p := ⟨g, m * 12, none⟩) hgl).trans z0; have k1 := (hb2.cell (p := ⟨g, m * 12 + 1, none⟩) hgl).trans y1; have j1 := (hb2.frozen (p := ⟨g, m * 12 + 1, none⟩) hgl).trans z1; have k2 := (hb2.cell (p := ⟨g, m * 12 + 2, none⟩) hgl).trans y2; have j2 := (hb2.frozen (p := ⟨g, m * 12 + 2, none⟩) hgl).trans z2; have k3 := (hb2.cell (p := ⟨g, m * 12 + 3, none⟩) hgl).trans y3; have j3 := (hb2.frozen (p := ⟨g, m * 12 + 3, none⟩) hgl).trans z3; have k4 := (hb2.cell (p := ⟨g, m * 12 + 4, none⟩) hgl).trans y4; have j4 := (hb2.frozen (p := ⟨g, m * 12 + 4, none⟩) hgl).trans z4; have k5 := (hb2.cell (p := ⟨g, m * 12 + 5, none⟩) hgl).trans y5; have j5 := (hb2.frozen (p := ⟨g, m * 12 + 5, none⟩) hgl).trans z5; have k6 := (hb2.cell (p := ⟨g, m * 12 + 6, none⟩) hgl).trans y6; have j6 := (hb2.frozen (p := ⟨g, m * 12 + 6, none⟩) hgl).trans z6; have k7 := (hb2.cell (p := ⟨g, m * 12 + 7, none⟩) hgl).trans y7; have j7 := (hb2.frozen (p := ⟨g, m * 12 + 7, none⟩) hgl).trans z7; have k8 := (hb2.cell (p := ⟨g, m * 12 + 8, none⟩) hgl).trans y8; have j8 := (hb2.frozen (p := ⟨g, m * 12 + 8, none⟩) hgl).trans z8; have k9 := (hb2.cell (p := ⟨g, m * 12 + 9, none⟩) hgl).trans y9; have j9 := (hb2.frozen (p := ⟨g, m * 12 + 9, none⟩) hgl).trans z9; have k10 := (hb2.cell (p := ⟨g, m * 12 + 10, none⟩) hgl).trans y10; have j10 := (hb2.frozen (p := ⟨g, m * 12 + 10, none⟩) hgl).trans z10; have k11 := (hb2.cell (p := ⟨g, m * 12 + 11, none⟩) hgl).trans y11; have j11 := (hb2.frozen (p := ⟨g, m * 12 + 11, none⟩) hgl).trans z11; have HO2 := hidb (row_but HOR.out (But.of_below (S := fun _ => False) hb2) (fun _ _ h => h)); have HW2 := hidb (HW.out.trans (hb2.mono HW.out.size)); have HB2 := hidb hb2; clear hb2)
    have hge := (row_lt HOR.out g rfl).2
    have e1 : sgcs (ds ++ ss.drop m) = sgcs ds ++ [.int .i64 x0, .int .i64 x1, .int .i64 x2, .int .i64 x3, .int .i64 x4, .bool lk, .string nm, .int .i64 tk, .int .i64 tn, .float .f64 tf, .string ts, .slice ta TL tc] ++ sgcs (ss.drop (m + 1)) := by
      rw [HDR.out, sgcs_app, List.append_assoc, ← HTL.out]
      rfl
    have hO2 := HO2.out
    rw [e1] at hO2
    have hown := ((((((((((((hO2.stored (m * 12) (.int .i64 x0)).1.stored (m * 12 + 1) (.int .i64 x1)).1.stored (m * 12 + 2) (.int .i64 x2)).1.stored (m * 12 + 3) (.int .i64 x3)).1.stored (m * 12 + 4) (.int .i64 x4)).1.stored (m * 12 + 5) (.bool lk)).1.stored (m * 12 + 6) (.string nm)).1.stored (m * 12 + 7) (.int .i64 k')).1.stored (m * 12 + 8) (.int .i64 n')).1.stored (m * 12 + 9) (.float .f64 f')).1.stored (m * 12 + 10) (.string s')).1.stored (m * 12 + 11) (.slice a' L' c')).1
    rw [set12 (A := sgcs ds) (by rw [sgcs_len, HDM.out])] at hown
    have e2 : sgcs ds ++ [.int .i64 x0, .int .i64 x1, .int .i64 x2, .int .i64 x3, .int .i64 x4, .bool lk, .string nm, .int .i64 k', .int .i64 n', .float .f64 f', .string s', .slice a' L' c'] ++ sgcs (ss.drop (m + 1)) = sgcs ((ds ++ [⟨x0, x1, x2, x3, x4, lk, nm, .mk k' n' f' s' a' c' ks'⟩]) ++ ss.drop (m + 1)) := by
      rw [sgcs_app, sgcs_app, ← HL2.out]
      rfl
    rw [e2] at hown
    have hng : ¬ (w.heap.size ≤ g ∧ (Value.slice (some ⟨g, 0, none⟩) L c).ownBlock ≠ some g) := fun h => h.2 rfl
    refine ⟨⟨m + 1, by omega, by go_num, ⟨ds ++ [⟨x0, x1, x2, x3, x4, lk, nm, .mk k' n' f' s' a' c' ks'⟩], by rw [List.length_append, HDM.out]; rfl, hown, fun i s d hs hd => ?_, fun d hd => ?_, fun d hd => ?_⟩, ((((((((((((HW2.out.setCell (by first | exact fun h => absurd h (by simp only []; omega) | (simp only []; omega)) _).setCell (by first | exact fun h => absurd h (by simp only []; omega) | (simp only []; omega)) _).setCell (by first | exact fun h => absurd h (by simp only []; omega) | (simp only []; omega)) _).setCell (by first | exact fun h => absurd h (by simp only []; omega) | (simp only []; omega)) _).setCell (by first | exact fun h => absurd h (by simp only []; omega) | (simp only []; omega)) _).setCell (by first | exact fun h => absurd h (by simp only []; omega) | (simp only []; omega)) _).setCell (by first | exact fun h => absurd h (by simp only []; omega) | (simp only []; omega)) _).setCell (by first | exact fun h => absurd h (by simp only []; omega) | (simp only []; omega)) _).setCell (by first | exact fun h => absurd h (by simp only []; omega) | (simp only []; omega)) _).setCell (by first | exact fun h => absurd h (by simp only []; omega) | (simp only []; omega)) _).setCell (by first | exact fun h => absurd h (by simp only []; omega) | (simp only []; omega)) _).setCell (by first | exact fun h => absurd h (by simp only []; omega) | (simp only []; omega)) _)⟩, by simp [intOf]; omega⟩
    · by_cases him : i < m
      · rw [List.getElem?_append_left (by rw [HDM.out]; exact him)] at hd
        exact HSA.out i s d hs hd
      · have hlen := (List.getElem?_eq_some_iff.1 hd).1
        rw [List.length_append, HDM.out] at hlen
        obtain rfl : i = m := by simp at hlen; omega
        rw [List.getElem?_append_right (by rw [HDM.out]; omega), HDM.out, Nat.sub_self] at hd
        obtain rfl := Option.some.inj hd
        obtain rfl := Option.some.inj (HX.out.symm.trans hs)
        exact ⟨⟨rfl, rfl, rfl, rfl, rfl, rfl, rfl⟩, HSM.out⟩
    · rcases List.mem_append.1 hd with hd | hd
      · obtain ⟨h1, h2⟩ := HDS.out d hd
        exact ⟨(in_set1 (in_set1 (in_set1 (in_set1 (in_set1 (in_set1 (in_set1 (in_set1 (in_set1 (in_set1 (in_set1 (in_set1 (in_below HB2.out h1) h2 hng _) h2 hng _) h2 hng _) h2 hng _) h2 hng _) h2 hng _) h2 hng _) h2 hng _) h2 hng _) h2 hng _) h2 hng _) h2 hng _), h2⟩
      · obtain rfl := List.mem_singleton.1 hd
        refine ⟨in_base (Nat.zero_le _) _ (in_set (in_set (in_set (in_set (in_set (in_set (in_set (in_set (in_set (in_set (in_set (in_set HIN.out (by exact HGL.out) _) (by exact HGL.out) _) (by exact HGL.out) _) (by exact HGL.out) _) (by exact HGL.out) _) (by exact HGL.out) _) (by exact HGL.out) _) (by exact HGL.out) _) (by exact HGL.out) _) (by exact HGL.out) _) (by exact HGL.out) _) (by exact HGL.out) _), on_mono (fun q hq => ⟨by have := HW.out.size; omega, fun e => ?_⟩) _ (on_from _ HIN.out)⟩
        have e3 : g = q := by simpa [Value.ownBlock] using e
        have := HGL.out
        omega
    · have hzz := HB2.out.size
      have hgg := HGL.out
      have hq : ∃ H, SpH (Ap w2 w.heap.size (.slice (some ⟨g, 0, none⟩) L c)) w2 H d.t.sl := by
        rcases List.mem_append.1 hd with hd | hd
        · obtain ⟨H, hH⟩ := HSP.out d hd
          exact ⟨H, SpH.more (fun k hk => ⟨hk.1, by have := hk.2.1; omega, hk.2.2⟩) (SpH.but (But.of_below (S := fun _ => False) HB2.out) (fun _ _ => id) hH)⟩
        · obtain rfl := List.mem_singleton.1 hd
          obtain ⟨H, hH⟩ := HS2.out
          refine ⟨H, SpH.more (fun k hk => ⟨by have := HW.out.size; have := hk.1; omega, hk.2, fun e => ?_⟩) hH⟩
          have e3 : g = k := by simpa [Value.ownBlock] using e
          have := hk.1
          omega
      obtain ⟨H, hH⟩ := hq
      exact ⟨H, SpH.more (fun k hk => ⟨hk.1, by simpa using hk.2.1, hk.2.2⟩) (SpH.but (X := fun k => k = g) (((((((((((((But.refl (fun k => k = g) w2).setCell (p := ⟨g, m * 12, none⟩) (fun _ => rfl) _).setCell (p := ⟨g, m * 12 + 1, none⟩) (fun _ => rfl) _).setCell (p := ⟨g, m * 12 + 2, none⟩) (fun _ => rfl) _).setCell (p := ⟨g, m * 12 + 3, none⟩) (fun _ => rfl) _).setCell (p := ⟨g, m * 12 + 4, none⟩) (fun _ => rfl) _).setCell (p := ⟨g, m * 12 + 5, none⟩) (fun _ => rfl) _).setCell (p := ⟨g, m * 12 + 6, none⟩) (fun _ => rfl) _).setCell (p := ⟨g, m * 12 + 7, none⟩) (fun _ => rfl) _).setCell (p := ⟨g, m * 12 + 8, none⟩) (fun _ => rfl) _).setCell (p := ⟨g, m * 12 + 9, none⟩) (fun _ => rfl) _).setCell (p := ⟨g, m * 12 + 10, none⟩) (fun _ => rfl) _).setCell (p := ⟨g, m * 12 + 11, none⟩) (fun _ => rfl) _) (fun k hk e => hk.2.2 (by rw [e]; rfl)) hH)⟩
  have hmn : ¬ (m : Int) < (ss.length : Int) := by omega
  rw [List.drop_eq_nil_of_le (by omega), List.append_nil] at hO
  go_wp2_with fail
  go_ret
  exact ⟨a, c, rfl, ds, hO, by rw [HDM.out]; omega, HSA.out, HDS.out, HSP.out, HW.out⟩
end Go.Proofs.YtpcpdehnppfbfaaGreat


/- Lanes of an ether with any signals: what is told may be spoilt. -/
namespace Go.Proofs.YtpcpdehnppfbfaaGreat
open Go.RowKit Go.Lib Go.Maps
attribute [local go_sem] store_float f64bits
attribute [local go_sem ↓] Go.wp_at_zero Go.wp_at_succ

variable {w0 w : World} {eb all N : Nat} {mv : Value} {f : Int → Int → Option Lane}

/-- Blocks of what was told that are no row's. -/
def SB (C : Nat) (w : World) (tv : Value) (rs : List (Int × Int × Value × List SG)) (q : Nat) : Prop := C ≤ q ∧ q < w.heap.size ∧ tv.ownBlock ≠ some q ∧ ∀ r ∈ rs, r.2.2.1.ownBlock ≠ some q
/-- Each term that was told may be spoilt, and the rows lie apart. -/
def ToldS (C : Nat) (w : World) (tv : Value) (rs : List (Int × Int × Value × List SG)) : Prop :=
  (∀ r ∈ rs, ∀ d ∈ r.2.2.2, ∃ H, SpH (SB C w tv rs) w H d.t.sl) ∧ rs.Pairwise (fun r r' => ∀ k, r.2.2.1.ownBlock = some k → r'.2.2.1.ownBlock ≠ some k)
theorem toldS_nil (C : Nat) (w : World) (tv : Value) : ToldS C w tv [] := ⟨fun _ h => absurd h (List.not_mem_nil), List.Pairwise.nil⟩
theorem ToldS.base {C C' : Nat} {w : World} {tv : Value} {rs : List (Int × Int × Value × List SG)} (h : ToldS C w tv rs) (hC : C' ≤ C) : ToldS C' w tv rs :=
  ⟨fun r hr d hd => by
    obtain ⟨H, hH⟩ := h.1 r hr d hd
    exact ⟨H, SpH.more (fun q hq => ⟨by have := hq.1; omega, hq.2⟩) hH⟩, h.2⟩
theorem told_moreS {C : Nat} {sig : Int → Int → List SG} {wr X w5 w6 : World} {tv tv' v : Value} {m n : Nat} {rs : List (Int × Int × Value × List SG)} {ds : List SG} {xa xb : Int} {o : Obj} {xs : List Value} (h : ToldG C wr sig tv m rs) (hS : ToldS C wr tv rs) (hX : Below wr.heap.size wr X) (hC : C ≤ wr.heap.size) (h5 : Below X.heap.size X w5) (hv : w5.ownsRow X.heap.size ST 12 v n xs)
    (ht5 : SpS X.heap.size w5 v ds) (hg : (w5.alloc o).grownBy w6 tv.ownBlock) (hat : tv'.ownBlock = tv.ownBlock ∨ tv'.ownBlock = some (w5.alloc o).heap.size) :
    ToldS C w6 tv' (rs ++ [(xa, xb, v, ds)]) := by
  have hbw : Below wr.heap.size wr (w5.alloc o) := (hX.trans (h5.mono hX.size)).alloc (Nat.le_trans hX.size h5.size) _
  have hbt := grown_but hg
  have htv : ∀ k, tv.ownBlock = some k → k < wr.heap.size := fun k hk => (row_lt h.1 k hk).1
  have hrl : ∀ r ∈ rs, ∀ k, r.2.2.1.ownBlock = some k → k < wr.heap.size := fun r hr k hk => (row_lt (h.2.2 r hr).1 k hk).1
  have hvl : ∀ k, v.ownBlock = some k → k < w5.heap.size ∧ X.heap.size ≤ k := row_lt hv
  have s1 := hX.size
  have s5 := h5.size
  have sa : (w5.alloc o).heap.size = w5.heap.size + 1 := by simp
  have s6 := hbt.size
  have htv' : ∀ q, q < w5.heap.size → tv.ownBlock ≠ some q → tv'.ownBlock ≠ some q := fun q hq h1 e => by
    rcases hat with a | a
    · exact h1 (a ▸ e)
    · rw [a] at e
      have := Option.some.inj e
      omega
  refine ⟨fun r hr d hd => ?_, ?_⟩
  · rcases List.mem_append.1 hr with hr | hr
    · obtain ⟨H, hH⟩ := hS.1 r hr d hd
      refine ⟨H, SpH.more (fun q hq => ⟨hq.1, by have := hq.2.1; omega, htv' q (by have := hq.2.1; omega) hq.2.2.1, fun r' hr' => ?_⟩) (SpH.but hbt (fun q hq e => hq.2.2.1 e) (SpH.but (But.of_below (S := fun _ => False) hbw) (fun _ _ => id) hH))⟩
      rcases List.mem_append.1 hr' with hr' | hr'
      · exact hq.2.2.2 r' hr'
      · simp only [List.mem_singleton] at hr'
        subst hr'
        intro e
        have := (hvl q e).2
        have := hq.2.1
        omega
    · simp only [List.mem_singleton] at hr
      subst hr
      obtain ⟨H, hH⟩ := ht5 d hd
      refine ⟨H, SpH.more (fun q hq => ⟨by have := hq.1; omega, by have := hq.2.1; omega, htv' q hq.2.1 (fun e => by have := htv q e; have := hq.1; omega), fun r' hr' => ?_⟩) (SpH.but hbt (fun q hq e => by have := htv q e; have := hq.1; omega) (SpH.but (But.of_below (S := fun _ => False) (below_new w5 o)) (fun _ _ => id) hH))⟩
      rcases List.mem_append.1 hr' with hr' | hr'
      · intro e
        have := hrl r' hr' q e
        have := hq.1
        omega
      · simp only [List.mem_singleton] at hr'
        subst hr'
        exact hq.2.2
  · refine List.pairwise_append.2 ⟨hS.2, List.pairwise_singleton _ _, fun a ha b hb k hk e => ?_⟩
    simp only [List.mem_singleton] at hb
    subst hb
    have := hrl a ha k hk
    have := (hvl k e).2
    omega
def TLS (w w' : World) (f : Int → Int → Option Lane) (sig : Int → Int → List SG) (tv : Value) : Prop := ∃ ks rs, LKeys f ks ∧ Rise ks ∧ rs.map (fun r => (r.1, r.2.1)) = ks ∧ ToldG w.heap.size w' sig tv rs.length rs ∧ ToldS w.heap.size w' tv rs ∧ Below w.heap.size w w'

set_option maxHeartbeats 2000000 in
set_option maxRecDepth 100000 in
theorem lanes_sp {sig : Int → Int → List SG} (h : EO w0 w eb mv f all N) (hN : N ≤ 1000000) (hsig : SigG f sig) (hmany : ∀ ks, LKeys f ks → ks.length ≤ 1000000) (hin : ∀ a b l, f a b = some l → ∀ s ∈ sig a b, s.t.In w 0 ∧ Small s.t ∧ cnT s.t ≤ 1000000000) :
    Calls Tryz.prog 11 #[.pointer (some ⟨eb, 0, none⟩)] w fun e w' => ∃ tv, e = .returned tv ∧ TLS w w' f sig tv := by
  obtain ⟨c0, c1, f0, f1, hlt⟩ := h.duo
  obtain ⟨mm, rfl⟩ : ∃ mm, mv = .map mm := by
    rcases h.map with ⟨e, _⟩ | ⟨mb, _, e, _⟩
    · exact ⟨_, e⟩
    · exact ⟨_, e⟩
  have KP := hidb (keysP w mm)
  have hmp : (Value.map mm = .map none ∧ ∀ a b, f a b = none) ∨ ∃ mb n, Value.map mm = .map (some mb) ∧ EM (w.alloc (.cells #[.map mm] MT)) mb n (fun a b => (f a b).map Lane.rb) ∧ n ≤ N := by
    rcases h.map with e | ⟨mb, n, e, he, hn, _⟩
    · exact .inl e
    · exact .inr ⟨mb, n, e, he.but (But.of_below (S := fun _ => False) (below_new w _)) (fun h => h), hn⟩
  have SA := hidb (sorted_rise (w := w.alloc (.cells #[.map mm] MT)) (Bm := w.heap.size) (by simp) (by simp [go_sem]) hN hmany hmp)
  have HE := hidb h
  have HSG := hidb hsig
  have HIN := hidb hin
  have H12 := hidb hmany
  clear h hmp hmany hsig hin
  go_enter Tryz.func11, Tryz.ntmps11
  go_wp2_with (first
    | (go_at_call 24; refine KP.out.mono ?_; rintro e w1 ⟨rfl, rfl⟩)
    | (go_at_call 23; refine SA.out.mono ?_; rintro e w2 ⟨q, c, ks, rfl, hk, hr, ho, hb⟩; have HK := hidb hk; have HRI := hidb hr; clear hr; have HO := hidb ho; have HB := hidb (show Below w.heap.size w w2 from (below_new w _).trans (hb.mono (by simp))); have HB2 := hidb hb; clear hk ho hb KP SA))
  have hL12 := H12.out ks HK.out
  generalize hL : ks.length = L at *
  have HL := hidb hL
  clear hL
  have HC : Hid (w.heap.size + 1 ≤ w2.heap.size) := hidb (by have := HB2.out.size; simpa using this)
  clear HB2
  go_loopw [3, 13] (fun tv iv wr => ∃ (m : Nat) (rs : List (Int × Int × Value × List SG)), m ≤ L ∧ iv = .int .i64 m ∧ rs.map (fun r => (r.1, r.2.1)) = ks.take m ∧ ToldG w2.heap.size wr sig tv m rs ∧ ToldS w2.heap.size wr tv rs ∧ Below w2.heap.size w2 wr) (fun _ iv _ => L - (RowKit.intOf iv).toNat)
  case atStart => exact ⟨0, [], by omega, rfl, rfl, ⟨World.ownsRow_nil _ _ _ _, rfl, fun _ h => absurd h (List.not_mem_nil)⟩, toldS_nil _ _ _, Below.refl _ _⟩
  case round =>
  obtain ⟨m, rs, hm, rfl, hrs, htold, htols, hbel⟩ := hrel
  obtain ⟨qt, ct, rfl⟩ := own_sl htold.1
  have HRS := hidb hrs
  have HT := hidb htold
  have HTS := hidb htols
  have HW := hidb hbel
  clear hrs htold htols hbel
  by_cases hmL : m < L
  · have hmb : (m : Int) < (L : Int) := by omega
    have hmz : (0 : Int) ≤ (m : Int) := by omega
    have hmw : IntKind.i64.wrap ((m : Int) + 1) = (m : Int) + 1 := by rw [IntKind.wrap_i64]; omega
    have hkl := HL.out
    obtain ⟨⟨xa, xb⟩, hx⟩ : ∃ x, ks[m]? = some x := ⟨_, List.getElem?_eq_getElem (by omega)⟩
    obtain ⟨hwa, hwb⟩ := HK.out.2.2 _ (List.mem_of_getElem? hx)
    obtain ⟨l, hl⟩ : ∃ l, f xa xb = some l := Option.isSome_iff_exists.1 ((HK.out.2.1 xa xb hwa hwb).1 (List.mem_of_getElem? hx))
    obtain ⟨mb, rfl⟩ : ∃ mb, mm = some mb := by
      rcases HE.out.map with ⟨_, e⟩ | ⟨mb, _, e, _⟩
      · rw [e] at hl; cases hl
      · exact ⟨mb, by simpa using e⟩
    obtain ⟨g, rfl⟩ : ∃ g, q = some ⟨g, 0, none⟩ := by
      rcases HO.out.2 with ⟨_, h0⟩ | ⟨g, cap, cur, hv, _⟩
      · omega
      · exact ⟨g, by simpa using (Value.slice.inj hv).1⟩
    obtain ⟨e0, e1⟩ := kvs_at hx
    have hgl := (row_lt HO.out g rfl).1
    have k0 : wr.cell? ⟨g, m * 2, none⟩ = some (.int .i64 xa) := (HW.out.cell (p := ⟨g, m * 2, none⟩) hgl).trans ((HO.out.cellAt _ (by omega)).trans e0)
    have k1 : wr.cell? ⟨g, m * 2 + 1, none⟩ = some (.int .i64 xb) := (HW.out.cell (p := ⟨g, m * 2 + 1, none⟩) hgl).trans ((HO.out.cellAt _ (by omega)).trans e1)
    have HBW := hidb (HB.out.trans (HW.out.mono HB.out.size))
    have hbx : Below w.heap.size w (wr.alloc (.cells #[.int .i64 xa, .int .i64 xb] KT)) := HBW.out.trans ((below_new wr _).mono HBW.out.size)
    have HEX := hidb (HE.out.keep hbx)
    obtain ⟨c0, -, -, -, -⟩ := HEX.out.duo
    obtain ⟨s1, s2⟩ := HSG.out xa xb l hl
    have HRW := (HEX.out.lane xa xb l hl).2.2.1
    rw [s1, s2] at HRW
    have hsl : (sig xa xb).length ≤ 1000000 := by
      obtain ⟨_, _, _, _, _, e1, e2⟩ := HRW
      omega
    have OA := hidb (ownAll_sp (HRW.keep ((Below.refl _ _).drew)) hN hsl (fun s hs => by have := HIN.out xa xb l hl s hs; exact ⟨in_below ((Below.refl _ _).drew) (in_below hbx this.1), this.2⟩))
    have hlk : (Instr.lookup MT (.map (some mb)) (.agg #[.int .i64 xa, .int .i64 xb]) false).run Tryz.prog (wr.alloc (.cells #[.int .i64 xa, .int .i64 xb] KT)).drew = .ok (.pointer (some ⟨l.rb, 0, none⟩)) (wr.alloc (.cells #[.int .i64 xa, .int .i64 xb] KT)).drew := by
      rcases HEX.out.map with ⟨e, _⟩ | ⟨mb', n', e, he, _⟩
      · cases e
      · obtain rfl : mb = mb' := by simpa using e
        exact EM.look1 (he.but (But.of_below (S := fun _ => False) ((Below.refl _ _).drew)) (fun h => h)) hwa hwb (by simp [hl])
    obtain ⟨i0, hi, hz0, hz1, hz2⟩ := infoN
    have p0 : (wr.alloc (.cells #[.int .i64 xa, .int .i64 xb] KT)).drew.cell? ⟨wr.heap.size, 0, none⟩ = some (.int .i64 xa) := by rw [cell_drew]; simp [go_sem]
    have p1 : (wr.alloc (.cells #[.int .i64 xa, .int .i64 xb] KT)).drew.cell? ⟨wr.heap.size, 1, none⟩ = some (.int .i64 xb) := by rw [cell_drew]; simp [go_sem]
    have HP0 := hidb p0
    have HC0 : Hid ((wr.alloc (.cells #[.int .i64 xa, .int .i64 xb] KT)).drew.cell? ⟨eb, 0, none⟩ = some (.map (some mb))) := hidb c0
    have HEB : Hid (eb < w2.heap.size) := hidb (by have := HC.out; omega)
    have HP1 := hidb p1
    clear p0 p1
    have z1 : m + 1 ≤ maxLen := by unfold maxLen; omega
    have z2 : (m + 1) * 40 ≤ 140737488355328 := by omega
    have HCW : Hid (w2.heap.size ≤ wr.heap.size) := hidb HW.out.size
    have HX := hidb hx
    have HLL := hidb hl
    clear s1 s2 HRW hx hl e0 e1 hbx hkl
    go_wp2_with fail
    go_region_held3 (fun w' => w'.cell? ⟨wr.heap.size, 0, none⟩ = some (.int .i64 xa) ∧ w'.cell? ⟨wr.heap.size, 1, none⟩ = some (.int .i64 xb) ∧ w'.cell? ⟨eb, 0, none⟩ = some (.map (some mb)))
      (first | with_reducible exact ⟨HP0.out, HP1.out, HC0.out⟩ | with_reducible exact ⟨m0, m1, m2⟩ | with_reducible exact ⟨HS0.out.2.2.2.1, HS0.out.2.2.2.2.1, HS0.out.2.2.2.2.2.2⟩ | with_reducible exact ⟨q0, q1, q2⟩ | go_keep) (first
      | (go_at_call 26; refine OA.out.mono ?_; rintro e w5 ⟨a5, c5, ds5, rfl, ho5, hl5, hs5, ht5, hsp5, hb5⟩; have HSP5 := hidb hsp5; clear hsp5; have HS5 := hidb (And.intro hl5 hs5); have HT5 := hidb ht5; clear hl5 hs5 ht5; have m0 := (hb5.cell (World.block_lt_of_cell? _ _ HP0.out)).trans HP0.out; have m1 := (hb5.cell (World.block_lt_of_cell? _ _ HP1.out)).trans HP1.out; have m2 := (hb5.cell (World.block_lt_of_cell? _ _ HC0.out)).trans HC0.out; have HO5 := hidb ho5; have HB5 := hidb hb5; have hz5 : w2.heap.size ≤ (w5.alloc (.cells #[.int .i64 xa, .int .i64 xb, .slice a5 (sig xa xb).length c5] NT)).heap.size := (by have := hb5.size; have := HCW.out; simp at this ⊢; simp [World.drew] at *; omega); have HS0 := hidb (lane_far (o := .cells #[.int .i64 xa, .int .i64 xb, .slice a5 (sig xa xb).length c5] NT) HT.out.1 HEB.out m0 m1 m2); clear ho5 hb5)
      | (refine step_app rfl (.tmp 17) (.tmp 30) 42 rfl w2.heap.size NT i0 (.agg #[.int .i64 0, .int .i64 0, .slice none 0 0]) 3 40 Tryz.underlying42 hi hz0 hz1 hz2 rfl (by decide) (.slice qt m ct) m (lvs (rs.map lvr)) rfl (row_but HT.out.1 (But.of_below (S := fun _ => False) ((((below_new wr _).drew).trans (HB5.out.mono (by simp))).alloc (by have := HB5.out.size; simp at this ⊢; omega) _)) (fun _ _ h => h)) ⟨w5.heap.size, 0, none⟩ 1 1 [.int .i64 xa, .int .i64 xb, .slice a5 (sig xa xb).length c5] rfl rfl (World.news_of_block (at_new w5 _)) (by simp [Value.oneCell']) z1 z2 hz5 ?_; intro v' w6 hown hgrow hat; obtain ⟨a6, c6, rfl⟩ := own_sl hown; have HTM := hidb (told_moreG HT.out ((below_new wr _).drew) HCW.out HB5.out HO5.out HS5.out HT5.out hgrow hown hat); have HTN := hidb (told_moreS (xa := xa) (xb := xb) HT.out HTS.out ((below_new wr _).drew) HCW.out HB5.out HO5.out HSP5.out hgrow hat); have q0 := (HTM.out.2.2.cell (p := ⟨wr.heap.size, 0, none⟩) HS0.out.1 HS0.out.2.1).trans HS0.out.2.2.2.1; have q1 := (HTM.out.2.2.cell (p := ⟨wr.heap.size, 1, none⟩) HS0.out.1 HS0.out.2.1).trans HS0.out.2.2.2.2.1; have q2 := (HTM.out.2.2.cell (p := ⟨eb, 0, none⟩) HS0.out.2.2.2.2.2.1 HS0.out.2.2.1).trans HS0.out.2.2.2.2.2.2; clear hown hgrow hat))
    go_wp2_with fail
    go_roundw
    case rel =>
      refine ⟨m + 1, rs ++ [(xa, xb, .slice a5 (sig xa xb).length c5, ds5)], by omega, by go_num, ?_, HTM.out.1, HTN.out, (HW.out.trans (HTM.out.2.1.mono HW.out.size)).trans (HTM.out.2.2.below (Nat.le_trans HW.out.size HTM.out.2.1.size) (fun k e => (row_lt HT.out.1 k e).2))⟩
      rw [List.map_append, HRS.out, List.take_add_one, HX.out]
      rfl
    case measure => simp [RowKit.intOf]; omega
  · have hmn : ¬ (m : Int) < (L : Int) := by omega
    go_wp2_with fail
    go_ret
    obtain rfl : m = L := by omega
    have e := HT.out.2.1
    have hk := HL.out
    refine ⟨_, rfl, ks, rs, HK.out, HRI.out, by rw [HRS.out, ← hk, List.take_length], ⟨?_, rfl, fun r hr => ⟨row_base (HT.out.2.2 r hr).1 (by have := HC.out; omega), (HT.out.2.2 r hr).2.1, fun d hd => ⟨((HT.out.2.2 r hr).2.2 d hd).1, on_mono (fun q hq => ⟨by have := HC.out; have := hq.1; omega, hq.2⟩) _ ((HT.out.2.2 r hr).2.2 d hd).2⟩⟩⟩, HTS.out.base (by have := HC.out; omega), HB.out.trans (HW.out.mono HB.out.size)⟩
    rw [e]
    exact row_base HT.out.1 (by have := HC.out; omega)
end Go.Proofs.YtpcpdehnppfbfaaGreat


