import Derived.Test.YtceigdeoefhcfaaGreatG31
import Derived.Deep.RegionHeld3
import Derived.Deep.RegionWith
import Derived.BigQuiet
import Derived.WalkSmall
/- MonsDown: moves 2 and 3, walked. -/
namespace Go.Proofs.YtceigdeoefhcfaaGreat
open Go.RowKit Go.Lib
open MV (Hf hf0 getL insL delL Rise Wfk TB Nw Rst KV MnT mvs)
attribute [local go_sem] store_float f64bits
attribute [local go_sem ↓] Go.wp_at_zero Go.wp_at_succ

variable {Yg : Nat → Prop} {wG : World} {w0 w w' : World} {wb ta tb eb N refs : Nat} {O T O' T' : List KV} {p q : List Sg} {dead : Bool} {dn : List Nat}
set_option maxRecDepth 100000 in
set_option maxHeartbeats 8000000 in
theorem does2 {g : Int → Prop} {i : Nat} (h : DL Yg wG NoX w0 w wb ta tb eb O T p q dead refs dn N) (hi : Iv g i O T p q dead refs dn N) (hN : i ≤ 3000) (rf : Int) (hg : isK rf O = true → g rf) :
    Calls Tryz.prog 7 #[.pointer (some ⟨wb, 0, none⟩), .agg #[.int .i64 2, .int .i64 rf]] w (DoR Yg wG g (i + 1) w0 wb ta tb eb) := by
  have hbs := hi.bs
  obtain ⟨W1, hW1⟩ : ∃ W1, w.alloc (.cells #[.int .i64 2, .int .i64 rf] 34) = W1 := ⟨_, rfl⟩
  have hb1 : Below w.heap.size w W1 := hW1 ▸ below_new _ _
  have hD1 : Duo W1 w.heap.size (.int .i64 2) (.int .i64 rf) := hW1 ▸ Duo.new _ _ _ _
  have hlw : w.heap.size < W1.heap.size := by rw [← hW1]; simp
  have hnw : w.heap.size ≠ W1.heap.size := by omega
  obtain ⟨V0, hS0, -, -, -⟩ := h.box
  have hwl := hS0.lt
  have hwl1 : wb < W1.heap.size := by omega
  have hwn : wb ≠ w.heap.size := by omega
  have hwn1 : wb ≠ W1.heap.size := by omega
  have hS1 := hS0.own hb1
  have n0 := hD1.c0
  have n1 := hD1.c1
  have k0 := hS1.c0; have k1 := hS1.c1; have k2 := hS1.c2; have k3 := hS1.c3
  have HB1 := hidb hb1
  have CD : Hid (∀ W, Below w.heap.size w W → Calls Tryz.prog 15 #[.pointer (some ⟨ta, 0, none⟩), .int .i64 rf] W fun e w2 => e = .returned (.tuple #[.agg #[.int .i64 ((getL rf O).getD hf0).a, .int .i64 ((getL rf O).getD hf0).b, .string ((getL rf O).getD hf0).c], .bool (isK rf O)]) ∧ But (fun k => ¬ (w.heap.size ≤ k ∧ k < W.heap.size)) W w2 ∧ (w2.cell? ⟨wb, 0, none⟩ = some (.pointer (some ⟨ta, 0, none⟩)) ∧ w2.cell? ⟨wb, 1, none⟩ = some (.pointer (some ⟨tb, 0, none⟩)) ∧ w2.cell? ⟨wb, 2, none⟩ = some (.pointer (some ⟨eb, 0, none⟩)) ∧ w2.cell? ⟨wb, 3, none⟩ = some (.bool dead)) ∧ Hid (∀ W', But (fun k => w.heap.size ≤ k ∧ k < W.heap.size) w2 W' → DL Yg wG NoX w0 W' wb ta tb eb (delL rf O) T p q dead refs dn N)) := hidb (fun W hW => by
    have hdW : DL Yg wG (fun k => w.heap.size ≤ k ∧ k < W.heap.size) w0 W wb ta tb eb O T p q dead refs dn N := h.turn hW (fun k hk => hk)
    refine (hdW.opA (O' := delL rf O) (R := fun e => e = .returned (.tuple #[.agg #[.int .i64 ((getL rf O).getD hf0).a, .int .i64 ((getL rf O).getD hf0).b, .string ((getL rf O).getD hf0).c], .bool (isK rf O)])) (fun D hD => (mdem_any hD (by have := olen hbs; have := hbs.r; omega) rf).mono (by rintro e w' ⟨rfl, hu⟩; exact ⟨rfl, hu⟩))).mono ?_
    rintro e w2 ⟨rfl, hd2, hb2⟩
    obtain ⟨V2, hS2, -, -, -⟩ := hd2.box
    exact ⟨rfl, hb2, ⟨hS2.c0, hS2.c1, hS2.c2, hS2.c3⟩, hidb (fun W' hb => (hd2.poke hb).turn (Below.refl _ _) (fun _ hk => hk.elim))⟩)
  clear hS0 hS1 hD1 hb1 h
  cases hk : isK rf O with
  | false =>
    rw [hk] at CD
    have hno : getL rf O = none := by unfold isK at hk; simpa using hk
    rw [hno] at CD
    simp only [Option.getD_none] at CD
    rw [MV.del_of_none hno] at CD
    have HIV := hidb hi.next
    clear hi hbs hno hk hg
    go_enter Tryz.func7, Tryz.ntmps7
    go_wp2_with fail
    clear hW1
    go_region_with (go_at_call 15; refine (CD.out _ (by (repeat (first | exact HB1.out | refine Below.drew ?_ | refine Below.alloc ?_ (by (first | omega | (simp; omega))) _)))).mono ?_; rintro e w2 ⟨rfl, hb2, ⟨m0, m1, m2, m3⟩, HR⟩; have hs2 := hb2.size; (first | (have P5 : Tri w2 W1.heap.size (.int .i64 0) (.int .i64 0) (.string ⟨#[]⟩) := ((Tri.new W1 40 (.int .i64 0) (.int .i64 0) (.string ⟨#[]⟩)).keep ((Below.refl _ _).drew)).but hb2 (fun hh => hh ⟨by omega, (show W1.heap.size < (W1.alloc _).heap.size by simp)⟩); have r0 := P5.c0; have r1 := P5.c1; have r2 := P5.c2; have r3 := P5.f0; have r4 := P5.f1; have r5 := P5.f2) | skip); (first | (have hs9 : w.heap.size < w2.heap.size := (by have hs8 : W1.heap.size ≤ w2.heap.size := Nat.le_trans (by first | exact Nat.le_refl _ | (show W1.heap.size ≤ (W1.alloc _).heap.size; simp)) hs2; omega); have hwn2 : wb ≠ w2.heap.size := (by omega); have hwl2 : wb < w2.heap.size := (by omega)) | skip))
    all_goals go_wp2_with fail
    all_goals exact bodyPost_end (v := .tuple #[]) (by simp [results, Tryz.results7, go_sem]) rfl ⟨rfl, _, _, _, _, _, _, _, _, HR.out _ (by (repeat (first | exact But.refl _ _ | refine But.drew ?_ | refine But.alloc ?_ _ | refine But.setCell ?_ (fun _ => ⟨by simp only; omega, by first | (simp; done) | (simp; omega) | (show W1.heap.size < (W1.alloc _).heap.size; simp)⟩) _))), HIV.out⟩
  | true =>
    have hga : ((getL rf O).getD hf0).a = rf := mok_get (fun x hx => by rw [(hbs.o x hx).1]) hbs.ro hk
    obtain ⟨x, hx, hxr⟩ := isK_mem.1 hk
    have hxo := hbs.o x hx
    have hiv := hi.m2 hk (hg hk)
    have hb9 := hiv.bs.b
    have ha9 := hiv.bs.a
    have hr9 := hiv.bs.r
    have CP : Hid (∀ W', DL Yg wG NoX w0 W' wb ta tb eb (delL rf O) T p q dead refs dn N → Calls Tryz.prog 14 #[.pointer (some ⟨eb, 0, none⟩), .agg #[.int .i64 1, .int .i64 2, .int .i64 7, .int .i64 0, .int .i64 rf, .bool false, .string ⟨#[]⟩, .int .i64 0, .int .i64 0, .float .f64 0, .string ⟨#[]⟩, .slice none 0 0]] W' fun e w5 => e = .returned (.int .i64 0) ∧ Hid (DoR Yg wG g (i + 1) w0 wb ta tb eb (.returned (.tuple #[])) w5)) := hidb (fun W' hd => by
      refine (hd.put12 (s := ⟨7, rf, 0, nil8⟩) (fun w => check_p ⟨.inr rfl, rfl, rfl, by simp only; omega, by simp only; omega⟩ w) (by omega) (by simp at ha9; omega)).mono ?_
      rintro e w5 ⟨rfl, hd5, -⟩
      exact ⟨rfl, hidb ⟨rfl, _, _, _, _, _, _, _, _, hd5, hiv⟩⟩)
    rw [hk, hga] at CD
    generalize ((getL rf O).getD hf0).b = gb at *
    generalize ((getL rf O).getD hf0).c = gc at *
    clear hi hbs hk hg hga hx hxr hxo hiv hb9 ha9 hr9
    go_enter Tryz.func7, Tryz.ntmps7
    go_wp2_with fail
    clear hW1
    go_region_with (go_at_call 15; refine (CD.out _ (by (repeat (first | exact HB1.out | refine Below.drew ?_ | refine Below.alloc ?_ (by (first | omega | (simp; omega))) _)))).mono ?_; rintro e w2 ⟨rfl, hb2, ⟨m0, m1, m2, m3⟩, HR⟩; have hs2 := hb2.size; (first | (have P5 : Tri w2 W1.heap.size (.int .i64 0) (.int .i64 0) (.string ⟨#[]⟩) := ((Tri.new W1 40 (.int .i64 0) (.int .i64 0) (.string ⟨#[]⟩)).keep ((Below.refl _ _).drew)).but hb2 (fun hh => hh ⟨by omega, (show W1.heap.size < (W1.alloc _).heap.size by simp)⟩); have r0 := P5.c0; have r1 := P5.c1; have r2 := P5.c2; have r3 := P5.f0; have r4 := P5.f1; have r5 := P5.f2) | skip); (first | (have hs9 : w.heap.size < w2.heap.size := (by have hs8 : W1.heap.size ≤ w2.heap.size := Nat.le_trans (by first | exact Nat.le_refl _ | (show W1.heap.size ≤ (W1.alloc _).heap.size; simp)) hs2; omega); have hwn2 : wb ≠ w2.heap.size := (by omega); have hwl2 : wb < w2.heap.size := (by omega)) | skip))
    all_goals go_wp2_with fail
    all_goals go_region_with (go_at_call 14; refine (CP.out _ (HR.out _ (by (repeat (first | exact But.refl _ _ | refine But.drew ?_ | refine But.alloc ?_ _ | refine But.setCell ?_ (fun _ => ⟨by simp only; omega, by first | (simp; done) | (simp; omega) | (show W1.heap.size < (W1.alloc _).heap.size; simp)⟩) _))))).mono ?_; rintro e w5 ⟨rfl, HQ⟩)
    all_goals go_wp2_with fail
    all_goals exact bodyPost_end (v := .tuple #[]) (by simp [results, Tryz.results7, go_sem]) rfl HQ.out

end Go.Proofs.YtceigdeoefhcfaaGreat


/- MonsDown: moves 3 and 4, walked. -/
namespace Go.Proofs.YtceigdeoefhcfaaGreat
open Go.RowKit Go.Lib
open MV (Hf hf0 getL insL delL Rise Wfk TB Nw Rst KV MnT mvs)
attribute [local go_sem] store_float f64bits
attribute [local go_sem ↓] Go.wp_at_zero Go.wp_at_succ

variable {Yg : Nat → Prop} {wG : World} {w0 w w' : World} {wb ta tb eb N refs : Nat} {O T O' T' : List KV} {p q : List Sg} {dead : Bool} {dn : List Nat}
/-- What taking in tells. -/
def DoQ (Yg : Nat → Prop) (wG : World) (g : Int → Prop) (i pl ql : Nat) (w0 : World) (wb ta tb eb : Nat) (e : Ending) (w' : World) : Prop := e = .returned (.tuple #[]) ∧ ∃ O T p q dead refs dn N, DL Yg wG NoX w0 w' wb ta tb eb O T p q dead refs dn N ∧ Iv g i O T p q dead refs dn N ∧ p.length = pl ∧ q.length ≤ ql
theorem DoQ.r {g : Int → Prop} {i pl ql : Nat} {e : Ending} (h : DoQ Yg wG g i pl ql w0 wb ta tb eb e w) : DoR Yg wG g (i + 1) w0 wb ta tb eb e w := by
  obtain ⟨rfl, O, T, p, q, dead, refs, dn, N, h1, h2, -, -⟩ := h
  exact ⟨rfl, O, T, p, q, dead, refs, dn, N, h1, h2.next⟩
theorem dvs_set (l : List Nat) (n c : Nat) : (dvs l).set n (.int .i64 (c : Int)) = dvs (l.set n c) := by simp [dvs, List.map_set]
theorem DL.bump (h : DL Yg wG NoX w0 w wb ta tb eb O T p q dead refs dn N) {gv cap n c : Nat} (hV : w.cell? ⟨wb, 5, none⟩ = some (.slice (some ⟨gv, 0, none⟩) dn.length cap)) : DL Yg wG NoX w0 (w.setCell ⟨gv, n, none⟩ (.int .i64 (c : Int))) wb ta tb eb O T p q dead refs (dn.set n c) N := by
  obtain ⟨V9, hS9, hR9, -, hV9⟩ := h.box
  obtain rfl : (Value.slice (some ⟨gv, 0, none⟩) dn.length cap) = V9 := by have := hV.symm.trans hS9.c5; simpa using this
  refine h.setb dead refs (V' := .slice (some ⟨gv, 0, none⟩) dn.length cap) (dn' := dn.set n c) (fun V0 hS0 hR0 => ?_)
  obtain rfl : (Value.slice (some ⟨gv, 0, none⟩) dn.length cap) = V0 := by have := hV.symm.trans hS0.c5; simpa using this
  have hb : But (fun k => k = gv) w (w.setCell ⟨gv, n, none⟩ (.int .i64 (c : Int))) := (But.refl (fun k => k = gv) w).setCell (p := ⟨gv, n, none⟩) (fun _ => rfl) _
  refine ⟨hS0.but hb (fun e => (hV9 gv rfl).2 e.symm), ?_, hb.mono (fun k _ e => .inr (by rw [show k = gv from e]; rfl)), fun g e => .inl e⟩
  have h9 := (hR0.stored n (.int .i64 (c : Int))).1
  rw [dvs_set] at h9
  simpa using h9
theorem DL.row (h : DL Yg wG NoX w0 w wb ta tb eb O T p q dead refs dn N) {n c : Nat} (hc : dn[n]? = some c) : ∃ gv cap, w.cell? ⟨wb, 5, none⟩ = some (.slice (some ⟨gv, 0, none⟩) dn.length cap) ∧ w.cell? ⟨gv, n, none⟩ = some (.int .i64 (c : Int)) ∧ w.frozen? ⟨gv, n, none⟩ = false ∧ gv < w.heap.size ∧ gv ≠ wb := by
  obtain ⟨V9, hS9, hR9, -, hV9⟩ := h.box
  have hn := (List.getElem?_eq_some_iff.1 hc).1
  rcases hR9.2 with ⟨rfl, h0⟩ | ⟨g, cap, cur, rfl, -⟩
  · omega
  · refine ⟨g, cap, hS9.c5, ?_, MV.row_free hR9 _, (hR9.lt g rfl).2, (hV9 g rfl).2⟩
    rw [hR9.cellAt n (by omega)]
    simp [dvs, hc]

def sgb (x y : Int) (s : Sg) : Obj := .cells #[.int .i64 x, .int .i64 y, .int .i64 s.k, .int .i64 0, .int .i64 s.r, .bool false, .string ⟨#[]⟩, .int .i64 s.tk, .int .i64 0, .float .f64 0, .string s.ts, .slice none 0 0] 64

set_option maxRecDepth 100000 in
set_option maxHeartbeats 8000000 in
theorem does3_none {g : Int → Prop} {i : Nat} (h : DL Yg wG NoX w0 w wb ta tb eb O T p [] dead refs dn N) (hi : Iv g i O T p [] dead refs dn N) (rf : Int) :
    Calls Tryz.prog 7 #[.pointer (some ⟨wb, 0, none⟩), .agg #[.int .i64 3, .int .i64 rf]] w (DoQ Yg wG g i p.length 0 w0 wb ta tb eb) := by
  have hbs := hi.bs
  obtain ⟨W1, hW1⟩ : ∃ W1, w.alloc (.cells #[.int .i64 3, .int .i64 rf] 34) = W1 := ⟨_, rfl⟩
  have hb1 : Below w.heap.size w W1 := hW1 ▸ below_new _ _
  have hD1 : Duo W1 w.heap.size (.int .i64 3) (.int .i64 rf) := hW1 ▸ Duo.new _ _ _ _
  have hlw : w.heap.size < W1.heap.size := by rw [← hW1]; simp
  have hnw : w.heap.size ≠ W1.heap.size := by omega
  obtain ⟨V0, hS0, -, -, -⟩ := h.box
  have hwl := hS0.lt
  have hwl1 : wb < W1.heap.size := by omega
  have hwn : wb ≠ w.heap.size := by omega
  have hwn1 : wb ≠ W1.heap.size := by omega
  have hS1 := hS0.own hb1
  have n0 := hD1.c0
  have n1 := hD1.c1
  have k0 := hS1.c0; have k1 := hS1.c1; have k2 := hS1.c2; have k3 := hS1.c3
  have HB1 := hidb hb1
  have CT : Hid (Calls Tryz.prog 16 #[.pointer (some ⟨eb, 0, none⟩), .int .i64 2, .int .i64 1] W1 fun e w2 => e = .returned (.tuple #[zsig, .bool false]) ∧ Hid (∀ W', Below w2.heap.size w2 W' → DL Yg wG NoX w0 W' wb ta tb eb O T p [] dead refs dn N)) := hidb ((h.keep hb1).none21.mono (by
    rintro e w2 ⟨rfl, hb2⟩
    exact ⟨rfl, hidb (fun W' hb => ((h.keep hb1).keep hb2).keep hb)⟩))
  have HIV := hidb hi
  clear hS0 hS1 hD1 hb1 h hbs hi
  go_enter Tryz.func7, Tryz.ntmps7
  go_wp2_with (go_at_call 16; refine CT.out.mono ?_; rintro e w2 ⟨rfl, HR⟩)
  exact bodyPost_end (v := .tuple #[]) (by simp [results, Tryz.results7, go_sem]) rfl ⟨rfl, _, _, _, _, _, _, _, _, HR.out _ (by (repeat (first | exact Below.refl _ _ | assumption | refine Below.drew ?_ | refine below_drewN ?_ _ | refine Below.setCell ?_ (by simp) _ | refine Below.alloc ?_ (by (first | exact Nat.le_refl _ | (simp; done) | (simp; omega) | omega)) _ | refine Below.trans ?_ (Below.mono (by assumption) (by first | exact Nat.le_refl _ | (simp; done) | (simp; omega) | omega))))), HIV.out, rfl, Nat.le_refl _⟩

end Go.Proofs.YtceigdeoefhcfaaGreat


