import Derived.Test.YtceigdeoefhcfaaGreatG33
import Derived.Deep.RegionHeld3
import Derived.Deep.RegionWith
import Derived.BigQuiet
import Derived.WalkSmall
import Derived.Deep.LoopGhost
/- MonsDown: move 4, walked. -/
namespace Go.Proofs.YtceigdeoefhcfaaGreat
open Go.RowKit Go.Lib
open MV (Hf hf0 getL insL delL Rise Wfk TB Nw Rst KV MnT mvs)
attribute [local go_sem] store_float f64bits
attribute [local go_sem ↓] Go.wp_at_zero Go.wp_at_succ

variable {Yg : Nat → Prop} {wG : World} {w0 w w' : World} {wb ta tb eb N refs : Nat} {O T O' T' : List KV} {p q : List Sg} {dead : Bool} {dn : List Nat}
set_option maxRecDepth 100000 in
set_option maxHeartbeats 8000000 in
theorem does4_xa {g : Int → Prop} {i : Nat} {sr : Int} (h : DL Yg wG NoX w0 w wb ta tb eb O T (⟨7, sr, 0, nil8⟩ :: p) q false refs dn N) (hi : Iv g i O T (⟨7, sr, 0, nil8⟩ :: p) q false refs dn N) (hN : i ≤ 3000) (rf : Int) :
    Calls Tryz.prog 7 #[.pointer (some ⟨wb, 0, none⟩), .agg #[.int .i64 4, .int .i64 rf]] w (DoQ Yg wG g i p.length (q.length + 1) w0 wb ta tb eb) := by
  have hbs := hi.bs
  obtain ⟨W1, hW1⟩ : ∃ W1, w.alloc (.cells #[.int .i64 4, .int .i64 rf] 34) = W1 := ⟨_, rfl⟩
  have hb1 : Below w.heap.size w W1 := hW1 ▸ below_new _ _
  have hD1 : Duo W1 w.heap.size (.int .i64 4) (.int .i64 rf) := hW1 ▸ Duo.new _ _ _ _
  have hlw : w.heap.size < W1.heap.size := by rw [← hW1]; simp
  have hnw : w.heap.size ≠ W1.heap.size := by omega
  obtain ⟨V0, hS0, -, -, -⟩ := h.box
  have hwl := hS0.lt
  have hwl1 : wb < W1.heap.size := by omega
  have hwn : wb ≠ w.heap.size := by omega
  have hwn1 : wb ≠ W1.heap.size := by omega
  have hS1 := hS0.own hb1
  have n0 := hD1.c0
  have n1 := hD1.c1
  have k0 := hS1.c0; have k1 := hS1.c1; have k2 := hS1.c2; have k3 := hS1.c3
  have HB1 := hidb hb1
  have hsq := hbs.fp _ (List.mem_cons_self ..)
  have hb9 := hbs.b
  have ha9 := hbs.a
  have hr9 := hbs.r
  have CT : Hid (Calls Tryz.prog 16 #[.pointer (some ⟨eb, 0, none⟩), .int .i64 1, .int .i64 2] W1 fun e w2 => e = .returned (.tuple #[sgv 1 2 ⟨7, sr, 0, nil8⟩, .bool true]) ∧ w2.cell? ⟨wb, 1, none⟩ = some (.pointer (some ⟨tb, 0, none⟩)) ∧ w2.cell? ⟨wb, 2, none⟩ = some (.pointer (some ⟨eb, 0, none⟩)) ∧ w2.cell? ⟨wb, 3, none⟩ = some (.bool false) ∧ wb < w2.heap.size ∧ Hid (DL Yg wG NoX w0 w2 wb ta tb eb O T p q false refs dn N)) := hidb (((h.keep hb1).take12 (by omega) (by simp at ha9; omega)).mono (by
    rintro e w2 ⟨rfl, hd2, -⟩
    obtain ⟨V2, hS2, -, -, -⟩ := hd2.box
    exact ⟨rfl, hS2.c1, hS2.c2, hS2.c3, hS2.lt, hidb hd2⟩))
  have hiv := hi.m4e (by simp)
  clear hS0 hS1 hD1 hb1 h hi
  go_enter Tryz.func7, Tryz.ntmps7
  go_wp2_with (go_at_call 16; refine CT.out.mono ?_; rintro e w2 ⟨rfl, m1, m2, m3, hwl2, HD2⟩; have hwn2 : wb ≠ w2.heap.size := (by omega))
  obtain ⟨W3, hW3⟩ : ∃ W3, w2.alloc (.cells #[.int .i64 1, .int .i64 2, .int .i64 7, .int .i64 0, .int .i64 sr, .bool false, .string ⟨#[]⟩, .int .i64 0, .int .i64 0, .float .f64 0, .string ⟨#[]⟩, .slice none 0 0] 64) = W3 := ⟨_, rfl⟩
  rw [hW3]
  have hb3 : Below w2.heap.size w2 W3 := hW3 ▸ below_new _ _
  have P4 : W3.cell? ⟨w2.heap.size, 4, none⟩ = some (.int .i64 sr) := by rw [← hW3, World.cell?_alloc_new]; rfl
  have hl3 : w2.heap.size < W3.heap.size := by rw [← hW3]; simp
  have j1 : W3.cell? ⟨wb, 1, none⟩ = some (.pointer (some ⟨tb, 0, none⟩)) := (hb3.cell (p := ⟨wb, 1, none⟩) hwl2).trans m1
  have hd3 : DL Yg wG (fun k => k = w2.heap.size) w0 W3.drew wb ta tb eb O T p q false refs dn N := HD2.out.turn (hb3.drew) (fun k hk => by have hk' : k = w2.heap.size := hk; have : W3.drew.heap.size = W3.heap.size := rfl; omega)
  have CP : Hid (Calls Tryz.prog 18 #[.pointer (some ⟨tb, 0, none⟩), .int .i64 sr] W3.drew fun e w5 => e = .returned (.bool (getL sr T).isSome) ∧ Hid (w5.cell? ⟨wb, 1, none⟩ = some (.pointer (some ⟨tb, 0, none⟩)) ∧ w5.cell? ⟨w2.heap.size, 4, none⟩ = some (.int .i64 sr)) ∧ Hid (DoQ Yg wG g i p.length (q.length + 1) w0 wb ta tb eb (.returned (.tuple #[])) w5)) := by
    refine hidb ((hd3.opB (T' := delL sr T) (R := fun e => e = .returned (.bool (getL sr T).isSome)) (fun D hD => (mond_any hD (by omega) sr).mono (by rintro e w' ⟨rfl, hu⟩; exact ⟨rfl, hu⟩))).mono ?_)
    rintro e w5 ⟨rfl, hd5, hb5⟩
    obtain ⟨V5, hS5, -, -, -⟩ := hd5.box
    exact ⟨rfl, hidb ⟨hS5.c1, (hb5.cell (p := ⟨w2.heap.size, 4, none⟩) hl3 (fun hh => hh rfl)).trans P4⟩, hidb ⟨rfl, _, _, _, _, _, _, _, _, hd5.turn (Below.refl _ _) (fun _ hk => hk.elim), hiv, rfl, by simp⟩⟩
  have HS0 : Hid (W3.drew.cell? ⟨wb, 1, none⟩ = some (.pointer (some ⟨tb, 0, none⟩)) ∧ W3.drew.cell? ⟨w2.heap.size, 4, none⟩ = some (.int .i64 sr)) := hidb ⟨j1, P4⟩
  clear hW3 hb3 P4 hl3 j1 hd3 hiv hbs hsq hb9 ha9 hr9 HD2 CT n0 n1 k0 k1 k2 k3 hwl hwl1 hwn hwn1 hlw hnw m1 m2 m3 HB1
  go_region_held3 (fun w' => w'.cell? ⟨wb, 1, none⟩ = some (.pointer (some ⟨tb, 0, none⟩)) ∧ w'.cell? ⟨w2.heap.size, 4, none⟩ = some (.int .i64 sr)) (first | with_reducible exact HS0.out | with_reducible exact HS1.out) (first | (go_at_call 18; refine CP.out.mono ?_; rintro e w5 ⟨rfl, HS1, HR⟩))
  go_wp2_with fail
  exact bodyPost_end (v := .tuple #[]) (by simp [results, Tryz.results7, go_sem]) rfl HR.out

end Go.Proofs.YtceigdeoefhcfaaGreat


/- MonsDown: move 5, walked. -/
namespace Go.Proofs.YtceigdeoefhcfaaGreat
open Go.RowKit Go.Lib
open MV (Hf hf0 getL insL delL Rise Wfk TB Nw Rst KV MnT mvs)
attribute [local go_sem] store_float f64bits
attribute [local go_sem ↓] Go.wp_at_zero Go.wp_at_succ

variable {Yg : Nat → Prop} {wG : World} {w0 w w' : World} {wb ta tb eb N refs : Nat} {O T O' T' : List KV} {p q : List Sg} {dead : Bool} {dn : List Nat}
theorem DL.ended (h : DL Yg wG NoX w0 w wb ta tb eb O T p q dead refs dn N) : DL Yg wG NoX w0 (w.setCell ⟨wb, 3, none⟩ (.bool true)) wb ta tb eb O T p q true refs dn N := by
  obtain ⟨V9, hS9, hR9, -, hV9⟩ := h.box
  refine h.setb true refs (V' := V9) (dn' := dn) (fun V0 hS0 hR0 => ?_)
  obtain rfl : V9 = V0 := by have := hS9.c5.symm.trans hS0.c5; simpa using this
  have hb : But (fun k => k = wb) w (w.setCell ⟨wb, 3, none⟩ (.bool true)) := (But.refl (fun k => k = wb) w).setCell (p := ⟨wb, 3, none⟩) (fun _ => rfl) _
  exact ⟨hS0.set3 _, MV.row_but hR0 hb (fun g e => (hV9 g e).2), hb.mono (fun k _ e => .inl e), fun g e => .inl e⟩

set_option maxRecDepth 100000 in
set_option maxHeartbeats 8000000 in
theorem does5_dead {g : Int → Prop} {i : Nat} (h : DL Yg wG NoX w0 w wb ta tb eb O T p q true refs dn N) (hi : Iv g i O T p q true refs dn N) (rf : Int) :
    Calls Tryz.prog 7 #[.pointer (some ⟨wb, 0, none⟩), .agg #[.int .i64 5, .int .i64 rf]] w (DoR Yg wG g (i + 1) w0 wb ta tb eb) := by
  have hbs := hi.bs
  obtain ⟨W1, hW1⟩ : ∃ W1, w.alloc (.cells #[.int .i64 5, .int .i64 rf] 34) = W1 := ⟨_, rfl⟩
  have hb1 : Below w.heap.size w W1 := hW1 ▸ below_new _ _
  have hD1 : Duo W1 w.heap.size (.int .i64 5) (.int .i64 rf) := hW1 ▸ Duo.new _ _ _ _
  have hlw : w.heap.size < W1.heap.size := by rw [← hW1]; simp
  have hnw : w.heap.size ≠ W1.heap.size := by omega
  obtain ⟨V0, hS0, -, -, -⟩ := h.box
  have hwl := hS0.lt
  have hwl1 : wb < W1.heap.size := by omega
  have hwn : wb ≠ w.heap.size := by omega
  have hwn1 : wb ≠ W1.heap.size := by omega
  have hS1 := hS0.own hb1
  have n0 := hD1.c0
  have n1 := hD1.c1
  have k0 := hS1.c0; have k1 := hS1.c1; have k2 := hS1.c2; have k3 := hS1.c3
  have HB1 := hidb hb1
  have HK : Hid (∀ W, Below w.heap.size w W → W.cell? ⟨wb, 3, none⟩ = some (.bool true) ∧ DL Yg wG NoX w0 W wb ta tb eb O T p q true refs dn N) := hidb (fun W hW => ⟨(hS0.own hW).c3, h.keep hW⟩)
  have HIV := hidb hi.next
  clear hS0 hS1 hD1 hb1 h hbs hi
  go_enter Tryz.func7, Tryz.ntmps7
  go_wp2_with fail
  clear k0 k1 k2 k3 n0 n1
  go_loopg [] 0 (fun gk wr => Below w.heap.size w wr)
  case atStart => exact HB1.out
  case round =>
    obtain ⟨k3, -⟩ := HK.out _ hrel
    have HRL := hidb hrel
    clear hrel
    go_wp2_with fail
    exact bodyPost_end (v := .tuple #[]) (by simp [results, Tryz.results7, go_sem]) rfl ⟨rfl, _, _, _, _, _, _, _, _, (HK.out _ HRL.out).2, HIV.out⟩

set_option maxRecDepth 100000 in
set_option maxHeartbeats 8000000 in
theorem does5_live {g : Int → Prop} {i : Nat} (h : DL Yg wG NoX w0 w wb ta tb eb O T p q false refs dn N) (hi : Iv g i O T p q false refs dn N) (hN : i ≤ 3000) (rf : Int) :
    Calls Tryz.prog 7 #[.pointer (some ⟨wb, 0, none⟩), .agg #[.int .i64 5, .int .i64 rf]] w (DoR Yg wG g (i + 1) w0 wb ta tb eb) := by
  have hbs := hi.bs
  obtain ⟨W1, hW1⟩ : ∃ W1, w.alloc (.cells #[.int .i64 5, .int .i64 rf] 34) = W1 := ⟨_, rfl⟩
  have hb1 : Below w.heap.size w W1 := hW1 ▸ below_new _ _
  have hD1 : Duo W1 w.heap.size (.int .i64 5) (.int .i64 rf) := hW1 ▸ Duo.new _ _ _ _
  have hlw : w.heap.size < W1.heap.size := by rw [← hW1]; simp
  have hnw : w.heap.size ≠ W1.heap.size := by omega
  obtain ⟨V0, hS0, -, -, -⟩ := h.box
  have hwl := hS0.lt
  have hwl1 : wb < W1.heap.size := by omega
  have hwn : wb ≠ w.heap.size := by omega
  have hwn1 : wb ≠ W1.heap.size := by omega
  have hS1 := hS0.own hb1
  have n0 := hD1.c0
  have n1 := hD1.c1
  have k0 := hS1.c0; have k1 := hS1.c1; have k2 := hS1.c2; have k3 := hS1.c3
  have HB1 := hidb hb1
  have H0 := hidb (⟨h.keep hb1, hi.bs, (hi.al rfl).ed⟩ : DL Yg wG NoX w0 W1 wb ta tb eb O T p q false refs dn N ∧ Bs g i O T p q refs dn N ∧ Ed O T p q)
  clear hS0 hS1 hD1 hb1 h hbs hi
  go_enter Tryz.func7, Tryz.ntmps7
  go_wp2_with fail
  clear k0 k1 k2 k3 n0 n1 hW1 HB1 hwl hwl1 hwn hwn1 hlw hnw
  go_loopg [] T.length (fun gk wr => ∃ (T : List KV) (q : List Sg) (N : Nat), T.length = gk ∧ DL Yg wG NoX w0 wr wb ta tb eb O T p q false refs dn N ∧ Bs g i O T p q refs dn N ∧ Ed O T p q)
  case atStart => exact ⟨T, q, N, rfl, H0.out⟩
  case round =>
    clear H0
    obtain ⟨T, q, N, hgk, hD, hB, hE⟩ := hrel
    obtain ⟨V0, hS0, -, -, -⟩ := hD.box
    have k1 := hS0.c1; have k2 := hS0.c2; have k3 := hS0.c3; have f3 := hS0.f3; have hwl := hS0.lt
    have hwnr : wb ≠ wr.heap.size := by omega
    have HGK := hidb hgk
    have HD := hidb hD
    clear hS0 hgk hD
    cases T with
    | nil =>
      have CD : Hid (∀ W, Below wr.heap.size wr W → Calls Tryz.prog 19 #[.pointer (some ⟨tb, 0, none⟩)] W fun e w2 => e = .returned (.tuple #[.agg #[.int .i64 0, .int .i64 0, .string ⟨#[]⟩], .bool false]) ∧ But (fun k => ¬ (wr.heap.size ≤ k ∧ k < W.heap.size)) W w2 ∧ (w2.cell? ⟨wb, 1, none⟩ = some (.pointer (some ⟨tb, 0, none⟩)) ∧ w2.cell? ⟨wb, 2, none⟩ = some (.pointer (some ⟨eb, 0, none⟩)) ∧ w2.cell? ⟨wb, 3, none⟩ = some (.bool false) ∧ w2.frozen? ⟨wb, 3, none⟩ = false) ∧ Hid (∀ W', But (fun k => wr.heap.size ≤ k ∧ k < W.heap.size) w2 W' → DL Yg wG NoX w0 W' wb ta tb eb O [] p q false refs dn N)) := hidb (fun W hW => by
        have hdW : DL Yg wG (fun k => wr.heap.size ≤ k ∧ k < W.heap.size) w0 W wb ta tb eb O [] p q false refs dn N := HD.out.turn hW (fun k hk => hk)
        refine (hdW.opB (T' := []) (R := fun e => e = .returned (.tuple #[.agg #[.int .i64 0, .int .i64 0, .string ⟨#[]⟩], .bool false])) (fun D hD => (mpopt_any hD (by simp)).mono (by rintro e w' ⟨rfl, hu⟩; exact ⟨rfl, hu⟩))).mono ?_
        rintro e w2 ⟨rfl, hd2, hb2⟩
        obtain ⟨V2, hS2, -, -, -⟩ := hd2.box
        exact ⟨rfl, hb2, ⟨hS2.c1, hS2.c2, hS2.c3, hS2.f3⟩, hidb (fun W' hb => (hd2.poke hb).turn (Below.refl _ _) (fun _ hk => hk.elim))⟩)
      have HF := hidb (Iv.ended hB hE).next
      clear hB hE HD HGK
      go_wp2_with (go_at_call 19; refine (CD.out _ (by (repeat (first | exact Below.refl _ _ | refine Below.drew ?_ | refine Below.alloc ?_ (by (first | omega | (simp; omega))) _)))).mono ?_; rintro e w2 ⟨rfl, hb2, ⟨m1, m2, m3, m4⟩, HR⟩; have hs2 := hb2.size; (first | (have P5 : Tri w2 wr.heap.size (.int .i64 0) (.int .i64 0) (.string ⟨#[]⟩) := ((Tri.new wr 40 (.int .i64 0) (.int .i64 0) (.string ⟨#[]⟩)).keep ((Below.refl _ _).drew)).but hb2 (fun hh => hh ⟨by omega, (show wr.heap.size < (wr.alloc _).heap.size by simp)⟩); have r0 := P5.c0; have r1 := P5.c1; have r2 := P5.c2; have r3 := P5.f0; have r4 := P5.f1; have r5 := P5.f2) | skip); have hs8 : wr.heap.size ≤ w2.heap.size := Nat.le_trans (by first | exact Nat.le_refl _ | (show wr.heap.size ≤ (wr.alloc _).heap.size; simp)) hs2; have hwn2 : wb ≠ w2.heap.size := (by omega); have hwl2 : wb < w2.heap.size := (by omega))
      all_goals exact bodyPost_end (v := .tuple #[]) (by simp [results, Tryz.results7, go_sem]) rfl ⟨rfl, _, _, _, _, _, _, _, _, (by first | exact (HR.out _ (by (repeat (first | exact But.refl _ _ | refine But.drew ?_ | refine But.alloc ?_ _ | refine But.setCell ?_ (fun _ => ⟨by simp only; omega, by first | (simp; done) | (simp; omega) | (show wr.heap.size < (wr.alloc _).heap.size; simp)⟩) _)))).ended | exact ((HR.out _ (by (repeat (first | exact But.refl _ _ | refine But.drew ?_ | refine But.alloc ?_ _ | refine But.setCell ?_ (fun _ => ⟨by simp only; omega, by first | (simp; done) | (simp; omega) | (show wr.heap.size < (wr.alloc _).heap.size; simp)⟩) _)))).ended).keep (by (repeat (first | exact Below.refl _ _ | assumption | refine Below.drew ?_ | refine below_drewN ?_ _ | refine Below.setCell ?_ (by simp) _ | refine Below.alloc ?_ (by (first | exact Nat.le_refl _ | (simp; done) | (simp; omega) | omega)) _ | refine Below.trans ?_ (Below.mono (by assumption) (by first | exact Nat.le_refl _ | (simp; done) | (simp; omega) | omega)))))), HF.out⟩
    | cons x T =>
      have hx : x.2 = ⟨x.1, 1, nil8⟩ := (hB.t x (by simp)).1
      have hxr := (hB.t x (by simp)).2
      have hb9 := hB.b
      have ha9 := hB.a
      have hr9 := hB.r
      have CD : Hid (∀ W, Below wr.heap.size wr W → Calls Tryz.prog 19 #[.pointer (some ⟨tb, 0, none⟩)] W fun e w2 => e = .returned (.tuple #[.agg #[.int .i64 x.1, .int .i64 1, .string ⟨#[]⟩], .bool true]) ∧ But (fun k => ¬ (wr.heap.size ≤ k ∧ k < W.heap.size)) W w2 ∧ (w2.cell? ⟨wb, 1, none⟩ = some (.pointer (some ⟨tb, 0, none⟩)) ∧ w2.cell? ⟨wb, 2, none⟩ = some (.pointer (some ⟨eb, 0, none⟩)) ∧ w2.cell? ⟨wb, 3, none⟩ = some (.bool false) ∧ w2.frozen? ⟨wb, 3, none⟩ = false) ∧ Hid (∀ W', But (fun k => wr.heap.size ≤ k ∧ k < W.heap.size) w2 W' → DL Yg wG NoX w0 W' wb ta tb eb O T p q false refs dn N)) := hidb (fun W hW => by
        have hdW : DL Yg wG (fun k => wr.heap.size ≤ k ∧ k < W.heap.size) w0 W wb ta tb eb O (x :: T) p q false refs dn N := HD.out.turn hW (fun k hk => hk)
        refine (hdW.opB (T' := T) (R := fun e => e = .returned (.tuple #[.agg #[.int .i64 x.1, .int .i64 1, .string ⟨#[]⟩], .bool true])) (fun D hD => (mpopt_any hD (by have := hB.b; simp at this ⊢; omega)).mono (by rintro e w' ⟨rfl, hu⟩; exact ⟨by simp only [List.headD_cons, hx]; rfl, hu⟩))).mono ?_
        rintro e w2 ⟨rfl, hd2, hb2⟩
        obtain ⟨V2, hS2, -, -, -⟩ := hd2.box
        exact ⟨rfl, hb2, ⟨hS2.c1, hS2.c2, hS2.c3, hS2.f3⟩, hidb (fun W' hb => (hd2.poke hb).turn (Below.refl _ _) (fun _ hk => hk.elim))⟩)
      have CP : Hid (∀ W', DL Yg wG NoX w0 W' wb ta tb eb O T p q false refs dn N → Calls Tryz.prog 14 #[.pointer (some ⟨eb, 0, none⟩), .agg #[.int .i64 2, .int .i64 1, .int .i64 8, .int .i64 0, .int .i64 x.1, .bool false, .string ⟨#[]⟩, .int .i64 3, .int .i64 0, .float .f64 0, .string ⟨#[111, 111, 112, 115]⟩, .slice none 0 0]] W' fun e w5 => e = .returned (.int .i64 0) ∧ Hid (DL Yg wG NoX w0 w5 wb ta tb eb O T p (q ++ [⟨8, x.1, 3, oops⟩]) false refs dn (N + 2) ∧ Bs g i O T p (q ++ [⟨8, x.1, 3, oops⟩]) refs dn (N + 2) ∧ Ed O T p (q ++ [⟨8, x.1, 3, oops⟩]))) := hidb (fun W' hd => by
        refine (hd.put21 (s := ⟨8, x.1, 3, oops⟩) (fun w => check_q ⟨rfl, rfl, .inr rfl, hxr.1, by have := hxr.2; simp only at this ⊢; omega⟩ w) (by omega) (by omega)).mono ?_
        rintro e w5 ⟨rfl, hd5, -⟩
        exact ⟨rfl, hidb ⟨hd5, hB.pop, hE.pop⟩⟩)
      generalize x.1 = xr at *
      clear hB hE HD hx hxr hb9 ha9 hr9
      go_wp2_with (go_at_call 19; refine (CD.out _ (by (repeat (first | exact Below.refl _ _ | refine Below.drew ?_ | refine Below.alloc ?_ (by (first | omega | (simp; omega))) _)))).mono ?_; rintro e w2 ⟨rfl, hb2, ⟨m1, m2, m3, m4⟩, HR⟩; have hs2 := hb2.size; (first | (have P5 : Tri w2 wr.heap.size (.int .i64 0) (.int .i64 0) (.string ⟨#[]⟩) := ((Tri.new wr 40 (.int .i64 0) (.int .i64 0) (.string ⟨#[]⟩)).keep ((Below.refl _ _).drew)).but hb2 (fun hh => hh ⟨by omega, (show wr.heap.size < (wr.alloc _).heap.size by simp)⟩); have r0 := P5.c0; have r1 := P5.c1; have r2 := P5.c2; have r3 := P5.f0; have r4 := P5.f1; have r5 := P5.f2) | skip); have hs8 : wr.heap.size ≤ w2.heap.size := Nat.le_trans (by first | exact Nat.le_refl _ | (show wr.heap.size ≤ (wr.alloc _).heap.size; simp)) hs2; have hwn2 : wb ≠ w2.heap.size := (by omega); have hwl2 : wb < w2.heap.size := (by omega))
      all_goals go_region_with (go_at_call 14; refine (CP.out _ (HR.out _ (by (repeat (first | exact But.refl _ _ | refine But.drew ?_ | refine But.alloc ?_ _ | refine But.setCell ?_ (fun _ => ⟨by simp only; omega, by first | (simp; done) | (simp; omega) | (show wr.heap.size < (wr.alloc _).heap.size; simp)⟩) _))))).mono ?_; rintro e w5 ⟨rfl, HQ⟩)
      all_goals go_wp2_with fail
      all_goals (go_roundg T.length; (case measure => (have := HGK.out; simp at this; omega)); (case rel => exact ⟨T, _, _, rfl, HQ.out⟩))

end Go.Proofs.YtceigdeoefhcfaaGreat


