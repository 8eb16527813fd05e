import Derived.Test.YtceigdeoefhcfaaGreatG31
import Derived.Deep.RegionHeld3
import Derived.Deep.RegionWith
/- MonsDown: a move of the first one, walked. -/
namespace Go.Proofs.YtceigdeoefhcfaaGreat
open Go.RowKit Go.Lib
open MV (Hf hf0 getL insL delL Rise Wfk TB Nw Rst KV MnT mvs)
attribute [local go_sem] store_float f64bits
attribute [local go_sem ↓] Go.wp_at_zero Go.wp_at_succ

variable {Yg : Nat → Prop} {wG : World} {w0 w w' : World} {wb ta tb eb N refs : Nat} {O T O' T' : List KV} {p q : List Sg} {dead : Bool} {dn : List Nat}
abbrev NoX : Nat → Prop := fun _ => False
theorem infoI : ∃ i0, Tryz.prog.info? InT = some i0 ∧ i0.zero = some (.int .i64 0) ∧ i0.size = 1 ∧ i0.bytes = 8 := info_parts (show (Tryz.prog.info? InT).map (fun i => (i.zero, i.size, i.bytes)) = some (some (.int .i64 0), 1, 8) by kernel_rfl)
theorem cell1_new (w : World) (a : Value) (t : TypeId) : ∀ (j : Nat) (u : Value), [a][j]? = some u → (w.alloc (.cells #[a] t)).cell? ((⟨w.heap.size, 0, none⟩ : Addr).add j) = some u := by
  intro j u hj
  match j, hj with
  | 0, hj => simp at hj; subst hj; simp [Addr.add]
  | j + 1, hj => simp at hj
theorem dvs_one (l : List Nat) : ∀ u ∈ dvs l, u.oneCell' = true := by
  intro u hu
  obtain ⟨c, _, rfl⟩ := List.mem_map.1 hu
  rfl
theorem dvs_len (l : List Nat) : (dvs l).length = l.length := by simp [dvs]
theorem Sx.own {w w' : World} {b : Nat} {v0 v1 v2 v3 v4 v5 : Value} (h : Sx w b v0 v1 v2 v3 v4 v5) (hb : Below w.heap.size w w') : Sx w' b v0 v1 v2 v3 v4 v5 := h.but (S := fun _ => False) (But.of_below hb) id

theorem olen {g : Int → Prop} {i : Nat} (h : Bs g i O T p q refs dn N) : O.length ≤ refs := by
  have hr := h.ro
  have ho := h.o
  clear h
  suffices hh : ∀ (L : List KV) (m : Nat), Rise L → (∀ x ∈ L, (m : Int) < x.1 ∧ x.1 ≤ (refs : Int)) → L.length + m ≤ refs ∨ L = [] by
    rcases hh O 0 hr (fun x hx => by have := ho x hx; omega) with h | h
    · omega
    · rw [h]; simp
  intro L
  induction L with
  | nil => intro m _ _; exact .inr rfl
  | cons x r ih =>
    intro m h1 h2
    left
    have a1 := List.pairwise_cons.1 h1
    have hx := h2 x (by simp)
    obtain ⟨n, hn⟩ : ∃ n : Nat, x.1 = (n : Int) := ⟨x.1.toNat, by omega⟩
    rcases ih n a1.2 (fun y hy => ⟨by have := a1.1 y hy; omega, (h2 y (by simp [hy])).2⟩) with h | h
    · simp; omega
    · rw [h]; simp; omega

/-- What a move tells. -/
def DoR (Yg : Nat → Prop) (wG : World) (g : Int → Prop) (i : Nat) (w0 : World) (wb ta tb eb : Nat) (e : Ending) (w' : World) : Prop := e = .returned (.tuple #[]) ∧ ∃ O T p q dead refs dn N, DL Yg wG NoX w0 w' wb ta tb eb O T p q dead refs dn N ∧ Iv g i O T p q dead refs dn N

set_option maxRecDepth 100000 in
set_option maxHeartbeats 8000000 in
theorem does1 {g : Int → Prop} {i : Nat} (h : DL Yg wG NoX w0 w wb ta tb eb O T p q dead refs dn N) (hi : Iv g i O T p q dead refs dn N) (hN : i ≤ 3000) (rf : Int) :
    Calls Tryz.prog 7 #[.pointer (some ⟨wb, 0, none⟩), .agg #[.int .i64 1, .int .i64 rf]] w (DoR Yg wG g (i + 1) w0 wb ta tb eb) := by
  obtain ⟨V, hS, hR, -, hV⟩ := h.box
  obtain ⟨va, vc, rfl⟩ := MV.own_sl hR
  have k0 := hS.c0; have k1 := hS.c1; have k2 := hS.c2; have k3 := hS.c3; have k4 := hS.c4; have k5 := hS.c5; have f4 := hS.f4; have f5 := hS.f5; have hwl := hS.lt
  have hbs := hi.bs
  have hrf := hbs.r
  have s1 : wrap64 ((refs : Int) + 1) = (refs : Int) + 1 := by unfold wrap64; omega
  obtain ⟨i0, hi0, hz0, hz1, hz2⟩ := infoI
  obtain ⟨W2, hW2⟩ : ∃ W2, (((w.setCell ⟨wb, 4, none⟩ (.int .i64 ((refs : Int) + 1))).alloc (.cells #[.int .i64 1, .int .i64 rf] 34)).alloc (.cells #[.int .i64 0] 3)) = W2 := ⟨_, rfl⟩
  have hsz2 : W2.heap.size = w.heap.size + 1 + 1 := by rw [← hW2]; simp [World.setCell]
  have hb2 : But (fun k => k = wb) w W2 := hW2 ▸ (((But.refl (fun k => k = wb) w).setCell (p := ⟨wb, 4, none⟩) (fun _ => rfl) _).alloc _).alloc _
  have hS2 : Sx W2 wb (.pointer (some ⟨ta, 0, none⟩)) (.pointer (some ⟨tb, 0, none⟩)) (.pointer (some ⟨eb, 0, none⟩)) (.bool dead) (.int .i64 ((refs : Int) + 1)) (.slice va dn.length vc) := hW2 ▸ ((hS.set4 (.int .i64 ((refs : Int) + 1))).own (below_new _ _)).own (below_new _ _)
  have hR2 : W2.ownsRow 0 InT 1 (.slice va dn.length vc) dn.length (dvs dn) := MV.row_but hR hb2 (fun g e => (hV g e).2)
  have hc2 : ∀ (j : Nat) (u : Value), [Value.int .i64 0][j]? = some u → W2.cell? ((⟨w.heap.size + 1, 0, none⟩ : Addr).add j) = some u := by
    rw [← hW2]
    have := cell1_new ((w.setCell ⟨wb, 4, none⟩ (.int .i64 ((refs : Int) + 1))).alloc (.cells #[.int .i64 1, .int .i64 rf] 34)) (.int .i64 0) 3
    simpa [World.setCell] using this
  have HDM : Hid (∀ Y V', Y.ownsRow 0 InT 1 V' (dn.length + 1) (dvs dn ++ [.int .i64 0]) → W2.grownBy Y (Value.slice va dn.length vc).ownBlock → (V'.ownBlock = (Value.slice va dn.length vc).ownBlock ∨ V'.ownBlock = some W2.heap.size) → Sx Y wb (.pointer (some ⟨ta, 0, none⟩)) (.pointer (some ⟨tb, 0, none⟩)) (.pointer (some ⟨eb, 0, none⟩)) (.bool dead) (.int .i64 ((refs : Int) + 1)) (.slice va dn.length vc) ∧ DL Yg wG NoX w0 (Y.setCell ⟨wb, 5, none⟩ V') wb ta tb eb O T p q dead (refs + 1) (dn ++ [0]) N) := hidb (by
    intro Y V' ho hg hat
    have hby : But (fun k => (Value.slice va dn.length vc).ownBlock = some k) W2 Y := MV.But.of_grown hg (fun g e => e)
    have hSY := hS2.but hby (fun e => (hV wb e).2 rfl)
    have hsY := hby.size
    have hlt5 : ∀ g, V'.ownBlock = some g → g < Y.heap.size := fun g e => (ho.lt g e).2
    refine ⟨hSY, h.setb dead (refs + 1) (V' := V') (dn' := dn ++ [0]) (fun V0 hS0 hR0 => ?_)⟩
    obtain rfl : (.slice va dn.length vc) = V0 := by have := hS.c5.symm.trans hS0.c5; simpa using this
    have hbs : But (fun k => k = wb ∨ (Value.slice va dn.length vc).ownBlock = some k) w (Y.setCell ⟨wb, 5, none⟩ V') := ((hb2.mono (fun k _ e => .inl e)).trans (hby.mono (fun k _ e => .inr e))).setCell (p := ⟨wb, 5, none⟩) (fun _ => .inl rfl) _
    refine ⟨by have := hSY.set5 V'; simpa using this, ?_, hbs, fun g e => ?_⟩
    · have h9 := MV.row_but ho ((But.refl (fun k => k = wb) Y).setCell (p := ⟨wb, 5, none⟩) (fun _ => rfl) V') (fun g e e' => by
        rcases hat with h1 | h1
        · rw [h1] at e; exact (hV g e).2 e'
        · rw [h1] at e; have e2 : W2.heap.size = g := (by simpa using e); omega)
      simpa [dvs] using h9
    · rcases hat with h1 | h1
      · exact .inl (h1 ▸ e)
      · refine .inr ⟨?_, by have := hlt5 g e; simpa [World.setCell] using this⟩
        rw [h1] at e; have e2 : W2.heap.size = g := (by simpa using e); omega)
  have HIV := hidb hi
  have HWL : Hid (wb < W2.heap.size ∧ dn.length ≤ 3000) := hidb ⟨hS2.lt, by have := hbs.l; omega⟩
  have HR2 := hidb hR2
  have HC2 := hidb hc2
  clear h hi hS hR hV hbs hS2 hR2 hb2 hc2 hsz2 hrf
  go_enter Tryz.func7, Tryz.ntmps7
  go_wp2_with (first
    | (at_builtin; refine wpList_append_own_at _ rfl (.tmp 29) (.tmp 30) 29 rfl 0 InT i0 (.int .i64 0) 1 8 Tryz.underlying29 hi0 hz0 hz1 hz2 rfl (by decide) (.slice va dn.length vc) dn.length (dvs dn) rfl HR2.out ⟨w.heap.size + 1, 0, none⟩ 1 1 [.int .i64 0] rfl rfl HC2.out (by simp [Value.oneCell']) (by have := HWL.out; unfold maxLen; omega) (by have := HWL.out; omega) (Nat.zero_le _) ?_; intro V' Y hown hgrow _ hat; obtain ⟨hSY, hDY⟩ := HDM.out Y V' hown hgrow hat; obtain ⟨vb, vd, rfl⟩ := MV.own_sl hown; have HDY := hidb hDY; have j0 := hSY.c0; have j2 := hSY.c2; have j4 := hSY.c4; have j5 := hSY.c5; have e5 := hSY.f5; clear HDM hown hgrow hat hSY hDY HR2 HC2))
  generalize hW3 : Y.setCell ⟨wb, 5, none⟩ (.slice vb (dn.length + 1) vd) = W3 at *
  clear hW3 j0 j2 j4 j5 e5 k0 k1 k2 k3 k4 k5 f4 f5
  obtain ⟨V3, hS3, -, -, -⟩ := HDY.out.box
  rw [show (((refs + 1 : Nat)) : Int) = (refs : Int) + 1 by omega] at hS3
  have j0 := hS3.c0; have j2 := hS3.c2; have j4 := hS3.c4
  obtain ⟨hpl, hiv1⟩ := HIV.out.m1
  have hbs := HIV.out.bs
  have CW : Hid (Calls Tryz.prog 11 #[.pointer (some ⟨ta, 0, none⟩), .int .i64 ((refs : Int) + 1), .int .i64 2, .string ⟨#[]⟩] W3.drew fun e w4 => ∃ z, e = .returned (.int .i64 z) ∧ Hid (w4.cell? ⟨wb, 0, none⟩ = some (.pointer (some ⟨ta, 0, none⟩)) ∧ w4.cell? ⟨wb, 4, none⟩ = some (.int .i64 ((refs : Int) + 1))) ∧ Hid (w4.drew.cell? ⟨wb, 2, none⟩ = some (.pointer (some ⟨eb, 0, none⟩)) ∧ w4.drew.cell? ⟨wb, 4, none⟩ = some (.int .i64 ((refs : Int) + 1))) ∧ Hid (∀ W, Below w4.heap.size w4 W → Calls Tryz.prog 14 #[.pointer (some ⟨eb, 0, none⟩), .agg #[.int .i64 1, .int .i64 2, .int .i64 6, .int .i64 0, .int .i64 ((refs : Int) + 1), .bool false, .string ⟨#[]⟩, .int .i64 0, .int .i64 0, .float .f64 0, .string ⟨#[]⟩, .slice none 0 0]] W fun e w5 => e = .returned (.int .i64 0) ∧ Hid (w5.cell? ⟨wb, 2, none⟩ = some (.pointer (some ⟨eb, 0, none⟩)) ∧ w5.cell? ⟨wb, 4, none⟩ = some (.int .i64 ((refs : Int) + 1))) ∧ Hid (DoR Yg wG g (i + 1) w0 wb ta tb eb (.returned (.tuple #[])) w5))) := by
    refine hidb (((HDY.out.keep ((Below.refl _ _).drew)).opA (O' := insL ((refs : Int) + 1) ⟨(refs : Int) + 1, 2, nil8⟩ O) (R := fun e => ∃ z, e = .returned (.int .i64 z)) (fun D hD => (mwatch_any hD (by have := olen hbs; have := hbs.r; omega) ((refs : Int) + 1) 2 nil8 (by decide)).mono (by rintro e w' ⟨rfl, hu⟩; rw [hpl] at hu; exact ⟨⟨_, rfl⟩, hu⟩))).mono ?_)
    rintro e w4 ⟨⟨z, rfl⟩, hd4, -⟩
    obtain ⟨V4, hS4, -, -, -⟩ := hd4.box
    rw [show (((refs + 1 : Nat)) : Int) = (refs : Int) + 1 by omega] at hS4
    refine ⟨z, rfl, hidb ⟨hS4.c0, hS4.c4⟩, hidb ⟨hS4.c2, hS4.c4⟩, hidb (fun W hW => ?_)⟩
    have hr9 := hbs.r
    have hb9 := hiv1.bs.b
    have ha9 := hiv1.bs.a
    refine ((hd4.keep hW).put12 (s := ⟨6, (refs : Int) + 1, 0, nil8⟩) (fun w => check_p ⟨.inl rfl, rfl, rfl, by simp only; omega, by simp only; omega⟩ w) (by omega) (by simp at ha9; omega)).mono ?_
    rintro e w5 ⟨rfl, hd5, -⟩
    obtain ⟨V5, hS5, -, -, -⟩ := hd5.box
    rw [show (((refs + 1 : Nat)) : Int) = (refs : Int) + 1 by omega] at hS5
    exact ⟨rfl, hidb ⟨hS5.c2, hS5.c4⟩, hidb ⟨rfl, _, _, _, _, _, _, _, _, hd5, hiv1⟩⟩
  have HS0 : Hid (W3.drew.cell? ⟨wb, 0, none⟩ = some (.pointer (some ⟨ta, 0, none⟩)) ∧ W3.drew.cell? ⟨wb, 4, none⟩ = some (.int .i64 ((refs : Int) + 1))) := hidb ⟨j0, j4⟩
  clear HDY hS3 hpl hiv1 hbs HIV HWL j0 j2 j4
  go_region_held3 (fun w' => w'.cell? ⟨wb, 0, none⟩ = some (.pointer (some ⟨ta, 0, none⟩)) ∧ w'.cell? ⟨wb, 4, none⟩ = some (.int .i64 ((refs : Int) + 1))) (first | with_reducible exact HS0.out | with_reducible exact HS1.out) (first | (go_at_call 11; refine CW.out.mono ?_; rintro e w4 ⟨z, rfl, HS1, HS2, CP⟩))
  go_wp2_with fail
  go_region_held3 (fun w' => w'.cell? ⟨wb, 2, none⟩ = some (.pointer (some ⟨eb, 0, none⟩)) ∧ w'.cell? ⟨wb, 4, none⟩ = some (.int .i64 ((refs : Int) + 1))) (first | with_reducible exact HS2.out | with_reducible exact HS3.out) (first | (go_at_call 14; refine (CP.out _ ((Below.refl _ _).drew)).mono ?_; rintro e w5 ⟨rfl, HS3, HR⟩))
  go_wp2_with fail
  exact bodyPost_end (v := .tuple #[]) (by simp [results, Tryz.results7, go_sem]) rfl HR.out

end Go.Proofs.YtceigdeoefhcfaaGreat


/- MonsDown: moves 2 and 3, walked. -/
namespace Go.Proofs.YtceigdeoefhcfaaGreat
open Go.RowKit Go.Lib
open MV (Hf hf0 getL insL delL Rise Wfk TB Nw Rst KV MnT mvs)
attribute [local go_sem] store_float f64bits
attribute [local go_sem ↓] Go.wp_at_zero Go.wp_at_succ

variable {Yg : Nat → Prop} {wG : World} {w0 w w' : World} {wb ta tb eb N refs : Nat} {O T O' T' : List KV} {p q : List Sg} {dead : Bool} {dn : List Nat}
set_option maxRecDepth 100000 in
set_option maxHeartbeats 8000000 in
theorem does2 {g : Int → Prop} {i : Nat} (h : DL Yg wG NoX w0 w wb ta tb eb O T p q dead refs dn N) (hi : Iv g i O T p q dead refs dn N) (hN : i ≤ 3000) (rf : Int) (hg : isK rf O = true → g rf) :
    Calls Tryz.prog 7 #[.pointer (some ⟨wb, 0, none⟩), .agg #[.int .i64 2, .int .i64 rf]] w (DoR Yg wG g (i + 1) w0 wb ta tb eb) := by
  have hbs := hi.bs
  obtain ⟨W1, hW1⟩ : ∃ W1, w.alloc (.cells #[.int .i64 2, .int .i64 rf] 34) = W1 := ⟨_, rfl⟩
  have hb1 : Below w.heap.size w W1 := hW1 ▸ below_new _ _
  have hD1 : Duo W1 w.heap.size (.int .i64 2) (.int .i64 rf) := hW1 ▸ Duo.new _ _ _ _
  have hlw : w.heap.size < W1.heap.size := by rw [← hW1]; simp
  have hnw : w.heap.size ≠ W1.heap.size := by omega
  obtain ⟨V0, hS0, -, -, -⟩ := h.box
  have hwl := hS0.lt
  have hwl1 : wb < W1.heap.size := by omega
  have hwn : wb ≠ w.heap.size := by omega
  have hwn1 : wb ≠ W1.heap.size := by omega
  have hS1 := hS0.own hb1
  have n0 := hD1.c0
  have n1 := hD1.c1
  have k0 := hS1.c0; have k1 := hS1.c1; have k2 := hS1.c2; have k3 := hS1.c3
  have HB1 := hidb hb1
  have CD : Hid (∀ W, Below w.heap.size w W → Calls Tryz.prog 15 #[.pointer (some ⟨ta, 0, none⟩), .int .i64 rf] W fun e w2 => e = .returned (.tuple #[.agg #[.int .i64 ((getL rf O).getD hf0).a, .int .i64 ((getL rf O).getD hf0).b, .string ((getL rf O).getD hf0).c], .bool (isK rf O)]) ∧ But (fun k => ¬ (w.heap.size ≤ k ∧ k < W.heap.size)) W w2 ∧ (w2.cell? ⟨wb, 0, none⟩ = some (.pointer (some ⟨ta, 0, none⟩)) ∧ w2.cell? ⟨wb, 1, none⟩ = some (.pointer (some ⟨tb, 0, none⟩)) ∧ w2.cell? ⟨wb, 2, none⟩ = some (.pointer (some ⟨eb, 0, none⟩)) ∧ w2.cell? ⟨wb, 3, none⟩ = some (.bool dead)) ∧ Hid (∀ W', But (fun k => w.heap.size ≤ k ∧ k < W.heap.size) w2 W' → DL Yg wG NoX w0 W' wb ta tb eb (delL rf O) T p q dead refs dn N)) := hidb (fun W hW => by
    have hdW : DL Yg wG (fun k => w.heap.size ≤ k ∧ k < W.heap.size) w0 W wb ta tb eb O T p q dead refs dn N := h.turn hW (fun k hk => hk)
    refine (hdW.opA (O' := delL rf O) (R := fun e => e = .returned (.tuple #[.agg #[.int .i64 ((getL rf O).getD hf0).a, .int .i64 ((getL rf O).getD hf0).b, .string ((getL rf O).getD hf0).c], .bool (isK rf O)])) (fun D hD => (mdem_any hD (by have := olen hbs; have := hbs.r; omega) rf).mono (by rintro e w' ⟨rfl, hu⟩; exact ⟨rfl, hu⟩))).mono ?_
    rintro e w2 ⟨rfl, hd2, hb2⟩
    obtain ⟨V2, hS2, -, -, -⟩ := hd2.box
    exact ⟨rfl, hb2, ⟨hS2.c0, hS2.c1, hS2.c2, hS2.c3⟩, hidb (fun W' hb => (hd2.poke hb).turn (Below.refl _ _) (fun _ hk => hk.elim))⟩)
  clear hS0 hS1 hD1 hb1 h
  cases hk : isK rf O with
  | false =>
    rw [hk] at CD
    have hno : getL rf O = none := by unfold isK at hk; simpa using hk
    rw [hno] at CD
    simp only [Option.getD_none] at CD
    rw [MV.del_of_none hno] at CD
    have HIV := hidb hi.next
    clear hi hbs hno hk hg
    go_enter Tryz.func7, Tryz.ntmps7
    go_wp2_with fail
    clear hW1
    go_region_with (go_at_call 15; refine (CD.out _ (by (repeat (first | exact HB1.out | refine Below.drew ?_ | refine Below.alloc ?_ (by (first | omega | (simp; omega))) _)))).mono ?_; rintro e w2 ⟨rfl, hb2, ⟨m0, m1, m2, m3⟩, HR⟩; have hs2 := hb2.size; (first | (have P5 : Tri w2 W1.heap.size (.int .i64 0) (.int .i64 0) (.string ⟨#[]⟩) := ((Tri.new W1 40 (.int .i64 0) (.int .i64 0) (.string ⟨#[]⟩)).keep ((Below.refl _ _).drew)).but hb2 (fun hh => hh ⟨by omega, (show W1.heap.size < (W1.alloc _).heap.size by simp)⟩); have r0 := P5.c0; have r1 := P5.c1; have r2 := P5.c2; have r3 := P5.f0; have r4 := P5.f1; have r5 := P5.f2) | skip); (first | (have hs9 : w.heap.size < w2.heap.size := (by have hs8 : W1.heap.size ≤ w2.heap.size := Nat.le_trans (by first | exact Nat.le_refl _ | (show W1.heap.size ≤ (W1.alloc _).heap.size; simp)) hs2; omega); have hwn2 : wb ≠ w2.heap.size := (by omega); have hwl2 : wb < w2.heap.size := (by omega)) | skip))
    all_goals go_wp2_with fail
    all_goals exact bodyPost_end (v := .tuple #[]) (by simp [results, Tryz.results7, go_sem]) rfl ⟨rfl, _, _, _, _, _, _, _, _, HR.out _ (by (repeat (first | exact But.refl _ _ | refine But.drew ?_ | refine But.alloc ?_ _ | refine But.setCell ?_ (fun _ => ⟨by simp only; omega, by first | (simp; done) | (simp; omega) | (show W1.heap.size < (W1.alloc _).heap.size; simp)⟩) _))), HIV.out⟩
  | true =>
    have hga : ((getL rf O).getD hf0).a = rf := mok_get (fun x hx => by rw [(hbs.o x hx).1]) hbs.ro hk
    obtain ⟨x, hx, hxr⟩ := isK_mem.1 hk
    have hxo := hbs.o x hx
    have hiv := hi.m2 hk (hg hk)
    have hb9 := hiv.bs.b
    have ha9 := hiv.bs.a
    have hr9 := hiv.bs.r
    have CP : Hid (∀ W', DL Yg wG NoX w0 W' wb ta tb eb (delL rf O) T p q dead refs dn N → Calls Tryz.prog 14 #[.pointer (some ⟨eb, 0, none⟩), .agg #[.int .i64 1, .int .i64 2, .int .i64 7, .int .i64 0, .int .i64 rf, .bool false, .string ⟨#[]⟩, .int .i64 0, .int .i64 0, .float .f64 0, .string ⟨#[]⟩, .slice none 0 0]] W' fun e w5 => e = .returned (.int .i64 0) ∧ Hid (DoR Yg wG g (i + 1) w0 wb ta tb eb (.returned (.tuple #[])) w5)) := hidb (fun W' hd => by
      refine (hd.put12 (s := ⟨7, rf, 0, nil8⟩) (fun w => check_p ⟨.inr rfl, rfl, rfl, by simp only; omega, by simp only; omega⟩ w) (by omega) (by simp at ha9; omega)).mono ?_
      rintro e w5 ⟨rfl, hd5, -⟩
      exact ⟨rfl, hidb ⟨rfl, _, _, _, _, _, _, _, _, hd5, hiv⟩⟩)
    rw [hk, hga] at CD
    generalize ((getL rf O).getD hf0).b = gb at *
    generalize ((getL rf O).getD hf0).c = gc at *
    clear hi hbs hk hg hga hx hxr hxo hiv hb9 ha9 hr9
    go_enter Tryz.func7, Tryz.ntmps7
    go_wp2_with fail
    clear hW1
    go_region_with (go_at_call 15; refine (CD.out _ (by (repeat (first | exact HB1.out | refine Below.drew ?_ | refine Below.alloc ?_ (by (first | omega | (simp; omega))) _)))).mono ?_; rintro e w2 ⟨rfl, hb2, ⟨m0, m1, m2, m3⟩, HR⟩; have hs2 := hb2.size; (first | (have P5 : Tri w2 W1.heap.size (.int .i64 0) (.int .i64 0) (.string ⟨#[]⟩) := ((Tri.new W1 40 (.int .i64 0) (.int .i64 0) (.string ⟨#[]⟩)).keep ((Below.refl _ _).drew)).but hb2 (fun hh => hh ⟨by omega, (show W1.heap.size < (W1.alloc _).heap.size by simp)⟩); have r0 := P5.c0; have r1 := P5.c1; have r2 := P5.c2; have r3 := P5.f0; have r4 := P5.f1; have r5 := P5.f2) | skip); (first | (have hs9 : w.heap.size < w2.heap.size := (by have hs8 : W1.heap.size ≤ w2.heap.size := Nat.le_trans (by first | exact Nat.le_refl _ | (show W1.heap.size ≤ (W1.alloc _).heap.size; simp)) hs2; omega); have hwn2 : wb ≠ w2.heap.size := (by omega); have hwl2 : wb < w2.heap.size := (by omega)) | skip))
    all_goals go_wp2_with fail
    all_goals go_region_with (go_at_call 14; refine (CP.out _ (HR.out _ (by (repeat (first | exact But.refl _ _ | refine But.drew ?_ | refine But.alloc ?_ _ | refine But.setCell ?_ (fun _ => ⟨by simp only; omega, by first | (simp; done) | (simp; omega) | (show W1.heap.size < (W1.alloc _).heap.size; simp)⟩) _))))).mono ?_; rintro e w5 ⟨rfl, HQ⟩)
    all_goals go_wp2_with fail
    all_goals exact bodyPost_end (v := .tuple #[]) (by simp [results, Tryz.results7, go_sem]) rfl HQ.out

end Go.Proofs.YtceigdeoefhcfaaGreat


