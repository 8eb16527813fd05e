import Derived.Test.YtmijabhnbmmmfaaGreatG44
/- A gauge that keeps what it has seen, into a block. -/
namespace Go.Proofs.YtmijabhnbmmmfaaGreat
open Go.RowKit Go.Deep
attribute [local go_sem] store_float f64bits f64frombits
attribute [local go_sem ↓] Go.wp_at_zero Go.wp_at_succ

def upd (S : Sn) (p : Nat) (x : Int × Int × Int) : Sn := fun j => if j = p then x else S j

theorem GS.put {w : World} {gb hb sb N W p : Nat} {S : Sn} (h : GS w gb hb sb N W S) (hp : p < N) (u A D : Int) : GS (((w.setCell ⟨sb, p * 3, none⟩ (.int .u64 u)).setCell ⟨sb, p * 3 + 1, none⟩ (.int .i32 A)).setCell ⟨sb, p * 3 + 2, none⟩ (.int .i32 D)) gb hb sb N W (upd S p (u, A, D)) := by
  have hB : But (· = sb) w (((w.setCell ⟨sb, p * 3, none⟩ (.int .u64 u)).setCell ⟨sb, p * 3 + 1, none⟩ (.int .i32 A)).setCell ⟨sb, p * 3 + 2, none⟩ (.int .i32 D)) :=
    (((But.refl (· = sb) w).setCell (p := ⟨sb, p * 3, none⟩) (fun _ => rfl) _).setCell (p := ⟨sb, p * 3 + 1, none⟩) (fun _ => rfl) _).setCell (p := ⟨sb, p * 3 + 2, none⟩) (fun _ => rfl) _
  refine ⟨h.tri.but hB h.ne, fun j hj => ?_, Nat.lt_of_lt_of_le h.lt hB.size, h.ne⟩
  obtain ⟨a1, a2, a3, a4, a5, a6⟩ := h.row j hj
  obtain ⟨b1, b2, b3, b4, b5, b6⟩ := h.row p hp
  have key : ∀ (i k : Nat) (W : World) (v x : Value), i ≠ k → W.cell? ⟨sb, k, none⟩ = some v → (W.setCell ⟨sb, i, none⟩ x).cell? ⟨sb, k, none⟩ = some v := fun i k W v x hik hv => by
    rw [World.cell?_setCell_other _ _ _ _ (ne_off3 _ _ _ hik)]; exact hv
  have s0 : ∀ (W : World) (v x : Value) (k : Nat), W.cell? ⟨sb, k, none⟩ = some v → (W.setCell ⟨sb, k, none⟩ x).cell? ⟨sb, k, none⟩ = some x := fun W v x k hv => World.cell?_setCell_same _ _ _ hv
  by_cases hjp : j = p
  · subst hjp
    simp only [upd, if_true]
    refine ⟨key _ _ _ _ _ (by omega) (key _ _ _ _ _ (by omega) (s0 _ _ _ _ b1)), key _ _ _ _ _ (by omega) (s0 _ _ _ _ (key _ _ _ _ _ (by omega) b2)), s0 _ _ _ _ (key _ _ _ _ _ (by omega) (key _ _ _ _ _ (by omega) b3)), ?_, ?_, ?_⟩
    · simp only [World.frozen?_setCell]; exact a4
    · simp only [World.frozen?_setCell]; exact a5
    · simp only [World.frozen?_setCell]; exact a6
  · simp only [upd, if_neg hjp]
    refine ⟨key _ _ _ _ _ (by omega) (key _ _ _ _ _ (by omega) (key _ _ _ _ _ (by omega) a1)), key _ _ _ _ _ (by omega) (key _ _ _ _ _ (by omega) (key _ _ _ _ _ (by omega) a2)), key _ _ _ _ _ (by omega) (key _ _ _ _ _ (by omega) (key _ _ _ _ _ (by omega) a3)), ?_, ?_, ?_⟩
    · simp only [World.frozen?_setCell]; exact a4
    · simp only [World.frozen?_setCell]; exact a5
    · simp only [World.frozen?_setCell]; exact a6

theorem SeenOk.put {ws : List Int} {L : List ByteArray} {S : Sn} {p : Nat} {u : Int} {t : Tr} (h : SeenOk ws L S) (hr : Rep ws L t u) (hf : Fine t) : SeenOk ws L (upd S p (u, (wN t : Int), (deepN t : Int))) := by
  intro j
  unfold upd
  by_cases hj : j = p
  · rw [if_pos hj]
    exact Or.inr ⟨t, hr, hf, rfl, rfl⟩
  · rw [if_neg hj]
    exact h j

section
variable {hb ab most gb sb : Nat} {ws : List Int} {L : List ByteArray} {F : List Nat} {a : Option Addr} {c : Nat}

set_option maxHeartbeats 3000000 in
set_option maxRecDepth 100000 in
theorem into_s {u y : Int} {d n cc fl g q p : Nat} {A : Addr} {k Nn : Int} {t tr : Tr} (xs : List (Tr × Int)) (ha : a = some ⟨g, 0, none⟩) (hp : bodyI u = p) (hpl : p < ws.length) (h0 : 0 ≤ u) (h1 : u ≤ 18446744073709551615)
    (hgh : gb ≠ hb) (hgF : gb ∉ F) (hgg : gb ≠ g) (hsh : sb ≠ hb) (hsF : sb ∉ F) (hsg : sb ≠ g)
    (BLK : ∀ w, HP w hb ab most ws L F a c → Calls Tryz.prog 53 #[.pointer (some ⟨hb, 0, none⟩), .int .u64 u] w fun e w' => e = .returned (.tuple #[.agg #[.slice (some A) n n, .int .i64 k, .int .i64 Nn, .float .f64 fl, .string ⟨#[]⟩, .slice none 0 0, .slice (some ⟨g, q, none⟩) xs.length cc, .int .u64 y], .bool true]) ∧ Below w.heap.size w w')
    (REST : OvS hb ab most gb sb ws L F a c y d (deepN tr) (wN tr)) (hel : ∀ (j : Nat) (x : Tr × Int), xs[j]? = some x → ws[q + j]? = some x.2 ∧ OvS hb ab most gb sb ws L F a c x.2 (d + 1) (deepN x.1) (wN x.1)) (hd : d ≤ 200) (hdt : d + deepN t ≤ 201) (hxl : xs.length ≤ 65536)
    (hDt : deepN t = deepest (xs.map fun x => deepN x.1) (deepN tr)) (hWt : wN t = n + wN tr + (xs.map fun x => wN x.1).sum) (hxd : ∀ x, x ∈ xs → deepN x.1 ≤ 1000) (htd : deepN tr ≤ 1000) (hf : Fine t) (hr : Rep ws L t u) : InS hb ab most gb sb ws L F a c u d (deepN t) (wN t) := by
  intro W S w hpp hg hs hN
  have BK := hidb (BLK w hpp)
  have BD := hidb (body_any u h0 h1)
  rw [hp] at BD
  have HR := hidb REST
  have HE := hidb hel
  have HXD := hidb hxd
  have HG := hidb hg
  have HS := hidb hs
  have HPP := hidb hpp
  have HA := hidb ha
  have HF := hidb (show Fine t ∧ Rep ws L t u from ⟨hf, hr⟩)
  have HDt := hidb hDt
  have HWt := hidb hWt
  have hw6 : wN t ≤ 65536 := hf.2
  have hgs := hg.ne
  have hSh : ¬ GB gb sb hb := fun e => e.elim (fun e => hgh e.symm) (fun e => hsh e.symm)
  have hSF : ∀ x, x ∈ F → ¬ GB gb sb x := fun x hx e => e.elim (fun e => hgF (e ▸ hx)) (fun e => hsF (e ▸ hx))
  have hSg : ∀ g', a = some ⟨g', 0, none⟩ → ¬ GB gb sb g' := fun g' e => by
    rw [ha] at e
    obtain rfl : g = g' := by simpa using e
    exact fun e => e.elim (fun e => hgg e.symm) (fun e => hsg e.symm)
  have HPB := hidb (fun w' (hbt : But (GB gb sb) w w') => hpp.but hbt hSh hSF hSg)
  have hgw0 : gb < w.heap.size := hg.tri.lt
  have hsw0 : sb < w.heap.size := hg.lt
  obtain ⟨c0, c1, c2, f0, f1, f2, hlt⟩ := hg.tri
  have htp := deepN_pos tr
  clear hpp BLK REST hel ha hSh hSF hSg hgh hgF hgg hsh hsF hsg h0 h1 hp hg hs hf hr hDt hWt hxd
  generalize hNt : wN t = Nt at *
  generalize hDt : deepN t = Dt at *
  have HNT := hidb hNt
  have HDT := hidb hDt
  clear hNt hDt
  generalize wN tr = nR at *
  generalize deepN tr = dR at *
  have hnW : W + n ≤ 65536 := by have := HWt.out; omega
  go_enter Tryz.func80, Tryz.ntmps80
  go_wp2_with fail
  refine BK.out.mono ?_
  rintro e w1 ⟨rfl, hb1⟩
  have HB1 := hidb hb1
  have HG1 := hidb (HG.out.keep hb1)
  have hw1s := hb1.size
  clear c0 c1 c2 f0 f1 f2 hlt hb1
  obtain ⟨c0, c1, c2, f0, f1, f2, hlt⟩ := HG1.out.tri
  have hbig : ¬ (65536 : Int) < (W : Int) + (n : Int) := by omega
  go_wp2_with fail
  have HG2 := hidb (HG1.out.keep (below_new w1 (.cells #[.slice (some A) n n, .int .i64 k, .int .i64 Nn, .float .f64 fl, .string ⟨#[]⟩, .slice none 0 0, .slice (some ⟨g, q, none⟩) xs.length cc, .int .u64 y] 129)))
  have HO2 := hidb (Oct.new w1 129 (.slice (some A) n n) (.int .i64 k) (.int .i64 Nn) (.float .f64 fl) (.string ⟨#[]⟩) (.slice none 0 0) (.slice (some ⟨g, q, none⟩) xs.length cc) (.int .u64 y))
  clear c0 c1 c2 f0 f1 f2
  obtain ⟨c0, c1, c2, f0, f1, f2, hlt2⟩ := HG2.out.tri
  obtain ⟨o0, o1, o2, o3, o4, o5, o6, o7, s0, s1, s2, s3, s4, s5, s6, s7, hlto⟩ := HO2.out
  have hwr : IntKind.i64.wrap ((W : Int) + (n : Int)) = (W : Int) + (n : Int) := by rw [IntKind.wrap_i64]; omega
  have hne1 : ¬ gb = w1.heap.size := by omega
  have hne2 : ¬ w1.heap.size = gb := by omega
  go_cut [] from 15 (fun wc => GS wc gb hb sb ws.length (W + n) S ∧ Oct wc w1.heap.size (.slice (some A) n n) (.int .i64 k) (.int .i64 Nn) (.float .f64 fl) (.string ⟨#[]⟩) (.slice none 0 0) (.slice (some ⟨g, q, none⟩) xs.length cc) (.int .u64 y) ∧ But (GB gb sb) w wc)
  case first =>
    go_region
    go_wp2_with fail
    go_meet
    case rel =>
      have hx := HG1.out.count (W + n)
      rw [Int.natCast_add] at hx
      have es : (w1.setCell ⟨gb, 1, none⟩ (.int .i64 ((W : Int) + (n : Int)))).heap.size = w1.heap.size := by simp [World.setCell]
      have ho := Oct.new (w1.setCell ⟨gb, 1, none⟩ (.int .i64 ((W : Int) + (n : Int)))) 129 (.slice (some A) n n) (.int .i64 k) (.int .i64 Nn) (.float .f64 fl) (.string ⟨#[]⟩) (.slice none 0 0) (.slice (some ⟨g, q, none⟩) xs.length cc) (.int .u64 y)
      rw [es] at ho
      refine ⟨(hx.keep (below_new _ _)).keep ((Below.refl _ _).drew), ho.at rfl (Nat.le_refl _), ?_⟩
      exact (((But.of_below (S := GB gb sb) HB1.out).setCell (p := ⟨gb, 1, none⟩) (fun _ => .inl rfl) _).alloc _).drew
  case rest =>
  obtain ⟨hg3, ho3, hu3⟩ := hcut
  have HG3 := hidb hg3
  have HO3 := hidb ho3
  have HU3 := hidb hu3
  have hgw : gb < w1.heap.size := by omega
  have hsw : sb < w1.heap.size := by omega
  clear hg3 ho3 hu3 c0 c1 c2 f0 f1 f2 o0 o1 o2 o3 o4 o5 o6 o7 s0 s1 s2 s3 s4 s5 s6 s7 HG2 HO2 HG1 BK hlt hlt2 hlto hwr hne1 hne2 hbig
  have RC := hidb (HR.out (W + n) S wc (HPB.out wc HU3.out) HG3.out HS.out (by have := HWt.out; omega))
  obtain ⟨c0, c1, c2, f0, f1, f2, hlt⟩ := HG3.out.tri
  rw [Int.natCast_add] at c1
  obtain ⟨o0, o1, o2, o3, o4, o5, o6, o7, s0, s1, s2, s3, s4, s5, s6, s7, hlto⟩ := HO3.out
  have hbig : ¬ (65536 : Int) < (W : Int) + (n : Int) := by omega
  go_step
  go_step
  go_cut [] from 15 (fun wc2 => wc2 = wc)
  case first =>
    go_wp2
    go_meet
    case rel => rfl
  case rest =>
  subst hcut
  clear hbig
  go_wp2_with fail
  refine RC.out.mono ?_
  rintro e w3 ⟨rfl, ⟨S4, hg4, hs4⟩, hu4⟩
  have HG4 := hidb hg4
  have HS4 := hidb hs4
  have HU4 := hidb (HU3.out.trans hu4)
  have HO4 := hidb (HO3.out.at (hu4.block _ HO3.out.lt (fun e => e.elim (fun e => by omega) (fun e => by omega))) hu4.size)
  clear c0 c1 c2 f0 f1 f2 hlt o0 o1 o2 o3 o4 o5 o6 o7 s0 s1 s2 s3 s4 s5 s6 s7 hlto hg4 hs4 hu4 RC HG3 HO3
  obtain ⟨c0, c1, c2, f0, f1, f2, hlt⟩ := HG4.out.tri
  obtain ⟨o0, o1, o2, o3, o4, o5, o6, o7, s0, s1, s2, s3, s4, s5, s6, s7, hlto⟩ := HO4.out
  have hdr0 : ((dR : Int) == 0) = false := by simp; omega
  have HN := hidb hN
  clear hN
  go_wp2_with fail
  clear hdr0
  go_loopw [10, 57] (fun dv iv wr => ∃ (m D0 W0 : Nat) (S0 : Sn), m ≤ xs.length ∧ iv = .int .i64 m ∧ dv = .int .i64 D0 ∧ 0 < D0 ∧ D0 ≤ 1001 ∧ deepest ((xs.drop m).map fun x => deepN x.1) D0 = Dt ∧ W0 + ((xs.drop m).map fun x => wN x.1).sum = W + Nt ∧ GS wr gb hb sb ws.length W0 S0 ∧ SeenOk ws L S0 ∧ But (GB gb sb) w wr) (fun _ iv _ => xs.length - (intOf iv).toNat)
  case atStart => exact ⟨0, dR, W + n + nR, S4, by omega, rfl, rfl, by omega, by omega, HDt.out.symm, by have := HWt.out; simp; omega, HG4.out, HS4.out, HU4.out⟩
  case round =>
    obtain ⟨m, D0, W0, S0, hm, rfl, rfl, hD1, hD2, hdeep, hsum, htri, hso, hbut⟩ := hrel
    have HDP := hidb hdeep
    have HSM := hidb hsum
    have HTR := hidb htri
    have HSO := hidb hso
    have HBT := hidb hbut
    clear hdeep hsum htri hso hbut c0 c1 c2 f0 f1 f2 hlt o0 o1 o2 o3 o4 o5 o6 o7 s0 s1 s2 s3 s4 s5 s6 s7 hlto HG4 HS4 HU4 HO4
    have HPR := hidb (HPB.out wr HBT.out)
    by_cases hml : m < xs.length
    · have hmb : (m : Int) < (xs.length : Int) := by omega
      obtain ⟨x, hx⟩ : ∃ x, xs[m]? = some x := ⟨_, List.getElem?_eq_getElem hml⟩
      obtain ⟨hw, hox⟩ := HE.out m x hx
      have hx2 := HXD.out x (List.mem_of_getElem? hx)
      have hx1 := deepN_pos x.1
      obtain ⟨g', e', _, _, hcell⟩ := hp_cell HPR.out (q + m) x.2 hw
      rw [HA.out] at e'
      obtain rfl : g = g' := by simpa using e'
      have v0 := hcell wr (Below.refl _ _)
      have hdrop : xs.drop m = x :: xs.drop (m + 1) := by
        obtain ⟨hm', rfl⟩ := List.getElem?_eq_some_iff.1 hx
        exact List.drop_eq_getElem_cons hm'
      have hsum := HSM.out
      rw [hdrop] at hsum
      simp only [List.map_cons, List.sum_cons] at hsum
      have hdeep := HDP.out
      rw [hdrop] at hdeep
      simp only [List.map_cons, deepest] at hdeep
      have OC := hidb (hox W0 S0 wr HPR.out HTR.out HSO.out (by have := HN.out; omega))
      have HS2 := hidb hsum
      have HD2 := hidb hdeep
      clear hw hcell hdrop hsum hdeep hox e'
      generalize deepN x.1 = X1 at *
      generalize wN x.1 = X2 at *
      generalize x.2 = X0 at *
      have hmz : (0 : Int) ≤ (m : Int) := by omega
      have hx0 : ((X1 : Int) == 0) = false := by simp; omega
      have ed : ((d + 1 : Nat) : Int) = (d : Int) + 1 := by omega
      rw [ed] at OC
      clear ed
      go_wp2_with fail
      refine OC.out.mono ?_
      rintro e wz ⟨rfl, ⟨S5, htz, hsz⟩, hbz⟩
      have HTZ := hidb htz
      have HSZ := hidb hsz
      have HBZ := hidb (HBT.out.trans hbz)
      clear htz hsz hbz OC v0
      go_wp2
      go_roundw
      case rel => exact ⟨m + 1, max D0 (X1 + 1), W0 + X2, S5, by omega, by go_num, by go_num, by omega, by omega, HD2.out, by have := HS2.out; omega, HTZ.out, HSZ.out, HBZ.out⟩
      case measure => simp [intOf]; omega
    · have hmn : ¬ (m : Int) < (xs.length : Int) := by omega
      have hd2 := HDP.out
      have hs2 := HSM.out
      rw [List.drop_of_length_le (by omega)] at hd2 hs2
      simp only [List.map_nil, deepest, List.sum_nil, Nat.add_zero] at hd2 hs2
      have HD9 := hidb hd2
      have HW9 := hidb hs2
      obtain ⟨c0, c1, c2, f0, f1, f2, hlt⟩ := HTR.out.tri
      obtain ⟨r1, r2, r3, r4, r5, r6⟩ := HTR.out.row p hpl
      have hpb : (p : Int) < (ws.length : Int) := by omega
      have hpz : (0 : Int) ≤ (p : Int) := by omega
      have hsub : IntKind.i64.wrap ((W0 : Int) - (W : Int)) = (Nt : Int) := by rw [IntKind.wrap_i64]; omega
      have hi1 : IntKind.i32.wrap (Nt : Int) = (Nt : Int) := by rw [IntKind.wrap_i32]; omega
      have hi2 : IntKind.i32.wrap (D0 : Int) = (D0 : Int) := by rw [IntKind.wrap_i32]; omega
      clear hd2 hs2
      go_wp2_with (go_at_call 78; refine (BD.out _).mono ?_; rintro e w' ⟨rfl, rfl⟩)
      go_region
      all_goals (
        go_wp2_with fail
        have hGP := HTR.out.put hpl u (Nt : Int) (D0 : Int)
        have hSP := HSO.out.put (p := p) HF.out.2 HF.out.1
        rw [HNT.out, HDT.out, ← HD9.out] at hSP
        have hB9 : But (GB gb sb) w _ := ((((HBT.out.setCell (p := ⟨sb, p * 3, none⟩) (fun _ => .inr rfl) (.int .u64 u)).setCell (p := ⟨sb, p * 3 + 1, none⟩) (fun _ => .inr rfl) (.int .i32 (Nt : Int))).setCell (p := ⟨sb, p * 3 + 2, none⟩) (fun _ => .inr rfl) (.int .i32 (D0 : Int))).drew)
        exact bodyPost_ret (v := .int .i64 (D0 : Int)) (by simp [results, Tryz.results80, go_sem]) rfl ⟨by rw [HD9.out], ⟨_, by have := hGP.keep ((Below.refl _ _).drew); rw [HW9.out] at this; exact this, hSP⟩, hB9⟩)
end
end Go.Proofs.YtmijabhnbmmmfaaGreat


/- A gauge that keeps what it has seen holds all that is right. -/
namespace Go.Proofs.YtmijabhnbmmmfaaGreat
open Go.RowKit Go.Deep
attribute [local go_sem] store_float f64bits f64frombits
attribute [local go_sem ↓] Go.wp_at_zero Go.wp_at_succ

structure CxS (hb ab most gb sb : Nat) (ws : List Int) (L : List ByteArray) (F : List Nat) (a : Option Addr) (c g : Nat) : Prop where
  ha : a = some ⟨g, 0, none⟩
  g1 : gb ≠ hb
  g2 : gb ∉ F
  g3 : gb ≠ g
  s1 : sb ≠ hb
  s2 : sb ∉ F
  s3 : sb ≠ g
  hL : L.length ≤ 100000
  hs : ws.length ≤ 16777216

section
variable {hb ab most gb sb : Nat} {ws : List Int} {L : List ByteArray} {F : List Nat} {a : Option Addr} {c g : Nat}

theorem ovS_nil {d : Nat} (hd : d ≤ 200) : OvS hb ab most gb sb ws L F a c (ofW 4 0) d 1 0 := by
  obtain ⟨h1, _, h3, h4, h5⟩ := nil_made
  exact ovS_alone h3 h4 h5 (by omega) (by unfold aloneB; rw [h1]; rfl) hd

theorem ovS_list (cx : CxS hb ab most gb sb ws L F a c g) : ∀ (l : List Tr), (∀ t, t ∈ l → ∀ u d, 1 ≤ d → Rep ws L t u → d + deepN t ≤ 201 → OvS hb ab most gb sb ws L F a c u d (deepN t) (wN t)) →
    ∀ u d, 1 ≤ d → RepL ws L l u → Fine (.mk 8 0 0 ⟨#[]⟩ none 0 l) → d + deepL l ≤ 201 → OvS hb ab most gb sb ws L F a c u d (deepL l) (2 * l.length + wAll l) := by
  intro l
  induction l with
  | nil =>
    intro _ u d _ h _ hd
    unfold RepL at h
    subst h
    simp only [deepL] at hd
    exact ovS_nil (by omega)
  | cons t r ih =>
    intro hk u d hd1 h hf hd
    have hrep : Rep ws L (.mk 8 0 0 ⟨#[]⟩ none 0 (t :: r)) u := by
      unfold Rep
      rw [if_neg (by decide), if_neg (by decide), if_neg (by decide), if_pos rfl]
      exact h
    unfold RepL at h
    obtain ⟨p, rfl, hp, ⟨x, hx, hrx⟩, y, hy, hry⟩ := h
    simp only [deepL] at hd
    have hpos := deepN_pos t
    obtain ⟨m1, m2, m3, m4, m5⟩ := cons_made hp
    obtain ⟨ty, y0, y1, -⟩ := repl_tag hry
    have e1 : deepN (.mk 8 0 0 ⟨#[]⟩ none 0 (t :: r)) = deepL (t :: r) := by simp only [deepN, deepL_is]
    have e2 : deepN (.mk 8 0 0 ⟨#[]⟩ none 0 r) = deepL r := by simp only [deepN, deepL_is]
    have w1 : wN (.mk 8 0 0 ⟨#[]⟩ none 0 (t :: r)) = 2 * (t :: r).length + wAll (t :: r) := by simp [wN]
    have w2 : wN (.mk 8 0 0 ⟨#[]⟩ none 0 r) = 2 * r.length + wAll r := by simp [wN]
    have hfr : Fine (.mk 8 0 0 ⟨#[]⟩ none 0 r) := by
      obtain ⟨f1, f2⟩ := hf
      simp only [allT, allAll, Bool.and_eq_true] at f1
      refine ⟨?_, by rw [w1] at f2; simp only [List.length_cons, wAll] at f2; rw [w2]; omega⟩
      have hg : goodT (.mk 8 0 0 ⟨#[]⟩ none 0 r) = true := by simp [goodT, ByteArray.toList_eq]
      simp only [allT, hg, f1.2.2, Bool.and_self]
    have hR := ih (fun v hv => hk v (List.mem_cons_of_mem _ hv)) y d hd1 hry hfr (by omega)
    have hT := hk t (List.mem_cons_self ..) x (d + 1) (by omega) hrx (by omega)
    have hI := into_s (hb := hb) (ab := ab) (most := most) (gb := gb) (sb := sb) (ws := ws) (L := L) (F := F) (a := a) (c := c) (u := ofW 6 p) (y := y) (d := d) (n := 2) (cc := 2) (fl := 0) (g := g) (q := p) (p := p) (A := ⟨g, p, none⟩) (k := 8) (Nn := 0) (t := .mk 8 0 0 ⟨#[]⟩ none 0 (t :: r)) (tr := .mk 8 0 0 ⟨#[]⟩ none 0 r) [(t, x)] cx.ha m2 (by have := get_lt hy; omega) m3 m4 cx.g1 cx.g2 cx.g3 cx.s1 cx.s2 cx.s3
      (fun w hp' => block_of hb (ofW 6 p) p ⟨g, p, none⟩ ⟨g, p, none⟩ 2 1 2 0 8 0 y m3 m4 m2 w (Or.inl ⟨m1, fun w' hb' => pair_ok (hp'.keep hb') g p cx.ha y hy y0 y1 ty⟩))
      (by rw [e2, w2]; exact hR) (fun j z hj => by
        rcases j with _ | j
        · obtain rfl : (t, x) = z := by simpa using hj
          exact ⟨hx, hT⟩
        · simp at hj) (by omega) (by rw [e1]; simp only [deepL]; omega) (by simp) (by rw [e1, e2]; simp only [deepL, List.map_cons, List.map_nil, deepest]) (by rw [w1, w2]; simp only [wAll, List.length_cons, List.map_cons, List.map_nil, List.sum_cons, List.sum_nil]; omega)
      (fun z hz => by obtain rfl : z = (t, x) := by simpa using hz
                      simp only; omega) (by rw [e2]; omega) hf hrep
    have hO := ovS_pt (t := .mk 8 0 0 ⟨#[]⟩ none 0 (t :: r)) cx.hL m3 m4 (Or.inr m1) m2 (by have := get_lt hy; omega) (by omega) (by rw [e1]; simp only [deepL]; omega) hf hrep hI
    rw [e1, w1] at hO
    exact hO

theorem ovS_box (cx : CxS hb ab most gb sb ws L F a c g) {a0 : Option Addr} {c0 : Nat} (k N : Int) (f p sz fr : Nat) (kids : List Tr) (hfr : frN k = fr) (hkB : hdB k = true) (hsz : sz ≤ 65536) (hw : ws[p]? = some (hdW k sz)) (hlen : p + (fr + kids.length) ≤ ws.length) (hln : lnN k sz = ((fr + kids.length : Nat) : Int)) (hlb : lnB k sz = true)
    (hf : f < 18446744073709551616) (hNw : (Lit.int .i64 N).wf = true) (hkw : (Lit.int .i64 k).wf = true)
    (hbr : ∀ w, HP w hb ab most ws L F a c → Calls Tryz.prog 99 #[.int .i64 k, .slice (some ⟨g, p, none⟩) (fr + kids.length) (fr + kids.length)] w fun e w'' => e = .returned (.agg #[.int .i64 (k), .int .i64 (N), .float .f64 (f), .string ⟨#[]⟩, .slice none 0 0]) ∧ Below w.heap.size w w'') (hgood : errT (.mk k N f ⟨#[]⟩ none 0 []) = 0)
    (hp : p ≤ 16777216) (hel : RepAll ws L kids (p + fr)) (hk : ∀ t, t ∈ kids → ∀ u d, 1 ≤ d → Rep ws L t u → d + deepN t ≤ 201 → OvS hb ab most gb sb ws L F a c u d (deepN t) (wN t)) (d : Nat) (hd1 : 1 ≤ d) (hd : d + deepNs kids 1 ≤ 201) (hfi : Fine (.mk k N f ⟨#[]⟩ a0 c0 kids)) (hrep : Rep ws L (.mk k N f ⟨#[]⟩ a0 c0 kids) (ofW 5 p)) (hwn : wN (.mk k N f ⟨#[]⟩ a0 c0 kids) = fr + kids.length + wAll kids) :
    OvS hb ab most gb sb ws L F a c (ofW 5 p) d (deepN (.mk k N f ⟨#[]⟩ a0 c0 kids)) (wN (.mk k N f ⟨#[]⟩ a0 c0 kids)) := by
  obtain ⟨m1, m2, m3, m4, m5⟩ := box_made hp
  obtain ⟨e0, e1, e2, e3, e4⟩ := hd_made hkB (s := sz) (by omega) (by omega)
  obtain ⟨vs, hvl, hv⟩ := repAll_words kids (p + fr) hel
  have hle := deepNs_le kids 1
  have hfr0 : 1 ≤ fr := by rw [← hfr]; unfold frN; split <;> omega
  have hkl := (fine_kids hfi).2.1
  have hxl : (List.zipWith (fun x t => ((t, x) : Tr × Int)) vs kids).length = kids.length := by simp [hvl]
  have hz := zip_fst vs kids hvl
  have hzd : (List.zipWith (fun x t => ((t, x) : Tr × Int)) vs kids).map (fun x => deepN x.1) = kids.map deepN := by
    have : (fun x : Tr × Int => deepN x.1) = deepN ∘ (fun x => x.1) := rfl
    rw [this, ← List.map_map, hz]
  have hzw : (List.zipWith (fun x t => ((t, x) : Tr × Int)) vs kids).map (fun x => wN x.1) = kids.map wN := by
    have : (fun x : Tr × Int => wN x.1) = wN ∘ (fun x => x.1) := rfl
    rw [this, ← List.map_map, hz]
  have dn : deepN (.mk k N f ⟨#[]⟩ a0 c0 kids) = deepNs kids 1 := by simp only [deepN]
  have t0 : deepN (.mk 8 0 0 ⟨#[]⟩ none 0 []) = 1 := by simp [deepN, deepNs]
  have t1 : wN (.mk 8 0 0 ⟨#[]⟩ none 0 []) = 0 := by simp [wN, wAll]
  have hI := into_s (hb := hb) (ab := ab) (most := most) (gb := gb) (sb := sb) (ws := ws) (L := L) (F := F) (a := a) (c := c) (u := ofW 5 p) (y := ofW 4 0) (d := d) (n := fr + kids.length) (cc := fr + kids.length - fr) (fl := f) (g := g) (q := if fr + kids.length = fr then p else p + fr) (p := p) (A := ⟨g, p, none⟩) (k := k) (Nn := N) (t := .mk k N f ⟨#[]⟩ a0 c0 kids) (tr := .mk 8 0 0 ⟨#[]⟩ none 0 []) (List.zipWith (fun x t => ((t, x) : Tr × Int)) vs kids) cx.ha m2 (by omega) m3 m4 cx.g1 cx.g2 cx.g3 cx.s1 cx.s2 cx.s3
    (fun w hp' => by
      rw [hxl]
      have em : kids.length = fr + kids.length - fr := by omega
      rw [em]
      have em2 : fr + (fr + kids.length - fr) = fr + kids.length := by omega
      rw [em2]
      refine block_of hb (ofW 5 p) p ⟨g, p, none⟩ ⟨g, if fr + kids.length = fr then p else p + fr, none⟩ (fr + kids.length) (fr + kids.length - fr) (fr + kids.length - fr) f k N (ofW 4 0) m3 m4 m2 w (Or.inr ⟨m1, fun w' hb' => ?_⟩)
      have := box_ok (hp'.keep hb') g cx.ha p (fr + kids.length) sz (hdW k sz) k N f hw e0 e1 e2 e3 e4 hln hlb hlen (by omega) hsz hf hNw hkw (fun w'' hb'' => hbr w'' ((hp'.keep hb').keep hb'')) hgood
      rw [hfr] at this
      exact this)
    (by rw [t0, t1]; exact ovS_nil (by omega)) (fun j z hj => by
      have hjl : j < kids.length := by
        rcases Nat.lt_or_ge j kids.length with q | q
        · exact q
        · rw [List.getElem?_eq_none (by rw [hxl]; exact q)] at hj; cases hj
      obtain ⟨t, ht⟩ : ∃ t, kids[j]? = some t := ⟨_, List.getElem?_eq_getElem hjl⟩
      obtain ⟨x, x1, x2, x3⟩ := hv j t ht
      have ez : z = (t, x) := by
        rw [List.getElem?_zipWith, x1, ht] at hj
        simpa using hj.symm
      subst ez
      have hm := List.mem_of_getElem? ht
      have hl2 := hle.2 t hm
      rw [if_neg (by omega)]
      exact ⟨x2, hk t hm x (d + 1) (by omega) x3 (by omega)⟩) (by omega) (by rw [dn]; exact hd) (by rw [hxl]; exact hkl) (by rw [hzd, dn, t0, deepNs_map]) (by rw [hzw, sum_wAll, t1, hwn]; omega)
    (fun z hz' => by
      have : z.1 ∈ kids := by rw [← hz]; exact List.mem_map_of_mem hz'
      have := hle.2 z.1 this
      omega) (by rw [t0]; omega) hfi hrep
  exact ovS_pt cx.hL m3 m4 (Or.inl m1) m2 (by omega) (by omega) (by rw [dn]; exact hd) hfi hrep hI
end
end Go.Proofs.YtmijabhnbmmmfaaGreat


