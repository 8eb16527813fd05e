/- EtherOrder, but for the example. -/
import Derived.Test.YtapjnnbcphpokaaGreatLE4
import Derived.Test.YtapjnnbcphpokaaGreatRgD
import Derived.Test.YtapjnnbcphpokaaGreatLE5
import Derived.Deep.RegionHeld3
import Derived.Deep.DrawnRows
namespace Go.Proofs.YtapjnnbcphpokaaGreat
open Go.RowKit Go.Lib Go.Maps
attribute [local go_sem] store_float f64bits
attribute [local go_sem ↓] Go.wp_at_zero Go.wp_at_succ

/-- Which lane a number names. -/
theorem lane_of (x : Int) : ∃ (y : Int) (n : Nat), n < 4 ∧ x.tmod 4 = y ∧ ((¬ y < 0 ∧ y = (n : Int)) ∨ (y < 0 ∧ IntKind.i64.wrap (0 - y) = (n : Int) ∧ IntKind.i64.wrap (-y) = (n : Int))) := by
  have h1 := Int.tmod_lt_of_pos x (show (0 : Int) < 4 by decide)
  have h2 : -4 < x.tmod 4 := by
    rcases Int.le_total 0 x with h | h
    · have := Int.tmod_nonneg 4 h; omega
    · have := Int.tmod_nonneg 4 (show 0 ≤ -x by omega)
      have h3 := Int.tmod_lt_of_pos (-x) (show (0 : Int) < 4 by decide)
      rw [Int.neg_tmod] at h3 this
      omega
  generalize x.tmod 4 = y at *
  by_cases h : 0 ≤ y
  · exact ⟨y, y.toNat, by omega, rfl, .inl ⟨by omega, by omega⟩⟩
  · exact ⟨y, (-y).toNat, by omega, rfl, .inr ⟨by omega, by rw [IntKind.wrap_i64]; omega, by rw [IntKind.wrap_i64]; omega⟩⟩
theorem wfi_of {x : Int} (h1 : 0 ≤ x) (h2 : x ≤ 1000) : wfi x := by
  unfold wfi
  have e0 : IntKind.i64.min = -9223372036854775808 := by decide
  have e1 : IntKind.i64.max = 9223372036854775807 := by decide
  simp only [Lit.wf, e0, e1, Bool.and_eq_true, decide_eq_true_eq]
  omega
theorem toN_le (n : Nat) : 1 ≤ toN n ∧ toN n ≤ 2 := by unfold toN; omega
theorem toN_of (n : Nat) : ∃ r : Int, (n : Int).tmod 2 = r ∧ IntKind.i64.wrap (1 + r) = toN n := by
  refine ⟨_, rfl, ?_⟩
  rw [Int.tmod_eq_emod_of_nonneg (by omega), IntKind.wrap_i64]
  unfold toN
  omega

/-- What the first loop keeps. -/
structure OL (w0 w : World) (eb pb gb m : Nat) (mv : Value) (f : Int → Int → Option Lane) (N : Nat) (pv gv : Nat → Value) (put got rem : Nat → List Int) : Prop where
  o : OI w0 w eb pb gb mv f N pv gv put got rem
  eq : ∀ n, n < 4 → put n = got n ++ rem n
  N : N ≤ 2 * m
  t : tot rem ≤ m
  len : ∀ n, n < 4 → (put n).length ≤ m
  pos : ∀ n, n < 4 → ∀ x, x ∈ rem n → 1 ≤ x

variable {w0 w w' : World} {eb pb gb N N' m n : Nat} {mv mv' : Value} {f f' : Int → Int → Option Lane} {pv pv' gv gv' : Nat → Value} {put got rem : Nat → List Int}

theorem OL.next (h : OL w0 w eb pb gb m mv f N pv gv put got rem) (hn : n < 4) (ho : OI w0 w' eb pb gb mv' f' (N + 2) pv' gv (updV put n (put n ++ [(m : Int) + 1])) got (updV rem n (rem n ++ [(m : Int) + 1]))) :
    OL w0 w' eb pb gb (m + 1) mv' f' (N + 2) pv' gv (updV put n (put n ++ [(m : Int) + 1])) got (updV rem n (rem n ++ [(m : Int) + 1])) := by
  refine ⟨ho, fun i hi => ?_, by have := h.N; omega, ?_, fun i hi => ?_, fun i hi x hx => ?_⟩
  · by_cases e : i = n
    · subst e; rw [updV_same, updV_same, h.eq i hi, List.append_assoc]
    · rw [updV_other _ _ _ _ e, updV_other _ _ _ _ e]; exact h.eq i hi
  · have := tot_upd rem n hn (rem n ++ [(m : Int) + 1]); have := h.t; simp at *; omega
  · by_cases e : i = n
    · subst e; rw [updV_same]; have := h.len i hi; simp; omega
    · rw [updV_other _ _ _ _ e]; have := h.len i hi; omega
  · by_cases e : i = n
    · subst e; rw [updV_same] at hx
      rcases List.mem_append.1 hx with hx | hx
      · exact h.pos i hi x hx
      · simp at hx; omega
    · rw [updV_other _ _ _ _ e] at hx; exact h.pos i hi x hx

theorem OL.took {id : Int} {r : List Int} (h : OL w0 w eb pb gb m mv f N pv gv put got rem) (hn : n < 4) (e : rem n = id :: r) (ho : OI w0 w' eb pb gb mv' f' N pv gv' put (updV got n (got n ++ [id])) (updV rem n r)) :
    OL w0 w' eb pb gb m mv' f' N pv gv' put (updV got n (got n ++ [id])) (updV rem n r) := by
  refine ⟨ho, fun i hi => ?_, h.N, ?_, h.len, fun i hi x hx => ?_⟩
  · by_cases q : i = n
    · subst q; rw [updV_same, updV_same, h.eq i hi, e]; simp
    · rw [updV_other _ _ _ _ q, updV_other _ _ _ _ q]; exact h.eq i hi
  · have := tot_upd rem n hn r; have := h.t; rw [e] at *; simp at *; omega
  · by_cases q : i = n
    · subst q; rw [updV_same] at hx; exact h.pos i hi x (by rw [e]; simp [hx])
    · rw [updV_other _ _ _ _ q] at hx; exact h.pos i hi x hx

theorem OL.keep (h : OL w0 w eb pb gb m mv f N pv gv put got rem) (hb : Below w.heap.size w w') : OL w0 w' eb pb gb m mv f N pv gv put got rem := ⟨h.o.keep hb, h.eq, h.N, h.t, h.len, h.pos⟩

set_option maxHeartbeats 1000000 in
theorem take_id (PO : PopOk) {id : Int} {r : List Int} (h : OL w0 w eb pb gb m mv f N pv gv put got rem) (hn : n < 4) (e : rem n = id :: r) (hm : m ≤ 1000) :
    Calls Tryz.prog 8 #[.pointer (some ⟨eb, 0, none⟩), .int .i64 (n : Int), .int .i64 (toN n)] w fun e w' => e = .returned (.tuple #[.agg #[.int .i64 (n : Int), .int .i64 (toN n), .int .i64 3, .int .i64 id, .int .i64 0, .bool false, .string ⟨#[]⟩, .int .i64 0, .int .i64 0, .float .f64 0, .string ⟨#[]⟩, .slice none 0 0], .bool true]) ∧
      ∃ f', OI w0 w' eb pb gb mv f' N pv gv put got (updV rem n r) := by
  have wn : wfi (n : Int) := wfi_of (by omega) (by omega)
  have wt : wfi (toN n) := wfi_of (by have := toN_le n; omega) (by have := toN_le n; omega)
  obtain ⟨l, hl, hx, hk⟩ := h.o.li.head hn e
  have ht := tot_upd rem n hn r
  rw [e] at ht
  simp at ht
  have h1 := h.t
  have h2 := h.N
  cases r with
  | nil =>
    refine (take_last PO wn wt h.o.e hl hx (by simpa using hk) (by omega) (by omega) (by omega)).mono ?_
    rintro en w' ⟨rfl, hE, hb⟩
    refine ⟨rfl, _, h.o.turn (x := none) (r := []) ?_ hb ?_ (fun k hk => .inl hk) (fun l q hq => by cases hq) (h.o.li.last hn)⟩
    · rw [show tot (updV rem n []) = tot rem - 1 by simp at ht; omega]; exact hE
    · rintro q (hq | hq | hq)
      · exact .inl hq
      · exact .inr (.inl hq)
      · exact .inr (.inr ⟨_, _, l, hl, hq⟩)
  | cons id2 r2 =>
    refine (take_more PO wn wt h.o.e hl hx (k := r2.length) (by simpa using hk) (by omega) (by omega) (by omega)).mono ?_
    rintro en w' ⟨rfl, ⟨V', hE, hs⟩, hb⟩
    refine ⟨rfl, _, h.o.turn (x := some ⟨l.rb, V', sgls ((id2 :: r2).map (sg n)), (id2 :: r2).length⟩) (r := id2 :: r2) ?_ hb ?_ (fun k hk => .inl hk) ?_ (h.o.li.took hn (by simp) _ _)⟩
    · rw [show tot (updV rem n (id2 :: r2)) = tot rem - 1 by simp at ht; omega]; exact hE
    · rintro q (hq | hq)
      · exact .inl hq
      · exact .inr (.inr ⟨_, _, l, hl, hq⟩)
    · rintro l' q hq hf
      cases hq
      rcases hf with hf | hf
      · exact .inl ⟨l, hl, .inl hf⟩
      · rcases hs with hs | hs
        · exact .inl ⟨l, hl, .inr (hs ▸ hf)⟩
        · exact .inr (hs q hf)

/-- Where a row of an array lies, when an append has been done. -/
theorem AR.spot {X w2 : World} {C ab : Nat} {vs : Nat → Value} {ls : Nat → List Int} (h : AR w C ab vs ls) (hn : n < 4) (hX : Below w.heap.size w X) (hG : X.grownBy w2 (vs n).ownBlock) : w2.cell? ⟨ab, n, none⟩ = some (vs n) ∧ w2.frozen? ⟨ab, n, none⟩ = false := by
  have hb : But (fun k => (vs n).ownBlock = some k) w w2 := (But.of_below hX).trans (grown_but hG)
  exact ⟨(hb.cell (p := ⟨ab, n, none⟩) h.lt (h.ne n hn)).trans (h.c n hn), (hb.frozen (p := ⟨ab, n, none⟩) h.lt (h.ne n hn)).trans (h.fr n hn)⟩

set_option maxHeartbeats 40000000 in
set_option maxRecDepth 100000 in
theorem etherOrder_of (PO : PopOk) (KN0 : ∀ w, Calls Tryz.prog 5 #[] w fun e w' => e = .returned (.bool true) ∧ Below w.heap.size w w') (v1 v2 : Value) (fr tk : List Int) (w : World) (hf : IR w v1 fr) (ht : IR w v2 tk) :
    Calls Tryz.prog 3 #[v1, v2] w fun e w' => e = .returned (.bool true) ∧ Below w.heap.size w w' := by
  have KN := hidb KN0
  obtain ⟨qf, cf, rfl, hcf⟩ := hf
  obtain ⟨qt, ct, rfl, hct⟩ := ht
  have HCF := hidb hcf
  have HCT := hidb hct
  have POH := hidb PO
  clear KN0 hcf hct PO
  by_cases hbig : 400 < fr.length
  · have h1 : (400 : Int) < (fr.length : Int) := by omega
    clear hbig
    go_enter Tryz.func3, Tryz.ntmps3
    go_wp2_with (go_at_call 5; refine (KN.out _).mono ?_; rintro e w1 ⟨rfl, hb1⟩; have HB1 := hidb hb1; clear hb1)
    go_ret
    exact ⟨rfl, HB1.out⟩
  have h1 : ¬ (400 : Int) < (fr.length : Int) := by omega
  have h5 : fr.length ≤ 400 := by omega
  have H5 := hidb h5
  clear hbig h5
  by_cases hbig : 400 < tk.length
  · have h2 : (400 : Int) < (tk.length : Int) := by omega
    clear hbig
    go_enter Tryz.func3, Tryz.ntmps3
    go_wp2_with (go_at_call 5; refine (KN.out _).mono ?_; rintro e w1 ⟨rfl, hb1⟩; have HB1 := hidb hb1; clear hb1)
    go_ret
    exact ⟨rfl, HB1.out⟩
  have h2 : ¬ (400 : Int) < (tk.length : Int) := by omega
  have h6 : tk.length ≤ 400 := by omega
  have H6 := hidb h6
  obtain ⟨i0, hi, hz0, hz1, hz2⟩ := infoI
  clear hbig h6
  go_enter Tryz.func3, Tryz.ntmps3
  go_wp2_with (first
    | (go_at_call 5; refine (KN.out _).mono ?_; rintro e w1 ⟨rfl, hb1⟩; have HB1 := hidb hb1; clear hb1)
    | (go_at_call 6; refine (newE _).mono ?_; rintro e w2 ⟨rfl, rfl⟩))
  have hO := oi_new w w1 HB1.out 26
  have HL : Hid (OL w (((w1.alloc (.cells #[.map none, .int .i64 0] 55)).alloc (.cells #[.slice none 0 0, .slice none 0 0, .slice none 0 0, .slice none 0 0] 26)).alloc (.cells #[.slice none 0 0, .slice none 0 0, .slice none 0 0, .slice none 0 0] 26)) w1.heap.size (w1.heap.size + 1) (w1.heap.size + 1 + 1) 0 (.map none) (fun _ _ => none) 0 (fun _ => .slice none 0 0) (fun _ => .slice none 0 0) (fun _ => []) (fun _ => []) (fun _ => [])) := hidb
    ⟨hO, fun _ _ => rfl, by omega, by simp [tot], fun _ _ => by simp, fun _ _ x hx => by simp at hx⟩
  clear hO
  generalize heb : w1.heap.size = eb at *
  generalize hpb : eb + 1 = pb at *
  generalize hgb : pb + 1 = gb at *
  clear h1 h2 heb hpb hgb
  go_loopw [8] (fun iv wr => ∃ (m : Nat) (mv : Value) (f : Int → Int → Option Lane) (N : Nat) (pv gv : Nat → Value) (put got rem : Nat → List Int), m ≤ fr.length ∧ iv = .int .i64 m ∧ OL w wr eb pb gb m mv f N pv gv put got rem) (fun iv _ => fr.length - (RowKit.intOf iv).toNat)
  case atStart => exact ⟨0, _, _, _, _, _, _, _, _, by omega, rfl, HL.out⟩
  case round =>
  obtain ⟨m, mv, f, N, pv, gv, put, got, rem, hm, rfl, hL⟩ := hrel
  have HL := hidb hL
  clear hL
  have hmw : IntKind.i64.wrap ((m : Int) + 1) = (m : Int) + 1 := by rw [IntKind.wrap_i64]; have := H5.out; omega
  by_cases hml : m < fr.length
  · have hmb : (m : Int) < (fr.length : Int) := by omega
    have hmz : (0 : Int) ≤ (m : Int) := by omega
    have hx : fr[m]? = some fr[m] := List.getElem?_eq_getElem hml
    obtain ⟨b, o, rfl, hc⟩ := HCF.out m _ hx
    have k0 := (HL.out.o.e.bel.cell (World.block_lt_of_cell? w _ hc)).trans hc
    generalize fr[m] = x at *
    clear hx hc
    obtain ⟨y, n, hn4, hxy, hor⟩ := lane_of x
    obtain ⟨r, hnr, hrt⟩ := toN_of n
    have HPT := hidb (fun W (h : EO w W eb mv f (tot rem) N) => put_ok (x0 := (n : Int)) (x1 := toN n) (x2 := 3) (x3 := (m : Int) + 1) (wfi_of (by omega) (by omega)) (wfi_of (by have := toN_le n; omega) (by have := toN_le n; omega)) h (by have := HL.out.N; have := H5.out; omega) (by have := HL.out.t; have := H5.out; omega) (fun w' => check3 _ _ _ w' (by omega) (by omega) (by have := toN_le n; omega) (by have := toN_le n; omega) (by omega) (by have := H5.out; omega)))
    rcases hor with ⟨hy0, hyn⟩ | ⟨hy0, hyn, hyn'⟩
    · subst hyn
      go_wp2_with (first
        | (go_at_call 7; refine (HPT.out _ HL.out.o.e).mono ?_; rintro e w3 ⟨rfl, mv', l, hE3, hx3, hk3, hb3, hm3, hf3⟩; have HO3 := hidb (HL.out.o.putted hn4 hE3 hx3 hk3 hb3 hm3 hf3); obtain ⟨qp, cp, hpv⟩ := own_sl (HO3.out.p.own n hn4); have y0 := (HO3.out.p.c n hn4).trans (congrArg some hpv); have y1 := HO3.out.p.fr n hn4; have HPV := hidb hpv; have HOW := HO3.out.p.own n hn4; rw [hpv] at HOW; have HOW := hidb HOW; clear hpv; clear hE3 hx3 hk3 hb3 hm3 hf3)
        | (at_builtin; refine wpList_append_own_at _ rfl _ _ 22 rfl w.heap.size IT i0 (.int .i64 0) 1 8 Tryz.underlying22 hi hz0 hz1 hz2 rfl (by decide) (.slice qp (put n).length cp) (put n).length (ivs (put n)) rfl ?e1 ⟨w3.heap.size, 0, none⟩ 1 1 [.int .i64 ((m : Int) + 1)] rfl rfl (cell_one_new _ _ _) ?e2 ?e3 ?e4 ?e5 ?_))
      case e1 => exact HOW.out.alloc _
      case e2 => intro u hu; simp at hu; subst hu; rfl
      case e3 => have := HL.out.len n hn4; have := H5.out; unfold maxLen; omega
      case e4 => have := HL.out.len n hn4; have := H5.out; omega
      case e5 => have := HO3.out.e.bel.size; simp; omega
      intro v' w4 hown' hgrow hnil hat
      rw [← HPV.out] at hgrow hat
      obtain ⟨y2, y3⟩ := HO3.out.p.spot hn4 (below_new w3 _) hgrow
      have HO4 := hidb (HO3.out.pput hn4 (below_new w3 _) hgrow hown' (by simpa using hat))
      obtain ⟨a', c', rfl⟩ := own_sl hown'
      have HL4 := hidb (HL.out.next hn4 HO4.out)
      clear hown' hgrow hnil hat y0 y1 HO3 HOW HO4 HL HPV HPT
      by_cases hmt : m < tk.length
      · have hmt1 : ¬ (tk.length : Int) ≤ (m : Int) := by omega
        have hmt2 : (m : Int) < (tk.length : Int) := by omega
        have hx2 : tk[m]? = some tk[m] := List.getElem?_eq_getElem hmt
        obtain ⟨b2, o2, rfl, hc2⟩ := HCT.out m _ hx2
        have k2 := (HL4.out.o.e.bel.cell (World.block_lt_of_cell? w _ hc2)).trans hc2
        generalize tk[m] = x2 at *
        clear hx2 hc2
        obtain ⟨y', n2, hm4, hxy2, hor2⟩ := lane_of x2
        obtain ⟨r2, hnr2, hrt2⟩ := toN_of n2
        obtain ⟨WW, hWW⟩ : ∃ W, w4.setCell ⟨pb, n, none⟩ (Value.slice a' ((put n).length + 1) c') = W := ⟨_, rfl⟩
        have HLW := HL4.out
        rw [hWW] at HLW
        have HLW := hidb HLW
        have HWW := hidb hWW
        clear hWW
        generalize updV put n (put n ++ [(m : Int) + 1]) = put1 at *
        generalize updV rem n (rem n ++ [(m : Int) + 1]) = rem1 at *
        generalize updV pv n (Value.slice a' ((put n).length + 1) c') = pv1 at *
        have wn : wfi (n2 : Int) := wfi_of (by omega) (by omega)
        have wt : wfi (toN n2) := wfi_of (by have := toN_le n2; omega) (by have := toN_le n2; omega)
        cases hre : rem1 n2 with
        | nil =>
          have TN := hidb (take_none wn wt HLW.out.o.e (HLW.out.o.li.no n2 hm4 hre))
          obtain ⟨qg, cg, hgv⟩ := own_sl (HLW.out.o.g.own n2 hm4)
          have y4 := (HLW.out.o.g.c n2 hm4).trans (congrArg some hgv)
          have hgl := HLW.out.o.g.lt
          have HY4 := hidb y4
          clear hgv hre wn wt
          rcases hor2 with ⟨hy2, hyn2⟩ | ⟨hy2, hyn2, hyn2'⟩
          · subst hyn2
            go_wp2_with (go_at_call 8; rw [HWW.out]; refine TN.out.mono ?_; rintro e w5 ⟨rfl, hb5⟩; have HL5 := hidb (HLW.out.keep hb5); have y5 := (hb5.cell (p := ⟨gb, n2, none⟩) hgl).trans HY4.out; have hgl5 : gb < w5.heap.size := Nat.lt_of_lt_of_le hgl hb5.size; have hgn : ¬ w5.heap.size = gb := (by omega); clear hb5)
            all_goals
              go_roundw
              case rel => exact ⟨m + 1, _, _, _, _, _, _, _, _, by omega, by go_num, HL5.out.keep (below_new w5 _)⟩
              case measure => simp [RowKit.intOf]; omega
          · go_wp2_with (go_at_call 8; rw [HWW.out]; refine TN.out.mono ?_; rintro e w5 ⟨rfl, hb5⟩; have HL5 := hidb (HLW.out.keep hb5); have y5 := (hb5.cell (p := ⟨gb, n2, none⟩) hgl).trans HY4.out; have hgl5 : gb < w5.heap.size := Nat.lt_of_lt_of_le hgl hb5.size; have hgn : ¬ w5.heap.size = gb := (by omega); clear hb5)
            all_goals
              go_roundw
              case rel => exact ⟨m + 1, _, _, _, _, _, _, _, _, by omega, by go_num, HL5.out.keep (below_new w5 _)⟩
              case measure => simp [RowKit.intOf]; omega
        | cons id r =>
          have TI := hidb (take_id POH.out HLW.out hm4 hre (by have := H5.out; omega))
          have hid0 : (id == 0) = false := by have := HLW.out.pos n2 hm4 id (by rw [hre]; simp); simp; omega
          have hid1 : (id != 0) = true := by have := HLW.out.pos n2 hm4 id (by rw [hre]; simp); simp; omega
          have HGL : Hid ((got n2).length ≤ 1000) := hidb (by have h1 := HLW.out.len n2 hm4; rw [HLW.out.eq n2 hm4] at h1; have := H5.out; simp at h1; omega)
          have HRE := hidb hre
          clear hre wn wt
          rcases hor2 with ⟨hy2, hyn2⟩ | ⟨hy2, hyn2, hyn2'⟩
          · subst hyn2
            go_wp2_with (first
              | (go_at_call 8; rw [HWW.out]; refine TI.out.mono ?_; rintro e w5 ⟨rfl, f5, ho5⟩; have HO5 := hidb ho5; clear ho5))
            obtain ⟨X5, hX5⟩ : ∃ X, w5.alloc (.cells #[.int .i64 (n2 : Int), .int .i64 (toN n2), .int .i64 3, .int .i64 id, .int .i64 0, .bool false, .string ⟨#[]⟩, .int .i64 0, .int .i64 0, .float .f64 0, .string ⟨#[]⟩, .slice none 0 0] 34) = X := ⟨_, rfl⟩
            have HOX := HO5.out.keep (below_new w5 (.cells #[.int .i64 (n2 : Int), .int .i64 (toN n2), .int .i64 3, .int .i64 id, .int .i64 0, .bool false, .string ⟨#[]⟩, .int .i64 0, .int .i64 0, .float .f64 0, .string ⟨#[]⟩, .slice none 0 0] 34))
            have h3 := (box12 (at_new w5 (.cells #[.int .i64 (n2 : Int), .int .i64 (toN n2), .int .i64 3, .int .i64 id, .int .i64 0, .bool false, .string ⟨#[]⟩, .int .i64 0, .int .i64 0, .float .f64 0, .string ⟨#[]⟩, .slice none 0 0] 34))).2.2.2.1
            rw [hX5] at HOX h3
            rw [hX5]
            have HOX := hidb HOX
            have hsl : w5.heap.size < X5.heap.size := by rw [← hX5]; simp
            have HNF : Hid (∀ q, AF gb gv q → q ≠ w5.heap.size) := hidb (fun q hq e => by have := (HO5.out.g.foot_lt hq).1; omega)
            generalize hsb : w5.heap.size = sb at *
            clear hsb hX5 HO5
            obtain ⟨qg, cg, hgv⟩ := own_sl (HOX.out.g.own n2 hm4)
            have HCG : Hid (X5.drew.cell? ⟨gb, n2, none⟩ = some (.slice qg (got n2).length cg)) := hidb (by rw [cell_drew]; exact (HOX.out.g.c n2 hm4).trans (congrArg some hgv))
            have HFG := hidb (HOX.out.g.fr n2 hm4)
            have HGV := hidb hgv
            have hlp : (0 : Int) < ((got n2).length : Int) + 1 := by omega
            have HOW := HOX.out.g.own n2 hm4
            rw [hgv] at HOW
            have HOW := hidb HOW
            have z1 : (got n2).length + 1 ≤ maxLen := by have := HGL.out; unfold maxLen; omega
            have z2 : ((got n2).length + 1) * 8 ≤ 140737488355328 := by have := HGL.out; omega
            have hgl : gb < X5.heap.size := HOX.out.g.lt
            have hgn : ¬ sb = gb := fun e => HNF.out gb (.inl rfl) e.symm
            have hgn' : ¬ gb = sb := HNF.out gb (.inl rfl)
            have HH3 : Hid (X5.drew.cell? ⟨sb, 3, none⟩ = some (.int .i64 id)) := hidb (by rw [cell_drew]; exact h3)
            have hz5 : w.heap.size ≤ X5.heap.size := HOX.out.e.bel.size
            have hnb : (n2 : Int) < 4 := by omega
            have hnz : (0 : Int) ≤ (n2 : Int) := by omega
            have HBX : Hid (Below X5.heap.size X5 (X5.alloc (.cells #[.int .i64 id] 3)).drew) := hidb ((below_new X5 _).drew)
            have HA2 : Hid ((X5.alloc (.cells #[.int .i64 id] 3)).drew.cell? ⟨gb, n2, none⟩ = some (.slice qg (got n2).length cg) ∧ (X5.alloc (.cells #[.int .i64 id] 3)).drew.cell? ⟨sb, 3, none⟩ = some (.int .i64 id)) := hidb ⟨(HBX.out.cell (p := ⟨gb, n2, none⟩) hgl).trans HCG.out, (HBX.out.cell (p := ⟨sb, 3, none⟩) hsl).trans HH3.out⟩
            have HNW : Hid (∀ (j : Nat) (u : Value), [Value.int .i64 id][j]? = some u → (X5.alloc (.cells #[.int .i64 id] 3)).drew.cell? ((⟨X5.heap.size, 0, none⟩ : Addr).add j) = some u) := hidb (World.news_of_block (at_new X5 _))
            have HZ5 : Hid (w.heap.size ≤ (X5.alloc (.cells #[.int .i64 id] 3)).drew.heap.size) := hidb (Nat.le_trans hz5 HBX.out.size)
            clear hgv
            have g1 := HCG.out
            have g2 := HH3.out
            obtain ⟨g3, g4⟩ := HA2.out
            have g5 := (HOX.out.g.c n2 hm4).trans (congrArg some HGV.out)
            go_region_law (first
              | (refine step_app rfl (.tmp 91) (.tmp 94) 22 rfl w.heap.size IT i0 (.int .i64 0) 1 8 Tryz.underlying22 hi hz0 hz1 hz2 rfl (by decide) (.slice qg (got n2).length cg) (got n2).length (ivs (got n2)) rfl (row_but HOW.out (But.of_below (S := fun _ => False) HBX.out) (fun _ _ h => h)) ⟨X5.heap.size, 0, none⟩ 1 1 [.int .i64 id] rfl rfl HNW.out (by simp [Value.oneCell']) z1 z2 HZ5.out ?_; intro v' w6 hown hgrow hat; rw [← HGV.out] at hgrow hat; obtain ⟨m0, m0f⟩ := HOX.out.g.spot hm4 HBX.out hgrow; have m1 := (((But.of_below (S := fun k => (gv n2).ownBlock = some k) HBX.out).trans (grown_but hgrow)).cell (p := ⟨sb, 3, none⟩) hsl (fun e => HNF.out _ (.inr ⟨n2, hm4, e⟩) rfl)).trans h3; have HO7 := hidb (HOX.out.pgot hm4 HBX.out hgrow hown hat); have HL7 := hidb (HLW.out.took hm4 HRE.out HO7.out); rw [HGV.out] at m0; obtain ⟨a6, c6, rfl⟩ := own_sl hown; clear hown hgrow hat))
            all_goals go_wp2_with fail
            all_goals
              go_roundw
              case rel => exact ⟨m + 1, _, _, _, _, _, _, _, _, by omega, by go_num, HL7.out⟩
              case measure => simp [RowKit.intOf]; omega
          · go_wp2_with (first
              | (go_at_call 8; rw [HWW.out]; refine TI.out.mono ?_; rintro e w5 ⟨rfl, f5, ho5⟩; have HO5 := hidb ho5; clear ho5))
            obtain ⟨X5, hX5⟩ : ∃ X, w5.alloc (.cells #[.int .i64 (n2 : Int), .int .i64 (toN n2), .int .i64 3, .int .i64 id, .int .i64 0, .bool false, .string ⟨#[]⟩, .int .i64 0, .int .i64 0, .float .f64 0, .string ⟨#[]⟩, .slice none 0 0] 34) = X := ⟨_, rfl⟩
            have HOX := HO5.out.keep (below_new w5 (.cells #[.int .i64 (n2 : Int), .int .i64 (toN n2), .int .i64 3, .int .i64 id, .int .i64 0, .bool false, .string ⟨#[]⟩, .int .i64 0, .int .i64 0, .float .f64 0, .string ⟨#[]⟩, .slice none 0 0] 34))
            have h3 := (box12 (at_new w5 (.cells #[.int .i64 (n2 : Int), .int .i64 (toN n2), .int .i64 3, .int .i64 id, .int .i64 0, .bool false, .string ⟨#[]⟩, .int .i64 0, .int .i64 0, .float .f64 0, .string ⟨#[]⟩, .slice none 0 0] 34))).2.2.2.1
            rw [hX5] at HOX h3
            rw [hX5]
            have HOX := hidb HOX
            have hsl : w5.heap.size < X5.heap.size := by rw [← hX5]; simp
            have HNF : Hid (∀ q, AF gb gv q → q ≠ w5.heap.size) := hidb (fun q hq e => by have := (HO5.out.g.foot_lt hq).1; omega)
            generalize hsb : w5.heap.size = sb at *
            clear hsb hX5 HO5
            obtain ⟨qg, cg, hgv⟩ := own_sl (HOX.out.g.own n2 hm4)
            have HCG : Hid (X5.drew.cell? ⟨gb, n2, none⟩ = some (.slice qg (got n2).length cg)) := hidb (by rw [cell_drew]; exact (HOX.out.g.c n2 hm4).trans (congrArg some hgv))
            have HFG := hidb (HOX.out.g.fr n2 hm4)
            have HGV := hidb hgv
            have hlp : (0 : Int) < ((got n2).length : Int) + 1 := by omega
            have HOW := HOX.out.g.own n2 hm4
            rw [hgv] at HOW
            have HOW := hidb HOW
            have z1 : (got n2).length + 1 ≤ maxLen := by have := HGL.out; unfold maxLen; omega
            have z2 : ((got n2).length + 1) * 8 ≤ 140737488355328 := by have := HGL.out; omega
            have hgl : gb < X5.heap.size := HOX.out.g.lt
            have hgn : ¬ sb = gb := fun e => HNF.out gb (.inl rfl) e.symm
            have hgn' : ¬ gb = sb := HNF.out gb (.inl rfl)
            have HH3 : Hid (X5.drew.cell? ⟨sb, 3, none⟩ = some (.int .i64 id)) := hidb (by rw [cell_drew]; exact h3)
            have hz5 : w.heap.size ≤ X5.heap.size := HOX.out.e.bel.size
            have hnb : (n2 : Int) < 4 := by omega
            have hnz : (0 : Int) ≤ (n2 : Int) := by omega
            have HBX : Hid (Below X5.heap.size X5 (X5.alloc (.cells #[.int .i64 id] 3)).drew) := hidb ((below_new X5 _).drew)
            have HA2 : Hid ((X5.alloc (.cells #[.int .i64 id] 3)).drew.cell? ⟨gb, n2, none⟩ = some (.slice qg (got n2).length cg) ∧ (X5.alloc (.cells #[.int .i64 id] 3)).drew.cell? ⟨sb, 3, none⟩ = some (.int .i64 id)) := hidb ⟨(HBX.out.cell (p := ⟨gb, n2, none⟩) hgl).trans HCG.out, (HBX.out.cell (p := ⟨sb, 3, none⟩) hsl).trans HH3.out⟩
            have HNW : Hid (∀ (j : Nat) (u : Value), [Value.int .i64 id][j]? = some u → (X5.alloc (.cells #[.int .i64 id] 3)).drew.cell? ((⟨X5.heap.size, 0, none⟩ : Addr).add j) = some u) := hidb (World.news_of_block (at_new X5 _))
            have HZ5 : Hid (w.heap.size ≤ (X5.alloc (.cells #[.int .i64 id] 3)).drew.heap.size) := hidb (Nat.le_trans hz5 HBX.out.size)
            clear hgv
            have g1 := HCG.out
            have g2 := HH3.out
            obtain ⟨g3, g4⟩ := HA2.out
            have g5 := (HOX.out.g.c n2 hm4).trans (congrArg some HGV.out)
            go_region_law (first
              | (refine step_app rfl (.tmp 91) (.tmp 94) 22 rfl w.heap.size IT i0 (.int .i64 0) 1 8 Tryz.underlying22 hi hz0 hz1 hz2 rfl (by decide) (.slice qg (got n2).length cg) (got n2).length (ivs (got n2)) rfl (row_but HOW.out (But.of_below (S := fun _ => False) HBX.out) (fun _ _ h => h)) ⟨X5.heap.size, 0, none⟩ 1 1 [.int .i64 id] rfl rfl HNW.out (by simp [Value.oneCell']) z1 z2 HZ5.out ?_; intro v' w6 hown hgrow hat; rw [← HGV.out] at hgrow hat; obtain ⟨m0, m0f⟩ := HOX.out.g.spot hm4 HBX.out hgrow; have m1 := (((But.of_below (S := fun k => (gv n2).ownBlock = some k) HBX.out).trans (grown_but hgrow)).cell (p := ⟨sb, 3, none⟩) hsl (fun e => HNF.out _ (.inr ⟨n2, hm4, e⟩) rfl)).trans h3; have HO7 := hidb (HOX.out.pgot hm4 HBX.out hgrow hown hat); have HL7 := hidb (HLW.out.took hm4 HRE.out HO7.out); rw [HGV.out] at m0; obtain ⟨a6, c6, rfl⟩ := own_sl hown; clear hown hgrow hat))
            all_goals go_wp2_with fail
            all_goals
              go_roundw
              case rel => exact ⟨m + 1, _, _, _, _, _, _, _, _, by omega, by go_num, HL7.out⟩
              case measure => simp [RowKit.intOf]; omega
      · have hmt1 : (tk.length : Int) ≤ (m : Int) := by omega
        go_wp2_with fail
        go_roundw
        case rel => exact ⟨m + 1, _, _, _, _, _, _, _, _, by omega, by go_num, HL4.out⟩
        case measure => simp [RowKit.intOf]; omega
    · go_wp2_with (first
        | (go_at_call 7; refine (HPT.out _ HL.out.o.e).mono ?_; rintro e w3 ⟨rfl, mv', l, hE3, hx3, hk3, hb3, hm3, hf3⟩; have HO3 := hidb (HL.out.o.putted hn4 hE3 hx3 hk3 hb3 hm3 hf3); obtain ⟨qp, cp, hpv⟩ := own_sl (HO3.out.p.own n hn4); have y0 := (HO3.out.p.c n hn4).trans (congrArg some hpv); have y1 := HO3.out.p.fr n hn4; have HPV := hidb hpv; have HOW := HO3.out.p.own n hn4; rw [hpv] at HOW; have HOW := hidb HOW; clear hpv; clear hE3 hx3 hk3 hb3 hm3 hf3)
        | (at_builtin; refine wpList_append_own_at _ rfl _ _ 22 rfl w.heap.size IT i0 (.int .i64 0) 1 8 Tryz.underlying22 hi hz0 hz1 hz2 rfl (by decide) (.slice qp (put n).length cp) (put n).length (ivs (put n)) rfl ?e1 ⟨w3.heap.size, 0, none⟩ 1 1 [.int .i64 ((m : Int) + 1)] rfl rfl (cell_one_new _ _ _) ?e2 ?e3 ?e4 ?e5 ?_))
      case e1 => exact HOW.out.alloc _
      case e2 => intro u hu; simp at hu; subst hu; rfl
      case e3 => have := HL.out.len n hn4; have := H5.out; unfold maxLen; omega
      case e4 => have := HL.out.len n hn4; have := H5.out; omega
      case e5 => have := HO3.out.e.bel.size; simp; omega
      intro v' w4 hown' hgrow hnil hat
      rw [← HPV.out] at hgrow hat
      obtain ⟨y2, y3⟩ := HO3.out.p.spot hn4 (below_new w3 _) hgrow
      have HO4 := hidb (HO3.out.pput hn4 (below_new w3 _) hgrow hown' (by simpa using hat))
      obtain ⟨a', c', rfl⟩ := own_sl hown'
      have HL4 := hidb (HL.out.next hn4 HO4.out)
      clear hown' hgrow hnil hat y0 y1 HO3 HOW HO4 HL HPV HPT
      by_cases hmt : m < tk.length
      · have hmt1 : ¬ (tk.length : Int) ≤ (m : Int) := by omega
        have hmt2 : (m : Int) < (tk.length : Int) := by omega
        have hx2 : tk[m]? = some tk[m] := List.getElem?_eq_getElem hmt
        obtain ⟨b2, o2, rfl, hc2⟩ := HCT.out m _ hx2
        have k2 := (HL4.out.o.e.bel.cell (World.block_lt_of_cell? w _ hc2)).trans hc2
        generalize tk[m] = x2 at *
        clear hx2 hc2
        obtain ⟨y', n2, hm4, hxy2, hor2⟩ := lane_of x2
        obtain ⟨r2, hnr2, hrt2⟩ := toN_of n2
        obtain ⟨WW, hWW⟩ : ∃ W, w4.setCell ⟨pb, n, none⟩ (Value.slice a' ((put n).length + 1) c') = W := ⟨_, rfl⟩
        have HLW := HL4.out
        rw [hWW] at HLW
        have HLW := hidb HLW
        have HWW := hidb hWW
        clear hWW
        generalize updV put n (put n ++ [(m : Int) + 1]) = put1 at *
        generalize updV rem n (rem n ++ [(m : Int) + 1]) = rem1 at *
        generalize updV pv n (Value.slice a' ((put n).length + 1) c') = pv1 at *
        have wn : wfi (n2 : Int) := wfi_of (by omega) (by omega)
        have wt : wfi (toN n2) := wfi_of (by have := toN_le n2; omega) (by have := toN_le n2; omega)
        cases hre : rem1 n2 with
        | nil =>
          have TN := hidb (take_none wn wt HLW.out.o.e (HLW.out.o.li.no n2 hm4 hre))
          obtain ⟨qg, cg, hgv⟩ := own_sl (HLW.out.o.g.own n2 hm4)
          have y4 := (HLW.out.o.g.c n2 hm4).trans (congrArg some hgv)
          have hgl := HLW.out.o.g.lt
          have HY4 := hidb y4
          clear hgv hre wn wt
          rcases hor2 with ⟨hy2, hyn2⟩ | ⟨hy2, hyn2, hyn2'⟩
          · subst hyn2
            go_wp2_with (go_at_call 8; rw [HWW.out]; refine TN.out.mono ?_; rintro e w5 ⟨rfl, hb5⟩; have HL5 := hidb (HLW.out.keep hb5); have y5 := (hb5.cell (p := ⟨gb, n2, none⟩) hgl).trans HY4.out; have hgl5 : gb < w5.heap.size := Nat.lt_of_lt_of_le hgl hb5.size; have hgn : ¬ w5.heap.size = gb := (by omega); clear hb5)
            all_goals
              go_roundw
              case rel => exact ⟨m + 1, _, _, _, _, _, _, _, _, by omega, by go_num, HL5.out.keep (below_new w5 _)⟩
              case measure => simp [RowKit.intOf]; omega
          · go_wp2_with (go_at_call 8; rw [HWW.out]; refine TN.out.mono ?_; rintro e w5 ⟨rfl, hb5⟩; have HL5 := hidb (HLW.out.keep hb5); have y5 := (hb5.cell (p := ⟨gb, n2, none⟩) hgl).trans HY4.out; have hgl5 : gb < w5.heap.size := Nat.lt_of_lt_of_le hgl hb5.size; have hgn : ¬ w5.heap.size = gb := (by omega); clear hb5)
            all_goals
              go_roundw
              case rel => exact ⟨m + 1, _, _, _, _, _, _, _, _, by omega, by go_num, HL5.out.keep (below_new w5 _)⟩
              case measure => simp [RowKit.intOf]; omega
        | cons id r =>
          have TI := hidb (take_id POH.out HLW.out hm4 hre (by have := H5.out; omega))
          have hid0 : (id == 0) = false := by have := HLW.out.pos n2 hm4 id (by rw [hre]; simp); simp; omega
          have hid1 : (id != 0) = true := by have := HLW.out.pos n2 hm4 id (by rw [hre]; simp); simp; omega
          have HGL : Hid ((got n2).length ≤ 1000) := hidb (by have h1 := HLW.out.len n2 hm4; rw [HLW.out.eq n2 hm4] at h1; have := H5.out; simp at h1; omega)
          have HRE := hidb hre
          clear hre wn wt
          rcases hor2 with ⟨hy2, hyn2⟩ | ⟨hy2, hyn2, hyn2'⟩
          · subst hyn2
            go_wp2_with (first
              | (go_at_call 8; rw [HWW.out]; refine TI.out.mono ?_; rintro e w5 ⟨rfl, f5, ho5⟩; have HO5 := hidb ho5; clear ho5))
            obtain ⟨X5, hX5⟩ : ∃ X, w5.alloc (.cells #[.int .i64 (n2 : Int), .int .i64 (toN n2), .int .i64 3, .int .i64 id, .int .i64 0, .bool false, .string ⟨#[]⟩, .int .i64 0, .int .i64 0, .float .f64 0, .string ⟨#[]⟩, .slice none 0 0] 34) = X := ⟨_, rfl⟩
            have HOX := HO5.out.keep (below_new w5 (.cells #[.int .i64 (n2 : Int), .int .i64 (toN n2), .int .i64 3, .int .i64 id, .int .i64 0, .bool false, .string ⟨#[]⟩, .int .i64 0, .int .i64 0, .float .f64 0, .string ⟨#[]⟩, .slice none 0 0] 34))
            have h3 := (box12 (at_new w5 (.cells #[.int .i64 (n2 : Int), .int .i64 (toN n2), .int .i64 3, .int .i64 id, .int .i64 0, .bool false, .string ⟨#[]⟩, .int .i64 0, .int .i64 0, .float .f64 0, .string ⟨#[]⟩, .slice none 0 0] 34))).2.2.2.1
            rw [hX5] at HOX h3
            rw [hX5]
            have HOX := hidb HOX
            have hsl : w5.heap.size < X5.heap.size := by rw [← hX5]; simp
            have HNF : Hid (∀ q, AF gb gv q → q ≠ w5.heap.size) := hidb (fun q hq e => by have := (HO5.out.g.foot_lt hq).1; omega)
            generalize hsb : w5.heap.size = sb at *
            clear hsb hX5 HO5
            obtain ⟨qg, cg, hgv⟩ := own_sl (HOX.out.g.own n2 hm4)
            have HCG : Hid (X5.drew.cell? ⟨gb, n2, none⟩ = some (.slice qg (got n2).length cg)) := hidb (by rw [cell_drew]; exact (HOX.out.g.c n2 hm4).trans (congrArg some hgv))
            have HFG := hidb (HOX.out.g.fr n2 hm4)
            have HGV := hidb hgv
            have hlp : (0 : Int) < ((got n2).length : Int) + 1 := by omega
            have HOW := HOX.out.g.own n2 hm4
            rw [hgv] at HOW
            have HOW := hidb HOW
            have z1 : (got n2).length + 1 ≤ maxLen := by have := HGL.out; unfold maxLen; omega
            have z2 : ((got n2).length + 1) * 8 ≤ 140737488355328 := by have := HGL.out; omega
            have hgl : gb < X5.heap.size := HOX.out.g.lt
            have hgn : ¬ sb = gb := fun e => HNF.out gb (.inl rfl) e.symm
            have hgn' : ¬ gb = sb := HNF.out gb (.inl rfl)
            have HH3 : Hid (X5.drew.cell? ⟨sb, 3, none⟩ = some (.int .i64 id)) := hidb (by rw [cell_drew]; exact h3)
            have hz5 : w.heap.size ≤ X5.heap.size := HOX.out.e.bel.size
            have hnb : (n2 : Int) < 4 := by omega
            have hnz : (0 : Int) ≤ (n2 : Int) := by omega
            have HBX : Hid (Below X5.heap.size X5 (X5.alloc (.cells #[.int .i64 id] 3)).drew) := hidb ((below_new X5 _).drew)
            have HA2 : Hid ((X5.alloc (.cells #[.int .i64 id] 3)).drew.cell? ⟨gb, n2, none⟩ = some (.slice qg (got n2).length cg) ∧ (X5.alloc (.cells #[.int .i64 id] 3)).drew.cell? ⟨sb, 3, none⟩ = some (.int .i64 id)) := hidb ⟨(HBX.out.cell (p := ⟨gb, n2, none⟩) hgl).trans HCG.out, (HBX.out.cell (p := ⟨sb, 3, none⟩) hsl).trans HH3.out⟩
            have HNW : Hid (∀ (j : Nat) (u : Value), [Value.int .i64 id][j]? = some u → (X5.alloc (.cells #[.int .i64 id] 3)).drew.cell? ((⟨X5.heap.size, 0, none⟩ : Addr).add j) = some u) := hidb (World.news_of_block (at_new X5 _))
            have HZ5 : Hid (w.heap.size ≤ (X5.alloc (.cells #[.int .i64 id] 3)).drew.heap.size) := hidb (Nat.le_trans hz5 HBX.out.size)
            clear hgv
            have g1 := HCG.out
            have g2 := HH3.out
            obtain ⟨g3, g4⟩ := HA2.out
            have g5 := (HOX.out.g.c n2 hm4).trans (congrArg some HGV.out)
            go_region_law (first
              | (refine step_app rfl (.tmp 91) (.tmp 94) 22 rfl w.heap.size IT i0 (.int .i64 0) 1 8 Tryz.underlying22 hi hz0 hz1 hz2 rfl (by decide) (.slice qg (got n2).length cg) (got n2).length (ivs (got n2)) rfl (row_but HOW.out (But.of_below (S := fun _ => False) HBX.out) (fun _ _ h => h)) ⟨X5.heap.size, 0, none⟩ 1 1 [.int .i64 id] rfl rfl HNW.out (by simp [Value.oneCell']) z1 z2 HZ5.out ?_; intro v' w6 hown hgrow hat; rw [← HGV.out] at hgrow hat; obtain ⟨m0, m0f⟩ := HOX.out.g.spot hm4 HBX.out hgrow; have m1 := (((But.of_below (S := fun k => (gv n2).ownBlock = some k) HBX.out).trans (grown_but hgrow)).cell (p := ⟨sb, 3, none⟩) hsl (fun e => HNF.out _ (.inr ⟨n2, hm4, e⟩) rfl)).trans h3; have HO7 := hidb (HOX.out.pgot hm4 HBX.out hgrow hown hat); have HL7 := hidb (HLW.out.took hm4 HRE.out HO7.out); rw [HGV.out] at m0; obtain ⟨a6, c6, rfl⟩ := own_sl hown; clear hown hgrow hat))
            all_goals go_wp2_with fail
            all_goals
              go_roundw
              case rel => exact ⟨m + 1, _, _, _, _, _, _, _, _, by omega, by go_num, HL7.out⟩
              case measure => simp [RowKit.intOf]; omega
          · go_wp2_with (first
              | (go_at_call 8; rw [HWW.out]; refine TI.out.mono ?_; rintro e w5 ⟨rfl, f5, ho5⟩; have HO5 := hidb ho5; clear ho5))
            obtain ⟨X5, hX5⟩ : ∃ X, w5.alloc (.cells #[.int .i64 (n2 : Int), .int .i64 (toN n2), .int .i64 3, .int .i64 id, .int .i64 0, .bool false, .string ⟨#[]⟩, .int .i64 0, .int .i64 0, .float .f64 0, .string ⟨#[]⟩, .slice none 0 0] 34) = X := ⟨_, rfl⟩
            have HOX := HO5.out.keep (below_new w5 (.cells #[.int .i64 (n2 : Int), .int .i64 (toN n2), .int .i64 3, .int .i64 id, .int .i64 0, .bool false, .string ⟨#[]⟩, .int .i64 0, .int .i64 0, .float .f64 0, .string ⟨#[]⟩, .slice none 0 0] 34))
            have h3 := (box12 (at_new w5 (.cells #[.int .i64 (n2 : Int), .int .i64 (toN n2), .int .i64 3, .int .i64 id, .int .i64 0, .bool false, .string ⟨#[]⟩, .int .i64 0, .int .i64 0, .float .f64 0, .string ⟨#[]⟩, .slice none 0 0] 34))).2.2.2.1
            rw [hX5] at HOX h3
            rw [hX5]
            have HOX := hidb HOX
            have hsl : w5.heap.size < X5.heap.size := by rw [← hX5]; simp
            have HNF : Hid (∀ q, AF gb gv q → q ≠ w5.heap.size) := hidb (fun q hq e => by have := (HO5.out.g.foot_lt hq).1; omega)
            generalize hsb : w5.heap.size = sb at *
            clear hsb hX5 HO5
            obtain ⟨qg, cg, hgv⟩ := own_sl (HOX.out.g.own n2 hm4)
            have HCG : Hid (X5.drew.cell? ⟨gb, n2, none⟩ = some (.slice qg (got n2).length cg)) := hidb (by rw [cell_drew]; exact (HOX.out.g.c n2 hm4).trans (congrArg some hgv))
            have HFG := hidb (HOX.out.g.fr n2 hm4)
            have HGV := hidb hgv
            have hlp : (0 : Int) < ((got n2).length : Int) + 1 := by omega
            have HOW := HOX.out.g.own n2 hm4
            rw [hgv] at HOW
            have HOW := hidb HOW
            have z1 : (got n2).length + 1 ≤ maxLen := by have := HGL.out; unfold maxLen; omega
            have z2 : ((got n2).length + 1) * 8 ≤ 140737488355328 := by have := HGL.out; omega
            have hgl : gb < X5.heap.size := HOX.out.g.lt
            have hgn : ¬ sb = gb := fun e => HNF.out gb (.inl rfl) e.symm
            have hgn' : ¬ gb = sb := HNF.out gb (.inl rfl)
            have HH3 : Hid (X5.drew.cell? ⟨sb, 3, none⟩ = some (.int .i64 id)) := hidb (by rw [cell_drew]; exact h3)
            have hz5 : w.heap.size ≤ X5.heap.size := HOX.out.e.bel.size
            have hnb : (n2 : Int) < 4 := by omega
            have hnz : (0 : Int) ≤ (n2 : Int) := by omega
            have HBX : Hid (Below X5.heap.size X5 (X5.alloc (.cells #[.int .i64 id] 3)).drew) := hidb ((below_new X5 _).drew)
            have HA2 : Hid ((X5.alloc (.cells #[.int .i64 id] 3)).drew.cell? ⟨gb, n2, none⟩ = some (.slice qg (got n2).length cg) ∧ (X5.alloc (.cells #[.int .i64 id] 3)).drew.cell? ⟨sb, 3, none⟩ = some (.int .i64 id)) := hidb ⟨(HBX.out.cell (p := ⟨gb, n2, none⟩) hgl).trans HCG.out, (HBX.out.cell (p := ⟨sb, 3, none⟩) hsl).trans HH3.out⟩
            have HNW : Hid (∀ (j : Nat) (u : Value), [Value.int .i64 id][j]? = some u → (X5.alloc (.cells #[.int .i64 id] 3)).drew.cell? ((⟨X5.heap.size, 0, none⟩ : Addr).add j) = some u) := hidb (World.news_of_block (at_new X5 _))
            have HZ5 : Hid (w.heap.size ≤ (X5.alloc (.cells #[.int .i64 id] 3)).drew.heap.size) := hidb (Nat.le_trans hz5 HBX.out.size)
            clear hgv
            have g1 := HCG.out
            have g2 := HH3.out
            obtain ⟨g3, g4⟩ := HA2.out
            have g5 := (HOX.out.g.c n2 hm4).trans (congrArg some HGV.out)
            go_region_law (first
              | (refine step_app rfl (.tmp 91) (.tmp 94) 22 rfl w.heap.size IT i0 (.int .i64 0) 1 8 Tryz.underlying22 hi hz0 hz1 hz2 rfl (by decide) (.slice qg (got n2).length cg) (got n2).length (ivs (got n2)) rfl (row_but HOW.out (But.of_below (S := fun _ => False) HBX.out) (fun _ _ h => h)) ⟨X5.heap.size, 0, none⟩ 1 1 [.int .i64 id] rfl rfl HNW.out (by simp [Value.oneCell']) z1 z2 HZ5.out ?_; intro v' w6 hown hgrow hat; rw [← HGV.out] at hgrow hat; obtain ⟨m0, m0f⟩ := HOX.out.g.spot hm4 HBX.out hgrow; have m1 := (((But.of_below (S := fun k => (gv n2).ownBlock = some k) HBX.out).trans (grown_but hgrow)).cell (p := ⟨sb, 3, none⟩) hsl (fun e => HNF.out _ (.inr ⟨n2, hm4, e⟩) rfl)).trans h3; have HO7 := hidb (HOX.out.pgot hm4 HBX.out hgrow hown hat); have HL7 := hidb (HLW.out.took hm4 HRE.out HO7.out); rw [HGV.out] at m0; obtain ⟨a6, c6, rfl⟩ := own_sl hown; clear hown hgrow hat))
            all_goals go_wp2_with fail
            all_goals
              go_roundw
              case rel => exact ⟨m + 1, _, _, _, _, _, _, _, _, by omega, by go_num, HL7.out⟩
              case measure => simp [RowKit.intOf]; omega
      · have hmt1 : (tk.length : Int) ≤ (m : Int) := by omega
        go_wp2_with fail
        go_roundw
        case rel => exact ⟨m + 1, _, _, _, _, _, _, _, _, by omega, by go_num, HL4.out⟩
        case measure => simp [RowKit.intOf]; omega
  have hmn : ¬ (m : Int) < (fr.length : Int) := by omega
  obtain rfl : m = fr.length := by omega
  have LA := hidb (lanes_any (sig := fun a _ => rsg rem a.toNat) HL.out.o.e (by have := HL.out.N; have := H5.out; omega) HL.out.o.li.sig HL.out.o.li.few)
  have hC0 : Hid (wr.heap.size = wr.heap.size) := hidb rfl
  go_wp2_with (first
    | (go_at_call 9; refine LA.out.mono ?_; rintro e w3 ⟨tv, rfl, ks, rs, hlk, hrs, htd, hb3⟩; have HLK := hidb hlk; have HRS := hidb hrs; have HTD := hidb htd; have HB3 := hidb hb3; obtain ⟨ql, cl, rfl⟩ := own_sl htd.1; clear hlk hrs htd hb3))
  have HG : Hid (GI w w3 w3 wr.heap.size eb pb gb mv f N pv gv ks put got got rem 0 0) := hidb ⟨HL.out.o.keep HB3.out, But.refl _ _, fun q hq => .inl (HL.out.o.g.foot_lt hq).1, fun n hn => by simp, by omega⟩
  have HC0 : Hid (wr.heap.size ≤ w3.heap.size) := hidb HB3.out.size
  have HEQ := hidb HL.out.eq
  have HLN := hidb HL.out.len
  have HLI := hidb HL.out.o.li
  have HTR : Hid (tot rem ≤ 400) := hidb (by have := HL.out.t; have := H5.out; omega)
  generalize hC0' : wr.heap.size = C0 at *
  have hrl : rs.length ≤ 12 := by have h1 := HL.out.o.li.few ks HLK.out; rw [← HRS.out] at h1; simpa using h1
  clear hC0' HB3 LA HL hmw hC0
  go_loopw [14, 15] (fun lv iv wq => ∃ (j lf : Nat) (gv' : Nat → Value) (got' : Nat → List Int), j ≤ rs.length ∧ lv = .int .i64 lf ∧ iv = .int .i64 j ∧ GI w w3 wq C0 eb pb gb mv f N pv gv' ks put got got' rem j lf) (fun _ iv _ => rs.length - (RowKit.intOf iv).toNat)
  case atStart => exact ⟨0, 0, _, _, by omega, rfl, rfl, HG.out⟩
  case round =>
  obtain ⟨j, lf, gv', got', hj, rfl, rfl, hG⟩ := hrel
  have HG := hidb hG
  clear hG
  have hjw : IntKind.i64.wrap ((j : Int) + 1) = (j : Int) + 1 := by rw [IntKind.wrap_i64]; omega
  by_cases hjl : j < rs.length
  · have hjb : (j : Int) < (rs.length : Int) := by omega
    have hjz : (0 : Int) ≤ (j : Int) := by omega
    obtain ⟨n, v, hn4, hrj, hkj⟩ := lane_at HLI.out HLK.out HRS.out hjl
    obtain ⟨g, rfl⟩ : ∃ g, ql = some ⟨g, 0, none⟩ := by
      rcases HTD.out.1.2 with ⟨_, h0⟩ | ⟨g, cap, cur, hv, _⟩
      · omega
      · exact ⟨g, by simpa using (Value.slice.inj hv).1⟩
    obtain ⟨e0, e2⟩ := lvs_at hrj
    have hgl := row_lt HTD.out.1 g rfl
    have hov : w3.ownsRow C0 ST 12 v (rsg rem n).length (sgls (rsg rem n)) := HTD.out.2.2 _ (List.mem_of_getElem? hrj)
    rw [show (rsg rem n).length = (rem n).length by simp [rsg]] at hov
    obtain ⟨qs, cs, rfl⟩ := own_sl hov
    have c30 : w3.cell? ⟨g, j * 3, none⟩ = some (.int .i64 (n : Int)) := (HTD.out.1.cellAt _ (by omega)).trans e0
    have c32 : w3.cell? ⟨g, j * 3 + 2, none⟩ = some (.slice qs (rem n).length cs) := (HTD.out.1.cellAt _ (by omega)).trans e2
    have HC30 := hidb c30
    have HC32 := hidb c32
    have HGL := hidb hgl
    have HOV := hidb hov
    have HNJ := hidb (HG.out.into hn4 HLK.out.1 hkj)
    have HKJ := hidb hkj
    have HLE : Hid (lf ≤ 400) := hidb (Nat.le_trans (HG.out.le HEQ.out) HTR.out)
    have hrn : (rem n).length ≤ 400 := by have h1 := HTR.out; unfold tot at h1; obtain rfl | rfl | rfl | rfl : n = 0 ∨ n = 1 ∨ n = 2 ∨ n = 3 := by omega
                                          all_goals omega
    clear c30 c32 e0 e2 hgl hov hrj hkj
    go_wp2_with fail
    go_loopw [14, 16] (fun lv iv wz => ∃ (k : Nat) (gz : Nat → Value), k ≤ (rem n).length ∧ lv = .int .i64 ((lf + k : Nat) : Int) ∧ iv = .int .i64 k ∧ GJ w w3 wz C0 eb pb gb mv f N pv gz put got got' rem n k) (fun _ iv _ => (rem n).length - (RowKit.intOf iv).toNat)
    case atStart => exact ⟨0, gv', by omega, by simp, rfl, HNJ.out⟩
    case round =>
    obtain ⟨k, gz, hk, rfl, rfl, hJ⟩ := hrel
    have HJ := hidb hJ
    clear hJ
    have hkw : IntKind.i64.wrap ((k : Int) + 1) = (k : Int) + 1 := by rw [IntKind.wrap_i64]; omega
    have hlw : IntKind.i64.wrap (((lf + k : Nat) : Int) + 1) = ((lf + (k + 1) : Nat) : Int) := by have := HLE.out; rw [IntKind.wrap_i64]; omega
    have hlw' : IntKind.i64.wrap ((lf : Int) + (k : Int) + 1) = ((lf + (k + 1) : Nat) : Int) := by have := HLE.out; rw [IntKind.wrap_i64]; omega
    have hgne : ¬ g < C0 := by have := HGL.out.2; omega
    have z0 := (HJ.out.b.cell (p := ⟨g, j * 3, none⟩) HGL.out.1 hgne).trans HC30.out
    have z2 := (HJ.out.b.cell (p := ⟨g, j * 3 + 2, none⟩) HGL.out.1 hgne).trans HC32.out
    by_cases hkl : k < (rem n).length
    · have hkb : (k : Int) < ((rem n).length : Int) := by omega
      have hkz : (0 : Int) ≤ (k : Int) := by omega
      obtain ⟨id, hid⟩ : ∃ id, (rem n)[k]? = some id := ⟨_, List.getElem?_eq_getElem hkl⟩
      obtain ⟨gs, rfl⟩ : ∃ gs, qs = some ⟨gs, 0, none⟩ := by
        rcases HOV.out.2 with ⟨_, h0⟩ | ⟨g, cap, cur, hv, _⟩
        · omega
        · exact ⟨g, by simpa using (Value.slice.inj hv).1⟩
      have hsl := row_lt HOV.out gs rfl
      have hgsn : ¬ gs < C0 := by omega
      have zs0 : (sgls (rsg rem n))[k * 12 + 3]? = some (.int .i64 id) := (sgls_at (ss := rsg rem n) (i := k) (s := sg n id) (by simp [rsg, hid]) 3 (by omega)).trans rfl
      have zi := (HJ.out.b.cell (p := ⟨gs, k * 12 + 3, none⟩) hsl.1 hgsn).trans ((HOV.out.cellAt _ (by omega)).trans zs0)
      have how := HJ.out.o.g.own n hn4
      rw [updV_same] at how
      obtain ⟨qg, cg, hgv⟩ := own_sl how
      have HGV := hidb hgv
      rw [hgv] at how
      have HOW := hidb how
      have zg := (HJ.out.o.g.c n hn4).trans (congrArg some hgv)
      have hgb := HJ.out.o.g.lt
      have hl1 : (got n ++ (rem n).take k).length ≤ 1000 := by have h1 := HLN.out n hn4; rw [HEQ.out n hn4] at h1; simp at h1 ⊢; have := H5.out; omega
      generalize hGK : got n ++ (rem n).take k = GK at *
      have HGK := hidb hGK
      have HID := hidb hid
      have z1 : GK.length + 1 ≤ maxLen := by unfold maxLen; omega
      have z3 : (GK.length + 1) * 8 ≤ 140737488355328 := by omega
      have hnb : (n : Int) < 4 := by omega
      have hnz : (0 : Int) ≤ (n : Int) := by omega
      have HBX : Hid (Below wr.heap.size wr (wr.alloc (.cells #[.int .i64 id] 3)).drew) := hidb ((below_new wr _).drew)
      have HZ5 : Hid (w.heap.size ≤ (wr.alloc (.cells #[.int .i64 id] 3)).drew.heap.size) := hidb (Nat.le_trans HJ.out.o.e.bel.size HBX.out.size)
      have HNW : Hid (∀ (q : Nat) (u : Value), [Value.int .i64 id][q]? = some u → (wr.alloc (.cells #[.int .i64 id] 3)).drew.cell? ((⟨wr.heap.size, 0, none⟩ : Addr).add q) = some u) := hidb (World.news_of_block (at_new wr _))
      have gl : g < wr.heap.size := Nat.lt_of_lt_of_le HGL.out.1 HJ.out.b.size
      have sl : gs < wr.heap.size := Nat.lt_of_lt_of_le hsl.1 HJ.out.b.size
      have HS1 : Hid (wr.drew.cell? ⟨g, j * 3, none⟩ = some (.int .i64 (n : Int)) ∧ wr.drew.cell? ⟨g, j * 3 + 2, none⟩ = some (.slice (some ⟨gs, 0, none⟩) (rem n).length cs) ∧ wr.drew.cell? ⟨gs, k * 12 + 3, none⟩ = some (.int .i64 id)) := hidb ⟨by rw [cell_drew]; exact z0, by rw [cell_drew]; exact z2, by rw [cell_drew]; exact zi⟩
      have HS2 : Hid ((wr.alloc (.cells #[.int .i64 id] 3)).drew.cell? ⟨g, j * 3, none⟩ = some (.int .i64 (n : Int)) ∧ (wr.alloc (.cells #[.int .i64 id] 3)).drew.cell? ⟨g, j * 3 + 2, none⟩ = some (.slice (some ⟨gs, 0, none⟩) (rem n).length cs) ∧ (wr.alloc (.cells #[.int .i64 id] 3)).drew.cell? ⟨gs, k * 12 + 3, none⟩ = some (.int .i64 id)) := hidb ⟨(HBX.out.cell (p := ⟨g, j * 3, none⟩) gl).trans z0, (HBX.out.cell (p := ⟨g, j * 3 + 2, none⟩) gl).trans z2, (HBX.out.cell (p := ⟨gs, k * 12 + 3, none⟩) sl).trans zi⟩
      have zg1 : wr.drew.cell? ⟨gb, n, none⟩ = some (.slice qg GK.length cg) := by rw [cell_drew]; exact zg
      have zg2 : (wr.alloc (.cells #[.int .i64 id] 3)).drew.cell? ⟨gb, n, none⟩ = some (.slice qg GK.length cg) := (HBX.out.cell (p := ⟨gb, n, none⟩) hgb).trans zg
      have HAF : Hid (∀ q, (q = g ∨ q = gs) → ¬ AF gb gz q) := hidb (fun q hq ha => by
        have h1 := HJ.out.far q ha
        have h2 := HGL.out
        rcases hq with rfl | rfl <;> omega)
      have hgg : ¬ gb = g := fun e => HAF.out g (.inl rfl) (.inl e.symm)
      have hgs : ¬ gb = gs := fun e => HAF.out gs (.inr rfl) (.inl e.symm)
      clear hgv how hid hGK zs0 hsl
      go_wp2_with fail
      refine wp_region_D (fun w' => w'.cell? ⟨g, j * 3, none⟩ = some (.int .i64 (n : Int)) ∧ w'.cell? ⟨g, j * 3 + 2, none⟩ = some (.slice (some ⟨gs, 0, none⟩) (rem n).length cs) ∧ w'.cell? ⟨gs, k * 12 + 3, none⟩ = some (.int .i64 id) ∧ w'.cell? ⟨gb, n, none⟩ = some (.slice qg GK.length cg)) [24] (by kernel_rfl) ?_
      have HSA : Hid (wr.drew.cell? ⟨g, j * 3, none⟩ = some (.int .i64 (n : Int)) ∧ wr.drew.cell? ⟨g, j * 3 + 2, none⟩ = some (.slice (some ⟨gs, 0, none⟩) (rem n).length cs) ∧ wr.drew.cell? ⟨gs, k * 12 + 3, none⟩ = some (.int .i64 id) ∧ wr.drew.cell? ⟨gb, n, none⟩ = some (.slice qg GK.length cg)) := hidb ⟨HS1.out.1, HS1.out.2.1, HS1.out.2.2, zg1⟩
      refine wpAnyD_takeL (i := 0) (v := ?vv0) rfl (by kernel_rfl) (by kernel_rfl) (by kernel_rfl) (by kernel_rfl) (fun _ _ _ h => h) HSA.out rfl ?hy0 ?_
      case hy0 => intro wy hSw; obtain ⟨y0, y1, y2, y3⟩ := hSw; go_simp; try with_reducible rfl
      simp only [Act.put, List.setIfInBounds_toArray, List.set_cons_zero, List.set_cons_succ]
      refine wpAnyD_takeL (i := 1) (v := ?vv1) rfl (by kernel_rfl) (by kernel_rfl) (by kernel_rfl) (by kernel_rfl) (fun _ _ _ h => h) HSA.out rfl ?hy1 ?_
      case hy1 => intro wy hSw; obtain ⟨y0, y1, y2, y3⟩ := hSw; go_simp; try with_reducible rfl
      simp only [Act.put, List.setIfInBounds_toArray, List.set_cons_zero, List.set_cons_succ]
      refine wpAnyD_takeL (i := 2) (v := ?vv2) rfl (by kernel_rfl) (by kernel_rfl) (by kernel_rfl) (by kernel_rfl) (fun _ _ _ h => h) HSA.out rfl ?hy2 ?_
      case hy2 => intro wy hSw; obtain ⟨y0, y1, y2, y3⟩ := hSw; go_simp; try with_reducible rfl
      simp only [Act.put, List.setIfInBounds_toArray, List.set_cons_zero, List.set_cons_succ]
      refine wpAnyD_takeL (i := 3) (v := ?vv3) rfl (by kernel_rfl) (by kernel_rfl) (by kernel_rfl) (by kernel_rfl) (fun _ _ _ h => h) HSA.out rfl ?hy3 ?_
      case hy3 => intro wy hSw; obtain ⟨y0, y1, y2, y3⟩ := hSw; go_simp; try with_reducible rfl
      simp only [Act.put, List.setIfInBounds_toArray, List.set_cons_zero, List.set_cons_succ]
      refine wpAnyD_takeL (i := 4) (v := ?vv4) rfl (by kernel_rfl) (by kernel_rfl) (by kernel_rfl) (by kernel_rfl) (fun _ _ _ h => h) HSA.out rfl ?hy4 ?_
      case hy4 => intro wy hSw; obtain ⟨y0, y1, y2, y3⟩ := hSw; go_simp; try with_reducible rfl
      simp only [Act.put, List.setIfInBounds_toArray, List.set_cons_zero, List.set_cons_succ]
      refine wpAnyD_takeL (i := 5) (v := ?vv5) rfl (by kernel_rfl) (by kernel_rfl) (by kernel_rfl) (by kernel_rfl) (fun _ _ _ h => h) HSA.out rfl ?hy5 ?_
      case hy5 => intro wy hSw; obtain ⟨y0, y1, y2, y3⟩ := hSw; go_simp; try with_reducible rfl
      simp only [Act.put, List.setIfInBounds_toArray, List.set_cons_zero, List.set_cons_succ]
      refine wpAnyD_takeL (i := 6) (v := ?vv6) rfl (by kernel_rfl) (by kernel_rfl) (by kernel_rfl) (by kernel_rfl) (fun _ _ _ h => h) HSA.out rfl ?hy6 ?_
      case hy6 => intro wy hSw; obtain ⟨y0, y1, y2, y3⟩ := hSw; go_simp; try with_reducible rfl
      simp only [Act.put, List.setIfInBounds_toArray, List.set_cons_zero, List.set_cons_succ]
      refine wpAnyD_takeL (i := 7) (v := ?vv7) rfl (by kernel_rfl) (by kernel_rfl) (by kernel_rfl) (by kernel_rfl) (fun _ _ _ h => h) HSA.out rfl ?hy7 ?_
      case hy7 => intro wy hSw; obtain ⟨y0, y1, y2, y3⟩ := hSw; go_simp; try with_reducible rfl
      simp only [Act.put, List.setIfInBounds_toArray, List.set_cons_zero, List.set_cons_succ]
      refine wpAnyD_takeL (i := 8) (v := ?vv8) rfl (by kernel_rfl) (by kernel_rfl) (by kernel_rfl) (by kernel_rfl) (fun _ _ _ h => h) HSA.out rfl ?hy8 ?_
      case hy8 => intro wy hSw; obtain ⟨y0, y1, y2, y3⟩ := hSw; go_simp; try with_reducible rfl
      simp only [Act.put, List.setIfInBounds_toArray, List.set_cons_zero, List.set_cons_succ]
      refine wpAnyD_takeL (i := 9) (v := ?vv9) rfl (by kernel_rfl) (by kernel_rfl) (by kernel_rfl) (by kernel_rfl) (fun _ _ _ h => h) HSA.out rfl ?hy9 ?_
      case hy9 => intro wy hSw; obtain ⟨y0, y1, y2, y3⟩ := hSw; go_simp; try with_reducible rfl
      simp only [Act.put, List.setIfInBounds_toArray, List.set_cons_zero, List.set_cons_succ]
      refine wpAnyD_takeL (i := 10) (v := ?vv10) rfl (by kernel_rfl) (by kernel_rfl) (by kernel_rfl) (by kernel_rfl) (fun _ _ _ h => h) HSA.out rfl ?hy10 ?_
      case hy10 => intro wy hSw; obtain ⟨y0, y1, y2, y3⟩ := hSw; go_simp; try with_reducible rfl
      simp only [Act.put, List.setIfInBounds_toArray, List.set_cons_zero, List.set_cons_succ]
      refine wpAnyD_takeL (i := 11) (v := ?vv11) rfl (by kernel_rfl) (by kernel_rfl) (by kernel_rfl) (by kernel_rfl) (fun _ _ _ h => h) HSA.out rfl ?hy11 ?_
      case hy11 => intro wy hSw; obtain ⟨y0, y1, y2, y3⟩ := hSw; go_simp; try with_reducible rfl
      simp only [Act.put, List.setIfInBounds_toArray, List.set_cons_zero, List.set_cons_succ]
      refine wpAnyD_takeL (i := 12) (v := ?vv12) rfl (by kernel_rfl) (by kernel_rfl) (by kernel_rfl) (by kernel_rfl) (fun _ _ _ h => h) HSA.out rfl ?hy12 ?_
      case hy12 => intro wy hSw; obtain ⟨y0, y1, y2, y3⟩ := hSw; go_simp; try with_reducible rfl
      simp only [Act.put, List.setIfInBounds_toArray, List.set_cons_zero, List.set_cons_succ]
      refine wpAnyD_takeL (i := 13) (v := ?vv13) rfl (by kernel_rfl) (by kernel_rfl) (by kernel_rfl) (by kernel_rfl) (fun _ _ _ h => h) HSA.out rfl ?hy13 ?_
      case hy13 => intro wy hSw; obtain ⟨y0, y1, y2, y3⟩ := hSw; go_simp; try with_reducible rfl
      simp only [Act.put, List.setIfInBounds_toArray, List.set_cons_zero, List.set_cons_succ]
      refine wpAnyD_takeL (i := 14) (v := ?vv14) rfl (by kernel_rfl) (by kernel_rfl) (by kernel_rfl) (by kernel_rfl) (fun _ _ _ h => h) HSA.out rfl ?hy14 ?_
      case hy14 => intro wy hSw; obtain ⟨y0, y1, y2, y3⟩ := hSw; go_simp; try with_reducible rfl
      simp only [Act.put, List.setIfInBounds_toArray, List.set_cons_zero, List.set_cons_succ]
      refine wpAnyD_takeL (i := 15) (v := ?vv15) rfl (by kernel_rfl) (by kernel_rfl) (by kernel_rfl) (by kernel_rfl) (fun _ _ _ h => h) HSA.out rfl ?hy15 ?_
      case hy15 => intro wy hSw; obtain ⟨y0, y1, y2, y3⟩ := hSw; go_simp; try with_reducible rfl
      simp only [Act.put, List.setIfInBounds_toArray, List.set_cons_zero, List.set_cons_succ]
      refine wpAnyD_takeL (i := 16) (v := ?vv16) rfl (by kernel_rfl) (by kernel_rfl) (by kernel_rfl) (by kernel_rfl) (fun _ _ _ h => h) HSA.out rfl ?hy16 ?_
      case hy16 => intro wy hSw; obtain ⟨y0, y1, y2, y3⟩ := hSw; go_simp; try with_reducible rfl
      simp only [Act.put, List.setIfInBounds_toArray, List.set_cons_zero, List.set_cons_succ]
      refine wpAnyD_takeL (i := 17) (v := ?vv17) rfl (by kernel_rfl) (by kernel_rfl) (by kernel_rfl) (by kernel_rfl) (fun _ _ _ h => h) HSA.out rfl ?hy17 ?_
      case hy17 => intro wy hSw; obtain ⟨y0, y1, y2, y3⟩ := hSw; go_simp; try with_reducible rfl
      simp only [Act.put, List.setIfInBounds_toArray, List.set_cons_zero, List.set_cons_succ]
      refine wpAnyD_takeL (i := 18) (v := ?vv18) rfl (by kernel_rfl) (by kernel_rfl) (by kernel_rfl) (by kernel_rfl) (fun _ _ _ h => h) HSA.out rfl ?hy18 ?_
      case hy18 => intro wy hSw; obtain ⟨y0, y1, y2, y3⟩ := hSw; go_simp; try with_reducible rfl
      simp only [Act.put, List.setIfInBounds_toArray, List.set_cons_zero, List.set_cons_succ]
      refine wpAnyD_takeL (i := 19) (v := ?vv19) rfl (by kernel_rfl) (by kernel_rfl) (by kernel_rfl) (by kernel_rfl) (fun _ _ _ h => h) HSA.out rfl ?hy19 ?_
      case hy19 => intro wy hSw; obtain ⟨y0, y1, y2, y3⟩ := hSw; go_simp; try with_reducible rfl
      simp only [Act.put, List.setIfInBounds_toArray, List.set_cons_zero, List.set_cons_succ]
      refine wpAnyD_takeL (i := 20) (v := ?vv20) rfl (by kernel_rfl) (by kernel_rfl) (by kernel_rfl) (by kernel_rfl) (fun _ _ _ h => h) HSA.out rfl ?hy20 ?_
      case hy20 => intro wy hSw; obtain ⟨y0, y1, y2, y3⟩ := hSw; go_simp; try with_reducible rfl
      simp only [Act.put, List.setIfInBounds_toArray, List.set_cons_zero, List.set_cons_succ]
      refine wpAnyD_stepL (i := 21) (by kernel_rfl) rfl (fun K hK => ?_)
      go_simp
      refine hK _ _ (fun _ => ⟨HS2.out.1, HS2.out.2.1, HS2.out.2.2, zg2⟩) ?_
      clear hK K
      refine wpAnyD_stepL (i := 22) (by kernel_rfl) rfl (fun K hK => ?_)
      refine step_app rfl (.tmp 138) (.tmp 148) 22 rfl w.heap.size IT i0 (.int .i64 0) 1 8 Tryz.underlying22 hi hz0 hz1 hz2 rfl (by decide) (.slice qg GK.length cg) GK.length (ivs GK) rfl (row_but HOW.out (But.of_below (S := fun _ => False) HBX.out) (fun _ _ h => h)) ⟨wr.heap.size, 0, none⟩ 1 1 [.int .i64 id] rfl rfl HNW.out (by simp [Value.oneCell']) z1 z3 HZ5.out ?_
      intro v' w6 hown hgrow hat
      rw [← HGV.out] at hgrow hat
      obtain ⟨m0, m0f⟩ := HJ.out.o.g.spot hn4 HBX.out hgrow
      have hbt := ((But.of_below (S := fun q => (gz n).ownBlock = some q) HBX.out).trans (grown_but hgrow))
      have p0 := (hbt.cell (p := ⟨g, j * 3, none⟩) gl (fun e => HAF.out g (.inl rfl) (.inr ⟨n, hn4, e⟩))).trans z0
      have p2 := (hbt.cell (p := ⟨g, j * 3 + 2, none⟩) gl (fun e => HAF.out g (.inl rfl) (.inr ⟨n, hn4, e⟩))).trans z2
      have p3 := (hbt.cell (p := ⟨gs, k * 12 + 3, none⟩) sl (fun e => HAF.out gs (.inr rfl) (.inr ⟨n, hn4, e⟩))).trans zi
      have HJ7 := hidb (HJ.out.more hn4 HID.out HBX.out hgrow (by rw [HGK.out]; exact hown) hat)
      rw [HGV.out] at m0
      obtain ⟨a6, c6, rfl⟩ := own_sl hown
      refine hK _ _ (fun _ => ⟨p0, p2, p3, m0⟩) ?_
      clear hK K hown hgrow hat hbt
      simp only [Act.put, List.setIfInBounds_toArray, List.set_cons_zero, List.set_cons_succ]
      refine wpAnyD_stepL (i := 23) (by kernel_rfl) rfl (fun K hK => ?_)
      go_simp
      refine hK _ _ (fun _ => ⟨p0, p2, p3, m0⟩) ?_
      clear hK K
      refine wpAnyD_stepL (i := 24) (by kernel_rfl) rfl (fun K hK => ?_)
      go_simp
      refine hK _ _ (fun h => absurd (List.mem_singleton.2 rfl) h) ?_
      clear hK K
      refine wpAnyD_done (by kernel_rfl) ?_ _
      go_wp2_with fail
      exact ⟨⟨k + 1, _, by omega, congrArg (Value.int IntKind.i64) (by omega), congrArg (Value.int IntKind.i64) (by omega), HJ7.out⟩, by simp [RowKit.intOf]; omega⟩
    · have hkn : ¬ (k : Int) < ((rem n).length : Int) := by omega
      obtain rfl : k = (rem n).length := by omega
      have HGN := hidb (HJ.out.done HG.out hn4 HLK.out.1 HKJ.out HEQ.out)
      go_wp2_with fail
      go_roundw
      case rel => exact ⟨j + 1, lf + (rem n).length, _, _, by omega, rfl, by go_num, HGN.out⟩
      case measure => simp [RowKit.intOf]; omega
  have hjn : ¬ (j : Int) < (rs.length : Int) := by omega
  obtain rfl : j = rs.length := by omega
  have hkr : ks.length = rs.length := by rw [← HRS.out]; simp
  have HGA := HG.out
  rw [← hkr] at HGA
  obtain ⟨hall, rfl⟩ := HGA.all HLK.out HEQ.out
  have HALL := hidb hall
  have HO := hidb HG.out.o
  clear hall HGA hkr HG
  go_wp2_with fail
  go_loopw [17] (fun iv wq => ∃ (i : Nat), i ≤ 4 ∧ iv = .int .i64 i ∧ OI w wq eb pb gb mv f N pv gv' put got' rem) (fun iv _ => 4 - (RowKit.intOf iv).toNat)
  case atStart => exact ⟨0, by omega, rfl, HO.out⟩
  case round =>
  obtain ⟨i, hi4, rfl, hO⟩ := hrel
  have HO := hidb hO
  clear hO
  have hiw : IntKind.i64.wrap ((i : Int) + 1) = (i : Int) + 1 := by rw [IntKind.wrap_i64]; omega
  by_cases hil : i < 4
  · have hib : (i : Int) < 4 := by omega
    have hiz : (0 : Int) ≤ (i : Int) := by omega
    obtain ⟨qp, cp, hpv⟩ := own_sl (HO.out.p.own i hil)
    obtain ⟨qg, cg, hgv⟩ := own_sl (HO.out.g.own i hil)
    have yp := (HO.out.p.c i hil).trans (congrArg some hpv)
    have yg := (HO.out.g.c i hil).trans (congrArg some hgv)
    have IP := IR.of_own (HO.out.p.own i hil)
    have IG := IR.of_own (HO.out.g.own i hil)
    rw [hpv] at IP
    rw [hgv] at IG
    have e := HALL.out i hil
    rw [e] at yg IG
    have hpl : (put i).length ≤ 1000000 := by have := HLN.out i hil; have := H5.out; omega
    have IS := hidb (ints_same (IG.keep ((Below.refl _ _).drew)) (IP.keep ((Below.refl _ _).drew)) hpl)
    have HYD : Hid (wr.drew.cell? ⟨gb, i, none⟩ = some (.slice qg (put i).length cg) ∧ wr.drew.cell? ⟨pb, i, none⟩ = some (.slice qp (put i).length cp)) := hidb ⟨by rw [cell_drew]; exact yg, by rw [cell_drew]; exact yp⟩
    have hgb := HO.out.g.lt
    have hpb := HO.out.p.lt
    clear hpv hgv IP IG e hpl
    go_wp2_with fail
    go_region_held3 (fun w' => w'.cell? ⟨gb, i, none⟩ = some (.slice qg (put i).length cg) ∧ w'.cell? ⟨pb, i, none⟩ = some (.slice qp (put i).length cp)) (first | with_reducible exact HYD.out | with_reducible exact ⟨x0, x1⟩ | go_keep) (first
      | (go_at_call 10; refine IS.out.mono ?_; rintro e w4 ⟨rfl, hb4⟩; have HO4 := hidb (HO.out.keep (undrew hb4)); have x0 := (hb4.cell (p := ⟨gb, i, none⟩) hgb).trans HYD.out.1; have x1 := (hb4.cell (p := ⟨pb, i, none⟩) hpb).trans HYD.out.2; clear hb4))
    go_wp2_with fail
    go_roundw
    case rel => exact ⟨i + 1, by omega, by go_num, HO4.out⟩
    case measure => simp [RowKit.intOf]; omega
  · have hin : ¬ (i : Int) < 4 := by omega
    obtain rfl : i = 4 := by omega
    have AL := hidb (all_any HO.out.e)
    go_wp2_with (first
      | (go_at_call 11; refine AL.out.mono ?_; rintro e w4 ⟨rfl, rfl⟩))
    go_ret
    refine ⟨by simp, HO.out.e.bel⟩
end Go.Proofs.YtapjnnbcphpokaaGreat
