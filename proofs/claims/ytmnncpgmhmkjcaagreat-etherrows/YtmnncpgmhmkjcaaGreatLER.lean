/- EtherRows, but for the example. -/
import Derived.Test.YtmnncpgmhmkjcaaGreatEiN
namespace Go.Proofs.YtmnncpgmhmkjcaaGreat
open Go.RowKit Go.Lib
attribute [local go_sem] store_float f64bits
attribute [local go_sem ↓] Go.wp_at_zero Go.wp_at_succ

/-- What the walk goes by: a queue, and what went in and has not come out. -/
structure QI (w0 w : World) (rb : Nat) (V vi : Value) (inn : List Int) (out : Nat) : Prop where
  q : Rw IT 1 w w0.heap.size rb V (ivs (inn.drop out)) (inn.length - out) inn.length
  i : w.ownsRow w0.heap.size IT 1 vi inn.length (ivs inn)
  le : out ≤ inn.length
  ne : vi.ownBlock ≠ some rb
  nv : ∀ k, vi.ownBlock = some k → V.ownBlock ≠ some k
  ge : w0.heap.size ≤ rb
  bel : Below w0.heap.size w0 w

theorem QI.keep {w0 w w' : World} {rb : Nat} {V vi : Value} {inn : List Int} {out : Nat} (h : QI w0 w rb V vi inn out) (hb : Below w.heap.size w w') : QI w0 w' rb V vi inn out :=
  ⟨h.q.keep hb, row_but h.i (But.of_below (S := fun _ => False) hb) (fun _ _ h => h), h.le, h.ne, h.nv, h.ge, h.bel.trans (hb.mono h.bel.size)⟩

theorem QI.popped {w0 w w' : World} {rb : Nat} {V V' vi : Value} {inn : List Int} {out : Nat} (h : QI w0 w rb V vi inn out) (hlt : out < inn.length) (hq : Rw IT 1 w' w0.heap.size rb V' (ivs (inn.drop (out + 1))) (inn.length - (out + 1)) inn.length)
    (hb : But (fun j => j = rb ∨ V.ownBlock = some j) w w') (hs : Stays w V V') : QI w0 w' rb V' vi inn (out + 1) := by
  refine ⟨hq, row_but h.i hb ?_, hlt, h.ne, ?_, h.ge, h.bel.trans (hb.below h.bel.size ?_)⟩
  · rintro k hk (rfl | e)
    · exact h.ne hk
    · exact h.nv k hk e
  · intro k hk e
    rcases hs with e2 | e2
    · exact h.nv k hk (e2 ▸ e)
    · have := e2 k e; have := (row_lt h.i k hk).1; omega
  · rintro k (rfl | e)
    · exact h.ge
    · exact (h.q.lt.2.2 k e).2

theorem QI.pushed {w0 w w' X w2 : World} {rb : Nat} {V V' vi vi' : Value} {inn : List Int} {out : Nat} {x : Int} (h : QI w0 w rb V vi inn out) (hq : Rw IT 1 w' w0.heap.size rb V' (ivs (inn.drop out) ++ [.int .i64 x]) (inn.length - out + 1) (inn.length + 1))
    (hb : But (fun j => j = rb ∨ V.ownBlock = some j) w w') (hs : Stays w V V') (hX : Below w'.heap.size w' X) (hO : w2.ownsRow w0.heap.size IT 1 vi' (inn.length + 1) (ivs inn ++ [.int .i64 x])) (hG : X.grownBy w2 vi.ownBlock) (hat : vi'.ownBlock = vi.ownBlock ∨ vi'.ownBlock = some X.heap.size) : QI w0 w2 rb V' vi' (inn ++ [x]) out := by
  have hle := h.le
  have hb2 : But (fun k => vi.ownBlock = some k) w' w2 := (But.of_below hX).trans (grown_but hG)
  have hnv : ∀ k, vi.ownBlock = some k → V'.ownBlock ≠ some k := by
    intro k hk e
    rcases hs with e2 | e2
    · exact h.nv k hk (e2 ▸ e)
    · have := e2 k e; have := (row_lt h.i k hk).1; omega
  have hql := hq.lt
  refine ⟨?_, ?_, by simp; omega, ?_, ?_, h.ge, ?_⟩
  · rw [List.drop_append_of_le_length h.le, ivs_append, List.length_append]
    have e1 : inn.length + [x].length - out = inn.length - out + 1 := by simp; omega
    rw [e1]
    exact hq.but hb2 (fun e => h.ne e) (fun k hk e => hnv k e hk)
  · rw [ivs_append, List.length_append]
    exact hO
  · rcases hat with e | e
    · rw [e]; exact h.ne
    · rw [e]; intro e2
      have h3 : X.heap.size = rb := by simpa using e2
      have := hX.size; have := hql.1; omega
  · intro k hk e
    rcases hat with e2 | e2
    · exact hnv k (e2 ▸ hk) e
    · rw [e2] at hk
      have h3 : X.heap.size = k := by simpa using hk
      have := (hql.2.2 k e).1; have := hX.size; omega
  · have b1 : Below w0.heap.size w w' := hb.below h.bel.size (by
      rintro k (rfl | e)
      · exact h.ge
      · exact (h.q.lt.2.2 k e).2)
    exact h.bel.trans (b1.trans (hb2.below (Nat.le_trans h.bel.size hb.size) (fun k hk => (row_lt h.i k hk).2)))

theorem QI.spoil {w0 w : World} {rb : Nat} {V vi : Value} {inn : List Int} {out g j : Nat} (h : QI w0 w rb V vi inn out) (h1 : g ≠ rb) (h2 : V.ownBlock ≠ some g) (h3 : vi.ownBlock ≠ some g) (h4 : w0.heap.size ≤ g) (u : Value) : QI w0 (w.setCell ⟨g, j, none⟩ u) rb V vi inn out := by
  have hb : But (fun k => k = g) w (w.setCell ⟨g, j, none⟩ u) := (But.refl (fun k => k = g) w).setCell (p := ⟨g, j, none⟩) (fun _ => rfl) u
  exact ⟨h.q.but hb (fun e => h1 e.symm) (fun k hk e => h2 (by rw [hk]; exact congrArg some e)), row_but h.i hb (fun k hk e => h3 (by rw [hk]; exact congrArg some e)), h.le, h.ne, h.nv, h.ge, h.bel.setCell h4 u⟩

set_option maxHeartbeats 4000000 in
set_option maxRecDepth 100000 in
theorem etherRows_of (KN0 : ∀ w, Calls Tryz.prog 8 #[] w fun e w' => e = .returned (.bool true) ∧ Below w.heap.size w w') (v : Value) (l : List Int) (w : World) (hin : IR w v l) :
    Calls Tryz.prog 7 #[v] w fun e w' => e = .returned (.bool true) ∧ Below w.heap.size w w' := by
  have KN := hidb KN0
  obtain ⟨q, c, rfl, hc⟩ := hin
  have HC := hidb hc
  clear KN0 hc
  by_cases hbig : 5000 < l.length
  · have h1 : (5000 : Int) < (l.length : Int) := by omega
    clear hbig
    go_enter Tryz.func7, Tryz.ntmps7
    go_wp2_with (go_at_call 8; refine (KN.out _).mono ?_; rintro e w1 ⟨rfl, hb1⟩; have HB1 := hidb hb1; clear hb1)
    go_ret
    exact ⟨rfl, HB1.out⟩
  have h1 : ¬ (5000 : Int) < (l.length : Int) := by omega
  have h5 : l.length ≤ 5000 := by omega
  have H5 := hidb h5
  obtain ⟨i0, hi, hz0, hz1, hz2⟩ := infoI
  clear hbig h5
  go_enter Tryz.func7, Tryz.ntmps7
  go_wp2_with (first
    | (go_at_call 8; refine (KN.out _).mono ?_; rintro e w1 ⟨rfl, hb1⟩; have HB1 := hidb hb1; clear hb1)
    | (go_at_call 32; refine (newI _).mono ?_; rintro e w2 ⟨rfl, rfl⟩))
  have hQ : QI w (w1.alloc (.cells #[.slice none 0 0, .int .i64 0] 97)) w1.heap.size (.slice none 0 0) (.slice none 0 0) [] 0 :=
    ⟨rw_new IT 1 w1 w.heap.size _, World.ownsRow_nil _ _ _ _, Nat.le_refl _, by simp [Value.ownBlock], by simp [Value.ownBlock], HB1.out.size, HB1.out.alloc HB1.out.size _⟩
  have HQ := hidb hQ
  generalize w1.heap.size = rb at *
  clear hQ h1
  go_loopw [4, 5, 6] (fun inv ov iv wr => ∃ (m out : Nat) (inn : List Int) (V : Value), m ≤ l.length ∧ iv = .int .i64 m ∧ ov = .int .i64 out ∧ inn.length ≤ m ∧ QI w wr rb V inv inn out) (fun _ _ iv _ => l.length - (intOf iv).toNat)
  case atStart => exact ⟨0, 0, [], _, by omega, rfl, rfl, by simp, HQ.out⟩
  case round =>
  obtain ⟨m, out, inn, V, hm, rfl, rfl, hil, hq⟩ := hrel
  have HQ := hidb hq
  have hi5 : inn.length ≤ 5000 := by have := H5.out; omega
  have hle := hq.le
  obtain ⟨qi, ci, rfl⟩ := own_sl hq.i
  have hmw : IntKind.i64.wrap ((m : Int) + 1) = (m : Int) + 1 := by rw [IntKind.wrap_i64]; have := H5.out; omega
  have how : IntKind.i64.wrap ((out : Int) + 1) = (out : Int) + 1 := by rw [IntKind.wrap_i64]; omega
  have hsz : IntKind.i64.wrap ((inn.length : Int) - (out : Int)) = ((inn.length - out : Nat) : Int) := by rw [IntKind.wrap_i64]; omega
  have HIL := hidb hil
  have HI5 := hidb hi5
  clear hq
  by_cases hml : m < l.length
  · have hmb : (m : Int) < (l.length : Int) := by omega
    have hmz : (0 : Int) ≤ (m : Int) := by omega
    have hx : l[m]? = some l[m] := List.getElem?_eq_getElem hml
    have hxm : l[m] ∈ l := List.getElem_mem hml
    obtain ⟨b, o, rfl, hc⟩ := HC.out m _ hx
    have k0 := (HQ.out.bel.cell (World.block_lt_of_cell? w _ hc)).trans hc
    have hbl : b < w.heap.size := World.block_lt_of_cell? w _ hc
    generalize l[m] = x at *
    clear hx hc
    by_cases hx1 : x = -1
    · subst hx1
      by_cases hol : out < inn.length
      · have LN := hidb (fun w' V' (hq' : QI w w' rb V' (.slice qi inn.length ci) inn (out + 1)) => lenI_any hq'.q (by omega))
        have hg : inn[out]? = some inn[out] := List.getElem?_eq_getElem hol
        have hd : inn.drop out = inn[out] :: inn.drop (out + 1) := List.drop_eq_getElem_cons hol
        have hqq := HQ.out.q
        rw [hd, show inn.length - out = inn.length - (out + 1) + 1 by omega] at hqq
        have PP := hidb (popI_any (x := inn[out]) hqq HQ.out.bel.size (by omega))
        generalize inn[out] = y at *
        have hob : (out : Int) < (inn.length : Int) := by omega
        have hoz : (0 : Int) ≤ (out : Int) := by omega
        have hsz2 : IntKind.i64.wrap ((inn.length : Int) - ((out : Int) + 1)) = ((inn.length - (out + 1) : Nat) : Int) := by rw [IntKind.wrap_i64]; omega
        have HOL := hidb hol
        obtain ⟨gi, hgi⟩ : ∃ g, qi = some ⟨g, 0, none⟩ := by
          rcases HQ.out.i.2 with ⟨_, h0⟩ | ⟨g, cap, cur, hv, _⟩
          · omega
          · simp at hv; exact ⟨g, hv.1⟩
        subst hgi
        have HY := hidb (fun w' V' (hq' : QI w w' rb V' (.slice (some ⟨gi, 0, none⟩) inn.length ci) inn (out + 1)) => (hq'.i.cellAt out (by omega)).trans (ivs_get hg))
        clear hqq hd hg hol hil hi5 hle
        go_wp2_with (first
          | (go_at_call 33; refine PP.out.mono ?_; rintro e w3 ⟨rfl, V', hr', hb', hs'⟩; have HQ3 := hidb (HQ.out.popped HOL.out hr' hb' hs'); have y0 := HY.out _ _ HQ3.out; clear hr' hb' hs' PP HY)
          | (go_at_call 35; refine (LN.out _ _ HQ3.out).mono ?_; rintro e w4 ⟨rfl, hb4⟩; have HQ4 := hidb (HQ3.out.keep hb4); clear hb4))
        go_roundw
        case rel => exact ⟨m + 1, out + 1, inn, _, by omega, by go_num, by go_num, by have := HIL.out; omega, HQ4.out⟩
        case measure => simp [intOf]; omega
      · obtain rfl : out = inn.length := by omega
        have hqq := HQ.out.q
        rw [show inn.length - inn.length = 0 by omega] at hqq
        have PP := hidb (popI_none hqq (by omega))
        have LN := hidb (fun w' (hq' : QI w w' rb V (.slice qi inn.length ci) inn inn.length) => lenI_any hq'.q (by omega))
        rw [show inn.length - inn.length = 0 by omega] at LN hsz
        clear hqq hol hil hi5 hle
        go_wp2_with (first
          | (go_at_call 33; refine PP.out.mono ?_; rintro e w3 ⟨rfl, hb3⟩; have HQ3 := hidb (HQ.out.keep hb3); clear hb3 PP)
          | (go_at_call 35; refine (LN.out _ HQ3.out).mono ?_; rintro e w4 ⟨rfl, hb4⟩; have HQ4 := hidb (HQ3.out.keep hb4); clear hb4))
        go_roundw
        case rel => exact ⟨m + 1, inn.length, inn, _, by omega, by go_num, rfl, by have := HIL.out; omega, HQ4.out⟩
        case measure => simp [intOf]; omega
    · have hx2 : (x == -1) = false := by simp [hx1]
      have PP := hidb (pushI_any x HQ.out.q HQ.out.bel.size (by omega))
      have LN := hidb (fun w' V' vi' (hq' : QI w w' rb V' vi' (inn ++ [x]) out) => lenI_any hq'.q (by simp; omega))
      rw [show (inn ++ [x]).length - out = inn.length - out + 1 by simp; omega] at LN
      have hsz2 : IntKind.i64.wrap ((inn.length : Int) + 1 - (out : Int)) = ((inn.length - out : Nat) : Int) + 1 := by rw [IntKind.wrap_i64]; omega
      have HQB := hidb HQ.out.bel
      have HK0 := hidb k0
      have HNB : Hid (¬ (b = rb ∨ V.ownBlock = some b)) := hidb (by
        rintro (e | e)
        · have := HQ.out.ge; omega
        · have := (HQ.out.q.lt.2.2 b e).2; omega)
      have HIR := hidb HQ.out.i
      have HNI : Hid (∀ k, (Value.slice qi inn.length ci).ownBlock = some k → ¬ (k = rb ∨ V.ownBlock = some k)) := hidb (by
        rintro k hk (rfl | e)
        · exact HQ.out.ne hk
        · exact HQ.out.nv k hk e)
      clear hx1 hil hi5 hle hsz
      go_wp2_with (first
        | (go_at_call 34; refine PP.out.mono ?_; rintro e w3 ⟨rfl, V', hr', hb', hs'⟩; have HR3 := hidb hr'; have HB3 := hidb hb'; have HS3 := hidb hs'; have y0 := (hb'.cell (p := ⟨b, o + m, none⟩) (Nat.lt_of_lt_of_le hbl HQB.out.size) HNB.out).trans HK0.out; have HI3 := hidb (row_but HIR.out hb' HNI.out); have HSZ := hidb (Nat.le_trans HQB.out.size hb'.size); clear hr' hb' hs' PP)
        | (at_builtin; refine wpList_append_own_at _ rfl _ _ 50 rfl w.heap.size IT i0 (.int .i64 0) 1 8 Tryz.underlying50 hi hz0 hz1 hz2 rfl (by decide) (.slice qi inn.length ci) inn.length (ivs inn) rfl ?e1 ⟨w3.heap.size, 0, none⟩ 1 1 [.int .i64 x] rfl rfl (cell_one_new _ _ _) ?e2 ?e3 ?e4 ?e5 ?_))
      case e1 => exact HI3.out.alloc _
      case e2 => intro u hu; simp at hu; subst hu; rfl
      case e3 => have := HI5.out; unfold maxLen; omega
      case e4 => have := HI5.out; omega
      case e5 => have := HSZ.out; simp; omega
      intro v' w4 hown' hgrow hnil hat
      have HQ4 := hidb (HQ.out.pushed HR3.out HB3.out HS3.out (below_new w3 _) hown' hgrow (by simpa using hat))
      obtain ⟨a', c', rfl⟩ := own_sl hown'
      clear hown' hgrow hnil hat
      go_wp2_with (first
        | (go_at_call 35; refine (LN.out _ _ _ HQ4.out).mono ?_; rintro e w5 ⟨rfl, hb5⟩; have HQ5 := hidb (HQ4.out.keep hb5); clear hb5))
      go_roundw
      case rel => exact ⟨m + 1, out, inn ++ [x], _, by omega, by go_num, rfl, by have := HIL.out; simp; omega, HQ5.out⟩
      case measure => simp [intOf]; omega
  have hmn : ¬ (m : Int) < (l.length : Int) := by omega
  obtain rfl : m = l.length := by omega
  have AL := hidb (fun w' (hq' : QI w w' rb V (.slice qi inn.length ci) inn out) => allI_any hq'.q (by omega))
  obtain ⟨qs, hqs⟩ : ∃ qs, (if ci = out then qi else Option.map (fun x => x.add out) qi) = qs := ⟨_, rfl⟩
  have HCU := hidb (fun w' (hq' : QI w w' rb V (.slice qi inn.length ci) inn out) d => IR.cut hq'.i hq'.le qs hqs d)
  have hoz : (out : Int) ≤ (inn.length : Int) := by omega
  have HDL : Hid ((inn.drop out).length ≤ 1000000) := hidb (by rw [List.length_drop]; omega)
  go_wp2_with (first
    | (go_at_call 36; refine (AL.out _ HQ.out).mono ?_; rintro e w3 ⟨v, rfl, ho, hb3⟩; have HQ3 := hidb (HQ.out.keep hb3); have HO3 := hidb ho; obtain ⟨qa, ca, rfl⟩ := own_sl ho; have HW3 := hidb (Nat.le_trans HQ.out.bel.size (Nat.le_refl wr.heap.size)); clear ho hb3)
    | (go_at_call 25; refine (ints_same (IR.of_own HO3.out) (HCU.out _ HQ3.out _) HDL.out).mono ?_; rintro e w4 ⟨rfl, hb4⟩; have HQ4 := hidb (HQ3.out.keep hb4); have HO4 := hidb (row_but HO3.out (But.of_below (S := fun _ => False) hb4) (fun _ _ h => h)); clear hb4))
  have HGG : Hid (∀ g, qa = some ⟨g, 0, none⟩ → g ≠ rb ∧ V.ownBlock ≠ some g ∧ (Value.slice qi inn.length ci).ownBlock ≠ some g ∧ w.heap.size ≤ g) := hidb (by
    intro g hg
    have h1 := (row_lt HO4.out g (by simp [Value.ownBlock, hg])).2
    have h2 := HQ.out.q.lt
    have h3 := HQ.out.bel.size
    refine ⟨by omega, fun e => ?_, fun e => ?_, by omega⟩
    · have := (h2.2.2 g e).1; omega
    · have := (row_lt HQ.out.i g e).1; omega)
  have HN : Hid (inn.length - out ≤ 5000) := hidb (by omega)
  generalize hwz : wr.heap.size = B0 at *
  generalize hnn : inn.length - out = n at *
  have HNN := hidb hnn
  clear hnn hwz HQ3 HO3 hle hi5 hil hsz how hmw HQ
  go_loopw [10] (fun iv wq => ∃ (j : Nat) (xs : List Value), j ≤ n ∧ iv = .int .i64 j ∧ wq.ownsRow B0 IT 1 (.slice qa n ca) n xs ∧ QI w wq rb V (.slice qi inn.length ci) inn out) (fun iv _ => n - (intOf iv).toNat)
  case atStart => exact ⟨0, _, by omega, rfl, HO4.out, HQ4.out⟩
  case round =>
  obtain ⟨j, xs, hj, rfl, ho, hq⟩ := hrel
  have HO := hidb ho
  have HQ := hidb hq
  clear ho hq HQ4 HO4
  by_cases hjl : j < n
  · have hjb : (j : Int) < (n : Int) := by omega
    have hjz : (0 : Int) ≤ (j : Int) := by omega
    have hjw : IntKind.i64.wrap ((j : Int) + 1) = (j : Int) + 1 := by rw [IntKind.wrap_i64]; have := HN.out; omega
    obtain ⟨g, hg⟩ : ∃ g, qa = some ⟨g, 0, none⟩ := by
      rcases HO.out.2 with ⟨_, h0⟩ | ⟨g, cap, cur, hv, _⟩
      · omega
      · simp at hv; exact ⟨g, hv.1⟩
    subst hg
    obtain ⟨g1, g2, g3, g4⟩ := HGG.out g rfl
    have hxl : j < xs.length := by rw [HO.out.1]; omega
    have hc := HO.out.cellAt j (by omega)
    rw [List.getElem?_eq_getElem hxl] at hc
    have hf := HO.out.frozenAt j
    have HG1 := hidb (And.intro g1 (And.intro g2 (And.intro g3 g4)))
    generalize xs[j] = y at *
    clear g1 g2 g3 g4 hxl
    go_wp2_with fail
    go_roundw
    case rel => exact ⟨j + 1, _, by omega, by go_num, (HO.out.stored j _).1, HQ.out.spoil HG1.out.1 HG1.out.2.1 HG1.out.2.2.1 HG1.out.2.2.2 _⟩
    case measure => simp [intOf]; omega
  have hjn : ¬ (j : Int) < (n : Int) := by omega
  go_wp2_with fail
  have HQD := hidb (HQ.out.keep ((Below.refl _ _).drew))
  have hnn := HNN.out
  go_region_held3 (fun _ => True) (trivial) (first
    | (go_at_call 36; refine (AL.out _ HQD.out).mono ?_; rintro e w3 ⟨v, rfl, ho, hb3⟩; have HQ3 := hidb (HQD.out.keep hb3); have HO3 := hidb ho; obtain ⟨qb, cb, rfl⟩ := own_sl ho; clear ho hb3)
    | (go_at_call 25; refine (ints_same (IR.of_own HO3.out) (HCU.out _ HQ3.out _) HDL.out).mono ?_; rintro e w4 ⟨rfl, hb4⟩; have HQ4 := hidb (HQ3.out.keep hb4); clear hb4))
  go_wp2_with fail
  go_ret
  exact ⟨rfl, HQ4.out.bel⟩
end Go.Proofs.YtmnncpgmhmkjcaaGreat
