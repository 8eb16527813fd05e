/- Lanes. -/
import Derived.Test.YtodelafnboimnaaGreatEg4
namespace Go.Proofs.YtodelafnboimnaaGreat
open Go.RowKit Go.Lib Go.Maps
attribute [local go_sem] store_float f64bits
attribute [local go_sem ↓] Go.wp_at_zero Go.wp_at_succ

variable {w0 w : World} {eb all N : Nat} {mv : Value} {f : Int → Int → Option Lane}
abbrev NT : Nat := 46

theorem keysP (w : World) (mb : Option Nat) : Calls Tryz.prog KF #[.map mb] w fun e w' => e = .returned (.func (.func K1) #[] #[.pointer (some ⟨w.heap.size, 0, none⟩)]) ∧ w' = w.alloc (.cells #[.map mb] MT) := callsIn_wide.1 (keys_in Fence.wide 0 trivial rfl mb w)

/-- The rows of lanes that are told. -/
def lvs (rs : List (Int × Int × Value)) : List Value := rs.flatMap fun r => [.int .i64 r.1, .int .i64 r.2.1, r.2.2]
theorem lvs_append (a b : List (Int × Int × Value)) : lvs (a ++ b) = lvs a ++ lvs b := by simp [lvs]

theorem kvs_at {ks : List (Int × Int)} {m : Nat} {x : Int × Int} (h : ks[m]? = some x) : (kvs ks)[m * 2]? = some (.int .i64 x.1) ∧ (kvs ks)[m * 2 + 1]? = some (.int .i64 x.2) := by
  obtain ⟨hl, he⟩ := List.getElem?_eq_some_iff.1 h
  have e : ks = ks.take m ++ x :: ks.drop (m + 1) := by rw [← he, ← List.drop_eq_getElem_cons hl, List.take_append_drop]
  have hk : kvs ks = kvs (ks.take m) ++ (.int .i64 x.1 :: .int .i64 x.2 :: kvs (ks.drop (m + 1))) := by
    conv => lhs; rw [e]
    rw [kvs_append]; rfl
  have hn : (kvs (ks.take m)).length = m * 2 := by rw [kvs_length]; simp; omega
  rw [hk]
  constructor
  · rw [List.getElem?_append_right (by omega), show m * 2 - (kvs (ks.take m)).length = 0 by omega]; rfl
  · rw [List.getElem?_append_right (by omega), show m * 2 + 1 - (kvs (ks.take m)).length = 1 by omega]; rfl

/-- Signals of a lane, as whole numbers. -/
def Sig (f : Int → Int → Option Lane) (sig : Int → Int → List (Int × Int × Int × Int)) : Prop := ∀ a b l, f a b = some l → l.xs = sgls (sig a b) ∧ l.k = (sig a b).length

def Told (C : Nat) (w : World) (sig : Int → Int → List (Int × Int × Int × Int)) (tv : Value) (n : Nat) (rs : List (Int × Int × Value)) : Prop :=
  w.ownsRow C NT 3 tv n (lvs rs) ∧ rs.length = n ∧ ∀ r, r ∈ rs → w.ownsRow C ST 12 r.2.2 (sig r.1 r.2.1).length (sgls (sig r.1 r.2.1))

abbrev Ent (f : Nat) : Prop := ∀ args w, (callFunc f args).run Tryz.prog w = .ok (.enter f args) w
theorem run_call {f : Nat} (ent : Ent f) {o : Oper} {a : Act} {w : World} (xs : Array Operand) (ts : Array TypeId) (hop : o.op = Op.call { callee := .value (.func f), args := xs, argTypes := ts }) (vs : Array Value) (hx' : xs.toList.map a.eval = vs.toList) :
    (execOp a.eval o).run Tryz.prog w = .ok (.enter f vs) w := by
  have hx : xs.map a.eval = vs := by apply Array.ext'; simpa using hx'
  unfold execOp
  rw [hop]
  have hf : a.eval (.func f) = ({ tmps := #[], defers := [] } : Act).eval (.func f) := rfl
  have ent2 := ent vs w
  simp only [resolve, hx, hf]
  go_simp
theorem ent_ownAll : Ent 27 := by
  intro args w
  kernel_rfl
theorem step_ownAll {rb : Nat} {ops : Array Oper} {o : Oper} {a : Act} {w : World} {K : Act → World → Prop} {Q : Exit → Act → World → Prop} {E : Prop} (hg : o.guard = none) (hrun : (execOp a.eval o).run Tryz.prog w = .ok (.enter 27 #[.pointer (some ⟨rb, 0, none⟩)]) w)
    {R : Value → World → Prop} (hc : Calls Tryz.prog 27 #[.pointer (some ⟨rb, 0, none⟩)] w fun e w' => ∃ v, e = .returned v ∧ R v w') (h : ∀ v w', R v w' → K (a.put o.dst v) w') :
    if Region.wanted o (yielded ops a.tmps) = true then Oper.wp Tryz.prog o a w K Q else E := by
  have hw : Region.wanted o (yielded ops a.tmps) = true := by simp [Region.wanted, hg]
  rw [if_pos hw]
  unfold Oper.wp
  rw [hrun, Oper.upon_enter]
  refine hc.mono fun e w'' hh => ?_
  obtain ⟨v, rfl, hr⟩ := hh
  exact h v w'' hr
theorem infoN : ∃ i0, Tryz.prog.info? NT = some i0 ∧ i0.zero = some (.agg #[.int .i64 0, .int .i64 0, .slice none 0 0]) ∧ i0.size = 3 ∧ i0.bytes = 40 := info_parts (show (Tryz.prog.info? NT).map (fun i => (i.zero, i.size, i.bytes)) = some (some (.agg #[.int .i64 0, .int .i64 0, .slice none 0 0]), 3, 40) by kernel_rfl)
theorem row_ne {w : World} {C C' e e' size size' n n' : Nat} {V V' : Value} {xs xs' : List Value} (h : w.ownsRow C e size V n xs) (h' : w.ownsRow C' e' size' V' n' xs') (hne : e ≠ e') : ∀ k, V.ownBlock = some k → ¬ V'.ownBlock = some k := by
  intro k hk hk'
  rcases h.2 with ⟨rfl, _⟩ | ⟨g, cap, cur, rfl, _, hg, _⟩
  · simp [Value.ownBlock] at hk
  rcases h'.2 with ⟨rfl, _⟩ | ⟨g', cap', cur', rfl, _, hg', _⟩
  · simp [Value.ownBlock] at hk'
  simp [Value.ownBlock] at hk hk'
  subst hk hk'
  rw [hg] at hg'
  simp at hg'
  exact hne hg'.2

/-- One more lane is told. -/
theorem told_more {C : Nat} {sig : Int → Int → List (Int × Int × Int × Int)} {wr X w5 w6 : World} {tv tv' v : Value} {m : Nat} {rs : List (Int × Int × Value)} {xa xb : Int} {o : Obj} (h : Told C wr sig tv m rs) (hX : Below wr.heap.size wr X) (hC : C ≤ wr.heap.size) (h5 : Below X.heap.size X w5) (hv : w5.ownsRow X.heap.size ST 12 v (sig xa xb).length (sgls (sig xa xb))) (hg : (w5.alloc o).grownBy w6 tv.ownBlock) (hown : w6.ownsRow C NT 3 tv' (m + 1) (lvs rs ++ [.int .i64 xa, .int .i64 xb, v])) :
    Told C w6 sig tv' (m + 1) (rs ++ [(xa, xb, v)]) ∧ Below wr.heap.size wr (w5.alloc o) ∧ But (fun k => tv.ownBlock = some k) (w5.alloc o) w6 := by
  have hbw : Below wr.heap.size wr (w5.alloc o) := (hX.trans (h5.mono hX.size)).alloc (Nat.le_trans hX.size h5.size) _
  have ht := row_but h.1 (But.of_below (S := fun _ => False) hbw) (fun _ _ h => h)
  have hbt := grown_but hg
  refine ⟨⟨by rw [lvs_append]; exact hown, by simp [h.2.1], fun r hr => ?_⟩, hbw, hbt⟩
  rcases List.mem_append.1 hr with hr | hr
  · have q := row_but (h.2.2 r hr) (But.of_below (S := fun _ => False) hbw) (fun _ _ h => h)
    exact row_but q hbt (row_ne q ht (by decide))
  · simp at hr
    subst hr
    have q := row_base (hv.alloc o) (show C ≤ X.heap.size from Nat.le_trans hC hX.size)
    exact row_but q hbt (row_ne q ht (by decide))

theorem lane_far {wr w5 : World} {C e size n eb : Nat} {tv x0 x1 x2 : Value} {xs : List Value} {o : Obj} (h : wr.ownsRow C e size tv n xs) (heb : eb < C) (m0 : w5.cell? ⟨wr.heap.size, 0, none⟩ = some x0) (m1 : w5.cell? ⟨wr.heap.size, 1, none⟩ = some x1) (m2 : w5.cell? ⟨eb, 0, none⟩ = some x2) :
    wr.heap.size < (w5.alloc o).heap.size ∧ ¬ tv.ownBlock = some wr.heap.size ∧ ¬ tv.ownBlock = some eb ∧ (w5.alloc o).cell? ⟨wr.heap.size, 0, none⟩ = some x0 ∧ (w5.alloc o).cell? ⟨wr.heap.size, 1, none⟩ = some x1 ∧ eb < (w5.alloc o).heap.size ∧ (w5.alloc o).cell? ⟨eb, 0, none⟩ = some x2 := by
  have l0 := World.block_lt_of_cell? _ _ m0
  have l2 := World.block_lt_of_cell? _ _ m2
  have hb := below_new w5 o
  refine ⟨Nat.lt_of_lt_of_le l0 hb.size, fun e => ?_, fun e => ?_, (hb.cell (p := ⟨wr.heap.size, 0, none⟩) l0).trans m0, (hb.cell (p := ⟨wr.heap.size, 1, none⟩) l0).trans m1, Nat.lt_of_lt_of_le l2 hb.size, (hb.cell l2).trans m2⟩
  · have := (row_lt h _ e).1; omega
  · have := (row_lt h _ e).2; omega

def TL (w w' : World) (f : Int → Int → Option Lane) (sig : Int → Int → List (Int × Int × Int × Int)) (tv : Value) : Prop := ∃ ks rs, LKeys f ks ∧ rs.map (fun r => (r.1, r.2.1)) = ks ∧ Told w.heap.size w' sig tv rs.length rs ∧ Below w.heap.size w w'

set_option maxHeartbeats 2000000 in
set_option maxRecDepth 100000 in
theorem lanes_any {sig : Int → Int → List (Int × Int × Int × Int)} (h : EO w0 w eb mv f all N) (hN : N ≤ 1000000) (hsig : Sig f sig) (h12 : ∀ ks, LKeys f ks → ks.length ≤ 12) :
    Calls Tryz.prog 13 #[.pointer (some ⟨eb, 0, none⟩)] w fun e w' => ∃ tv, e = .returned tv ∧ TL w w' f sig tv := by
  obtain ⟨c0, c1, f0, f1, hlt⟩ := h.duo
  obtain ⟨mm, rfl⟩ : ∃ mm, mv = .map mm := by
    rcases h.map with ⟨e, _⟩ | ⟨mb, _, e, _⟩
    · exact ⟨_, e⟩
    · exact ⟨_, e⟩
  have KP := hidb (keysP w mm)
  have hmp : (Value.map mm = .map none ∧ ∀ a b, f a b = none) ∨ ∃ mb n, Value.map mm = .map (some mb) ∧ EM (w.alloc (.cells #[.map mm] MT)) mb n (fun a b => (f a b).map Lane.rb) ∧ n ≤ N := by
    rcases h.map with e | ⟨mb, n, e, he, hn, _⟩
    · exact .inl e
    · exact .inr ⟨mb, n, e, he.but (But.of_below (S := fun _ => False) (below_new w _)) (fun h => h), hn⟩
  have SA := hidb (sorted_any (w := w.alloc (.cells #[.map mm] MT)) (Bm := w.heap.size) (by simp) (by simp [go_sem]) hN h12 hmp)
  have HE := hidb h
  have HSG := hidb hsig
  have H12 := hidb h12
  clear h hmp h12 hsig
  go_enter Tryz.func13, Tryz.ntmps13
  go_wp2_with (first
    | (go_at_call 25; refine KP.out.mono ?_; rintro e w1 ⟨rfl, rfl⟩)
    | (go_at_call 24; refine SA.out.mono ?_; rintro e w2 ⟨q, c, ks, rfl, hk, ho, hb⟩; have HK := hidb hk; have HO := hidb ho; have HB := hidb (show Below w.heap.size w w2 from (below_new w _).trans (hb.mono (by simp))); have HB2 := hidb hb; clear hk ho hb KP SA))
  have hL12 := H12.out ks HK.out
  generalize hL : ks.length = L at *
  have HL := hidb hL
  clear hL
  have HC : Hid (w.heap.size + 1 ≤ w2.heap.size) := hidb (by have := HB2.out.size; simpa using this)
  clear HB2
  go_loopw [3, 13] (fun tv iv wr => ∃ (m : Nat) (rs : List (Int × Int × Value)), m ≤ L ∧ iv = .int .i64 m ∧ rs.map (fun r => (r.1, r.2.1)) = ks.take m ∧ Told w2.heap.size wr sig tv m rs ∧ Below w2.heap.size w2 wr) (fun _ iv _ => L - (RowKit.intOf iv).toNat)
  case atStart => exact ⟨0, [], by omega, rfl, rfl, ⟨World.ownsRow_nil _ _ _ _, rfl, fun _ h => absurd h (List.not_mem_nil)⟩, Below.refl _ _⟩
  case round =>
  obtain ⟨m, rs, hm, rfl, hrs, htold, hbel⟩ := hrel
  obtain ⟨qt, ct, rfl⟩ := own_sl htold.1
  have HRS := hidb hrs
  have HT := hidb htold
  have HW := hidb hbel
  clear hrs htold hbel
  by_cases hmL : m < L
  · have hmb : (m : Int) < (L : Int) := by omega
    have hmz : (0 : Int) ≤ (m : Int) := by omega
    have hmw : IntKind.i64.wrap ((m : Int) + 1) = (m : Int) + 1 := by rw [IntKind.wrap_i64]; omega
    have hkl := HL.out
    obtain ⟨⟨xa, xb⟩, hx⟩ : ∃ x, ks[m]? = some x := ⟨_, List.getElem?_eq_getElem (by omega)⟩
    obtain ⟨hwa, hwb⟩ := HK.out.2.2 _ (List.mem_of_getElem? hx)
    obtain ⟨l, hl⟩ : ∃ l, f xa xb = some l := Option.isSome_iff_exists.1 ((HK.out.2.1 xa xb hwa hwb).1 (List.mem_of_getElem? hx))
    obtain ⟨mb, rfl⟩ : ∃ mb, mm = some mb := by
      rcases HE.out.map with ⟨_, e⟩ | ⟨mb, _, e, _⟩
      · rw [e] at hl; cases hl
      · exact ⟨mb, by simpa using e⟩
    obtain ⟨g, rfl⟩ : ∃ g, q = some ⟨g, 0, none⟩ := by
      rcases HO.out.2 with ⟨_, h0⟩ | ⟨g, cap, cur, hv, _⟩
      · omega
      · exact ⟨g, by simpa using (Value.slice.inj hv).1⟩
    obtain ⟨e0, e1⟩ := kvs_at hx
    have hgl := (row_lt HO.out g rfl).1
    have k0 : wr.cell? ⟨g, m * 2, none⟩ = some (.int .i64 xa) := (HW.out.cell (p := ⟨g, m * 2, none⟩) hgl).trans ((HO.out.cellAt _ (by omega)).trans e0)
    have k1 : wr.cell? ⟨g, m * 2 + 1, none⟩ = some (.int .i64 xb) := (HW.out.cell (p := ⟨g, m * 2 + 1, none⟩) hgl).trans ((HO.out.cellAt _ (by omega)).trans e1)
    have HBW := hidb (HB.out.trans (HW.out.mono HB.out.size))
    have hbx : Below w.heap.size w (wr.alloc (.cells #[.int .i64 xa, .int .i64 xb] KT)) := HBW.out.trans ((below_new wr _).mono HBW.out.size)
    have HEX := hidb (HE.out.keep hbx)
    obtain ⟨c0, -, -, -, -⟩ := HEX.out.duo
    obtain ⟨s1, s2⟩ := HSG.out xa xb l hl
    have HRW := (HEX.out.lane xa xb l hl).2.2.1
    rw [s1, s2] at HRW
    have hsl : (sig xa xb).length ≤ 1000000 := by
      obtain ⟨_, _, _, _, _, e1, e2⟩ := HRW
      omega
    have OA := hidb (ownAll_any (HRW.keep ((Below.refl _ _).drew)) hN hsl)
    have hlk : (Instr.lookup MT (.map (some mb)) (.agg #[.int .i64 xa, .int .i64 xb]) false).run Tryz.prog (wr.alloc (.cells #[.int .i64 xa, .int .i64 xb] KT)).drew = .ok (.pointer (some ⟨l.rb, 0, none⟩)) (wr.alloc (.cells #[.int .i64 xa, .int .i64 xb] KT)).drew := by
      rcases HEX.out.map with ⟨e, _⟩ | ⟨mb', n', e, he, _⟩
      · cases e
      · obtain rfl : mb = mb' := by simpa using e
        exact EM.look1 (he.but (But.of_below (S := fun _ => False) ((Below.refl _ _).drew)) (fun h => h)) hwa hwb (by simp [hl])
    obtain ⟨i0, hi, hz0, hz1, hz2⟩ := infoN
    have p0 : (wr.alloc (.cells #[.int .i64 xa, .int .i64 xb] KT)).drew.cell? ⟨wr.heap.size, 0, none⟩ = some (.int .i64 xa) := by rw [cell_drew]; simp [go_sem]
    have p1 : (wr.alloc (.cells #[.int .i64 xa, .int .i64 xb] KT)).drew.cell? ⟨wr.heap.size, 1, none⟩ = some (.int .i64 xb) := by rw [cell_drew]; simp [go_sem]
    have HP0 := hidb p0
    have HC0 : Hid ((wr.alloc (.cells #[.int .i64 xa, .int .i64 xb] KT)).drew.cell? ⟨eb, 0, none⟩ = some (.map (some mb))) := hidb c0
    have HEB : Hid (eb < w2.heap.size) := hidb (by have := HC.out; omega)
    have HP1 := hidb p1
    clear p0 p1
    have z1 : m + 1 ≤ maxLen := by unfold maxLen; omega
    have z2 : (m + 1) * 40 ≤ 140737488355328 := by omega
    have HCW : Hid (w2.heap.size ≤ wr.heap.size) := hidb HW.out.size
    have HX := hidb hx
    have HLL := hidb hl
    clear s1 s2 HRW hx hl e0 e1 hbx hkl
    go_wp2_with fail
    go_region_held3 (fun w' => w'.cell? ⟨wr.heap.size, 0, none⟩ = some (.int .i64 xa) ∧ w'.cell? ⟨wr.heap.size, 1, none⟩ = some (.int .i64 xb) ∧ w'.cell? ⟨eb, 0, none⟩ = some (.map (some mb)))
      (first | with_reducible exact ⟨HP0.out, HP1.out, HC0.out⟩ | with_reducible exact ⟨m0, m1, m2⟩ | with_reducible exact ⟨HS0.out.2.2.2.1, HS0.out.2.2.2.2.1, HS0.out.2.2.2.2.2.2⟩ | with_reducible exact ⟨q0, q1, q2⟩ | go_keep) (first
      | (go_at_call 27; refine OA.out.mono ?_; rintro e w5 ⟨v, rfl, ho5, hb5⟩; obtain ⟨a5, c5, rfl⟩ := own_sl ho5; have m0 := (hb5.cell (World.block_lt_of_cell? _ _ HP0.out)).trans HP0.out; have m1 := (hb5.cell (World.block_lt_of_cell? _ _ HP1.out)).trans HP1.out; have m2 := (hb5.cell (World.block_lt_of_cell? _ _ HC0.out)).trans HC0.out; have HO5 := hidb ho5; have HB5 := hidb hb5; have hz5 : w2.heap.size ≤ (w5.alloc (.cells #[.int .i64 xa, .int .i64 xb, .slice a5 (sig xa xb).length c5] NT)).heap.size := (by have := hb5.size; have := HCW.out; simp at this ⊢; simp [World.drew] at *; omega); have HS0 := hidb (lane_far (o := .cells #[.int .i64 xa, .int .i64 xb, .slice a5 (sig xa xb).length c5] NT) HT.out.1 HEB.out m0 m1 m2); clear ho5 hb5)
      | (refine step_app rfl (.tmp 17) (.tmp 30) 42 rfl w2.heap.size NT i0 (.agg #[.int .i64 0, .int .i64 0, .slice none 0 0]) 3 40 Tryz.underlying42 hi hz0 hz1 hz2 rfl (by decide) (.slice qt m ct) m (lvs rs) rfl (row_but HT.out.1 (But.of_below (S := fun _ => False) ((((below_new wr _).drew).trans (HB5.out.mono (by simp))).alloc (by have := HB5.out.size; simp at this ⊢; omega) _)) (fun _ _ h => h)) ⟨w5.heap.size, 0, none⟩ 1 1 [.int .i64 xa, .int .i64 xb, .slice a5 (sig xa xb).length c5] rfl rfl (World.news_of_block (at_new w5 _)) (by simp [Value.oneCell']) z1 z2 hz5 ?_; intro v' w6 hown hgrow hat; obtain ⟨a6, c6, rfl⟩ := own_sl hown; have HTM := hidb (told_more HT.out ((below_new wr _).drew) HCW.out HB5.out HO5.out hgrow hown); have q0 := (HTM.out.2.2.cell (p := ⟨wr.heap.size, 0, none⟩) HS0.out.1 HS0.out.2.1).trans HS0.out.2.2.2.1; have q1 := (HTM.out.2.2.cell (p := ⟨wr.heap.size, 1, none⟩) HS0.out.1 HS0.out.2.1).trans HS0.out.2.2.2.2.1; have q2 := (HTM.out.2.2.cell (p := ⟨eb, 0, none⟩) HS0.out.2.2.2.2.2.1 HS0.out.2.2.1).trans HS0.out.2.2.2.2.2.2; clear hown hgrow hat))
    go_wp2_with fail
    go_roundw
    case rel =>
      refine ⟨m + 1, rs ++ [(xa, xb, .slice a5 (sig xa xb).length c5)], by omega, by go_num, ?_, HTM.out.1, (HW.out.trans (HTM.out.2.1.mono HW.out.size)).trans (HTM.out.2.2.below (Nat.le_trans HW.out.size HTM.out.2.1.size) (fun k e => (row_lt HT.out.1 k e).2))⟩
      rw [List.map_append, HRS.out, List.take_add_one, HX.out]
      rfl
    case measure => simp [RowKit.intOf]; omega
  · have hmn : ¬ (m : Int) < (L : Int) := by omega
    go_wp2_with fail
    go_ret
    obtain rfl : m = L := by omega
    have e := HT.out.2.1
    have hk := HL.out
    refine ⟨_, rfl, ks, rs, HK.out, by rw [HRS.out, ← hk, List.take_length], ⟨?_, rfl, fun r hr => row_base (HT.out.2.2 r hr) (by have := HC.out; omega)⟩, HB.out.trans (HW.out.mono HB.out.size)⟩
    rw [e]
    exact row_base HT.out.1 (by have := HC.out; omega)
end Go.Proofs.YtodelafnboimnaaGreat
