import Derived.Test.YtceigdeoefhcfaaGreatG06
/- The tree's other methods. -/
namespace Go.Proofs.YtceigdeoefhcfaaGreat
open Go.RowKit Go.Lib
namespace MV
attribute [local go_sem] store_float f64bits
attribute [local go_sem ↓] Go.wp_at_zero Go.wp_at_succ

set_option maxRecDepth 100000 in
set_option maxHeartbeats 2000000 in
theorem drop_any {w : World} {tb o : Nat} {D : Nat → Prop} {L : List KV} (h : TB w tb o D L) (hN : L.length < 10000000) (key : Int) :
    Calls Tryz.prog 51 #[.pointer (some ⟨tb, o, none⟩), .int .i64 key] w fun e w' => e = .returned (.bool (getL key L).isSome) ∧ TB w' tb o (Nw D w w') (delL key L) ∧ But (fun k => k = tb) w w' ∧ Rst tb o w w' := by
  obtain ⟨p, t, hd, ht, ha, hr, hw, rfl, hD⟩ := h
  have hl := hd.lt
  cases hg : getL key t.ord with
  | none =>
    have HF := hidb (find_any ht hr key)
    rw [hg] at HF
    have HTB : Hid (TB w tb o (Nw D w w) (delL key t.ord)) := hidb (by
      rw [del_of_none hg]
      exact ⟨p, t, hd, ht.mono (fun k hk => .inl hk), ha, hr, hw, rfl, fun h => h.elim hD (fun h => by omega)⟩)
    have k0 := hd.c0
    clear hd ht ha hr hw hN hD hl
    go_enter Tryz.func51, Tryz.ntmps51
    go_wp2_with (go_at_call 48; refine HF.out.mono ?_; clear HF; rintro e w' ⟨rfl, q, rfl, (⟨rfl, -⟩ | ⟨b, v', x0, x1, x2, rfl, hbx, hgg⟩)⟩; rotate_left; exact absurd hgg (by simp))
    go_ret
    exact ⟨rfl, HTB.out, But.refl _ _, Rst.refl _ _ _⟩
  | some v1 =>
    have CW : Hid (Calls Tryz.prog 60 #[.pointer p, .int .i64 key] w fun e w1 => ∃ p', e = .returned (.pointer p') ∧ Pai w1 tb o (.pointer p) (.int .i64 (t.ord.length : Int)) ∧ Hid ((∃ t', IsT w1 (fun k => D k ∨ w.heap.size ≤ k) p' t' ∧ t'.avl ∧ t'.ord = delL key t.ord) ∧ Below w.heap.size w w1)) := by
      refine hidb ((without_any t (D := fun k => D k ∨ w.heap.size ≤ k) (fun k hk => .inr hk) (ht.mono (fun k hk => .inl hk)) ha hr hw (by rw [hg]; rfl) (by omega)).mono ?_)
      rintro e w1 ⟨b', t', rfl, g1, g2, g3, _, _, hb⟩
      exact ⟨b', rfl, hd.keep hb, hidb ⟨⟨t', g1, g2, g3⟩, hb⟩⟩
    have HF := hidb (find_any ht hr key)
    rw [hg] at HF
    have HL := hidb (del_len (key := key) hr (by rw [hg]; rfl))
    have HWI := hidb (wf_del (key := key) hw)
    have HRI := hidb (rise_del (k := key) hr)
    have k0 := hd.c0
    have hwr : wrap64 ((t.ord.length : Int) - 1) = (t.ord.length : Int) - 1 := by unfold wrap64; omega
    have HDD := hidb hD
    have HLT := hidb hl
    clear hd ht ha hr hw hN hD hl
    go_enter Tryz.func51, Tryz.ntmps51
    go_wp2_with (first
      | (go_at_call 48; refine HF.out.mono ?_; clear HF; rintro e w' ⟨rfl, q, rfl, (⟨rfl, hgg⟩ | ⟨b, v', x0, x1, x2, rfl, -, -⟩)⟩; exact absurd hgg (by simp))
      | (go_at_call 60; refine CW.out.mono ?_; clear CW; rintro e w1 ⟨b', rfl, hd1, HT⟩; have m0 := hd1.c0; have m1 := hd1.c1; have m2 := hd1.f0; have m3 := hd1.f1))
    obtain ⟨⟨t', g1, g2, g3⟩, hb⟩ := HT.out
    have hll : (delL key t.ord).length + 1 = t.ord.length := HL.out
    have e5 : ((t.ord.length : Int) - 1) = ((delL key t.ord).length : Int) := by omega
    go_ret
    rw [e5]
    exact ⟨rfl, TB.fin hd1 hb g1 g2 g3 HRI.out HWI.out HDD.out HLT.out⟩

set_option maxHeartbeats 2000000 in
theorem get_any {w : World} {tb o : Nat} {D : Nat → Prop} {L : List KV} (h : TB w tb o D L) (key : Int) :
    Calls Tryz.prog 32 #[.pointer (some ⟨tb, o, none⟩), .int .i64 key] w fun e w' => e = .returned (.tuple #[.agg #[.int .i64 ((getL key L).getD hf0).a, .int .i64 ((getL key L).getD hf0).b, .string ((getL key L).getD hf0).c], .bool (getL key L).isSome]) ∧ Below w.heap.size w w' := by
  obtain ⟨p, t, hd, ht, ha, hr, hw, rfl, hD⟩ := h
  have hb0 := below_new w (.cells #[.int .i64 0, .int .i64 0, .string ⟨#[]⟩] 40)
  have HF := hidb (find_any (ht.keep hb0) hr key)
  have k0 := (hd.keep hb0).c0
  clear hd ht ha hr hw hD hb0
  cases hg : getL key t.ord with
  | none =>
    rw [hg] at HF
    go_enter Tryz.func32, Tryz.ntmps32
    go_wp2_with (go_at_call 48; refine HF.out.mono ?_; clear HF; rintro e w' ⟨rfl, q, rfl, (⟨rfl, -⟩ | ⟨b, v', x0, x1, x2, rfl, hbx, hgg⟩)⟩; rotate_left; exact absurd hgg (by simp))
    exact bodyPost_ret (v := .tuple #[.agg #[.int .i64 0, .int .i64 0, .string ⟨#[]⟩], .bool false]) (by simp [results, Tryz.results32, go_sem]) rfl ⟨rfl, by (repeat (first | exact Below.refl _ _ | assumption | refine Below.drew ?_ | refine below_drewN ?_ _ | refine Below.setCell ?_ (by simp) _ | refine Below.alloc ?_ (by (first | exact Nat.le_refl _ | (simp; done) | (simp; omega) | omega)) _ | refine Below.trans ?_ (Below.mono (by assumption) (by first | exact Nat.le_refl _ | (simp; done) | (simp; omega) | omega))))⟩
  | some v1 =>
    rw [hg] at HF
    go_enter Tryz.func32, Tryz.ntmps32
    go_wp2_with (go_at_call 48; refine HF.out.mono ?_; clear HF; rintro e w' ⟨rfl, q, rfl, (⟨rfl, hgg⟩ | ⟨b, v', x0, x1, x2, rfl, hbx, hgg⟩)⟩; (exact absurd hgg (by simp)); have m4 := hbx.c4; have m5 := hbx.c5; have m6 := hbx.c6; obtain rfl : v1 = v' := (by simpa using hgg))
    exact bodyPost_ret (v := .tuple #[.agg #[.int .i64 v1.a, .int .i64 v1.b, .string v1.c], .bool true]) (by simp [results, Tryz.results32, go_sem]) rfl ⟨rfl, by (repeat (first | exact Below.refl _ _ | assumption | refine Below.drew ?_ | refine below_drewN ?_ _ | refine Below.setCell ?_ (by simp) _ | refine Below.alloc ?_ (by (first | exact Nat.le_refl _ | (simp; done) | (simp; omega) | omega)) _ | refine Below.trans ?_ (Below.mono (by assumption) (by first | exact Nat.le_refl _ | (simp; done) | (simp; omega) | omega))))⟩

set_option maxHeartbeats 1000000 in
theorem len_any {w : World} {tb o : Nat} {D : Nat → Prop} {L : List KV} (h : TB w tb o D L) : Calls Tryz.prog 37 #[.pointer (some ⟨tb, o, none⟩)] w fun e w' => e = .returned (.int .i64 (L.length : Int)) ∧ w' = w := by
  obtain ⟨p, t, hd, -⟩ := h
  have k1 := hd.c1
  clear hd
  go_enter Tryz.func37, Tryz.ntmps37
  go_wp2_with fail
  go_ret
  exact ⟨rfl, rfl⟩

set_option maxHeartbeats 2000000 in
theorem First_any {w : World} {tb o : Nat} {D : Nat → Prop} {L : List KV} (h : TB w tb o D L) :
    Calls Tryz.prog 46 #[.pointer (some ⟨tb, o, none⟩)] w fun e w' => Below w.heap.size w w' ∧ e = .returned (.tuple #[.int .i64 (L.headD (0, hf0)).1, .agg #[.int .i64 (L.headD (0, hf0)).2.a, .int .i64 (L.headD (0, hf0)).2.b, .string (L.headD (0, hf0)).2.c], .bool (!L.isEmpty)]) := by
  obtain ⟨p, t, hd, ht, ha, hr, hw, rfl, hD⟩ := h
  have htm := Avt.tell_min hr hw
  have hb0 := below_new w (.cells #[.int .i64 0, .int .i64 0, .string ⟨#[]⟩] 40)
  have P0 : Tri (w.alloc (.cells #[.int .i64 0, .int .i64 0, .string ⟨#[]⟩] 40)) w.heap.size (.int .i64 0) (.int .i64 0) (.string ⟨#[]⟩) := Tri.new _ _ _ _ _
  have CF : Hid (Calls Tryz.prog 56 #[.pointer p] (w.alloc (.cells #[.int .i64 0, .int .i64 0, .string ⟨#[]⟩] 40)) fun e w0 => Hid (Below w.heap.size w w0) ∧ Tri w0 w.heap.size (.int .i64 0) (.int .i64 0) (.string ⟨#[]⟩) ∧ ((e = .returned (.pointer none) ∧ Hid (t.ord = [])) ∨ ∃ (bx : Nat) (kx : Int) (vx : Hf), e = .returned (.pointer (some ⟨bx, 0, none⟩)) ∧ w0.cell? ⟨bx, 3, none⟩ = some (.int .i64 kx) ∧ w0.cell? ⟨bx, 4, none⟩ = some (.int .i64 vx.a) ∧ w0.cell? ⟨bx, 5, none⟩ = some (.int .i64 vx.b) ∧ w0.cell? ⟨bx, 6, none⟩ = some (.string vx.c) ∧ bx ≠ w.heap.size ∧ Hid (∃ r, t.ord = (kx, vx) :: r))) := by
    refine hidb ((first_any (ht.keep hb0)).mono ?_)
    rintro e w0 ⟨hb9, (⟨rfl, h0⟩ | ⟨⟨bx, kx, vx⟩, xs, rfl, hcons⟩)⟩
    · have hb1 : Below w.heap.size w w0 := hb0.trans (hb9.mono hb0.size)
      rw [h0] at htm; exact ⟨hidb hb1, P0.keep hb9, .inl ⟨rfl, hidb htm.symm⟩⟩
    · have hb1 : Below w.heap.size w w0 := hb0.trans (hb9.mono hb0.size)
      obtain ⟨x0, x1, x2, hbx, hDx⟩ := ht.mem (bx, kx, vx) (Avt.tell_mem _ (by rw [hcons]; simp))
      rw [hcons] at htm
      exact ⟨hidb hb1, P0.keep hb9, .inr ⟨bx, kx, vx, rfl, (hbx.keep hb1).c3, (hbx.keep hb1).c4, (hbx.keep hb1).c5, (hbx.keep hb1).c6, (by have := hbx.lt; simp only at this; omega), hidb ⟨_, htm.symm⟩⟩⟩
  have k0 := (hd.keep hb0).c0
  clear hd ht ha hr hw hD htm hb0 P0
  go_enter Tryz.func46, Tryz.ntmps46
  go_wp2_with (go_at_call 56; refine CF.out.mono ?_; clear CF; rintro e w0 ⟨HB, P1, (⟨rfl, HO⟩ | ⟨bx, kx, vx, rfl, m3, m4, m5, m6, mne, HO⟩)⟩ <;> have p0 := P1.c0 <;> have p1 := P1.c1 <;> have p2 := P1.c2 <;> have q0 := P1.f0 <;> have q1 := P1.f1 <;> have q2 := P1.f2)
  · go_region
    all_goals go_wp2_with fail
    all_goals (
      rw [HO.out]
      have hbz := HB.out
      exact bodyPost_ret (v := .tuple #[.int .i64 0, .agg #[.int .i64 0, .int .i64 0, .string ⟨#[]⟩], .bool false]) (by simp [results, Tryz.results46, go_sem, p0, p1, p2]) rfl ⟨by (repeat (first | exact Below.refl _ _ | assumption | refine Below.drew ?_ | refine below_drewN ?_ _ | refine Below.setCell ?_ (by simp) _ | refine Below.alloc ?_ (by (first | exact Nat.le_refl _ | (simp; done) | (simp; omega) | omega)) _ | refine Below.trans ?_ (Below.mono (by assumption) (by first | exact Nat.le_refl _ | (simp; done) | (simp; omega) | omega)))), rfl⟩)
  · go_region
    all_goals go_wp2_with fail
    all_goals (
      obtain ⟨r, hr⟩ := HO.out
      rw [hr]
      have hbz := HB.out
      exact bodyPost_ret (v := .tuple #[.int .i64 kx, .agg #[.int .i64 vx.a, .int .i64 vx.b, .string vx.c], .bool true]) (by simp [results, Tryz.results46, go_sem, p0, p1, p2]) rfl ⟨by (repeat (first | exact Below.refl _ _ | assumption | refine Below.drew ?_ | refine below_drewN ?_ _ | refine Below.setCell ?_ (by simp) _ | refine Below.alloc ?_ (by (first | exact Nat.le_refl _ | (simp; done) | (simp; omega) | omega)) _ | refine Below.trans ?_ (Below.mono (by assumption) (by first | exact Nat.le_refl _ | (simp; done) | (simp; omega) | omega)))), rfl⟩)

end MV
end Go.Proofs.YtceigdeoefhcfaaGreat


/- Sequences of keys: From, All. -/
namespace Go.Proofs.YtceigdeoefhcfaaGreat
open Go.RowKit Go.Shelf
namespace MV
attribute [local go_sem] Oper.semAt_some

/-- A sequence over keys from key on: what it holds lies in blocks of D. -/
def SQ (w : World) (D : Nat → Prop) (f : Value) (key : Int) (L : List KV) : Prop :=
  ∃ Br Bk p t, f = .func (.func 57) #[] #[.pointer (some ⟨Br, 0, none⟩), .pointer (some ⟨Bk, 0, none⟩)] ∧ D Br ∧ D Bk ∧ w.cell? ⟨Br, 0, none⟩ = some (.pointer p) ∧ w.cell? ⟨Bk, 0, none⟩ = some (.int .i64 key) ∧ IsT w D p t ∧ Rise L ∧ t.ord = L

theorem SQ.but {S D : Nat → Prop} {w w' : World} {f : Value} {key : Int} {L : List KV} (h : SQ w D f key L) (hb : But S w w') (hs : ∀ k, D k → ¬ S k) : SQ w' D f key L := by
  obtain ⟨Br, Bk, p, t, e, d1, d2, c1, c2, h1, h2⟩ := h
  exact ⟨Br, Bk, p, t, e, d1, d2, (hb.cell (World.block_lt_of_cell? _ _ c1) (hs _ d1)).trans c1, (hb.cell (World.block_lt_of_cell? _ _ c2) (hs _ d2)).trans c2, h1.but hb hs, h2⟩
theorem SQ.keep {D : Nat → Prop} {w w' : World} {f : Value} {key : Int} {L : List KV} (h : SQ w D f key L) (hb : Below w.heap.size w w') : SQ w' D f key L := h.but (S := fun _ => False) (But.of_below hb) (fun _ _ h => h)
theorem SQ.within {D : Nat → Prop} {w : World} {f : Value} {key : Int} {L : List KV} (h : SQ w D f key L) : SQ w (fun k => k < w.heap.size) f key L := by
  obtain ⟨Br, Bk, p, t, e, d1, d2, c1, c2, h1, h2⟩ := h
  exact ⟨Br, Bk, p, t, e, World.block_lt_of_cell? _ _ c1, World.block_lt_of_cell? _ _ c2, c1, c2, h1.within, h2⟩
theorem SQ.mono {D D' : Nat → Prop} {w : World} {f : Value} {key : Int} {L : List KV} (h : SQ w D f key L) (hd : ∀ k, D k → D' k) : SQ w D' f key L := by
  obtain ⟨Br, Bk, p, t, e, d1, d2, c1, c2, h1, h2⟩ := h
  exact ⟨Br, Bk, p, t, e, hd _ d1, hd _ d2, c1, c2, h1.mono hd, h2⟩

set_option maxHeartbeats 1000000 in
theorem From_any {w : World} {tb o : Nat} {D : Nat → Prop} {L : List KV} (h : TB w tb o D L) (key : Int) :
    Calls Tryz.prog 47 #[.pointer (some ⟨tb, o, none⟩), .int .i64 key] w fun e w' => ∃ f, e = .returned f ∧ Below w.heap.size w w' ∧ SQ w' (Nw D w w') f key L := by
  obtain ⟨p, t, hd, ht, ha, hr, hw, rfl, hD⟩ := h
  have HT := hidb ht
  have HR := hidb hr
  have k0 := (hd.keep (below_new w (.cells #[.int .i64 key] 3))).c0
  clear hd ht ha hr hw hD
  go_enter Tryz.func47, Tryz.ntmps47
  go_wp2_with fail
  go_ret
  refine ⟨_, rfl, (below_new _ _).alloc (by simp) _, w.heap.size + 1, w.heap.size, p, t, rfl, .inr (by simp), .inr ⟨Nat.le_refl _, by simp; omega⟩, by simp [go_sem], by simp [go_sem], ?_, HR.out, rfl⟩
  exact (HT.out.keep ((below_new w _).alloc (by simp) _)).mono (fun k hk => .inl hk)

set_option maxHeartbeats 1000000 in
theorem All_any {w : World} {tb o : Nat} {D : Nat → Prop} {L : List KV} (h : TB w tb o D L) :
    Calls Tryz.prog 31 #[.pointer (some ⟨tb, o, none⟩)] w fun e w' => ∃ f, e = .returned f ∧ Below w.heap.size w w' ∧ SQ w' (Nw D w w') f (-9223372036854775808) L := by
  have HF := hidb (From_any h (-9223372036854775808))
  clear h
  go_enter Tryz.func31, Tryz.ntmps31
  go_wp2_with (go_at_call 47; refine HF.out.mono ?_; clear HF; rintro e w1 ⟨f, rfl, HQ⟩)
  go_ret
  exact ⟨f, rfl, HQ⟩

theorem wpAny_round {F : Fence} {n : Nat} {P : Program} {md : Region.Mode} {ops : Array Oper} {Q : Exit → Act → World → Prop} (l : Nat) (hops : ∀ (i : Nat) (o : Oper), ops[i]? = some o → ∀ c, o.op ≠ .defer c) :
    ∀ (fuel : Nat) (listed : Array Bool) (a : Act) (w : World), wpAnyIn F n P md ops Q fuel listed a w → wpAnyIn (F.inRound l) n P md ops Q fuel listed a w := by
  intro fuel
  induction fuel with
  | zero => intro listed a w h; exact h
  | succ fuel ih =>
    intro listed a w h
    refine ⟨h.1, fun i hi => ?_⟩
    have h2 := wpOpIn_mono (fun a w => ih (listed.setIfInBounds i true) a w) (h.2 i hi)
    unfold wpOpIn at h2 ⊢
    cases ho : ops[i]? with
    | none => simpa only [ho] using h2
    | some o =>
      simp only [ho] at h2 ⊢
      by_cases hw : Region.wanted o (yielded ops a.tmps) = true
      · simp only [hw, if_true] at h2 ⊢
        unfold Oper.wpIn at h2 ⊢
        refine ⟨h2.1, ?_⟩
        have h3 := h2.2
        rw [Oper.semAt_plain F _ _ (hops i o ho)] at h3
        rw [Oper.semAt_plain (F.inRound l) _ _ (hops i o ho)]
        exact h3
      · simp only [hw] at h2 ⊢
        exact h2

theorem region_round {n : Nat} {P : Program} {id : Nat} {ops : Array Oper} {Q : Exit → Act → World → Prop} {a : Act} {w : World} (l : Nat) (hm : P.follows .mixedOrders = true) (hops : ops.all (fun o => match o.op with | .defer _ => false | _ => true) = true)
    (h : wpAnyIn Fence.wide n P .any ops Q ops.size (Array.replicate ops.size false) a w.drew) : (Code.region id ops true).wpIn (Fence.wide.inRound l) n P Q a w :=
  wpIn_region_any hm (wpAny_round l (fun i o ho c e => by
    have := (Array.all_eq_true_iff_forall_mem.1 hops) o (Array.mem_of_getElem? ho)
    rw [e] at this; cases this) _ _ _ _ h)

abbrev kenc (x : KV) : Array Value := #[.int .i64 x.1, .agg #[.int .i64 x.2.a, .int .i64 x.2.b, .string x.2.c]]

theorem OwnFrom.up {β : Type} {B B' : Nat} {I : β → World → Prop} (h : OwnFrom B I) (hb : B ≤ B') : OwnFrom B' I := fun s A C row hs hg hr => h s A C row hs hg (fun r e => ⟨Nat.le_trans hb (hr r e).1, (hr r e).2⟩)
theorem OwnFrom.map {α β : Type} {B : Nat} {I : β → World → Prop} (h : OwnFrom B I) (f : α → β) : OwnFrom B (fun s W => I (f s) W) := fun s A C row hs hg hr => h (f s) A C row hs hg hr

/-- What a deferred block that is taken leaves. -/
theorem OwnFrom.taken {β : Type} {B : Nat} {I : β → World → Prop} (h : OwnFrom B I) {s : β} {W W' : World} {D : Nat} (hs : I s W) (hb : But (fun k => k ∈ [D]) W W') (hD : B ≤ D) (hK : W.heap[D]? = some (.deferred (some []))) : I s W' :=
  h s W W' (some D) hs ⟨hb.os, hb.tape, hb.output, hb.size, fun k hk hn => hb.block k hk (fun e => hn (by simpa using e))⟩ (fun r e => by cases e; exact ⟨hD, _, hK, rfl⟩)

set_option maxRecDepth 100000 in
set_option maxHeartbeats 4000000 in
theorem seq_o {w : World} {M : Nat → Prop} {f : Value} {key : Int} {L : List KV} (h : SQ w (fun k => ¬ M k) f key L) (hM : ∀ k, w.heap.size ≤ k → M k) :
    ∃ lb, f = .func (.func 57) #[] lb ∧ SeqO Tryz.prog 57 lb kenc (fun _ => True) M 5 (fun ys => ys = L.filter (fun x => decide (key ≤ x.1))) (fun pre => pre <+: L.filter (fun x => decide (key ≤ x.1))) L.length w := by
  obtain ⟨Br, Bk, p, t, rfl, d1, d2, c1, c2, hT, hr, rfl⟩ := h
  refine ⟨_, rfl, ?_⟩
  intro l J Jx W hW hJ hJx hY h0
  have z1 := World.block_lt_of_cell? _ _ c1
  have z2 := World.block_lt_of_cell? _ _ c2
  replace c1 := (hW.cell z1).trans c1
  replace c2 := (hW.cell z2).trans c2
  replace hT : IsT W (fun k => ¬ M k) p t := hT.keep hW
  replace z1 := World.block_lt_of_cell? _ _ c1
  replace z2 := World.block_lt_of_cell? _ _ c2
  have hb1 := below_new W (.cells #[.func (.yield l) #[] #[]] 84)
  have m1 := (hb1.cell z1).trans c1
  have m2 := (hb1.cell z2).trans c2
  refine callsIn_wide.2 (calls_marks Tryz.func57 rfl ?_)
  simp only [Tryz.ntmps57, List.size_toArray, List.length_cons, List.length_nil, Nat.reduceAdd, Nat.reduceSub, Array.replicate_succ, Array.replicate_zero, List.push_toArray, List.append_toArray, List.nil_append, List.cons_append]
  go_wp2_with (go_at_call 58; refine (from_any _ _ _).mono ?_; rintro e w' ⟨rfl, rfl⟩)
  have hsz : (((W.alloc (.cells #[.func (.yield l) #[] #[]] 84)).alloc (.cells #[.pointer p] 48)).alloc (.cells #[.int .i64 key] 3)).heap.size = W.heap.size + 3 := by simp
  have hb3 : Below W.heap.size W (((W.alloc (.cells #[.func (.yield l) #[] #[]] 84)).alloc (.cells #[.pointer p] 48)).alloc (.cells #[.int .i64 key] 3)) := ((below_new W _).alloc (by simp) _).alloc (by simp; omega) _
  have g0 : (((W.alloc (.cells #[.func (.yield l) #[] #[]] 84)).alloc (.cells #[.pointer p] 48)).alloc (.cells #[.int .i64 key] 3)).cell? ⟨W.heap.size, 0, none⟩ = some (.func (.yield l) #[] #[]) := by simp [go_sem]
  have g1 : (((W.alloc (.cells #[.func (.yield l) #[] #[]] 84)).alloc (.cells #[.pointer p] 48)).alloc (.cells #[.int .i64 key] 3)).cell? ⟨W.heap.size + 1, 0, none⟩ = some (.pointer p) := by simp [go_sem]
  have g2 : (((W.alloc (.cells #[.func (.yield l) #[] #[]] 84)).alloc (.cells #[.pointer p] 48)).alloc (.cells #[.int .i64 key] 3)).cell? ⟨W.heap.size + 1 + 1, 0, none⟩ = some (.int .i64 key) := by simp [go_sem]
  have hj3 : J [] (((W.alloc (.cells #[.func (.yield l) #[] #[]] 84)).alloc (.cells #[.pointer p] 48)).alloc (.cells #[.int .i64 key] 3)) := hJ.alloc _ (hJ.alloc _ (hJ.alloc _ h0))
  generalize (((W.alloc (.cells #[.func (.yield l) #[] #[]] 84)).alloc (.cells #[.pointer p] 48)).alloc (.cells #[.int .i64 key] 3)) = W3 at *
  have hT3 : IsT W3 (fun k => ¬ M k) p t := hT.keep hb3
  have hwn := hW.size
  refine range_o (gf := 64) (lb := #[.pointer (some ⟨W.heap.size + 1, 0, none⟩), .pointer (some ⟨W.heap.size + 1 + 1, 0, none⟩)]) rfl (enters_of Tryz.func64 (by kernel_rfl) rfl)
    (from1_seq (w := W3) (M := M) (by omega) (by omega) g1 g2 hT3) (fun k hk => hM k (by omega)) (Below.refl _ _) (fun _ => rfl)
    (fun pre W' => J (pre.map (fun x => x.2)) W' ∧ But (fun k => M k ∧ (k < W.heap.size ∨ W.heap.size + 5 ≤ k)) W3 W')
    (fun c pre W' => c = .ret ∧ Jx (pre.map (fun x => x.2)) W')
    ?hI ?hIx ⟨hj3, But.refl _ _⟩
    (fun x => { tmps := #[.func (.yield l) #[] #[], .pointer (some ⟨Br, 0, none⟩), .pointer (some ⟨Bk, 0, none⟩), .pointer (some ⟨W.heap.size, 0, none⟩), .pointer (some ⟨x.1, 0, none⟩), .pointer p, .int .i64 key, .func (.func 64) #[] #[.pointer (some ⟨W.heap.size + 1, 0, none⟩), .pointer (some ⟨W.heap.size + 1 + 1, 0, none⟩)], .pointer (some ⟨x.1, 0, none⟩), undef, undef, undef, undef, undef, undef, undef, undef, undef, undef, undef], defers := [] }) ?assign ?body ?done ?stop
  case hI => exact OwnFrom.and (OwnFrom.map (OwnFrom.up (B := W.heap.size) hJ (by omega)) _) (OwnFrom.but (Nat.le_refl _))
  case hIx => exact fun c => OwnFrom.and (ownFrom_pure _ _) (OwnFrom.map (OwnFrom.up (B := W.heap.size) hJx (by omega)) _)
  case assign =>
    intro l x W K hK
    gi_wp2
    exact hK
  case body =>
    rintro l2 pre x W1 hmem ⟨hj, hB⟩ hlen hszW
    obtain ⟨x0, x1, x2, hbx, hDx⟩ := hT3.mem x hmem
    have hbx1 := hbx.but hB (fun h => hDx h.1)
    have k3 := hbx1.c3
    have k4 := hbx1.c4; have k5 := hbx1.c5; have k6 := hbx1.c6
    have ky := (hB.cell (p := ⟨W.heap.size, 0, none⟩) (World.block_lt_of_cell? _ _ g0) (fun h => by have := h.2; simp only [Nat.lt_irrefl, false_or] at this; omega)).trans g0
    have hjd : J (pre.map (fun x => x.2)) W1.drew := hJ _ _ _ none hj ⟨rfl, rfl, rfl, Nat.le_refl _, fun _ _ _ => rfl⟩ (fun r e => by cases e)
    obtain ⟨fn, tmps, assign, body, hy, hR⟩ := hY (pre.map (fun x => x.2)) x.2 W1.drew trivial hjd (by rw [List.length_map]; exact Nat.lt_of_lt_of_le hlen (Avt.tell_len _ _)) (show W.heap.size + 5 ≤ W1.heap.size by omega)
    gi_wp2
    refine region_round l2 (by kernel_rfl) (by kernel_rfl) ?_
    refine wpAnyIn_take (i := 1) (v := .pointer (some ⟨x.1, 0, none⟩)) rfl rfl (by kernel_rfl) (by kernel_rfl) (by kernel_rfl) (fun _ _ _ h => h) ⟨Or.inl ⟨by rfl, ?_⟩, fun _ => rfl⟩ ?_
    · intro w; go_simp
    simp only [Act.put, List.setIfInBounds_toArray]
    refine wpAnyIn_take (i := 2) (v := .pointer (some ⟨x.1, 0, none⟩)) rfl rfl (by kernel_rfl) (by kernel_rfl) (by kernel_rfl) (fun _ _ _ h => h) ⟨Or.inl ⟨by rfl, ?_⟩, fun _ => rfl⟩ ?_
    · intro w; go_simp
    simp only [Act.put]
    refine wpAnyIn_take (i := 3) (v := .pointer (some ⟨x.1, 3, none⟩)) rfl rfl (by kernel_rfl) (by kernel_rfl) (by kernel_rfl) (fun _ _ _ h => h) ⟨Or.inl ⟨by rfl, ?_⟩, fun _ => rfl⟩ ?_
    · intro w; go_simp
    simp only [Act.put]
    refine wpAnyIn_take (i := 5) (v := .pointer (some ⟨x.1, 0, none⟩)) rfl rfl (by kernel_rfl) (by kernel_rfl) (by kernel_rfl) (fun _ _ _ h => h) ⟨Or.inl ⟨by rfl, ?_⟩, fun _ => rfl⟩ ?_
    · intro w; go_simp
    simp only [Act.put]
    refine wpAnyIn_take (i := 6) (v := .pointer (some ⟨x.1, 0, none⟩)) rfl rfl (by kernel_rfl) (by kernel_rfl) (by kernel_rfl) (fun _ _ _ h => h) ⟨Or.inl ⟨by rfl, ?_⟩, fun _ => rfl⟩ ?_
    · intro w; go_simp
    simp only [Act.put]
    refine wpAnyIn_take (i := 7) (v := .pointer (some ⟨x.1, 4, none⟩)) rfl rfl (by kernel_rfl) (by kernel_rfl) (by kernel_rfl) (fun _ _ _ h => h) ⟨Or.inl ⟨by rfl, ?_⟩, fun _ => rfl⟩ ?_
    · intro w; go_simp
    simp only [Act.put]
    refine wpAnyIn_ready (rs := [0, 4, 8]) (by kernel_rfl) (by simp) ?_
    refine AllReadyIn.cons rfl (fun K hK => ?_) ?_
    · go_simp
      refine hK _ _ ?_
      clear hK K
      refine wpAnyIn_ready (rs := [4, 8]) (by kernel_rfl) (by simp) ?_
      refine AllReadyIn.cons rfl (fun K hK => ?_) ?_
      · go_simp
        refine hK _ _ ?_
        clear hK K
        refine wpAnyIn_ready (rs := [8]) (by kernel_rfl) (by simp) ?_
        refine AllReadyIn.cons rfl (fun K hK => ?_) AllReadyIn.nil
        go_simp
        refine hK _ _ ?_
        clear hK K
        refine wpAnyIn_ready (rs := [9]) (by kernel_rfl) (by simp) ?_
        refine AllReadyIn.cons rfl (fun K hK => ?_) AllReadyIn.nil
        go_simp
        refine ⟨rfl, hR.mono ?_⟩
        rintro e W2 ⟨hB2, (⟨rfl, hj2⟩ | ⟨rfl, hx2⟩)⟩
        · refine hK _ _ ?_
          clear hK K
          refine wpAnyIn_take (i := 10) (v := .bool false) rfl rfl (by kernel_rfl) (by kernel_rfl) (by kernel_rfl) (fun _ _ _ h => h) ⟨Or.inl ⟨by rfl, ?_⟩, fun _ => rfl⟩ ?_
          · intro w; go_simp
          refine wpAnyIn_done (by kernel_rfl) ?_ _
          simp only [Act.put]
          gi_wp2
          have hB3 := ((But.refl (fun k => M k ∧ (k < W.heap.size ∨ W.heap.size + 5 ≤ k)) W1).drew).trans hB2
          exact ⟨hB3.mono (fun k _ h => ⟨h.1, by have := h.2; omega⟩), by rw [List.map_append]; exact hj2, hB.trans hB3⟩
        · refine hK _ _ ?_
          clear hK K
          refine wpAnyIn_take (i := 10) (v := .bool true) rfl rfl (by kernel_rfl) (by kernel_rfl) (by kernel_rfl) (fun _ _ _ h => h) ⟨Or.inl ⟨by rfl, ?_⟩, fun _ => rfl⟩ ?_
          · intro w; go_simp
          refine wpAnyIn_done (by kernel_rfl) ?_ _
          simp only [Act.put]
          gi_wp2
          have hB3 := ((But.refl (fun k => M k ∧ (k < W.heap.size ∨ W.heap.size + 5 ≤ k)) W1).drew).trans hB2
          exact ⟨hB3.mono (fun k _ h => ⟨h.1, by have := h.2; omega⟩), rfl, by rw [List.map_append]; exact hx2⟩
      refine AllReadyIn.cons rfl (fun K hK => ?_) AllReadyIn.nil
      go_simp
      refine hK _ _ ?_
      clear hK K
      refine wpAnyIn_ready (rs := [4]) (by kernel_rfl) (by simp) ?_
      refine AllReadyIn.cons rfl (fun K hK => ?_) AllReadyIn.nil
      go_simp
      refine hK _ _ ?_
      clear hK K
      refine wpAnyIn_ready (rs := [9]) (by kernel_rfl) (by simp) ?_
      refine AllReadyIn.cons rfl (fun K hK => ?_) AllReadyIn.nil
      go_simp
      refine ⟨rfl, hR.mono ?_⟩
      rintro e W2 ⟨hB2, (⟨rfl, hj2⟩ | ⟨rfl, hx2⟩)⟩
      · refine hK _ _ ?_
        clear hK K
        refine wpAnyIn_take (i := 10) (v := .bool false) rfl rfl (by kernel_rfl) (by kernel_rfl) (by kernel_rfl) (fun _ _ _ h => h) ⟨Or.inl ⟨by rfl, ?_⟩, fun _ => rfl⟩ ?_
        · intro w; go_simp
        refine wpAnyIn_done (by kernel_rfl) ?_ _
        simp only [Act.put]
        gi_wp2
        have hB3 := ((But.refl (fun k => M k ∧ (k < W.heap.size ∨ W.heap.size + 5 ≤ k)) W1).drew).trans hB2
        exact ⟨hB3.mono (fun k _ h => ⟨h.1, by have := h.2; omega⟩), by rw [List.map_append]; exact hj2, hB.trans hB3⟩
      · refine hK _ _ ?_
        clear hK K
        refine wpAnyIn_take (i := 10) (v := .bool true) rfl rfl (by kernel_rfl) (by kernel_rfl) (by kernel_rfl) (fun _ _ _ h => h) ⟨Or.inl ⟨by rfl, ?_⟩, fun _ => rfl⟩ ?_
        · intro w; go_simp
        refine wpAnyIn_done (by kernel_rfl) ?_ _
        simp only [Act.put]
        gi_wp2
        have hB3 := ((But.refl (fun k => M k ∧ (k < W.heap.size ∨ W.heap.size + 5 ≤ k)) W1).drew).trans hB2
        exact ⟨hB3.mono (fun k _ h => ⟨h.1, by have := h.2; omega⟩), rfl, by rw [List.map_append]; exact hx2⟩
    refine AllReadyIn.cons rfl (fun K hK => ?_) ?_
    · go_simp
      refine hK _ _ ?_
      clear hK K
      refine wpAnyIn_ready (rs := [0, 8]) (by kernel_rfl) (by simp) ?_
      refine AllReadyIn.cons rfl (fun K hK => ?_) ?_
      · go_simp
        refine hK _ _ ?_
        clear hK K
        refine wpAnyIn_ready (rs := [8]) (by kernel_rfl) (by simp) ?_
        refine AllReadyIn.cons rfl (fun K hK => ?_) AllReadyIn.nil
        go_simp
        refine hK _ _ ?_
        clear hK K
        refine wpAnyIn_ready (rs := [9]) (by kernel_rfl) (by simp) ?_
        refine AllReadyIn.cons rfl (fun K hK => ?_) AllReadyIn.nil
        go_simp
        refine ⟨rfl, hR.mono ?_⟩
        rintro e W2 ⟨hB2, (⟨rfl, hj2⟩ | ⟨rfl, hx2⟩)⟩
        · refine hK _ _ ?_
          clear hK K
          refine wpAnyIn_take (i := 10) (v := .bool false) rfl rfl (by kernel_rfl) (by kernel_rfl) (by kernel_rfl) (fun _ _ _ h => h) ⟨Or.inl ⟨by rfl, ?_⟩, fun _ => rfl⟩ ?_
          · intro w; go_simp
          refine wpAnyIn_done (by kernel_rfl) ?_ _
          simp only [Act.put]
          gi_wp2
          have hB3 := ((But.refl (fun k => M k ∧ (k < W.heap.size ∨ W.heap.size + 5 ≤ k)) W1).drew).trans hB2
          exact ⟨hB3.mono (fun k _ h => ⟨h.1, by have := h.2; omega⟩), by rw [List.map_append]; exact hj2, hB.trans hB3⟩
        · refine hK _ _ ?_
          clear hK K
          refine wpAnyIn_take (i := 10) (v := .bool true) rfl rfl (by kernel_rfl) (by kernel_rfl) (by kernel_rfl) (fun _ _ _ h => h) ⟨Or.inl ⟨by rfl, ?_⟩, fun _ => rfl⟩ ?_
          · intro w; go_simp
          refine wpAnyIn_done (by kernel_rfl) ?_ _
          simp only [Act.put]
          gi_wp2
          have hB3 := ((But.refl (fun k => M k ∧ (k < W.heap.size ∨ W.heap.size + 5 ≤ k)) W1).drew).trans hB2
          exact ⟨hB3.mono (fun k _ h => ⟨h.1, by have := h.2; omega⟩), rfl, by rw [List.map_append]; exact hx2⟩
      refine AllReadyIn.cons rfl (fun K hK => ?_) AllReadyIn.nil
      go_simp
      refine hK _ _ ?_
      clear hK K
      refine wpAnyIn_ready (rs := [0]) (by kernel_rfl) (by simp) ?_
      refine AllReadyIn.cons rfl (fun K hK => ?_) AllReadyIn.nil
      go_simp
      refine hK _ _ ?_
      clear hK K
      refine wpAnyIn_ready (rs := [9]) (by kernel_rfl) (by simp) ?_
      refine AllReadyIn.cons rfl (fun K hK => ?_) AllReadyIn.nil
      go_simp
      refine ⟨rfl, hR.mono ?_⟩
      rintro e W2 ⟨hB2, (⟨rfl, hj2⟩ | ⟨rfl, hx2⟩)⟩
      · refine hK _ _ ?_
        clear hK K
        refine wpAnyIn_take (i := 10) (v := .bool false) rfl rfl (by kernel_rfl) (by kernel_rfl) (by kernel_rfl) (fun _ _ _ h => h) ⟨Or.inl ⟨by rfl, ?_⟩, fun _ => rfl⟩ ?_
        · intro w; go_simp
        refine wpAnyIn_done (by kernel_rfl) ?_ _
        simp only [Act.put]
        gi_wp2
        have hB3 := ((But.refl (fun k => M k ∧ (k < W.heap.size ∨ W.heap.size + 5 ≤ k)) W1).drew).trans hB2
        exact ⟨hB3.mono (fun k _ h => ⟨h.1, by have := h.2; omega⟩), by rw [List.map_append]; exact hj2, hB.trans hB3⟩
      · refine hK _ _ ?_
        clear hK K
        refine wpAnyIn_take (i := 10) (v := .bool true) rfl rfl (by kernel_rfl) (by kernel_rfl) (by kernel_rfl) (fun _ _ _ h => h) ⟨Or.inl ⟨by rfl, ?_⟩, fun _ => rfl⟩ ?_
        · intro w; go_simp
        refine wpAnyIn_done (by kernel_rfl) ?_ _
        simp only [Act.put]
        gi_wp2
        have hB3 := ((But.refl (fun k => M k ∧ (k < W.heap.size ∨ W.heap.size + 5 ≤ k)) W1).drew).trans hB2
        exact ⟨hB3.mono (fun k _ h => ⟨h.1, by have := h.2; omega⟩), rfl, by rw [List.map_append]; exact hx2⟩
    refine AllReadyIn.cons rfl (fun K hK => ?_) AllReadyIn.nil
    go_simp
    refine hK _ _ ?_
    clear hK K
    refine wpAnyIn_ready (rs := [0, 4]) (by kernel_rfl) (by simp) ?_
    refine AllReadyIn.cons rfl (fun K hK => ?_) ?_
    · go_simp
      refine hK _ _ ?_
      clear hK K
      refine wpAnyIn_ready (rs := [4]) (by kernel_rfl) (by simp) ?_
      refine AllReadyIn.cons rfl (fun K hK => ?_) AllReadyIn.nil
      go_simp
      refine hK _ _ ?_
      clear hK K
      refine wpAnyIn_ready (rs := [9]) (by kernel_rfl) (by simp) ?_
      refine AllReadyIn.cons rfl (fun K hK => ?_) AllReadyIn.nil
      go_simp
      refine ⟨rfl, hR.mono ?_⟩
      rintro e W2 ⟨hB2, (⟨rfl, hj2⟩ | ⟨rfl, hx2⟩)⟩
      · refine hK _ _ ?_
        clear hK K
        refine wpAnyIn_take (i := 10) (v := .bool false) rfl rfl (by kernel_rfl) (by kernel_rfl) (by kernel_rfl) (fun _ _ _ h => h) ⟨Or.inl ⟨by rfl, ?_⟩, fun _ => rfl⟩ ?_
        · intro w; go_simp
        refine wpAnyIn_done (by kernel_rfl) ?_ _
        simp only [Act.put]
        gi_wp2
        have hB3 := ((But.refl (fun k => M k ∧ (k < W.heap.size ∨ W.heap.size + 5 ≤ k)) W1).drew).trans hB2
        exact ⟨hB3.mono (fun k _ h => ⟨h.1, by have := h.2; omega⟩), by rw [List.map_append]; exact hj2, hB.trans hB3⟩
      · refine hK _ _ ?_
        clear hK K
        refine wpAnyIn_take (i := 10) (v := .bool true) rfl rfl (by kernel_rfl) (by kernel_rfl) (by kernel_rfl) (fun _ _ _ h => h) ⟨Or.inl ⟨by rfl, ?_⟩, fun _ => rfl⟩ ?_
        · intro w; go_simp
        refine wpAnyIn_done (by kernel_rfl) ?_ _
        simp only [Act.put]
        gi_wp2
        have hB3 := ((But.refl (fun k => M k ∧ (k < W.heap.size ∨ W.heap.size + 5 ≤ k)) W1).drew).trans hB2
        exact ⟨hB3.mono (fun k _ h => ⟨h.1, by have := h.2; omega⟩), rfl, by rw [List.map_append]; exact hx2⟩
    refine AllReadyIn.cons rfl (fun K hK => ?_) AllReadyIn.nil
    go_simp
    refine hK _ _ ?_
    clear hK K
    refine wpAnyIn_ready (rs := [0]) (by kernel_rfl) (by simp) ?_
    refine AllReadyIn.cons rfl (fun K hK => ?_) AllReadyIn.nil
    go_simp
    refine hK _ _ ?_
    clear hK K
    refine wpAnyIn_ready (rs := [9]) (by kernel_rfl) (by simp) ?_
    refine AllReadyIn.cons rfl (fun K hK => ?_) AllReadyIn.nil
    go_simp
    refine ⟨rfl, hR.mono ?_⟩
    rintro e W2 ⟨hB2, (⟨rfl, hj2⟩ | ⟨rfl, hx2⟩)⟩
    · refine hK _ _ ?_
      clear hK K
      refine wpAnyIn_take (i := 10) (v := .bool false) rfl rfl (by kernel_rfl) (by kernel_rfl) (by kernel_rfl) (fun _ _ _ h => h) ⟨Or.inl ⟨by rfl, ?_⟩, fun _ => rfl⟩ ?_
      · intro w; go_simp
      refine wpAnyIn_done (by kernel_rfl) ?_ _
      simp only [Act.put]
      gi_wp2
      have hB3 := ((But.refl (fun k => M k ∧ (k < W.heap.size ∨ W.heap.size + 5 ≤ k)) W1).drew).trans hB2
      exact ⟨hB3.mono (fun k _ h => ⟨h.1, by have := h.2; omega⟩), by rw [List.map_append]; exact hj2, hB.trans hB3⟩
    · refine hK _ _ ?_
      clear hK K
      refine wpAnyIn_take (i := 10) (v := .bool true) rfl rfl (by kernel_rfl) (by kernel_rfl) (by kernel_rfl) (fun _ _ _ h => h) ⟨Or.inl ⟨by rfl, ?_⟩, fun _ => rfl⟩ ?_
      · intro w; go_simp
      refine wpAnyIn_done (by kernel_rfl) ?_ _
      simp only [Act.put]
      gi_wp2
      have hB3 := ((But.refl (fun k => M k ∧ (k < W.heap.size ∨ W.heap.size + 5 ≤ k)) W1).drew).trans hB2
      exact ⟨hB3.mono (fun k _ h => ⟨h.1, by have := h.2; omega⟩), rfl, by rw [List.map_append]; exact hx2⟩
  case done =>
    rintro Dd ys W' hD rfl ⟨hy, hB⟩ hK
    go_wp2_with fail
    refine endM [Dd] rfl (fun E hE => ?_) (by simp) (fun W'' hb => ?_)
    · obtain rfl : E = Dd := by simpa using hE
      exact hK
    · rw [Avt.tell_is _ hr] at hy
      exact ⟨_, results_none rfl _ _ _, ⟨_, rfl⟩, .inl ⟨_, rfl, OwnFrom.taken hJ hy hb (by omega) hK⟩⟩
  case stop =>
    rintro Dd c pre W' hD hp ⟨rfl, hx⟩ hK
    go_wp2_with fail
    refine retM [Dd] rfl (fun E hE => ?_) (by simp) (fun W'' hb => ?_)
    · obtain rfl : E = Dd := by simpa using hE
      exact hK
    · exact ⟨_, results_none rfl _ _ _, ⟨_, rfl⟩, .inr ⟨_, by rw [← Avt.tell_is _ hr]; exact hp.map _, OwnFrom.taken hJx hx hb (by omega) hK⟩⟩

end MV
end Go.Proofs.YtceigdeoefhcfaaGreat


