import Derived.Test.YtceigdeoefhcfaaGreatG08
/- Halves of monitors: remove, pop. -/
namespace Go.Proofs.YtceigdeoefhcfaaGreat
open Go.RowKit Go.Lib
open MV (Hf hf0 getL insL delL Rise Wfk TB Nw Rst KV)
attribute [local go_sem] store_float f64bits
attribute [local go_sem ↓] Go.wp_at_zero Go.wp_at_succ

/-- By reference. -/
def MOk (L : List KV) : Prop := ∀ x ∈ L, x.2.a = x.1
theorem mok_ins {L : List KV} {p : Int} {v : Hf} (h : MOk L) (hv : v.a = p) : MOk (insL p v L) := by
  intro x hx
  simp only [insL, List.mem_append, List.mem_cons, List.mem_filter] at hx
  rcases hx with hx | rfl | hx
  · exact h x hx.1
  · exact hv
  · exact h x hx.1
theorem mok_del {L : List KV} {p : Int} (h : MOk L) : MOk (delL p L) := fun x hx => h x (List.mem_filter.1 hx).1
theorem mok_get {L : List KV} {p : Int} (h : MOk L) (hr : Rise L) (hs : (getL p L).isSome = true) : ((getL p L).getD hf0).a = p := by
  obtain ⟨A, B, rfl, h1, h2⟩ := MV.split_at (key := p) hr
  have hg := MV.getL_split hr h1 h2
  rw [hg] at hs ⊢
  cases B with
  | nil => simp at hs
  | cons x r =>
    by_cases e : x.1 = p
    · simp only [e, if_true, Option.getD_some]
      rw [h x (by simp), e]
    · simp [e] at hs
theorem del_head {x : KV} {r : List KV} (h : Rise (x :: r)) : delL x.1 (x :: r) = r := MV.del_here (A := []) h

theorem HU.poke {w W w1 w2 : World} {tb o blk : Nat} {D : Nat → Prop} {L : List KV} (hb : Below w.heap.size w W) (h : HU W w1 tb o (fun k => D k ∧ k < w.heap.size) L) (hS : But (fun k => k = blk) w1 w2) (hk : w.heap.size ≤ blk ∧ blk < W.heap.size) (hl : tb < w.heap.size) (hD : ¬ D tb) : HU w w2 tb o D L := by
  have hs1 := hb.size
  have hs2 := h.bt.size
  have hs3 := hS.size
  refine ⟨(h.tr.but hS (fun k hk e => hk.elim (fun h => by omega) (fun h => by omega)) (by omega)).mono (fun k hk => hk.elim (fun h => .inl h.1) (fun h => .inr ⟨by omega, by omega⟩)) (fun h => h.elim hD (fun h => by omega)), ?_, ?_⟩
  · exact ((But.of_below hb).trans h.bt).trans' hS (fun k hk e => by omega)
  · exact ((MV.Rst.of_below hb hl).trans h.rs).trans (MV.Rst.of_but hS (by omega) (by omega))
theorem but3 (w : World) (b : Nat) (u0 u1 u2 : Value) : But (fun k => k = b) w (((w.setCell ⟨b, 0, none⟩ u0).setCell ⟨b, 1, none⟩ u1).setCell ⟨b, 2, none⟩ u2) := (((But.refl (fun k => k = b) w).setCell (p := ⟨b, 0, none⟩) (fun _ => rfl) _).setCell (p := ⟨b, 1, none⟩) (fun _ => rfl) _).setCell (p := ⟨b, 2, none⟩) (fun _ => rfl) _

set_option maxHeartbeats 4000000 in
theorem rem1_any {w : World} {tb o Bh Br : Nat} {D : Nat → Prop} {L : List KV} {ref : Int} (h : TB w tb o D L) (c1 : w.cell? ⟨Bh, 0, none⟩ = some (.pointer (some ⟨tb, o, none⟩))) (c2 : w.cell? ⟨Br, 0, none⟩ = some (.int .i64 ref)) :
    Fnd w 36 #[.pointer (some ⟨Bh, 0, none⟩), .pointer (some ⟨Br, 0, none⟩)] ((getL ref L).getD hf0) (getL ref L).isSome := by
  intro W hW
  have l1 : Bh < w.heap.size := World.block_lt_of_cell? _ _ c1
  have l2 : Br < w.heap.size := World.block_lt_of_cell? _ _ c2
  have d1 : W.cell? ⟨Bh, 0, none⟩ = some (.pointer (some ⟨tb, o, none⟩)) := (hW.cell (p := ⟨Bh, 0, none⟩) l1).trans c1
  have d2 : W.cell? ⟨Br, 0, none⟩ = some (.int .i64 ref) := (hW.cell (p := ⟨Br, 0, none⟩) l2).trans c2
  have m1 : Bh < W.heap.size := Nat.lt_of_lt_of_le l1 hW.size
  have m2 : Br < W.heap.size := Nat.lt_of_lt_of_le l2 hW.size
  have hb0 := below_new W (.cells #[.int .i64 0, .int .i64 0, .string ⟨#[]⟩] 40)
  have P0 : Tri (W.alloc (.cells #[.int .i64 0, .int .i64 0, .string ⟨#[]⟩] 40)) W.heap.size (.int .i64 0) (.int .i64 0) (.string ⟨#[]⟩) := Tri.new _ _ _ _ _
  have HG : Hid (Calls Tryz.prog 32 #[.pointer (some ⟨tb, o, none⟩), .int .i64 ref] (W.alloc (.cells #[.int .i64 0, .int .i64 0, .string ⟨#[]⟩] 40)).drew fun e w' => e = .returned (.tuple #[.agg #[.int .i64 ((getL ref L).getD hf0).a, .int .i64 ((getL ref L).getD hf0).b, .string ((getL ref L).getD hf0).c], .bool (getL ref L).isSome]) ∧ Tri w' W.heap.size (.int .i64 0) (.int .i64 0) (.string ⟨#[]⟩) ∧ Hid (Below W.heap.size W w')) := hidb ((MV.get_any (((h.keep hW).keep hb0).keep ((Below.refl _ _).drew)) ref).mono (by
    rintro e w' ⟨rfl, hb⟩
    exact ⟨rfl, (P0.keep ((Below.refl _ _).drew)).keep hb, hidb (hb0.drew.trans (hb.mono (hb0.drew).size))⟩))
  clear h c1 c2 hW l1 l2 hb0 P0
  go_enter Tryz.func36, Tryz.ntmps36
  go_wp2_with fail
  go_region_with (go_at_call 32; refine HG.out.mono ?_; rintro e w' ⟨rfl, P1, HB⟩; have p0 := P1.c0; have p1 := P1.c1; have p2 := P1.c2; have q0 := P1.f0; have q1 := P1.f1; have q2 := P1.f2)
  all_goals go_wp2_with fail
  all_goals (
    have hb := HB.out
    exact bodyPost_ret (v := .tuple #[.agg #[.int .i64 ((getL ref L).getD hf0).a, .int .i64 ((getL ref L).getD hf0).b, .string ((getL ref L).getD hf0).c], .bool (getL ref L).isSome]) (by simp [results, Tryz.results36, go_sem, p0, p1, p2]) rfl ⟨rfl, by (repeat (first | exact Below.refl _ _ | assumption | refine Below.drew ?_ | refine below_drewN ?_ _ | refine Below.setCell ?_ (by simp) _ | refine Below.alloc ?_ (by (first | exact Nat.le_refl _ | (simp; done) | (simp; omega) | omega)) _ | refine Below.trans ?_ (Below.mono (by assumption) (by first | exact Nat.le_refl _ | (simp; done) | (simp; omega) | omega))))⟩)

set_option maxHeartbeats 4000000 in
theorem hremove_any {w : World} {tb o : Nat} {D : Nat → Prop} {L : List KV} (h : TB w tb o D L) (hN : L.length < 10000000) (hk : MOk L) (ref : Int) :
    Calls Tryz.prog 22 #[.pointer (some ⟨tb, o, none⟩), .int .i64 ref] w fun e w' => e = .returned (.tuple #[.agg #[.int .i64 ((getL ref L).getD hf0).a, .int .i64 ((getL ref L).getD hf0).b, .string ((getL ref L).getD hf0).c], .bool (getL ref L).isSome]) ∧ HU w w' tb o D (delL ref L) := by
  have hl := h.lt
  have hD := h.nd
  obtain ⟨W, hWe⟩ : ∃ W, (((w.alloc (.cells #[.pointer (some ⟨tb, o, none⟩)] 79)).alloc (.cells #[.int .i64 ref] 3)).alloc (.cells #[.int .i64 0, .int .i64 0, .string ⟨#[]⟩] 40)) = W := ⟨_, rfl⟩
  have hb0 : Below w.heap.size w W := hWe ▸ ((below_new _ _).alloc (by simp) _).alloc (by simp; omega) _
  have hsz : W.heap.size = w.heap.size + 1 + 1 + 1 := by rw [← hWe]; simp
  have P0 : Tri W (w.heap.size + 1 + 1) (.int .i64 0) (.int .i64 0) (.string ⟨#[]⟩) := by rw [← hWe]; have := Tri.new ((w.alloc (.cells #[.pointer (some ⟨tb, o, none⟩)] 79)).alloc (.cells #[.int .i64 ref] 3)) 40 (.int .i64 0) (.int .i64 0) (.string ⟨#[]⟩); simpa using this
  have c1 : W.cell? ⟨w.heap.size, 0, none⟩ = some (.pointer (some ⟨tb, o, none⟩)) := by rw [← hWe]; simp [go_sem]
  have c2 : W.cell? ⟨w.heap.size + 1, 0, none⟩ = some (.int .i64 ref) := by rw [← hWe]; simp [go_sem]
  have HT : Hid (Calls Tryz.prog 35 #[.pointer (some ⟨tb, o, none⟩), .func (.func 36) #[] #[.pointer (some ⟨w.heap.size, 0, none⟩), .pointer (some ⟨w.heap.size + 1, 0, none⟩)]] W fun e w' => e = .returned (.tuple #[.agg #[.int .i64 ((getL ref L).getD hf0).a, .int .i64 ((getL ref L).getD hf0).b, .string ((getL ref L).getD hf0).c], .bool (getL ref L).isSome]) ∧ Tri w' (w.heap.size + 1 + 1) (.int .i64 0) (.int .i64 0) (.string ⟨#[]⟩) ∧ Hid (∀ w2, But (fun k => k = w.heap.size + 1 + 1) w' w2 → HU w w2 tb o D (delL ref L))) := hidb ((htake_any (D := fun k => D k ∧ k < w.heap.size) (L' := delL ref L) (h.cut.keep hb0) hN _ _ e_rem ((getL ref L).getD hf0) (getL ref L).isSome (rem1_any (h.keep hb0) c1 c2) (fun hs => by rw [mok_get hk h.rise hs]) (fun hs => by rw [MV.del_of_none (by simpa using hs)])).mono (by
    rintro e w' ⟨rfl, hu⟩
    exact ⟨rfl, P0.but hu.bt (by omega), hidb (fun w2 hS => HU.poke hb0 hu hS (by omega) hl hD)⟩))
  clear h hN hk hl hD hb0 hsz P0 c2
  go_enter Tryz.func22, Tryz.ntmps22
  go_wp2_with (go_at_call 35; refine HT.out.mono ?_; clear HT; rintro e w' ⟨rfl, P1, HV⟩; have p0 := P1.c0; have p1 := P1.c1; have p2 := P1.c2; have q0 := P1.f0; have q1 := P1.f1; have q2 := P1.f2)
  exact bodyPost_ret (v := .tuple #[.agg #[.int .i64 ((getL ref L).getD hf0).a, .int .i64 ((getL ref L).getD hf0).b, .string ((getL ref L).getD hf0).c], .bool (getL ref L).isSome]) (by simp [results, Tryz.results22, go_sem, p0, p1, p2]) rfl ⟨rfl, HV.out _ (but3 _ _ _ _ _)⟩

set_option maxHeartbeats 4000000 in
theorem pop1_any {w : World} {tb o Bh : Nat} {D : Nat → Prop} {L : List KV} (h : TB w tb o D L) (c1 : w.cell? ⟨Bh, 0, none⟩ = some (.pointer (some ⟨tb, o, none⟩))) :
    Fnd w 45 #[.pointer (some ⟨Bh, 0, none⟩)] (L.headD (0, hf0)).2 (!L.isEmpty) := by
  intro W hW
  have l1 : Bh < w.heap.size := World.block_lt_of_cell? _ _ c1
  have d1 : W.cell? ⟨Bh, 0, none⟩ = some (.pointer (some ⟨tb, o, none⟩)) := (hW.cell (p := ⟨Bh, 0, none⟩) l1).trans c1
  have m1 : Bh < W.heap.size := Nat.lt_of_lt_of_le l1 hW.size
  have hb0 := below_new W (.cells #[.int .i64 0, .int .i64 0, .string ⟨#[]⟩] 40)
  have P0 : Tri (W.alloc (.cells #[.int .i64 0, .int .i64 0, .string ⟨#[]⟩] 40)) W.heap.size (.int .i64 0) (.int .i64 0) (.string ⟨#[]⟩) := Tri.new _ _ _ _ _
  have HG : Hid (Calls Tryz.prog 46 #[.pointer (some ⟨tb, o, none⟩)] (W.alloc (.cells #[.int .i64 0, .int .i64 0, .string ⟨#[]⟩] 40)) fun e w' => e = .returned (.tuple #[.int .i64 (L.headD (0, hf0)).1, .agg #[.int .i64 (L.headD (0, hf0)).2.a, .int .i64 (L.headD (0, hf0)).2.b, .string (L.headD (0, hf0)).2.c], .bool (!L.isEmpty)]) ∧ Tri w' W.heap.size (.int .i64 0) (.int .i64 0) (.string ⟨#[]⟩) ∧ W.heap.size < w'.heap.size ∧ Hid (Below W.heap.size W w')) := hidb ((MV.First_any ((h.keep hW).keep hb0)).mono (by
    rintro e w' ⟨hb, rfl⟩
    exact ⟨rfl, P0.keep hb, (P0.keep hb).lt, hidb (hb0.trans (hb.mono hb0.size))⟩))
  clear h c1 hW l1 hb0 P0
  go_enter Tryz.func45, Tryz.ntmps45
  go_wp2_with (go_at_call 46; refine HG.out.mono ?_; clear HG; rintro e w' ⟨rfl, P1, hlt, HB⟩; have p0 := P1.c0; have p1 := P1.c1; have p2 := P1.c2; have q0 := P1.f0; have q1 := P1.f1; have q2 := P1.f2)
  have hb := HB.out
  have hbs := hb.size
  exact bodyPost_ret (v := .tuple #[.agg #[.int .i64 (L.headD (0, hf0)).2.a, .int .i64 (L.headD (0, hf0)).2.b, .string (L.headD (0, hf0)).2.c], .bool (!L.isEmpty)]) (by simp [results, Tryz.results45, go_sem, p0, p1, p2, hlt]) rfl ⟨rfl, by (repeat (first | exact Below.refl _ _ | assumption | refine Below.drew ?_ | refine below_drewN ?_ _ | refine Below.setCell ?_ (by simp) _ | refine Below.alloc ?_ (by (first | exact Nat.le_refl _ | (simp; done) | (simp; omega) | omega)) _ | refine Below.trans ?_ (Below.mono (by assumption) (by first | exact Nat.le_refl _ | (simp; done) | (simp; omega) | omega))))⟩

set_option maxHeartbeats 4000000 in
theorem hpop_any {w : World} {tb o : Nat} {D : Nat → Prop} {L : List KV} (h : TB w tb o D L) (hN : L.length < 10000000) (hk : MOk L) :
    Calls Tryz.prog 30 #[.pointer (some ⟨tb, o, none⟩)] w fun e w' => e = .returned (.tuple #[.agg #[.int .i64 (L.headD (0, hf0)).2.a, .int .i64 (L.headD (0, hf0)).2.b, .string (L.headD (0, hf0)).2.c], .bool (!L.isEmpty)]) ∧ HU w w' tb o D L.tail := by
  have hl := h.lt
  have hD := h.nd
  obtain ⟨W, hWe⟩ : ∃ W, ((w.alloc (.cells #[.pointer (some ⟨tb, o, none⟩)] 79)).alloc (.cells #[.int .i64 0, .int .i64 0, .string ⟨#[]⟩] 40)) = W := ⟨_, rfl⟩
  have hb0 : Below w.heap.size w W := hWe ▸ (below_new _ _).alloc (by simp) _
  have hsz : W.heap.size = w.heap.size + 1 + 1 := by rw [← hWe]; simp
  have P0 : Tri W (w.heap.size + 1) (.int .i64 0) (.int .i64 0) (.string ⟨#[]⟩) := by rw [← hWe]; have := Tri.new (w.alloc (.cells #[.pointer (some ⟨tb, o, none⟩)] 79)) 40 (.int .i64 0) (.int .i64 0) (.string ⟨#[]⟩); simpa using this
  have c1 : W.cell? ⟨w.heap.size, 0, none⟩ = some (.pointer (some ⟨tb, o, none⟩)) := by rw [← hWe]; simp [go_sem]
  have HT : Hid (Calls Tryz.prog 35 #[.pointer (some ⟨tb, o, none⟩), .func (.func 45) #[] #[.pointer (some ⟨w.heap.size, 0, none⟩)]] W fun e w' => e = .returned (.tuple #[.agg #[.int .i64 (L.headD (0, hf0)).2.a, .int .i64 (L.headD (0, hf0)).2.b, .string (L.headD (0, hf0)).2.c], .bool (!L.isEmpty)]) ∧ Tri w' (w.heap.size + 1) (.int .i64 0) (.int .i64 0) (.string ⟨#[]⟩) ∧ Hid (∀ w2, But (fun k => k = w.heap.size + 1) w' w2 → HU w w2 tb o D L.tail)) := hidb ((htake_any (D := fun k => D k ∧ k < w.heap.size) (L' := L.tail) (h.cut.keep hb0) hN _ _ e_pop (L.headD (0, hf0)).2 (!L.isEmpty) (pop1_any (h.keep hb0) c1) (fun hs => by
      cases L with
      | nil => cases hs
      | cons x r => simp only [List.headD_cons, List.tail_cons]; rw [hk x (by simp)]; exact del_head h.rise) (fun hs => by
      cases L with
      | nil => rfl
      | cons x r => cases hs)).mono (by
    rintro e w' ⟨rfl, hu⟩
    exact ⟨rfl, P0.but hu.bt (by omega), hidb (fun w2 hS => HU.poke hb0 hu hS (by omega) hl hD)⟩))
  clear h hN hk hl hD hb0 hsz P0
  go_enter Tryz.func30, Tryz.ntmps30
  go_wp2_with (go_at_call 35; refine HT.out.mono ?_; clear HT; rintro e w' ⟨rfl, P1, HV⟩; have p0 := P1.c0; have p1 := P1.c1; have p2 := P1.c2; have q0 := P1.f0; have q1 := P1.f1; have q2 := P1.f2)
  exact bodyPost_ret (v := .tuple #[.agg #[.int .i64 (L.headD (0, hf0)).2.a, .int .i64 (L.headD (0, hf0)).2.b, .string (L.headD (0, hf0)).2.c], .bool (!L.isEmpty)]) (by simp [results, Tryz.results30, go_sem, p0, p1, p2]) rfl ⟨rfl, HV.out _ (but3 _ _ _ _ _)⟩

end Go.Proofs.YtceigdeoefhcfaaGreat


/- Halves of monitors: the table. -/
namespace Go.Proofs.YtceigdeoefhcfaaGreat
open Go.RowKit Go.Lib
open MV (Hf hf0 getL insL delL Rise Wfk TB Nw Rst KV)
attribute [local go_sem] store_float f64bits
attribute [local go_sem ↓] Go.wp_at_zero Go.wp_at_succ

/-- A table at tb: origins and targets. -/
structure MTab (w : World) (tb : Nat) (D : Nat → Prop) (O T : List KV) : Prop where
  og : TB w tb 0 D O
  tg : TB w tb 2 D T
  ok : MOk O
  tk : MOk T

theorem MTab.but {S D : Nat → Prop} {w w' : World} {tb : Nat} {O T : List KV} (h : MTab w tb D O T) (hb : But S w w') (hs : ∀ k, D k → ¬ S k) (ht : ¬ S tb) : MTab w' tb D O T := ⟨h.og.but hb hs ht, h.tg.but hb hs ht, h.ok, h.tk⟩
theorem MTab.keep {D : Nat → Prop} {w w' : World} {tb : Nat} {O T : List KV} (h : MTab w tb D O T) (hb : Below w.heap.size w w') : MTab w' tb D O T := ⟨h.og.keep hb, h.tg.keep hb, h.ok, h.tk⟩
theorem MTab.mono {D D' : Nat → Prop} {w : World} {tb : Nat} {O T : List KV} (h : MTab w tb D O T) (hd : ∀ k, D k → D' k) (ht : ¬ D' tb) : MTab w tb D' O T := ⟨h.og.mono hd ht, h.tg.mono hd ht, h.ok, h.tk⟩
theorem MTab.cut {w : World} {tb : Nat} {D : Nat → Prop} {O T : List KV} (h : MTab w tb D O T) : MTab w tb (fun k => D k ∧ k < w.heap.size) O T := ⟨h.og.cut, h.tg.cut, h.ok, h.tk⟩
theorem MTab.lt {D : Nat → Prop} {w : World} {tb : Nat} {O T : List KV} (h : MTab w tb D O T) : tb < w.heap.size := h.og.lt
theorem MTab.nd {D : Nat → Prop} {w : World} {tb : Nat} {O T : List KV} (h : MTab w tb D O T) : ¬ D tb := h.og.nd

/-- A table behind a method. -/
structure MU (w w' : World) (tb : Nat) (D : Nat → Prop) (O T : List KV) : Prop where
  mt : MTab w' tb (Nw D w w') O T
  bt : But (fun k => k = tb) w w'

theorem MU.pre {D : Nat → Prop} {w w1 w' : World} {tb : Nat} {O T : List KV} (hb : Below w.heap.size w w1) (hl : tb < w.heap.size) (hD : ¬ D tb) (h : MU w1 w' tb D O T) : MU w w' tb D O T :=
  ⟨h.mt.mono (fun k hk => hk.elim .inl (fun h => .inr ⟨Nat.le_trans hb.size h.1, h.2⟩)) (fun h => h.elim hD (fun h => by omega)), (But.of_below hb).trans h.bt⟩
theorem MU.post {D : Nat → Prop} {w w1 w' : World} {tb : Nat} {O T : List KV} (h : MU w w1 tb D O T) (hb : Below w1.heap.size w1 w') (hl : tb < w.heap.size) (hD : ¬ D tb) : MU w w' tb D O T :=
  ⟨(h.mt.keep hb).mono (fun k hk => hk.elim .inl (fun h => .inr ⟨h.1, Nat.lt_of_lt_of_le h.2 hb.size⟩)) (fun h => h.elim hD (fun h => by omega)), h.bt.trans (But.of_below hb)⟩
theorem MU.same {D : Nat → Prop} {w w' : World} {tb : Nat} {O T : List KV} (h : MTab w tb D O T) (hb : Below w.heap.size w w') : MU w w' tb D O T :=
  ⟨(h.keep hb).mono (fun k hk => .inl hk) (fun q => q.elim h.nd (fun q => by have := h.lt; omega)), But.of_below hb⟩
theorem MU.poke {w W w1 w2 : World} {tb blk : Nat} {D : Nat → Prop} {O T : List KV} (hb : Below w.heap.size w W) (h : MU W w1 tb (fun k => D k ∧ k < w.heap.size) O T) (hS : But (fun k => k = blk) w1 w2) (hk : w.heap.size ≤ blk ∧ blk < W.heap.size) (hl : tb < w.heap.size) (hD : ¬ D tb) : MU w w2 tb D O T := by
  have hs1 := hb.size
  have hs2 := h.bt.size
  have hs3 := hS.size
  refine ⟨(h.mt.but hS (fun k hk e => hk.elim (fun h => by omega) (fun h => by omega)) (by omega)).mono (fun k hk => hk.elim (fun h => .inl h.1) (fun h => .inr ⟨by omega, by omega⟩)) (fun h => h.elim hD (fun h => by omega)), ?_⟩
  exact ((But.of_below hb).trans h.bt).trans' hS (fun k hk e => by omega)

theorem TB.aside {w w' : World} {tb o o' : Nat} {D : Nat → Prop} {L : List KV} (h : TB w tb o' D L) (hb : But (fun k => k = tb) w w') (hr : Rst tb o w w') (h1 : o' ≠ o) (h2 : o' ≠ o + 1) (h3 : o' + 1 ≠ o) : TB w' tb o' D L := by
  obtain ⟨p, t, hd, ht, g1, g2, g3, g4, g5⟩ := h
  exact ⟨p, t, ⟨(hr _ h1 h2).1.trans hd.c0, (hr _ h3 (by omega)).1.trans hd.c1, (hr _ h1 h2).2.trans hd.f0, (hr _ h3 (by omega)).2.trans hd.f1, Nat.lt_of_lt_of_le hd.lt hb.size⟩, ht.but hb (fun k hk e => g5 (e ▸ hk)), g1, g2, g3, g4, g5⟩
theorem MU.of_o {w w' : World} {tb : Nat} {D : Nat → Prop} {O O' T : List KV} (h : MTab w tb D O T) (hu : HU w w' tb 0 D O') (hk : MOk O') : MU w w' tb D O' T :=
  ⟨⟨hu.tr, (TB.aside h.tg hu.bt hu.rs (by decide) (by decide) (by decide)).mono (fun k hk => .inl hk) hu.tr.nd, hk, h.tk⟩, hu.bt⟩
theorem MU.of_t {w w' : World} {tb : Nat} {D : Nat → Prop} {O T T' : List KV} (h : MTab w tb D O T) (hu : HU w w' tb 2 D T') (hk : MOk T') : MU w w' tb D O T' :=
  ⟨⟨(TB.aside h.og hu.bt hu.rs (by decide) (by decide) (by decide)).mono (fun k hk => .inl hk) hu.tr.nd, hu.tr, h.ok, hk⟩, hu.bt⟩

/-- What Watch (least 0), OnMonitor (least 1) tell, and leave. -/
def refB (m : Int) (v : Hf) : Bool := decide (v.a < 1) || decide (v.b < m)
def putE (m : Int) (v : Hf) (L : List KV) : Int := if refB m v then 1 else addE v L
def putL (m : Int) (v : Hf) (L : List KV) : List KV := if refB m v then L else addL v L

theorem mok_add {v : Hf} {L : List KV} (h : MOk L) : MOk (addL v L) := by
  unfold addL
  split
  · exact h
  · exact mok_ins h rfl
theorem mok_put {m : Int} {v : Hf} {L : List KV} (h : MOk L) : MOk (putL m v L) := by
  unfold putL
  split
  · exact h
  · exact mok_add h
theorem mok_tail {L : List KV} (h : MOk L) : MOk L.tail := fun x hx => h x (List.mem_of_mem_tail hx)

set_option maxHeartbeats 1000000 in
theorem mnew_any (w : World) : Calls Tryz.prog 5 #[] w fun e w' => e = .returned (.pointer (some ⟨w.heap.size, 0, none⟩)) ∧ MTab w' w.heap.size (fun _ => False) [] [] ∧ Below w.heap.size w w' ∧ w'.heap.size = w.heap.size + 1 := by
  go_enter Tryz.func5, Tryz.ntmps5
  go_wp2_with fail
  go_ret
  refine ⟨rfl, ⟨⟨none, .leaf, ?_, rfl, trivial, List.Pairwise.nil, (fun _ h => by simp at h), rfl, id⟩, ⟨none, .leaf, ?_, rfl, trivial, List.Pairwise.nil, (fun _ h => by simp at h), rfl, id⟩, (fun _ h => by simp at h), (fun _ h => by simp at h)⟩, below_new _ _, by simp⟩
  · exact ⟨by rw [World.cell?_alloc_new]; rfl, by rw [World.cell?_alloc_new]; rfl, World.frozen?_alloc_new _ _ _ _, World.frozen?_alloc_new _ _ _ _, by simp⟩
  · exact ⟨by rw [World.cell?_alloc_new]; rfl, by rw [World.cell?_alloc_new]; rfl, World.frozen?_alloc_new _ _ _ _, World.frozen?_alloc_new _ _ _ _, by simp⟩

set_option maxHeartbeats 4000000 in
theorem mwatch_any {w : World} {tb : Nat} {D : Nat → Prop} {O T : List KV} (h : MTab w tb D O T) (hN : O.length < 10000000) (ref pid : Int) (name : ByteArray) (hs : name.size ≤ 281474976710656) :
    Calls Tryz.prog 11 #[.pointer (some ⟨tb, 0, none⟩), .int .i64 ref, .int .i64 pid, .string name] w fun e w' => e = .returned (.int .i64 (putE 0 ⟨ref, pid, name⟩ O)) ∧ MU w w' tb D (putL 0 ⟨ref, pid, name⟩ O) T := by
  by_cases e1 : ref < 1
  · rw [show putE 0 ⟨ref, pid, name⟩ O = 1 by simp [putE, refB, e1], show putL 0 ⟨ref, pid, name⟩ O = O by simp [putL, refB, e1]]
    have HU0 := hidb (MU.same h (Below.refl _ _))
    have HU1 := hidb (MU.same h ((Below.refl _ _).drew))
    clear h hN
    go_enter Tryz.func11, Tryz.ntmps11
    go_wp2_with fail
    go_ret
    exact ⟨rfl, by first | exact HU0.out | exact HU1.out⟩
  · by_cases e2 : pid < 0
    · rw [show putE 0 ⟨ref, pid, name⟩ O = 1 by simp [putE, refB, e1, e2], show putL 0 ⟨ref, pid, name⟩ O = O by simp [putL, refB, e1, e2]]
      have HU0 := hidb (MU.same h (Below.refl _ _))
      have HU1 := hidb (MU.same h ((Below.refl _ _).drew))
      clear h hN
      go_enter Tryz.func11, Tryz.ntmps11
      go_wp2_with fail
      go_ret
      exact ⟨rfl, by first | exact HU0.out | exact HU1.out⟩
    · rw [show putE 0 ⟨ref, pid, name⟩ O = addE ⟨ref, pid, name⟩ O by simp [putE, refB, e1, e2], show putL 0 ⟨ref, pid, name⟩ O = addL ⟨ref, pid, name⟩ O by simp [putL, refB, e1, e2]]
      have hl := h.lt
      have hD := h.nd
      have HA : Hid (∀ W, Below w.heap.size w W → Calls Tryz.prog 21 #[.pointer (some ⟨tb, 0, none⟩), .agg #[.int .i64 ref, .int .i64 pid, .string name]] W fun e w' => e = .returned (.int .i64 (addE ⟨ref, pid, name⟩ O)) ∧ Hid (MU w w' tb D (addL ⟨ref, pid, name⟩ O) T)) := hidb (fun W hW => (hadd_any ((h.keep hW).og) hN ⟨ref, pid, name⟩ (by simp only; omega) hs).mono (by
        rintro e w' ⟨rfl, hu⟩
        exact ⟨rfl, hidb (MU.pre hW hl hD (MU.of_o (h.keep hW) hu (mok_add h.ok)))⟩))
      clear h hN hl hD
      go_enter Tryz.func11, Tryz.ntmps11
      go_wp2_with (go_at_call 21; refine (HA.out _ (by (repeat (first | exact Below.refl _ _ | assumption | refine Below.drew ?_ | refine below_drewN ?_ _ | refine Below.setCell ?_ (by simp) _ | refine Below.alloc ?_ (by (first | exact Nat.le_refl _ | (simp; done) | (simp; omega) | omega)) _ | refine Below.trans ?_ (Below.mono (by assumption) (by first | exact Nat.le_refl _ | (simp; done) | (simp; omega) | omega)))))).mono ?_; clear HA; rintro e w' ⟨rfl, HU⟩)
      go_ret
      exact ⟨rfl, HU.out⟩

set_option maxHeartbeats 4000000 in
theorem monm_any {w : World} {tb : Nat} {D : Nat → Prop} {O T : List KV} (h : MTab w tb D O T) (hN : T.length < 10000000) (ref org : Int) :
    Calls Tryz.prog 17 #[.pointer (some ⟨tb, 0, none⟩), .int .i64 ref, .int .i64 org] w fun e w' => e = .returned (.int .i64 (putE 1 ⟨ref, org, ⟨#[]⟩⟩ T)) ∧ MU w w' tb D O (putL 1 ⟨ref, org, ⟨#[]⟩⟩ T) := by
  by_cases e1 : ref < 1
  · rw [show putE 1 ⟨ref, org, ⟨#[]⟩⟩ T = 1 by simp [putE, refB, e1], show putL 1 ⟨ref, org, ⟨#[]⟩⟩ T = T by simp [putL, refB, e1]]
    have HU0 := hidb (MU.same h (Below.refl _ _))
    have HU1 := hidb (MU.same h ((Below.refl _ _).drew))
    clear h hN
    go_enter Tryz.func17, Tryz.ntmps17
    go_wp2_with fail
    go_ret
    exact ⟨rfl, by first | exact HU0.out | exact HU1.out⟩
  · by_cases e2 : org < 1
    · rw [show putE 1 ⟨ref, org, ⟨#[]⟩⟩ T = 1 by simp [putE, refB, e1, e2], show putL 1 ⟨ref, org, ⟨#[]⟩⟩ T = T by simp [putL, refB, e1, e2]]
      have HU0 := hidb (MU.same h (Below.refl _ _))
      have HU1 := hidb (MU.same h ((Below.refl _ _).drew))
      clear h hN
      go_enter Tryz.func17, Tryz.ntmps17
      go_wp2_with fail
      go_ret
      exact ⟨rfl, by first | exact HU0.out | exact HU1.out⟩
    · rw [show putE 1 ⟨ref, org, ⟨#[]⟩⟩ T = addE ⟨ref, org, ⟨#[]⟩⟩ T by simp [putE, refB, e1, e2], show putL 1 ⟨ref, org, ⟨#[]⟩⟩ T = addL ⟨ref, org, ⟨#[]⟩⟩ T by simp [putL, refB, e1, e2]]
      have hl := h.lt
      have hD := h.nd
      have HA : Hid (∀ W, Below w.heap.size w W → Calls Tryz.prog 21 #[.pointer (some ⟨tb, 2, none⟩), .agg #[.int .i64 ref, .int .i64 org, .string ⟨#[]⟩]] W fun e w' => e = .returned (.int .i64 (addE ⟨ref, org, ⟨#[]⟩⟩ T)) ∧ Hid (MU w w' tb D O (addL ⟨ref, org, ⟨#[]⟩⟩ T))) := hidb (fun W hW => (hadd_any ((h.keep hW).tg) hN ⟨ref, org, ⟨#[]⟩⟩ (by simp only; omega) (show (⟨#[]⟩ : ByteArray).size ≤ 281474976710656 by decide)).mono (by
        rintro e w' ⟨rfl, hu⟩
        exact ⟨rfl, hidb (MU.pre hW hl hD (MU.of_t (h.keep hW) hu (mok_add h.tk)))⟩))
      clear h hN hl hD
      go_enter Tryz.func17, Tryz.ntmps17
      go_wp2_with (go_at_call 21; refine (HA.out _ (by (repeat (first | exact Below.refl _ _ | assumption | refine Below.drew ?_ | refine below_drewN ?_ _ | refine Below.setCell ?_ (by simp) _ | refine Below.alloc ?_ (by (first | exact Nat.le_refl _ | (simp; done) | (simp; omega) | omega)) _ | refine Below.trans ?_ (Below.mono (by assumption) (by first | exact Nat.le_refl _ | (simp; done) | (simp; omega) | omega)))))).mono ?_; clear HA; rintro e w' ⟨rfl, HU⟩)
      go_ret
      exact ⟨rfl, HU.out⟩

set_option maxHeartbeats 4000000 in
theorem mdem_any {w : World} {tb : Nat} {D : Nat → Prop} {O T : List KV} (h : MTab w tb D O T) (hN : O.length < 10000000) (ref : Int) :
    Calls Tryz.prog 15 #[.pointer (some ⟨tb, 0, none⟩), .int .i64 ref] w fun e w' => e = .returned (.tuple #[.agg #[.int .i64 ((getL ref O).getD hf0).a, .int .i64 ((getL ref O).getD hf0).b, .string ((getL ref O).getD hf0).c], .bool (getL ref O).isSome]) ∧ MU w w' tb D (delL ref O) T := by
  have hl := h.lt
  have hD := h.nd
  have hb0 := below_new w (.cells #[.int .i64 0, .int .i64 0, .string ⟨#[]⟩] 40)
  have P0 : Tri (w.alloc (.cells #[.int .i64 0, .int .i64 0, .string ⟨#[]⟩] 40)) w.heap.size (.int .i64 0) (.int .i64 0) (.string ⟨#[]⟩) := Tri.new _ _ _ _ _
  have HT : Hid (Calls Tryz.prog 22 #[.pointer (some ⟨tb, 0, none⟩), .int .i64 ref] (w.alloc (.cells #[.int .i64 0, .int .i64 0, .string ⟨#[]⟩] 40)) fun e w' => e = .returned (.tuple #[.agg #[.int .i64 ((getL ref O).getD hf0).a, .int .i64 ((getL ref O).getD hf0).b, .string ((getL ref O).getD hf0).c], .bool (getL ref O).isSome]) ∧ Tri w' w.heap.size (.int .i64 0) (.int .i64 0) (.string ⟨#[]⟩) ∧ Hid (∀ w2, But (fun k => k = w.heap.size) w' w2 → MU w w2 tb D (delL ref O) T)) := hidb ((hremove_any ((h.cut.keep hb0).og) hN h.ok ref).mono (by
    rintro e w' ⟨rfl, hu⟩
    exact ⟨rfl, P0.but hu.bt (by omega), hidb (fun w2 hS => MU.poke hb0 (MU.of_o (h.cut.keep hb0) hu (mok_del h.ok)) hS ⟨Nat.le_refl _, by simp⟩ hl hD)⟩))
  clear h hN hl hD hb0 P0
  go_enter Tryz.func15, Tryz.ntmps15
  go_wp2_with (go_at_call 22; refine HT.out.mono ?_; clear HT; rintro e w' ⟨rfl, P1, HV⟩; have p0 := P1.c0; have p1 := P1.c1; have p2 := P1.c2; have q0 := P1.f0; have q1 := P1.f1; have q2 := P1.f2)
  exact bodyPost_ret (v := .tuple #[.agg #[.int .i64 ((getL ref O).getD hf0).a, .int .i64 ((getL ref O).getD hf0).b, .string ((getL ref O).getD hf0).c], .bool (getL ref O).isSome]) (by simp [results, Tryz.results15, go_sem, p0, p1, p2]) rfl ⟨rfl, HV.out _ (but3 _ _ _ _ _)⟩

set_option maxHeartbeats 4000000 in
theorem mdown_any {w : World} {tb : Nat} {D : Nat → Prop} {O T : List KV} (h : MTab w tb D O T) (hN : O.length < 10000000) (ref : Int) :
    Calls Tryz.prog 12 #[.pointer (some ⟨tb, 0, none⟩), .int .i64 ref] w fun e w' => e = .returned (.tuple #[.agg #[.int .i64 ((getL ref O).getD hf0).a, .int .i64 ((getL ref O).getD hf0).b, .string ((getL ref O).getD hf0).c], .bool (getL ref O).isSome]) ∧ MU w w' tb D (delL ref O) T := by
  have hl := h.lt
  have hD := h.nd
  have hb0 := below_new w (.cells #[.int .i64 0, .int .i64 0, .string ⟨#[]⟩] 40)
  have P0 : Tri (w.alloc (.cells #[.int .i64 0, .int .i64 0, .string ⟨#[]⟩] 40)) w.heap.size (.int .i64 0) (.int .i64 0) (.string ⟨#[]⟩) := Tri.new _ _ _ _ _
  have HT : Hid (Calls Tryz.prog 22 #[.pointer (some ⟨tb, 0, none⟩), .int .i64 ref] (w.alloc (.cells #[.int .i64 0, .int .i64 0, .string ⟨#[]⟩] 40)) fun e w' => e = .returned (.tuple #[.agg #[.int .i64 ((getL ref O).getD hf0).a, .int .i64 ((getL ref O).getD hf0).b, .string ((getL ref O).getD hf0).c], .bool (getL ref O).isSome]) ∧ Tri w' w.heap.size (.int .i64 0) (.int .i64 0) (.string ⟨#[]⟩) ∧ Hid (∀ w2, But (fun k => k = w.heap.size) w' w2 → MU w w2 tb D (delL ref O) T)) := hidb ((hremove_any ((h.cut.keep hb0).og) hN h.ok ref).mono (by
    rintro e w' ⟨rfl, hu⟩
    exact ⟨rfl, P0.but hu.bt (by omega), hidb (fun w2 hS => MU.poke hb0 (MU.of_o (h.cut.keep hb0) hu (mok_del h.ok)) hS ⟨Nat.le_refl _, by simp⟩ hl hD)⟩))
  clear h hN hl hD hb0 P0
  go_enter Tryz.func12, Tryz.ntmps12
  go_wp2_with (go_at_call 22; refine HT.out.mono ?_; clear HT; rintro e w' ⟨rfl, P1, HV⟩; have p0 := P1.c0; have p1 := P1.c1; have p2 := P1.c2; have q0 := P1.f0; have q1 := P1.f1; have q2 := P1.f2)
  exact bodyPost_ret (v := .tuple #[.agg #[.int .i64 ((getL ref O).getD hf0).a, .int .i64 ((getL ref O).getD hf0).b, .string ((getL ref O).getD hf0).c], .bool (getL ref O).isSome]) (by simp [results, Tryz.results12, go_sem, p0, p1, p2]) rfl ⟨rfl, HV.out _ (but3 _ _ _ _ _)⟩

set_option maxHeartbeats 4000000 in
theorem mpopt_any {w : World} {tb : Nat} {D : Nat → Prop} {O T : List KV} (h : MTab w tb D O T) (hN : T.length < 10000000)  :
    Calls Tryz.prog 19 #[.pointer (some ⟨tb, 0, none⟩)] w fun e w' => e = .returned (.tuple #[.agg #[.int .i64 (T.headD (0, hf0)).2.a, .int .i64 (T.headD (0, hf0)).2.b, .string (T.headD (0, hf0)).2.c], .bool (!T.isEmpty)]) ∧ MU w w' tb D O T.tail := by
  have hl := h.lt
  have hD := h.nd
  have hb0 := below_new w (.cells #[.int .i64 0, .int .i64 0, .string ⟨#[]⟩] 40)
  have P0 : Tri (w.alloc (.cells #[.int .i64 0, .int .i64 0, .string ⟨#[]⟩] 40)) w.heap.size (.int .i64 0) (.int .i64 0) (.string ⟨#[]⟩) := Tri.new _ _ _ _ _
  have HT : Hid (Calls Tryz.prog 30 #[.pointer (some ⟨tb, 2, none⟩)] (w.alloc (.cells #[.int .i64 0, .int .i64 0, .string ⟨#[]⟩] 40)) fun e w' => e = .returned (.tuple #[.agg #[.int .i64 (T.headD (0, hf0)).2.a, .int .i64 (T.headD (0, hf0)).2.b, .string (T.headD (0, hf0)).2.c], .bool (!T.isEmpty)]) ∧ Tri w' w.heap.size (.int .i64 0) (.int .i64 0) (.string ⟨#[]⟩) ∧ Hid (∀ w2, But (fun k => k = w.heap.size) w' w2 → MU w w2 tb D O T.tail)) := hidb ((hpop_any ((h.cut.keep hb0).tg) hN h.tk).mono (by
    rintro e w' ⟨rfl, hu⟩
    exact ⟨rfl, P0.but hu.bt (by omega), hidb (fun w2 hS => MU.poke hb0 (MU.of_t (h.cut.keep hb0) hu (mok_tail h.tk)) hS ⟨Nat.le_refl _, by simp⟩ hl hD)⟩))
  clear h hN hl hD hb0 P0
  go_enter Tryz.func19, Tryz.ntmps19
  go_wp2_with (go_at_call 30; refine HT.out.mono ?_; clear HT; rintro e w' ⟨rfl, P1, HV⟩; have p0 := P1.c0; have p1 := P1.c1; have p2 := P1.c2; have q0 := P1.f0; have q1 := P1.f1; have q2 := P1.f2)
  exact bodyPost_ret (v := .tuple #[.agg #[.int .i64 (T.headD (0, hf0)).2.a, .int .i64 (T.headD (0, hf0)).2.b, .string (T.headD (0, hf0)).2.c], .bool (!T.isEmpty)]) (by simp [results, Tryz.results19, go_sem, p0, p1, p2]) rfl ⟨rfl, HV.out _ (but3 _ _ _ _ _)⟩

set_option maxHeartbeats 4000000 in
theorem mond_any {w : World} {tb : Nat} {D : Nat → Prop} {O T : List KV} (h : MTab w tb D O T) (hN : T.length < 10000000) (ref : Int) :
    Calls Tryz.prog 18 #[.pointer (some ⟨tb, 0, none⟩), .int .i64 ref] w fun e w' => e = .returned (.bool (getL ref T).isSome) ∧ MU w w' tb D O (delL ref T) := by
  have hl := h.lt
  have hD := h.nd
  have HT : Hid (∀ W, Below w.heap.size w W → Calls Tryz.prog 22 #[.pointer (some ⟨tb, 2, none⟩), .int .i64 ref] W fun e w' => e = .returned (.tuple #[.agg #[.int .i64 ((getL ref T).getD hf0).a, .int .i64 ((getL ref T).getD hf0).b, .string ((getL ref T).getD hf0).c], .bool (getL ref T).isSome]) ∧ But (fun k => k = tb) W w' ∧ Hid (MU w w' tb D O (delL ref T))) := hidb (fun W hW => (hremove_any ((h.keep hW).tg) hN h.tk ref).mono (by
    rintro e w' ⟨rfl, hu⟩
    exact ⟨rfl, hu.bt, hidb (MU.pre hW hl hD (MU.of_t (h.keep hW) hu (mok_del h.tk)))⟩))
  have HLD := hidb (⟨hl, hD⟩ : tb < w.heap.size ∧ ¬ D tb)
  clear h hN hl hD
  go_enter Tryz.func18, Tryz.ntmps18
  go_wp2_with (go_at_call 22; refine (HT.out _ (by (repeat (first | exact Below.refl _ _ | assumption | refine Below.drew ?_ | refine below_drewN ?_ _ | refine Below.setCell ?_ (by simp) _ | refine Below.alloc ?_ (by (first | exact Nat.le_refl _ | (simp; done) | (simp; omega) | omega)) _ | refine Below.trans ?_ (Below.mono (by assumption) (by first | exact Nat.le_refl _ | (simp; done) | (simp; omega) | omega)))))).mono ?_; clear HT; rintro e w' ⟨rfl, hbt, HV⟩)
  go_ret
  exact ⟨rfl, HV.out.post (below_new _ _) HLD.out.1 HLD.out.2⟩

set_option maxRecDepth 100000 in
set_option maxHeartbeats 2000000 in
theorem mlen_any {w : World} {tb : Nat} {D : Nat → Prop} {O T : List KV} (h : MTab w tb D O T) :
    Calls Tryz.prog 13 #[.pointer (some ⟨tb, 0, none⟩)] w fun e w' => e = .returned (.tuple #[.int .i64 (O.length : Int), .int .i64 (T.length : Int)]) ∧ Below w.heap.size w w' := by
  have HO : Hid (∀ W, Below w.heap.size w W → Calls Tryz.prog 23 #[.pointer (some ⟨tb, 0, none⟩)] W fun e w' => e = .returned (.int .i64 (O.length : Int)) ∧ w' = W) := hidb (fun W hW => hmany_any (h.keep hW).og)
  have HT : Hid (∀ W, Below w.heap.size w W → Calls Tryz.prog 23 #[.pointer (some ⟨tb, 2, none⟩)] W fun e w' => e = .returned (.int .i64 (T.length : Int)) ∧ w' = W) := hidb (fun W hW => hmany_any (h.keep hW).tg)
  clear h
  go_enter Tryz.func13, Tryz.ntmps13
  go_wp2_with fail
  go_region_with (first | (go_at_call 23; refine (HO.out _ (by (repeat (first | exact Below.refl _ _ | assumption | refine Below.drew ?_ | refine below_drewN ?_ _ | refine Below.setCell ?_ (by simp) _ | refine Below.alloc ?_ (by (first | exact Nat.le_refl _ | (simp; done) | (simp; omega) | omega)) _ | refine Below.trans ?_ (Below.mono (by assumption) (by first | exact Nat.le_refl _ | (simp; done) | (simp; omega) | omega)))))).mono ?_; rintro e w' ⟨rfl, rfl⟩) | (go_at_call 23; refine (HT.out _ (by (repeat (first | exact Below.refl _ _ | assumption | refine Below.drew ?_ | refine below_drewN ?_ _ | refine Below.setCell ?_ (by simp) _ | refine Below.alloc ?_ (by (first | exact Nat.le_refl _ | (simp; done) | (simp; omega) | omega)) _ | refine Below.trans ?_ (Below.mono (by assumption) (by first | exact Nat.le_refl _ | (simp; done) | (simp; omega) | omega)))))).mono ?_; rintro e w' ⟨rfl, rfl⟩))
  all_goals go_wp2_with fail
  all_goals (
    go_ret2
    exact ⟨rfl, by (repeat (first | exact Below.refl _ _ | assumption | refine Below.drew ?_ | refine below_drewN ?_ _ | refine Below.setCell ?_ (by simp) _ | refine Below.alloc ?_ (by (first | exact Nat.le_refl _ | (simp; done) | (simp; omega) | omega)) _ | refine Below.trans ?_ (Below.mono (by assumption) (by first | exact Nat.le_refl _ | (simp; done) | (simp; omega) | omega))))⟩)
end Go.Proofs.YtceigdeoefhcfaaGreat


