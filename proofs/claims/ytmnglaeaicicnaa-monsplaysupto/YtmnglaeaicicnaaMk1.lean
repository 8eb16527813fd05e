/- Halves of monitors: remove, pop. -/
import Derived.Test.YtmnglaeaicicnaaMk0
namespace Go.Proofs.Ytmnglaeaicicnaa
open Go.RowKit Go.Lib
open MV (Hf hf0 getL insL delL Rise Wfk TB Nw Rst KV)
attribute [local go_sem ↓] Go.wp_at_zero Go.wp_at_succ

/-- By reference. -/
def MOk (L : List KV) : Prop := ∀ x ∈ L, x.2.a = x.1
theorem mok_ins {L : List KV} {p : Int} {v : Hf} (h : MOk L) (hv : v.a = p) : MOk (insL p v L) := by
  intro x hx
  simp only [insL, List.mem_append, List.mem_cons, List.mem_filter] at hx
  rcases hx with hx | rfl | hx
  · exact h x hx.1
  · exact hv
  · exact h x hx.1
theorem mok_del {L : List KV} {p : Int} (h : MOk L) : MOk (delL p L) := fun x hx => h x (List.mem_filter.1 hx).1
theorem mok_get {L : List KV} {p : Int} (h : MOk L) (hr : Rise L) (hs : (getL p L).isSome = true) : ((getL p L).getD hf0).a = p := by
  obtain ⟨A, B, rfl, h1, h2⟩ := MV.split_at (key := p) hr
  have hg := MV.getL_split hr h1 h2
  rw [hg] at hs ⊢
  cases B with
  | nil => simp at hs
  | cons x r =>
    by_cases e : x.1 = p
    · simp only [e, if_true, Option.getD_some]
      rw [h x (by simp), e]
    · simp [e] at hs
theorem del_head {x : KV} {r : List KV} (h : Rise (x :: r)) : delL x.1 (x :: r) = r := MV.del_here (A := []) h

theorem HU.poke {w W w1 w2 : World} {tb o blk : Nat} {D : Nat → Prop} {L : List KV} (hb : Below w.heap.size w W) (h : HU W w1 tb o (fun k => D k ∧ k < w.heap.size) L) (hS : But (fun k => k = blk) w1 w2) (hk : w.heap.size ≤ blk ∧ blk < W.heap.size) (hl : tb < w.heap.size) (hD : ¬ D tb) : HU w w2 tb o D L := by
  have hs1 := hb.size
  have hs2 := h.bt.size
  have hs3 := hS.size
  refine ⟨(h.tr.but hS (fun k hk e => hk.elim (fun h => by omega) (fun h => by omega)) (by omega)).mono (fun k hk => hk.elim (fun h => .inl h.1) (fun h => .inr ⟨by omega, by omega⟩)) (fun h => h.elim hD (fun h => by omega)), ?_, ?_⟩
  · exact ((But.of_below hb).trans h.bt).trans' hS (fun k hk e => by omega)
  · exact ((MV.Rst.of_below hb hl).trans h.rs).trans (MV.Rst.of_but hS (by omega) (by omega))
theorem but3 (w : World) (b : Nat) (u0 u1 u2 : Value) : But (fun k => k = b) w (((w.setCell ⟨b, 0, none⟩ u0).setCell ⟨b, 1, none⟩ u1).setCell ⟨b, 2, none⟩ u2) := (((But.refl (fun k => k = b) w).setCell (p := ⟨b, 0, none⟩) (fun _ => rfl) _).setCell (p := ⟨b, 1, none⟩) (fun _ => rfl) _).setCell (p := ⟨b, 2, none⟩) (fun _ => rfl) _

set_option maxHeartbeats 4000000 in
theorem rem1_any {w : World} {tb o Bh Br : Nat} {D : Nat → Prop} {L : List KV} {ref : Int} (h : TB w tb o D L) (c1 : w.cell? ⟨Bh, 0, none⟩ = some (.pointer (some ⟨tb, o, none⟩))) (c2 : w.cell? ⟨Br, 0, none⟩ = some (.int .i64 ref)) :
    Fnd w 39 #[.pointer (some ⟨Bh, 0, none⟩), .pointer (some ⟨Br, 0, none⟩)] ((getL ref L).getD hf0) (getL ref L).isSome := by
  intro W hW
  have l1 : Bh < w.heap.size := World.block_lt_of_cell? _ _ c1
  have l2 : Br < w.heap.size := World.block_lt_of_cell? _ _ c2
  have d1 : W.cell? ⟨Bh, 0, none⟩ = some (.pointer (some ⟨tb, o, none⟩)) := (hW.cell (p := ⟨Bh, 0, none⟩) l1).trans c1
  have d2 : W.cell? ⟨Br, 0, none⟩ = some (.int .i64 ref) := (hW.cell (p := ⟨Br, 0, none⟩) l2).trans c2
  have m1 : Bh < W.heap.size := Nat.lt_of_lt_of_le l1 hW.size
  have m2 : Br < W.heap.size := Nat.lt_of_lt_of_le l2 hW.size
  have hb0 := below_new W (.cells #[.int .i64 0, .int .i64 0, .string ⟨#[]⟩] 38)
  have P0 : Tri (W.alloc (.cells #[.int .i64 0, .int .i64 0, .string ⟨#[]⟩] 38)) W.heap.size (.int .i64 0) (.int .i64 0) (.string ⟨#[]⟩) := Tri.new _ _ _ _ _
  have HG : Hid (Calls Try.prog 35 #[.pointer (some ⟨tb, o, none⟩), .int .i64 ref] (W.alloc (.cells #[.int .i64 0, .int .i64 0, .string ⟨#[]⟩] 38)).drew fun e w' => e = .returned (.tuple #[.agg #[.int .i64 ((getL ref L).getD hf0).a, .int .i64 ((getL ref L).getD hf0).b, .string ((getL ref L).getD hf0).c], .bool (getL ref L).isSome]) ∧ Tri w' W.heap.size (.int .i64 0) (.int .i64 0) (.string ⟨#[]⟩) ∧ Hid (Below W.heap.size W w')) := hidb ((MV.get_any (((h.keep hW).keep hb0).keep ((Below.refl _ _).drew)) ref).mono (by
    rintro e w' ⟨rfl, hb⟩
    exact ⟨rfl, (P0.keep ((Below.refl _ _).drew)).keep hb, hidb (hb0.drew.trans (hb.mono (hb0.drew).size))⟩))
  clear h c1 c2 hW l1 l2 hb0 P0
  go_enter Try.func39, Try.ntmps39
  go_wp2_with fail
  go_region_with (go_at_call 35; refine HG.out.mono ?_; rintro e w' ⟨rfl, P1, HB⟩; have p0 := P1.c0; have p1 := P1.c1; have p2 := P1.c2; have q0 := P1.f0; have q1 := P1.f1; have q2 := P1.f2)
  all_goals go_wp2_with fail
  all_goals (
    have hb := HB.out
    exact bodyPost_ret (v := .tuple #[.agg #[.int .i64 ((getL ref L).getD hf0).a, .int .i64 ((getL ref L).getD hf0).b, .string ((getL ref L).getD hf0).c], .bool (getL ref L).isSome]) (by simp [results, Try.results39, go_sem, p0, p1, p2]) rfl ⟨rfl, by (repeat (first | exact Below.refl _ _ | assumption | refine Below.drew ?_ | refine below_drewN ?_ _ | refine Below.setCell ?_ (by simp) _ | refine Below.alloc ?_ (by (first | exact Nat.le_refl _ | (simp; done) | (simp; omega) | omega)) _ | refine Below.trans ?_ (Below.mono (by assumption) (by first | exact Nat.le_refl _ | (simp; done) | (simp; omega) | omega))))⟩)

set_option maxHeartbeats 4000000 in
theorem hremove_any {w : World} {tb o : Nat} {D : Nat → Prop} {L : List KV} (h : TB w tb o D L) (hN : L.length < 10000000) (hk : MOk L) (ref : Int) :
    Calls Try.prog 28 #[.pointer (some ⟨tb, o, none⟩), .int .i64 ref] w fun e w' => e = .returned (.tuple #[.agg #[.int .i64 ((getL ref L).getD hf0).a, .int .i64 ((getL ref L).getD hf0).b, .string ((getL ref L).getD hf0).c], .bool (getL ref L).isSome]) ∧ HU w w' tb o D (delL ref L) := by
  have hl := h.lt
  have hD := h.nd
  obtain ⟨W, hWe⟩ : ∃ W, (((w.alloc (.cells #[.pointer (some ⟨tb, o, none⟩)] 59)).alloc (.cells #[.int .i64 ref] 3)).alloc (.cells #[.int .i64 0, .int .i64 0, .string ⟨#[]⟩] 38)) = W := ⟨_, rfl⟩
  have hb0 : Below w.heap.size w W := hWe ▸ ((below_new _ _).alloc (by simp) _).alloc (by simp; omega) _
  have hsz : W.heap.size = w.heap.size + 1 + 1 + 1 := by rw [← hWe]; simp
  have P0 : Tri W (w.heap.size + 1 + 1) (.int .i64 0) (.int .i64 0) (.string ⟨#[]⟩) := by rw [← hWe]; have := Tri.new ((w.alloc (.cells #[.pointer (some ⟨tb, o, none⟩)] 59)).alloc (.cells #[.int .i64 ref] 3)) 38 (.int .i64 0) (.int .i64 0) (.string ⟨#[]⟩); simpa using this
  have c1 : W.cell? ⟨w.heap.size, 0, none⟩ = some (.pointer (some ⟨tb, o, none⟩)) := by rw [← hWe]; simp [go_sem]
  have c2 : W.cell? ⟨w.heap.size + 1, 0, none⟩ = some (.int .i64 ref) := by rw [← hWe]; simp [go_sem]
  have HT : Hid (Calls Try.prog 38 #[.pointer (some ⟨tb, o, none⟩), .func (.func 39) #[] #[.pointer (some ⟨w.heap.size, 0, none⟩), .pointer (some ⟨w.heap.size + 1, 0, none⟩)]] W fun e w' => e = .returned (.tuple #[.agg #[.int .i64 ((getL ref L).getD hf0).a, .int .i64 ((getL ref L).getD hf0).b, .string ((getL ref L).getD hf0).c], .bool (getL ref L).isSome]) ∧ Tri w' (w.heap.size + 1 + 1) (.int .i64 0) (.int .i64 0) (.string ⟨#[]⟩) ∧ Hid (∀ w2, But (fun k => k = w.heap.size + 1 + 1) w' w2 → HU w w2 tb o D (delL ref L))) := hidb ((htake_any (D := fun k => D k ∧ k < w.heap.size) (L' := delL ref L) (h.cut.keep hb0) hN _ _ e_rem ((getL ref L).getD hf0) (getL ref L).isSome (rem1_any (h.keep hb0) c1 c2) (fun hs => by rw [mok_get hk h.rise hs]) (fun hs => by rw [MV.del_of_none (by simpa using hs)])).mono (by
    rintro e w' ⟨rfl, hu⟩
    exact ⟨rfl, P0.but hu.bt (by omega), hidb (fun w2 hS => HU.poke hb0 hu hS (by omega) hl hD)⟩))
  clear h hN hk hl hD hb0 hsz P0 c2
  go_enter Try.func28, Try.ntmps28
  go_wp2_with (go_at_call 38; refine HT.out.mono ?_; clear HT; rintro e w' ⟨rfl, P1, HV⟩; have p0 := P1.c0; have p1 := P1.c1; have p2 := P1.c2; have q0 := P1.f0; have q1 := P1.f1; have q2 := P1.f2)
  exact bodyPost_ret (v := .tuple #[.agg #[.int .i64 ((getL ref L).getD hf0).a, .int .i64 ((getL ref L).getD hf0).b, .string ((getL ref L).getD hf0).c], .bool (getL ref L).isSome]) (by simp [results, Try.results28, go_sem, p0, p1, p2]) rfl ⟨rfl, HV.out _ (but3 _ _ _ _ _)⟩

set_option maxHeartbeats 4000000 in
theorem pop1_any {w : World} {tb o Bh : Nat} {D : Nat → Prop} {L : List KV} (h : TB w tb o D L) (c1 : w.cell? ⟨Bh, 0, none⟩ = some (.pointer (some ⟨tb, o, none⟩))) :
    Fnd w 40 #[.pointer (some ⟨Bh, 0, none⟩)] (L.headD (0, hf0)).2 (!L.isEmpty) := by
  intro W hW
  have l1 : Bh < w.heap.size := World.block_lt_of_cell? _ _ c1
  have d1 : W.cell? ⟨Bh, 0, none⟩ = some (.pointer (some ⟨tb, o, none⟩)) := (hW.cell (p := ⟨Bh, 0, none⟩) l1).trans c1
  have m1 : Bh < W.heap.size := Nat.lt_of_lt_of_le l1 hW.size
  have hb0 := below_new W (.cells #[.int .i64 0, .int .i64 0, .string ⟨#[]⟩] 38)
  have P0 : Tri (W.alloc (.cells #[.int .i64 0, .int .i64 0, .string ⟨#[]⟩] 38)) W.heap.size (.int .i64 0) (.int .i64 0) (.string ⟨#[]⟩) := Tri.new _ _ _ _ _
  have HG : Hid (Calls Try.prog 41 #[.pointer (some ⟨tb, o, none⟩)] (W.alloc (.cells #[.int .i64 0, .int .i64 0, .string ⟨#[]⟩] 38)) fun e w' => e = .returned (.tuple #[.int .i64 (L.headD (0, hf0)).1, .agg #[.int .i64 (L.headD (0, hf0)).2.a, .int .i64 (L.headD (0, hf0)).2.b, .string (L.headD (0, hf0)).2.c], .bool (!L.isEmpty)]) ∧ Tri w' W.heap.size (.int .i64 0) (.int .i64 0) (.string ⟨#[]⟩) ∧ W.heap.size < w'.heap.size ∧ Hid (Below W.heap.size W w')) := hidb ((MV.First_any ((h.keep hW).keep hb0)).mono (by
    rintro e w' ⟨hb, rfl⟩
    exact ⟨rfl, P0.keep hb, (P0.keep hb).lt, hidb (hb0.trans (hb.mono hb0.size))⟩))
  clear h c1 hW l1 hb0 P0
  go_enter Try.func40, Try.ntmps40
  go_wp2_with (go_at_call 41; refine HG.out.mono ?_; clear HG; rintro e w' ⟨rfl, P1, hlt, HB⟩; have p0 := P1.c0; have p1 := P1.c1; have p2 := P1.c2; have q0 := P1.f0; have q1 := P1.f1; have q2 := P1.f2)
  have hb := HB.out
  have hbs := hb.size
  exact bodyPost_ret (v := .tuple #[.agg #[.int .i64 (L.headD (0, hf0)).2.a, .int .i64 (L.headD (0, hf0)).2.b, .string (L.headD (0, hf0)).2.c], .bool (!L.isEmpty)]) (by simp [results, Try.results40, go_sem, p0, p1, p2, hlt]) rfl ⟨rfl, by (repeat (first | exact Below.refl _ _ | assumption | refine Below.drew ?_ | refine below_drewN ?_ _ | refine Below.setCell ?_ (by simp) _ | refine Below.alloc ?_ (by (first | exact Nat.le_refl _ | (simp; done) | (simp; omega) | omega)) _ | refine Below.trans ?_ (Below.mono (by assumption) (by first | exact Nat.le_refl _ | (simp; done) | (simp; omega) | omega))))⟩

set_option maxHeartbeats 4000000 in
theorem hpop_any {w : World} {tb o : Nat} {D : Nat → Prop} {L : List KV} (h : TB w tb o D L) (hN : L.length < 10000000) (hk : MOk L) :
    Calls Try.prog 29 #[.pointer (some ⟨tb, o, none⟩)] w fun e w' => e = .returned (.tuple #[.agg #[.int .i64 (L.headD (0, hf0)).2.a, .int .i64 (L.headD (0, hf0)).2.b, .string (L.headD (0, hf0)).2.c], .bool (!L.isEmpty)]) ∧ HU w w' tb o D L.tail := by
  have hl := h.lt
  have hD := h.nd
  obtain ⟨W, hWe⟩ : ∃ W, ((w.alloc (.cells #[.pointer (some ⟨tb, o, none⟩)] 59)).alloc (.cells #[.int .i64 0, .int .i64 0, .string ⟨#[]⟩] 38)) = W := ⟨_, rfl⟩
  have hb0 : Below w.heap.size w W := hWe ▸ (below_new _ _).alloc (by simp) _
  have hsz : W.heap.size = w.heap.size + 1 + 1 := by rw [← hWe]; simp
  have P0 : Tri W (w.heap.size + 1) (.int .i64 0) (.int .i64 0) (.string ⟨#[]⟩) := by rw [← hWe]; have := Tri.new (w.alloc (.cells #[.pointer (some ⟨tb, o, none⟩)] 59)) 38 (.int .i64 0) (.int .i64 0) (.string ⟨#[]⟩); simpa using this
  have c1 : W.cell? ⟨w.heap.size, 0, none⟩ = some (.pointer (some ⟨tb, o, none⟩)) := by rw [← hWe]; simp [go_sem]
  have HT : Hid (Calls Try.prog 38 #[.pointer (some ⟨tb, o, none⟩), .func (.func 40) #[] #[.pointer (some ⟨w.heap.size, 0, none⟩)]] W fun e w' => e = .returned (.tuple #[.agg #[.int .i64 (L.headD (0, hf0)).2.a, .int .i64 (L.headD (0, hf0)).2.b, .string (L.headD (0, hf0)).2.c], .bool (!L.isEmpty)]) ∧ Tri w' (w.heap.size + 1) (.int .i64 0) (.int .i64 0) (.string ⟨#[]⟩) ∧ Hid (∀ w2, But (fun k => k = w.heap.size + 1) w' w2 → HU w w2 tb o D L.tail)) := hidb ((htake_any (D := fun k => D k ∧ k < w.heap.size) (L' := L.tail) (h.cut.keep hb0) hN _ _ e_pop (L.headD (0, hf0)).2 (!L.isEmpty) (pop1_any (h.keep hb0) c1) (fun hs => by
      cases L with
      | nil => cases hs
      | cons x r => simp only [List.headD_cons, List.tail_cons]; rw [hk x (by simp)]; exact del_head h.rise) (fun hs => by
      cases L with
      | nil => rfl
      | cons x r => cases hs)).mono (by
    rintro e w' ⟨rfl, hu⟩
    exact ⟨rfl, P0.but hu.bt (by omega), hidb (fun w2 hS => HU.poke hb0 hu hS (by omega) hl hD)⟩))
  clear h hN hk hl hD hb0 hsz P0
  go_enter Try.func29, Try.ntmps29
  go_wp2_with (go_at_call 38; refine HT.out.mono ?_; clear HT; rintro e w' ⟨rfl, P1, HV⟩; have p0 := P1.c0; have p1 := P1.c1; have p2 := P1.c2; have q0 := P1.f0; have q1 := P1.f1; have q2 := P1.f2)
  exact bodyPost_ret (v := .tuple #[.agg #[.int .i64 (L.headD (0, hf0)).2.a, .int .i64 (L.headD (0, hf0)).2.b, .string (L.headD (0, hf0)).2.c], .bool (!L.isEmpty)]) (by simp [results, Try.results29, go_sem, p0, p1, p2]) rfl ⟨rfl, HV.out _ (but3 _ _ _ _ _)⟩

end Go.Proofs.Ytmnglaeaicicnaa
