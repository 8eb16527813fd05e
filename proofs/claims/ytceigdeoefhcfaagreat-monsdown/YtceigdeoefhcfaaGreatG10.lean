import Derived.Test.YtceigdeoefhcfaaGreatG09
/- Halves of monitors: the chapter's example. -/
namespace Go.Proofs.YtceigdeoefhcfaaGreat
open Go.RowKit Go.Lib
open MV (Hf hf0 getL insL delL Rise Wfk TB Nw Rst KV)
attribute [local go_sem] store_float f64bits
attribute [local go_sem ↓] Go.wp_at_zero Go.wp_at_succ

/-- A table that is laid behind w0. -/
def KM (w0 w : World) (tb : Nat) (O T : List KV) : Prop := ∃ D, MTab w tb D O T ∧ Below w0.heap.size w0 w ∧ w0.heap.size ≤ tb

theorem KM.keep {w0 w w' : World} {tb : Nat} {O T : List KV} (h : KM w0 w tb O T) (hb : Below w.heap.size w w') : KM w0 w' tb O T := by
  obtain ⟨D, h1, h2, h3⟩ := h
  exact ⟨D, h1.keep hb, h2.trans (hb.mono h2.size), h3⟩
theorem KM.step {w0 w w' : World} {tb : Nat} {D : Nat → Prop} {O T : List KV} (h2 : Below w0.heap.size w0 w) (h3 : w0.heap.size ≤ tb) (hu : MU w w' tb D O T) : KM w0 w' tb O T :=
  ⟨_, hu.mt, h2.trans (hu.bt.below h2.size (fun k e => by omega)), h3⟩
theorem KM.tl {w0 w : World} {tb : Nat} {O T : List KV} (h : KM w0 w tb O T) : tb < w.heap.size := by obtain ⟨_, h, _⟩ := h; exact h.lt
theorem KM.low {w0 w : World} {tb : Nat} {O T : List KV} (h : KM w0 w tb O T) : Below w0.heap.size w0 w := by obtain ⟨_, _, h, _⟩ := h; exact h

theorem KM.watch {w0 w : World} {tb : Nat} {O T O' : List KV} {z : Int} (h : KM w0 w tb O T) (hN : O.length < 10000000) (ref pid : Int) (name : ByteArray) (hs : name.size ≤ 281474976710656) (hz : putE 0 ⟨ref, pid, name⟩ O = z) (hO : putL 0 ⟨ref, pid, name⟩ O = O') :
    Calls Tryz.prog 11 #[.pointer (some ⟨tb, 0, none⟩), .int .i64 ref, .int .i64 pid, .string name] w fun e w' => e = .returned (.int .i64 z) ∧ KM w0 w' tb O' T ∧ But (fun k => k = tb) w w' := by
  obtain ⟨D, h1, h2, h3⟩ := h
  subst hz hO
  exact (mwatch_any h1 hN ref pid name hs).mono (by rintro e w' ⟨rfl, hu⟩; exact ⟨rfl, KM.step h2 h3 hu, hu.bt⟩)
theorem KM.down {w0 w : World} {tb : Nat} {O T O' : List KV} {v : Hf} {b : Bool} (h : KM w0 w tb O T) (hN : O.length < 10000000) (ref : Int) (hv : (getL ref O).getD hf0 = v) (hb : (getL ref O).isSome = b) (hO : delL ref O = O') :
    Calls Tryz.prog 12 #[.pointer (some ⟨tb, 0, none⟩), .int .i64 ref] w fun e w' => e = .returned (.tuple #[.agg #[.int .i64 v.a, .int .i64 v.b, .string v.c], .bool b]) ∧ KM w0 w' tb O' T ∧ But (fun k => k = tb) w w' := by
  obtain ⟨D, h1, h2, h3⟩ := h
  subst hv hb hO
  exact (mdown_any h1 hN ref).mono (by rintro e w' ⟨rfl, hu⟩; exact ⟨rfl, KM.step h2 h3 hu, hu.bt⟩)
theorem KM.len {w0 w : World} {tb : Nat} {O T : List KV} {a b : Int} (h : KM w0 w tb O T) (ha : (O.length : Int) = a) (hb : (T.length : Int) = b) :
    Calls Tryz.prog 13 #[.pointer (some ⟨tb, 0, none⟩)] w fun e w' => e = .returned (.tuple #[.int .i64 a, .int .i64 b]) ∧ KM w0 w' tb O T ∧ But (fun k => k = tb) w w' := by
  have h' := h
  obtain ⟨D, h1, h2, h3⟩ := h
  subst ha hb
  exact (mlen_any h1).mono (by rintro e w' ⟨rfl, hu⟩; exact ⟨rfl, h'.keep hu, But.of_below hu⟩)

abbrev X1 : List KV := [(5, ⟨5, 2, ⟨#[]⟩⟩)]
abbrev X2 : List KV := [(5, ⟨5, 3, ⟨#[97]⟩⟩)]

set_option maxRecDepth 100000 in
set_option maxHeartbeats 4000000 in
theorem known15_any (w : World) : Calls Tryz.prog 4 #[] w fun e w' => e = .returned (.bool true) ∧ Below w.heap.size w w' := by
  have C0 : Hid (Calls Tryz.prog 5 #[] w fun e w1 => e = .returned (.pointer (some ⟨w.heap.size, 0, none⟩)) ∧ KM w w1 w.heap.size [] [] ∧ w.heap.size < w1.heap.size) := by
    refine hidb ((mnew_any w).mono ?_)
    rintro e w1 ⟨rfl, g1, g2, g3⟩
    exact ⟨rfl, ⟨_, g1, g2, Nat.le_refl _⟩, by omega⟩
  have K1 : Hid (∀ W, KM w W w.heap.size [] [] → Calls Tryz.prog 11 #[.pointer (some ⟨w.heap.size, 0, none⟩), .int .i64 5, .int .i64 2, .string ⟨#[]⟩] W fun e w' => e = .returned (.int .i64 0) ∧ KM w w' w.heap.size X1 []) := hidb (fun W h => (h.watch (by decide) 5 2 ⟨#[]⟩ (by decide) (by rfl) (by rfl)).mono (by rintro e w' ⟨rfl, h1, -⟩; exact ⟨rfl, h1⟩))
  have K2 : Hid (∀ W, KM w W w.heap.size X1 [] → Calls Tryz.prog 11 #[.pointer (some ⟨w.heap.size, 0, none⟩), .int .i64 5, .int .i64 3, .string ⟨#[]⟩] W fun e w' => e = .returned (.int .i64 1) ∧ KM w w' w.heap.size X1 []) := hidb (fun W h => (h.watch (by decide) 5 3 ⟨#[]⟩ (by decide) (by rfl) (by rfl)).mono (by rintro e w' ⟨rfl, h1, -⟩; exact ⟨rfl, h1⟩))
  have K3 : Hid (∀ W, KM w W w.heap.size X1 [] → Calls Tryz.prog 12 #[.pointer (some ⟨w.heap.size, 0, none⟩), .int .i64 5] W fun e w' => e = .returned (.tuple #[.agg #[.int .i64 5, .int .i64 2, .string ⟨#[]⟩], .bool true]) ∧ KM w w' w.heap.size [] []) := hidb (fun W h => (h.down (v := ⟨5, 2, ⟨#[]⟩⟩) (by decide) 5 (by rfl) (by rfl) (by rfl)).mono (by rintro e w' ⟨rfl, h1, -⟩; exact ⟨rfl, h1⟩))
  have K4 : Hid (∀ W b, KM w W w.heap.size [] [] → Tri W b (.int .i64 5) (.int .i64 2) (.string ⟨#[]⟩) → b ≠ w.heap.size → Calls Tryz.prog 12 #[.pointer (some ⟨w.heap.size, 0, none⟩), .int .i64 5] W fun e w' => e = .returned (.tuple #[.agg #[.int .i64 0, .int .i64 0, .string ⟨#[]⟩], .bool false]) ∧ KM w w' w.heap.size [] [] ∧ Tri w' b (.int .i64 5) (.int .i64 2) (.string ⟨#[]⟩)) := hidb (fun W b h P hne => (h.down (v := hf0) (by decide) 5 (by rfl) (by rfl) (by rfl)).mono (by rintro e w' ⟨rfl, h1, h2⟩; exact ⟨rfl, h1, P.but h2 hne⟩))
  have K5 : Hid (∀ W b, KM w W w.heap.size [] [] → Tri W b (.int .i64 5) (.int .i64 2) (.string ⟨#[]⟩) → b ≠ w.heap.size → Calls Tryz.prog 11 #[.pointer (some ⟨w.heap.size, 0, none⟩), .int .i64 5, .int .i64 3, .string ⟨#[97]⟩] W fun e w' => e = .returned (.int .i64 0) ∧ KM w w' w.heap.size X2 [] ∧ Tri w' b (.int .i64 5) (.int .i64 2) (.string ⟨#[]⟩)) := hidb (fun W b h P hne => (h.watch (by decide) 5 3 ⟨#[97]⟩ (by decide) (by rfl) (by rfl)).mono (by rintro e w' ⟨rfl, h1, h2⟩; exact ⟨rfl, h1, P.but h2 hne⟩))
  have K6 : Hid (∀ W b, KM w W w.heap.size X2 [] → Tri W b (.int .i64 5) (.int .i64 2) (.string ⟨#[]⟩) → b ≠ w.heap.size → Calls Tryz.prog 13 #[.pointer (some ⟨w.heap.size, 0, none⟩)] W fun e w' => e = .returned (.tuple #[.int .i64 1, .int .i64 0]) ∧ KM w w' w.heap.size X2 [] ∧ Tri w' b (.int .i64 5) (.int .i64 2) (.string ⟨#[]⟩)) := hidb (fun W b h P hne => (h.len (by rfl) (by rfl)).mono (by rintro e w' ⟨rfl, h1, h2⟩; exact ⟨rfl, h1, P.but h2 hne⟩))
  go_enter Tryz.func4, Tryz.ntmps4
  go_wp2_with (first
    | (go_at_call 5; refine C0.out.mono ?_; clear C0; rintro e w1 ⟨rfl, h1, hlt⟩; have H1 := hidb h1; clear h1)
    | (go_at_call 11; refine (K1.out _ H1.out).mono ?_; clear K1; rintro e w2 ⟨rfl, h2⟩; have H2 := hidb h2; clear h2)
    | (go_at_call 11; refine (K2.out _ H2.out).mono ?_; clear K2; rintro e w3 ⟨rfl, h3⟩; have H3 := hidb h3; clear h3)
    | (go_at_call 12; refine (K3.out _ H3.out).mono ?_; clear K3; rintro e w4 ⟨rfl, h4⟩; have H4 := hidb h4; have hn4 : w4.heap.size ≠ w.heap.size := (by have := h4.tl; omega); clear h4)
    | (go_at_call 12; refine (K4.out _ w4.heap.size (H4.out.keep (below_new _ _)) (Tri.new _ _ _ _ _) hn4).mono ?_; clear K4; rintro e w5 ⟨rfl, h5, P5⟩; have H5 := hidb h5; have HP5 := hidb P5; clear h5 P5)
    | (go_at_call 11; refine (K5.out _ w4.heap.size (H5.out.keep (below_new _ _)) (HP5.out.keep (below_new _ _)) hn4).mono ?_; clear K5; rintro e w6 ⟨rfl, h6, P6⟩; have H6 := hidb h6; have HP6 := hidb P6; clear h6 P6)
    | (go_at_call 13; refine (K6.out _ w4.heap.size H6.out HP6.out hn4).mono ?_; clear K6; rintro e w7 ⟨rfl, h7, P7⟩; have H7 := hidb h7; have m0 := P7.c0; have m1 := P7.c1; have m2 := P7.c2; clear h7 P7))
  go_ret
  exact ⟨rfl, H7.out.low⟩

end Go.Proofs.YtceigdeoefhcfaaGreat


/- Halves of monitors: what put and taken is, in plain words. -/
namespace Go.Proofs.YtceigdeoefhcfaaGreat
open Go.RowKit Go.Lib
open MV (Hf hf0 getL insL delL Rise Wfk TB Nw Rst KV)

theorem getL_filter (q : Int) (f : Int → Bool) : ∀ l : List MV.KV, getL q (l.filter (fun x => f x.1)) = if f q then getL q l else none
  | [] => by simp [getL]
  | x :: r => by
    rw [List.filter_cons]
    by_cases e : x.1 = q
    · by_cases g : f x.1 = true
      · rw [if_pos g, ← e, if_pos g]; simp [getL]
      · rw [if_neg g, getL_filter q f r, ← e, if_neg g, if_neg g]
    · by_cases g : f x.1 = true
      · rw [if_pos g]; simp only [getL, e, if_false]; exact getL_filter q f r
      · rw [if_neg g]; simp only [getL, e, if_false]; exact getL_filter q f r
theorem getL_ins (q p : Int) (v : Hf) (l : List MV.KV) : getL q (insL p v l) = if p = q then some v else getL q l := by
  unfold insL
  rw [MV.getL_append, getL_filter q (fun a => decide (a < p))]
  simp only [getL]
  rw [getL_filter q (fun a => decide (p < a))]
  by_cases e : p = q
  · subst e; simp
  · rcases Int.lt_or_gt_of_ne e with h | h
    · simp [e, h, show ¬ q < p by omega]
    · simp [e, h, show ¬ p < q by omega]
theorem getL_del (q p : Int) (l : List MV.KV) : getL q (delL p l) = if p = q then none else getL q l := by
  unfold delL
  rw [getL_filter q (fun a => decide (a ≠ p))]
  by_cases e : p = q
  · subst e; simp
  · simp [e, show ¬ q = p from fun h => e h.symm]

theorem put_len (m : Int) (v : Hf) {L : List KV} (h : Rise L) : (putL m v L).length ≤ L.length + 1 := by
  unfold putL addL
  split
  · omega
  · split
    · omega
    · rw [MV.ins_len h]; split <;> omega
theorem del_le (p : Int) (L : List KV) : (delL p L).length ≤ L.length := List.length_filter_le _ _
theorem tail_le (L : List KV) : L.tail.length ≤ L.length := by simp
theorem put_had {m : Int} {v : Hf} {L : List KV} (h : (getL v.a L).isSome = true) : putE m v L = 1 := by
  unfold putE addE; rw [h]; simp
theorem put_low {m : Int} {v : Hf} {L : List KV} (h : refB m v = true) : putE m v L = 1 := by
  unfold putE; rw [h]; simp
theorem put_good {m : Int} {v : Hf} {L : List KV} (h : refB m v = false) (h2 : (getL v.a L).isSome = false) : putE m v L = 0 := by
  unfold putE addE; rw [h, h2]; simp
theorem put_get (m : Int) (v : Hf) (L : List KV) : (getL v.a (putL m v L)).isSome = ((getL v.a L).isSome || (putE m v L == 0)) := by
  unfold putL putE addL addE
  cases h1 : refB m v
  · cases h2 : (getL v.a L).isSome
    · simp [getL_ins]
    · simp [h2]
  · cases h2 : (getL v.a L).isSome <;> simp [h2]
theorem put_other {n : Int} (m : Int) (v : Hf) (L : List KV) (h : v.a ≠ n) : getL n (putL m v L) = getL n L := by
  unfold putL addL
  split
  · rfl
  · split
    · rfl
    · rw [getL_ins, if_neg h]
theorem del_get (p : Int) (L : List KV) : (getL p (delL p L)).isSome = false := by rw [getL_del, if_pos rfl]; rfl
theorem del_other {n : Int} (p : Int) (L : List KV) (h : p ≠ n) : getL n (delL p L) = getL n L := by rw [getL_del, if_neg h]
theorem KM.rises {w0 w : World} {tb : Nat} {O T : List KV} (h : KM w0 w tb O T) : Rise O ∧ Rise T := by obtain ⟨_, h, _⟩ := h; exact ⟨h.og.rise, h.tg.rise⟩

end Go.Proofs.YtceigdeoefhcfaaGreat


