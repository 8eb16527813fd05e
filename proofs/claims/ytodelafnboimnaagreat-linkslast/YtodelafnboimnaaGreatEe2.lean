/- Put of a signal that has no term. -/
import Derived.Test.YtodelafnboimnaaGreatEe1
namespace Go.Proofs.YtodelafnboimnaaGreat
open Go.RowKit Go.Lib Go.Maps
attribute [local go_sem] store_float f64bits
attribute [local go_sem ↓] Go.wp_at_zero Go.wp_at_succ

variable {w0 w : World} {eb all N : Nat} {mv : Value} {f : Int → Int → Option Lane}

abbrev sgl (x0 x1 x2 x3 : Int) : List Value := [.int .i64 x0, .int .i64 x1, .int .i64 x2, .int .i64 x3, .int .i64 0, .bool false, .string ⟨#[]⟩, .int .i64 0, .int .i64 0, .float .f64 0, .string ⟨#[]⟩, .slice none 0 0]

theorem put_refused {x0 x1 x2 x3 : Int} (h : EO w0 w eb mv f all N) (er : Int) (hz : (er == 0) = false) (CK0 : ∀ w, Calls Tryz.prog 32 #[.agg #[.int .i64 x0, .int .i64 x1, .int .i64 x2, .int .i64 x3, .int .i64 0, .bool false, .string ⟨#[]⟩, .int .i64 0, .int .i64 0, .float .f64 0, .string ⟨#[]⟩, .slice none 0 0]] w fun e w' => e = .returned (.int .i64 er) ∧ Below w.heap.size w w') :
    Calls Tryz.prog 19 #[.pointer (some ⟨eb, 0, none⟩), .agg #[.int .i64 x0, .int .i64 x1, .int .i64 x2, .int .i64 x3, .int .i64 0, .bool false, .string ⟨#[]⟩, .int .i64 0, .int .i64 0, .float .f64 0, .string ⟨#[]⟩, .slice none 0 0]] w fun e w' => e = .returned (.int .i64 er) ∧ EO w0 w' eb mv f all N := by
  have CK := hidb CK0
  have HE := hidb h
  clear h CK0
  go_enter Tryz.func19, Tryz.ntmps19
  go_wp2_with (go_at_call 32; refine (CK.out _).mono ?_; rintro e w1 ⟨rfl, hb1⟩; have HE1 := hidb ((HE.out.keep (below_new w _)).keep hb1); clear hb1)
  go_ret
  exact ⟨rfl, HE1.out⟩

theorem put_far {w2 : World} {mv' : Value} {g : Int → Int → Option Lane} {b M : Nat} {i j : Int} {l : Lane} {x0 : Int} {r : List Value} {t : TypeId} (h : EO w0 w2 eb mv' g all M) (hl : g i j = some l) (hor : f i j = some l ∨ l.V = .slice none 0 0) (hlt : ∀ l q, f i j = some l → foot l q → q < b) (hb : w2.heap[b]? = some (.cells (.int .i64 x0 :: r).toArray t)) : ¬ foot l b := by
  intro hq
  rcases hor with e | e
  · have := hlt l b e hq; omega
  · rcases hq with e2 | e2
    · obtain ⟨_, _, ⟨gone, items, n, hr, _⟩, _⟩ := h.lane i j l hl
      have c0 := hr.duo.c0
      rw [← e2, cell_of_row _ _ _ _ _ _ hb, e] at c0
      simp at c0
    · rw [e] at e2; simp [Value.ownBlock] at e2

/-- What a Put may write, of what lay there. -/
def putS (mv : Value) (f : Int → Int → Option Lane) (eb : Nat) (i j : Int) (q : Nat) : Prop := q = eb ∨ mv = .map (some q) ∨ ∃ l, f i j = some l ∧ foot l q

theorem put_foot {mv : Value} {f : Int → Int → Option Lane} {eb : Nat} {i j : Int} {w w1 w2 w3 : World} {l : Lane} {V' : Value} {xs : List Value} {k : Nat} (h1 : Below w.heap.size w w1) (h2 : But (fun k => k = eb ∨ mv = .map (some k)) w1.drew w2) (h3 : Below w2.heap.size w2 w3) (hor : f i j = some l ∨ l.V = .slice none 0 0 ∧ w1.drew.heap.size ≤ l.rb) (hs : Stays w3 l.V V') : ∀ q, foot ⟨l.rb, V', xs, k⟩ q → (∃ l0, f i j = some l0 ∧ foot l0 q) ∨ w.heap.size ≤ q := by
  have a1 := h1.size
  have a2 : w1.heap.size ≤ w2.heap.size := h2.size
  have a3 := h3.size
  rintro q (e | e)
  · rcases hor with h | ⟨_, h⟩
    · exact .inl ⟨l, h, .inl e⟩
    · right; have h' : w1.heap.size ≤ l.rb := h; have e' : q = l.rb := e; omega
  · rcases hs with s | s
    · rcases hor with h | ⟨h, _⟩
      · exact .inl ⟨l, h, .inr (s ▸ e)⟩
      · have e' : V'.ownBlock = some q := e
        rw [s, h] at e'; simp [Value.ownBlock] at e'
    · right; have := s q e; omega

theorem put_frame {mv : Value} {f : Int → Int → Option Lane} {eb : Nat} {i j : Int} {w w1 w2 w3 w4 : World} {l : Lane} (h1 : Below w.heap.size w w1) (h2 : But (fun k => k = eb ∨ mv = .map (some k)) w1.drew w2) (h3 : Below w2.heap.size w2 w3) (hor : f i j = some l ∨ l.V = .slice none 0 0 ∧ w1.drew.heap.size ≤ l.rb) (h4 : But (fun k => k = l.rb ∨ l.V.ownBlock = some k) w3 w4) : But (putS mv f eb i j) w w4 := by
  have a : But (putS mv f eb i j) w w2 := (But.of_below (h1.drew)).trans (h2.mono (fun q _ e => e.elim (fun e => .inl e) (fun e => .inr (.inl e))))
  have b : But (putS mv f eb i j) w w3 := a.trans (But.of_below h3)
  refine ⟨h4.os.trans b.os, h4.tape.trans b.tape, h4.output.trans b.output, Nat.le_trans b.size h4.size, fun k hk hs => (h4.block k (Nat.lt_of_lt_of_le hk b.size) ?_).trans (b.block k hk hs)⟩
  rintro hq
  rcases hor with e | ⟨e, e2⟩
  · exact hs (.inr (.inr ⟨l, e, hq⟩))
  · rcases hq with q | q
    · have := h1.size; have e3 : w1.heap.size ≤ l.rb := e2; omega
    · rw [e] at q; simp [Value.ownBlock] at q

set_option maxHeartbeats 4000000 in
set_option maxRecDepth 100000 in
theorem put_ok {x0 x1 x2 x3 : Int} (hi : wfi x0) (hj : wfi x1) (h : EO w0 w eb mv f all N) (hN : N ≤ 100000) (hA : all ≤ 100000) (CK0 : ∀ w, Calls Tryz.prog 32 #[.agg #[.int .i64 x0, .int .i64 x1, .int .i64 x2, .int .i64 x3, .int .i64 0, .bool false, .string ⟨#[]⟩, .int .i64 0, .int .i64 0, .float .f64 0, .string ⟨#[]⟩, .slice none 0 0]] w fun e w' => e = .returned (.int .i64 0) ∧ Below w.heap.size w w') :
    Calls Tryz.prog 19 #[.pointer (some ⟨eb, 0, none⟩), .agg #[.int .i64 x0, .int .i64 x1, .int .i64 x2, .int .i64 x3, .int .i64 0, .bool false, .string ⟨#[]⟩, .int .i64 0, .int .i64 0, .float .f64 0, .string ⟨#[]⟩, .slice none 0 0]] w fun e w' => e = .returned (.int .i64 0) ∧
      ∃ mv' l, EO w0 w' eb mv' (updL f x0 x1 (some l)) (all + 1) (N + 2) ∧ l.xs = oldx f x0 x1 ++ sgl x0 x1 x2 x3 ∧ l.k = oldk f x0 x1 + 1 ∧ But (putS mv f eb x0 x1) w w' ∧ (∀ k, mv' = .map (some k) → mv = .map (some k) ∨ w.heap.size ≤ k) ∧ (∀ q, foot l q → (∃ l0, f x0 x1 = some l0 ∧ foot l0 q) ∨ w.heap.size ≤ q) := by
  have CK := hidb CK0
  have HE := hidb h
  have HS := hidb (at_new w (.cells #[.int .i64 x0, .int .i64 x1, .int .i64 x2, .int .i64 x3, .int .i64 0, .bool false, .string ⟨#[]⟩, .int .i64 0, .int .i64 0, .float .f64 0, .string ⟨#[]⟩, .slice none 0 0] ST))
  have OW := hidb (fun w' => own_leaf x0 x1 x2 x3 0 false ⟨#[]⟩ 0 0 0 ⟨#[]⟩ none 0 w')
  have hmlt : ∀ k, (k = eb ∨ mv = .map (some k)) → k < w.heap.size := by
    rintro k (rfl | e)
    · exact h.duo.lt
    · rcases h.map with ⟨e2, _⟩ | ⟨mb, n, e2, he, _⟩
      · rw [e2] at e; cases e
      · rw [e2] at e; obtain rfl : mb = k := by simpa using e
        exact he.lt
  have HML := hidb hmlt
  clear h CK0 hmlt
  go_enter Tryz.func19, Tryz.ntmps19
  go_wp2_with (go_at_call 32; refine (CK.out _).mono ?_; rintro e w1 ⟨rfl, hb1⟩; have HE1 := hidb ((HE.out.keep (below_new w _)).keep hb1); have HS1 := hidb (at_keep HS.out hb1); obtain ⟨s0, s1, s2, s3, s4, s5, s6, s7, s8, s9, s10, s11⟩ := box12 HS1.out; have HF1 : Hid (Below w.heap.size w w1) := hidb ((below_new w _).trans (hb1.mono (by simp))); clear hb1)
  have HE1D := hidb (HE1.out.keep ((Below.refl _ _).drew))
  have OP := hidb (open_any hi hj HE1D.out (by omega))
  have HLT := hidb (show w.heap.size < w1.heap.size from (Array.getElem?_eq_some_iff.1 HS1.out).1)
  have HFO : Hid (∀ l q, f x0 x1 = some l → foot l q → q < w.heap.size) := hidb (fun l q hl hq => (HE.out.foot_lt hl hq).1)
  clear HE CK HE1 HS
  go_region_held3 (fun w' => w'.cell? ⟨w.heap.size, 0, none⟩ = some (.int .i64 x0) ∧ w'.cell? ⟨w.heap.size, 1, none⟩ = some (.int .i64 x1) ∧ w'.cell? ⟨w.heap.size, 2, none⟩ = some (.int .i64 x2) ∧ w'.cell? ⟨w.heap.size, 3, none⟩ = some (.int .i64 x3) ∧ w'.cell? ⟨w.heap.size, 4, none⟩ = some (.int .i64 0) ∧ w'.cell? ⟨w.heap.size, 5, none⟩ = some (.bool false) ∧ w'.cell? ⟨w.heap.size, 6, none⟩ = some (.string ⟨#[]⟩) ∧ w'.cell? ⟨w.heap.size, 7, none⟩ = some (.int .i64 0) ∧ w'.cell? ⟨w.heap.size, 8, none⟩ = some (.int .i64 0) ∧ w'.cell? ⟨w.heap.size, 9, none⟩ = some (.float .f64 0) ∧ w'.cell? ⟨w.heap.size, 10, none⟩ = some (.string ⟨#[]⟩) ∧ w'.cell? ⟨w.heap.size, 11, none⟩ = some (.slice none 0 0))
    (first | with_reducible exact ⟨s0, s1, s2, s3, s4, s5, s6, s7, s8, s9, s10, s11⟩ | with_reducible exact ⟨t0, t1, t2, t3, t4, t5, t6, t7, t8, t9, t10, t11⟩ | with_reducible exact ⟨u0, u1, u2, u3, u4, u5, u6, u7, u8, u9, u10, u11⟩ | with_reducible exact ⟨v0, v1, v2, v3, v4, v5, v6, v7, v8, v9, v10, v11⟩ | go_keep)
    (first
      | (go_at_call 33; refine OP.out.mono ?_; rintro e w2 ⟨mv', l, rfl, hE2, hx2, hk2, hor, hb2, hmv2⟩; have HMV : Hid (∀ k, mv' = .map (some k) → mv = .map (some k) ∨ w.heap.size ≤ k) := hidb (fun k hk => (hmv2 k hk).imp id (fun h => Nat.le_trans HF1.out.size h)); clear hmv2; have HE2 := hidb hE2; have HX2 := hidb hx2; have HK2 := hidb hk2; have HS2 := hidb ((hb2.block w.heap.size HLT.out (fun e => by have := HML.out _ e; omega)).trans HS1.out); obtain ⟨t0, t1, t2, t3, t4, t5, t6, t7, t8, t9, t10, t11⟩ := box12 HS2.out; have HNF := hidb (put_far HE2.out (updL_same _ _ _ _) (hor.imp id And.left) HFO.out HS2.out); have HOR := hidb hor; have HF2 := hidb hb2; clear hE2 hx2 hk2 hor hb2 OP)
      | (go_at_call 35; refine (OW.out _).mono ?_; rintro e w3 ⟨rfl, hb3⟩; have HE3 := hidb (HE2.out.keep hb3); have HS3 := hidb (at_keep HS2.out hb3); obtain ⟨u0, u1, u2, u3, u4, u5, u6, u7, u8, u9, u10, u11⟩ := box12 HS3.out; have HF3 := hidb hb3; clear hb3 OW)
      | (go_at_call 34; refine (pushS_any x0 x1 x2 x3 0 false ⟨#[]⟩ 0 0 0 ⟨#[]⟩ none 0 0 (HE3.out.lane _ _ _ (updL_same _ _ _ _)).2.2.1 HE3.out.bel.size (by omega)).mono ?_; rintro e w4 ⟨rfl, V', hr, hb4, hs4⟩; have HE4 := hidb (HE3.out.step (updL_same _ _ _ _) hr hb4 hs4 (Nat.le_succ _)); obtain ⟨v0, v1, v2, v3, v4, v5, v6, v7, v8, v9, v10, v11⟩ := box12 ((hb4.block w.heap.size (Array.getElem?_eq_some_iff.1 HS3.out).1 HNF.out).trans HS3.out); have HF4 := hidb (put_frame HF1.out HF2.out HF3.out HOR.out hb4); have HFT := hidb (put_foot (xs := l.xs ++ sgl x0 x1 x2 x3) (k := l.k + 1) HF1.out HF2.out HF3.out HOR.out hs4); clear hr hb4 hs4))
  obtain ⟨c0, c1, f0, f1, hlt4⟩ := HE4.out.duo
  have hw1 : IntKind.i64.wrap ((all : Int) + 1) = (all : Int) + 1 := by rw [IntKind.wrap_i64]; omega
  have HC := hidb (HE4.out.count (all + 1))
  rw [show ((all + 1 : Nat) : Int) = (all : Int) + 1 by omega] at HC
  have HU : Hid (updL (updL f x0 x1 (some l)) x0 x1 (some ⟨l.rb, V', l.xs ++ sgl x0 x1 x2 x3, l.k + 1⟩) = updL f x0 x1 (some ⟨l.rb, V', l.xs ++ sgl x0 x1 x2 x3, l.k + 1⟩)) := hidb (by
    funext a b
    unfold updL
    split <;> rfl)
  clear s0 s1 s2 s3 s4 s5 s6 s7 s8 s9 s10 s11 t0 t1 t2 t3 t4 t5 t6 t7 t8 t9 t10 t11 u0 u1 u2 u3 u4 u5 u6 u7 u8 u9 u10 u11 v0 v1 v2 v3 v4 v5 v6 v7 v8 v9 v10 v11
  go_wp2_with fail
  go_ret
  refine ⟨rfl, mv', ⟨l.rb, V', l.xs ++ sgl x0 x1 x2 x3, l.k + 1⟩, ?_, ?_, ?_, HF4.out.setCell (p := ⟨eb, 1, none⟩) (fun _ => .inl rfl) _, HMV.out, HFT.out⟩
  · have := HC.out
    rw [HU.out] at this
    exact this
  · show l.xs ++ _ = _
    rw [HX2.out]
  · show l.k + 1 = _
    rw [HK2.out]
end Go.Proofs.YtodelafnboimnaaGreat
