import Derived.Test.YtceigdeoefhcfaaGreatG29
import Derived.Test.YtceigdeoefhcfaaGreatG11
import Derived.Test.YtceigdeoefhcfaaGreatG12
import Derived.Test.YtceigdeoefhcfaaGreatG18
import Derived.Test.YtceigdeoefhcfaaGreatG19
/- ether.Check of signals of kinds 6, 7, 8. -/
namespace Go.Proofs.YtceigdeoefhcfaaGreat
open Go.RowKit Go.Lib Go.Maps
attribute [local go_sem] store_float f64bits
attribute [local go_sem ↓] Go.wp_at_zero Go.wp_at_succ

set_option maxHeartbeats 2000000 in
theorem fitTerm_atom (b1 b2 b3 b4 : Bool) (x0 x1 x2 x3 x4 : Int) (ts : ByteArray) (hs : errT (.mk 3 0 0 ts none 0 []) = 0) (hsz : ts.size ≤ 255) (w : World) : Calls Tryz.prog 40 #[.agg #[.bool true, .bool b1, .bool b2, .bool b3, .bool b4], .agg #[.int .i64 x0, .int .i64 x1, .int .i64 x2, .int .i64 x3, .int .i64 x4, .bool false, .string ⟨#[]⟩, .int .i64 3, .int .i64 0, .float .f64 0, .string ts, .slice none 0 0]] w fun e w' => e = .returned (.bool true) ∧ Below w.heap.size w w' := by
  have IZ := hidb (fun w => check_atom ts hs hsz w)
  clear hs hsz
  go_enter Tryz.func40, Tryz.ntmps40
  go_wp2_with (go_at_call 52; refine (IZ.out _).mono ?_; rintro e w1 ⟨rfl, hb1⟩)
  go_ret
  exact ⟨rfl, (show Below w.heap.size w _ by (repeat (first | exact Below.refl _ _ | assumption | refine Below.drew ?_ | refine below_drewN ?_ _ | refine Below.setCell ?_ (by simp) _ | refine Below.alloc ?_ (by (first | exact Nat.le_refl _ | (simp; done) | (simp; omega) | omega)) _ | refine Below.trans ?_ (Below.mono (by assumption) (by first | exact Nat.le_refl _ | (simp; done) | (simp; omega) | omega))))).trans (hb1.mono (by simp; omega))⟩

theorem err_noproc : errT (.mk 3 0 0 ⟨#[110, 111, 112, 114, 111, 99]⟩ none 0 []) = 0 := by decide
theorem err_oops : errT (.mk 3 0 0 ⟨#[111, 111, 112, 115]⟩ none 0 []) = 0 := by decide

set_option maxHeartbeats 2000000 in
theorem check6 (x0 x1 x4 : Int) (w : World) (h0 : 0 ≤ x0) (h1 : x0 ≤ 1099511627776) (h2 : 1 ≤ x1) (h3 : x1 ≤ 1099511627776) (h4 : 1 ≤ x4) (h5 : x4 ≤ 1099511627776) : Calls Tryz.prog 24 #[.agg #[.int .i64 x0, .int .i64 x1, .int .i64 6, .int .i64 0, .int .i64 x4, .bool false, .string ⟨#[]⟩, .int .i64 0, .int .i64 0, .float .f64 0, .string ⟨#[]⟩, .slice none 0 0]] w fun e w' => e = .returned (.int .i64 0) ∧ Below w.heap.size w w' := by
  have FI := hidb fields6
  have FT := hidb (fitTerm_no false true false true x0 x1 6 0 x4 false ⟨#[]⟩)
  have FR := hidb (fitRest_ref false true x0 x1 6 x4 0 0 0 ⟨#[]⟩ none 0 0 h4 h5)
  have WI := hidb within_any
  have d0 : (decide (0 ≤ x0) && decide (x0 ≤ 1099511627776)) = true := by simp; omega
  have d1 : (decide (1 ≤ x1) && decide (x1 ≤ 1099511627776)) = true := by simp; omega
  have HS := hidb (at_new w (.cells #[.int .i64 x0, .int .i64 x1, .int .i64 6, .int .i64 0, .int .i64 x4, .bool false, .string ⟨#[]⟩, .int .i64 0, .int .i64 0, .float .f64 0, .string ⟨#[]⟩, .slice none 0 0] ST))
  have HB := hidb (below_new w (.cells #[.int .i64 x0, .int .i64 x1, .int .i64 6, .int .i64 0, .int .i64 x4, .bool false, .string ⟨#[]⟩, .int .i64 0, .int .i64 0, .float .f64 0, .string ⟨#[]⟩, .slice none 0 0] ST))
  clear h0 h1 h2 h3 h4 h5
  go_enter Tryz.func24, Tryz.ntmps24
  go_wp2_with (first
    | (go_at_call 38; refine (FI.out _).mono ?_; rintro e w1 ⟨rfl, hb1⟩; have HB1 := hidb (HB.out.trans (hb1.mono HB.out.size)); have HS1 := hidb (at_keep HS.out hb1); obtain ⟨s0, s1, s2, s3, s4, s5, s6, s7, s8, s9, s10, s11⟩ := box12 HS1.out; have hlt : w.heap.size < w1.heap.size := (Array.getElem?_eq_some_iff.1 HS1.out).1; clear hb1)
    | (go_at_call 39; refine (WI.out _ _ _ _).mono ?_; (first | rw [d0] | rw [d1]); rintro e w2 ⟨rfl, rfl⟩)
    | (go_at_call 40; refine (FT.out _).mono ?_; rintro e w3 ⟨rfl, hb3⟩; have HB3 := hidb ((HB1.out.alloc HB1.out.size _).trans (hb3.mono (Nat.le_trans HB1.out.size (by simp)))); have HS3 := hidb (at_keep (at_keep HS1.out (below_new w1 _)) hb3); obtain ⟨t0, t1, t2, t3, t4, t5, t6, t7, t8, t9, t10, t11⟩ := box12 HS3.out; obtain ⟨u0, u1, u2, u3, u4⟩ := box5 (at_keep (at_new w1 (.cells #[.bool false, .bool false, .bool true, .bool false, .bool true] 87)) hb3); clear hb3)
    | (go_at_call 41; refine (FR.out _).mono ?_; rintro e w4 ⟨rfl, hb4⟩; have HB4 := hidb (HB3.out.trans (hb4.mono HB3.out.size)); clear hb4))
  go_ret
  exact ⟨rfl, HB4.out⟩

set_option maxHeartbeats 2000000 in
theorem check7 (x0 x1 x4 : Int) (w : World) (h0 : 0 ≤ x0) (h1 : x0 ≤ 1099511627776) (h2 : 1 ≤ x1) (h3 : x1 ≤ 1099511627776) (h4 : 1 ≤ x4) (h5 : x4 ≤ 1099511627776) : Calls Tryz.prog 24 #[.agg #[.int .i64 x0, .int .i64 x1, .int .i64 7, .int .i64 0, .int .i64 x4, .bool false, .string ⟨#[]⟩, .int .i64 0, .int .i64 0, .float .f64 0, .string ⟨#[]⟩, .slice none 0 0]] w fun e w' => e = .returned (.int .i64 0) ∧ Below w.heap.size w w' := by
  have FI := hidb fields7
  have FT := hidb (fitTerm_no false true false false x0 x1 7 0 x4 false ⟨#[]⟩)
  have FR := hidb (fitRest_ref false false x0 x1 7 x4 0 0 0 ⟨#[]⟩ none 0 0 h4 h5)
  have WI := hidb within_any
  have d0 : (decide (0 ≤ x0) && decide (x0 ≤ 1099511627776)) = true := by simp; omega
  have d1 : (decide (1 ≤ x1) && decide (x1 ≤ 1099511627776)) = true := by simp; omega
  have HS := hidb (at_new w (.cells #[.int .i64 x0, .int .i64 x1, .int .i64 7, .int .i64 0, .int .i64 x4, .bool false, .string ⟨#[]⟩, .int .i64 0, .int .i64 0, .float .f64 0, .string ⟨#[]⟩, .slice none 0 0] ST))
  have HB := hidb (below_new w (.cells #[.int .i64 x0, .int .i64 x1, .int .i64 7, .int .i64 0, .int .i64 x4, .bool false, .string ⟨#[]⟩, .int .i64 0, .int .i64 0, .float .f64 0, .string ⟨#[]⟩, .slice none 0 0] ST))
  clear h0 h1 h2 h3 h4 h5
  go_enter Tryz.func24, Tryz.ntmps24
  go_wp2_with (first
    | (go_at_call 38; refine (FI.out _).mono ?_; rintro e w1 ⟨rfl, hb1⟩; have HB1 := hidb (HB.out.trans (hb1.mono HB.out.size)); have HS1 := hidb (at_keep HS.out hb1); obtain ⟨s0, s1, s2, s3, s4, s5, s6, s7, s8, s9, s10, s11⟩ := box12 HS1.out; have hlt : w.heap.size < w1.heap.size := (Array.getElem?_eq_some_iff.1 HS1.out).1; clear hb1)
    | (go_at_call 39; refine (WI.out _ _ _ _).mono ?_; (first | rw [d0] | rw [d1]); rintro e w2 ⟨rfl, rfl⟩)
    | (go_at_call 40; refine (FT.out _).mono ?_; rintro e w3 ⟨rfl, hb3⟩; have HB3 := hidb ((HB1.out.alloc HB1.out.size _).trans (hb3.mono (Nat.le_trans HB1.out.size (by simp)))); have HS3 := hidb (at_keep (at_keep HS1.out (below_new w1 _)) hb3); obtain ⟨t0, t1, t2, t3, t4, t5, t6, t7, t8, t9, t10, t11⟩ := box12 HS3.out; obtain ⟨u0, u1, u2, u3, u4⟩ := box5 (at_keep (at_new w1 (.cells #[.bool false, .bool false, .bool true, .bool false, .bool false] 87)) hb3); clear hb3)
    | (go_at_call 41; refine (FR.out _).mono ?_; rintro e w4 ⟨rfl, hb4⟩; have HB4 := hidb (HB3.out.trans (hb4.mono HB3.out.size)); clear hb4))
  go_ret
  exact ⟨rfl, HB4.out⟩

set_option maxHeartbeats 2000000 in
theorem check8 (x0 x1 x4 : Int) (ts : ByteArray) (hs : errT (.mk 3 0 0 ts none 0 []) = 0) (hsz : ts.size ≤ 255) (w : World) (h0 : 0 ≤ x0) (h1 : x0 ≤ 1099511627776) (h2 : 1 ≤ x1) (h3 : x1 ≤ 1099511627776) (h4 : 1 ≤ x4) (h5 : x4 ≤ 1099511627776) : Calls Tryz.prog 24 #[.agg #[.int .i64 x0, .int .i64 x1, .int .i64 8, .int .i64 0, .int .i64 x4, .bool false, .string ⟨#[]⟩, .int .i64 3, .int .i64 0, .float .f64 0, .string ts, .slice none 0 0]] w fun e w' => e = .returned (.int .i64 0) ∧ Below w.heap.size w w' := by
  have FI := hidb fields8
  have FT := hidb (fun w => fitTerm_atom false true false false x0 x1 8 0 x4 ts hs hsz w)
  have FR := hidb (fitRest_ref true false x0 x1 8 x4 3 0 0 ts none 0 0 h4 h5)
  have WI := hidb within_any
  have d0 : (decide (0 ≤ x0) && decide (x0 ≤ 1099511627776)) = true := by simp; omega
  have d1 : (decide (1 ≤ x1) && decide (x1 ≤ 1099511627776)) = true := by simp; omega
  have HS := hidb (at_new w (.cells #[.int .i64 x0, .int .i64 x1, .int .i64 8, .int .i64 0, .int .i64 x4, .bool false, .string ⟨#[]⟩, .int .i64 3, .int .i64 0, .float .f64 0, .string ts, .slice none 0 0] ST))
  have HB := hidb (below_new w (.cells #[.int .i64 x0, .int .i64 x1, .int .i64 8, .int .i64 0, .int .i64 x4, .bool false, .string ⟨#[]⟩, .int .i64 3, .int .i64 0, .float .f64 0, .string ts, .slice none 0 0] ST))
  clear h0 h1 h2 h3 h4 h5
  go_enter Tryz.func24, Tryz.ntmps24
  go_wp2_with (first
    | (go_at_call 38; refine (FI.out _).mono ?_; rintro e w1 ⟨rfl, hb1⟩; have HB1 := hidb (HB.out.trans (hb1.mono HB.out.size)); have HS1 := hidb (at_keep HS.out hb1); obtain ⟨s0, s1, s2, s3, s4, s5, s6, s7, s8, s9, s10, s11⟩ := box12 HS1.out; have hlt : w.heap.size < w1.heap.size := (Array.getElem?_eq_some_iff.1 HS1.out).1; clear hb1)
    | (go_at_call 39; refine (WI.out _ _ _ _).mono ?_; (first | rw [d0] | rw [d1]); rintro e w2 ⟨rfl, rfl⟩)
    | (go_at_call 40; refine (FT.out _).mono ?_; rintro e w3 ⟨rfl, hb3⟩; have HB3 := hidb ((HB1.out.alloc HB1.out.size _).trans (hb3.mono (Nat.le_trans HB1.out.size (by simp)))); have HS3 := hidb (at_keep (at_keep HS1.out (below_new w1 _)) hb3); obtain ⟨t0, t1, t2, t3, t4, t5, t6, t7, t8, t9, t10, t11⟩ := box12 HS3.out; obtain ⟨u0, u1, u2, u3, u4⟩ := box5 (at_keep (at_new w1 (.cells #[.bool true, .bool false, .bool true, .bool false, .bool false] 87)) hb3); clear hb3)
    | (go_at_call 41; refine (FR.out _).mono ?_; rintro e w4 ⟨rfl, hb4⟩; have HB4 := hidb (HB3.out.trans (hb4.mono HB3.out.size)); clear hb4))
  go_ret
  exact ⟨rfl, HB4.out⟩


end Go.Proofs.YtceigdeoefhcfaaGreat


/- Two processes, one of which watches the other, in memory. -/
namespace Go.Proofs.YtceigdeoefhcfaaGreat
open Go.RowKit Go.Lib
open MV (Hf hf0 getL insL delL Rise Wfk TB Nw Rst KV MnT mvs)

/-- Signals as cells. -/
def lq (i j : Int) : List Sg → List Value
  | [] => []
  | x :: r => sgl i j x.k x.r x.tk x.ts ++ lq i j r
theorem lq_snoc (i j : Int) (l : List Sg) (x : Sg) : lq i j (l ++ [x]) = lq i j l ++ sgl i j x.k x.r x.tk x.ts := by
  induction l with
  | nil => simp [lq]
  | cons y r ih => rw [List.cons_append, lq, ih, lq, List.append_assoc]

/-- A lane holds these signals. -/
def LaneIs (f : Int → Int → Option Lane) (i j : Int) (l : List Sg) : Prop := (l = [] ∧ f i j = none) ∨ (l ≠ [] ∧ ∃ m, f i j = some m ∧ m.xs = lq i j l ∧ m.k = l.length)
theorem lane_other {f : Int → Int → Option Lane} {i j a b : Int} {l : List Sg} {m : Option Lane} (h : LaneIs f a b l) (hne : ¬ (a = i ∧ b = j)) : LaneIs (updL f i j m) a b l := by
  unfold LaneIs at h ⊢
  rw [updL_other _ _ _ _ _ _ hne]
  exact h

/-- The ether's blocks. -/
def EF (mv : Value) (f : Int → Int → Option Lane) (eb k : Nat) : Prop := k = eb ∨ mv = .map (some k) ∨ ∃ a b l, f a b = some l ∧ foot l k
theorem EO.ef {w0 w : World} {eb all N : Nat} {mv : Value} {f : Int → Int → Option Lane} (h : EO w0 w eb mv f all N) {k : Nat} (hk : EF mv f eb k) : k < w.heap.size ∧ w0.heap.size ≤ k := by
  rcases hk with rfl | e | ⟨a, b, l, hl, hf⟩
  · exact ⟨h.duo.lt, h.ge⟩
  · rcases h.map with ⟨e2, _⟩ | ⟨mb, n, e2, he, _, hm, _⟩
    · rw [e2] at e; cases e
    · rw [e2] at e; obtain rfl : mb = k := by simpa using e
      exact ⟨he.lt, hm⟩
  · exact h.foot_lt hl hf

/-- Six cells of a block. -/
structure Sx (w : World) (b : Nat) (v0 v1 v2 v3 v4 v5 : Value) : Prop where
  c0 : w.cell? ⟨b, 0, none⟩ = some v0
  c1 : w.cell? ⟨b, 1, none⟩ = some v1
  c2 : w.cell? ⟨b, 2, none⟩ = some v2
  c3 : w.cell? ⟨b, 3, none⟩ = some v3
  c4 : w.cell? ⟨b, 4, none⟩ = some v4
  c5 : w.cell? ⟨b, 5, none⟩ = some v5
  f3 : w.frozen? ⟨b, 3, none⟩ = false
  f4 : w.frozen? ⟨b, 4, none⟩ = false
  f5 : w.frozen? ⟨b, 5, none⟩ = false
  lt : b < w.heap.size
theorem Sx.new (w : World) (t : TypeId) (v0 v1 v2 v3 v4 v5 : Value) : Sx (w.alloc (.cells #[v0, v1, v2, v3, v4, v5] t)) w.heap.size v0 v1 v2 v3 v4 v5 :=
  ⟨by rw [World.cell?_alloc_new]; rfl, by rw [World.cell?_alloc_new]; rfl, by rw [World.cell?_alloc_new]; rfl, by rw [World.cell?_alloc_new]; rfl, by rw [World.cell?_alloc_new]; rfl, by rw [World.cell?_alloc_new]; rfl, World.frozen?_alloc_new _ _ _ _, World.frozen?_alloc_new _ _ _ _, World.frozen?_alloc_new _ _ _ _, by simp⟩
theorem Sx.but {S : Nat → Prop} {w w' : World} {b : Nat} {v0 v1 v2 v3 v4 v5 : Value} (h : Sx w b v0 v1 v2 v3 v4 v5) (hb : But S w w') (hs : ¬ S b) : Sx w' b v0 v1 v2 v3 v4 v5 :=
  ⟨(hb.cell h.lt hs).trans h.c0, (hb.cell h.lt hs).trans h.c1, (hb.cell h.lt hs).trans h.c2, (hb.cell h.lt hs).trans h.c3, (hb.cell h.lt hs).trans h.c4, (hb.cell h.lt hs).trans h.c5, (hb.frozen h.lt hs).trans h.f3, (hb.frozen h.lt hs).trans h.f4, (hb.frozen h.lt hs).trans h.f5, Nat.lt_of_lt_of_le h.lt hb.size⟩
theorem Sx.set3 {w : World} {b : Nat} {v0 v1 v2 v3 v4 v5 : Value} (h : Sx w b v0 v1 v2 v3 v4 v5) (u : Value) : Sx (w.setCell ⟨b, 3, none⟩ u) b v0 v1 v2 u v4 v5 := by
  refine ⟨?_, ?_, ?_, World.cell?_setCell_same _ _ _ h.c3, ?_, ?_, ?_, ?_, ?_, by simp [World.setCell]; exact h.lt⟩
  all_goals first | (rw [World.frozen?_setCell]; first | exact h.f3 | exact h.f4 | exact h.f5) | (rw [World.cell?_setCell_other _ _ _ _ (ne_off3 _ _ _ (by decide))]; first | exact h.c0 | exact h.c1 | exact h.c2 | exact h.c4 | exact h.c5)
theorem Sx.set4 {w : World} {b : Nat} {v0 v1 v2 v3 v4 v5 : Value} (h : Sx w b v0 v1 v2 v3 v4 v5) (u : Value) : Sx (w.setCell ⟨b, 4, none⟩ u) b v0 v1 v2 v3 u v5 := by
  refine ⟨?_, ?_, ?_, ?_, World.cell?_setCell_same _ _ _ h.c4, ?_, ?_, ?_, ?_, by simp [World.setCell]; exact h.lt⟩
  all_goals first | (rw [World.frozen?_setCell]; first | exact h.f3 | exact h.f4 | exact h.f5) | (rw [World.cell?_setCell_other _ _ _ _ (ne_off3 _ _ _ (by decide))]; first | exact h.c0 | exact h.c1 | exact h.c2 | exact h.c3 | exact h.c5)
theorem Sx.set5 {w : World} {b : Nat} {v0 v1 v2 v3 v4 v5 : Value} (h : Sx w b v0 v1 v2 v3 v4 v5) (u : Value) : Sx (w.setCell ⟨b, 5, none⟩ u) b v0 v1 v2 v3 v4 u := by
  refine ⟨?_, ?_, ?_, ?_, ?_, World.cell?_setCell_same _ _ _ h.c5, ?_, ?_, ?_, by simp [World.setCell]; exact h.lt⟩
  all_goals first | (rw [World.frozen?_setCell]; first | exact h.f3 | exact h.f4 | exact h.f5) | (rw [World.cell?_setCell_other _ _ _ _ (ne_off3 _ _ _ (by decide))]; first | exact h.c0 | exact h.c1 | exact h.c2 | exact h.c3 | exact h.c4)

abbrev InT : Nat := 3
/-- Counts as cells. -/
def dvs (l : List Nat) : List Value := l.map (fun (c : Nat) => Value.int .i64 (c : Int))

/-- Whose a block is. -/
structure Ow (X : Nat → Prop) (w0 w : World) (ow : Nat → Nat) (wb ta tb eb : Nat) (mv : Value) (f : Int → Int → Option Lane) (V : Value) : Prop where
  o1 : ow wb = 1
  o2 : ow ta = 2
  o3 : ow tb = 3
  o4 : ∀ k, EF mv f eb k → ow k = 4
  o5 : ∀ g, V.ownBlock = some g → ow g = 5
  lo : ∀ k, ow k ≠ 0 → w0.heap.size ≤ k
  hi : ∀ k, w.heap.size ≤ k → ow k = 0
  x : ∀ k, X k → ow k = 0 ∧ w0.heap.size ≤ k ∧ k < w.heap.size

/-- All of it: the box that names all, both tables, the ether, the row of counts; X: blocks that none of them has. -/
def DM (X : Nat → Prop) (w0 w : World) (wb ta tb eb : Nat) (O T : List KV) (p q : List Sg) (dead : Bool) (refs : Nat) (dn : List Nat) (N : Nat) : Prop :=
  ∃ ow mv f V, Sx w wb (.pointer (some ⟨ta, 0, none⟩)) (.pointer (some ⟨tb, 0, none⟩)) (.pointer (some ⟨eb, 0, none⟩)) (.bool dead) (.int .i64 (refs : Int)) V ∧ MTab w ta (fun k => ow k = 2 ∧ k ≠ ta) O [] ∧ MTab w tb (fun k => ow k = 3 ∧ k ≠ tb) [] T ∧ EO w0 w eb mv f (p.length + q.length) N ∧ LaneIs f 1 2 p ∧ LaneIs f 2 1 q ∧ (∀ a b, ¬ (a = 1 ∧ b = 2) → ¬ (a = 2 ∧ b = 1) → f a b = none) ∧ w.ownsRow 0 InT 1 V dn.length (dvs dn) ∧ Ow X w0 w ow wb ta tb eb mv f V

variable {X X' : Nat → Prop} {w0 w w' : World} {wb ta tb eb N refs : Nat} {O T O' T' : List KV} {p q : List Sg} {dead : Bool} {dn : List Nat}

theorem DM.keep (h : DM X w0 w wb ta tb eb O T p q dead refs dn N) (hb : Below w.heap.size w w') : DM X w0 w' wb ta tb eb O T p q dead refs dn N := by
  obtain ⟨ow, mv, f, V, h1, h2, h3, h4, h5, h6, h7, h8, h9⟩ := h
  exact ⟨ow, mv, f, V, h1.but (S := fun _ => False) (But.of_below hb) id, h2.keep hb, h3.keep hb, h4.keep hb, h5, h6, h7, h8.keep9 hb, ⟨h9.o1, h9.o2, h9.o3, h9.o4, h9.o5, h9.lo, fun k hk => h9.hi k (Nat.le_trans hb.size hk), fun k hk => ⟨(h9.x k hk).1, (h9.x k hk).2.1, Nat.lt_of_lt_of_le (h9.x k hk).2.2 hb.size⟩⟩⟩
theorem DM.poke (h : DM X w0 w wb ta tb eb O T p q dead refs dn N) (hb : But X w w') : DM X w0 w' wb ta tb eb O T p q dead refs dn N := by
  obtain ⟨ow, mv, f, V, h1, h2, h3, h4, h5, h6, h7, h8, h9⟩ := h
  have hx : ∀ k n, n ≠ 0 → ow k = n → ¬ X k := fun k n hn e hX => by have := (h9.x k hX).1; omega
  exact ⟨ow, mv, f, V, h1.but hb (hx _ 1 (by omega) h9.o1), h2.but hb (fun k hk => hx k 2 (by omega) hk.1) (hx _ 2 (by omega) h9.o2), h3.but hb (fun k hk => hx k 3 (by omega) hk.1) (hx _ 3 (by omega) h9.o3), h4.but hb (hx _ 4 (by omega) (h9.o4 _ (.inl rfl))) (fun mb hm => hx _ 4 (by omega) (h9.o4 _ (.inr (.inl hm)))) (fun a b l j hl hj => hx _ 4 (by omega) (h9.o4 _ (.inr (.inr ⟨a, b, l, hl, hj⟩)))) (fun j hj => (h9.x j hj).2.1), h5, h6, h7, MV.row_but h8 hb (fun g e => hx g 5 (by omega) (h9.o5 g e)), ⟨h9.o1, h9.o2, h9.o3, h9.o4, h9.o5, h9.lo, fun k hk => h9.hi k (Nat.le_trans hb.size hk), fun k hk => ⟨(h9.x k hk).1, (h9.x k hk).2.1, Nat.lt_of_lt_of_le (h9.x k hk).2.2 hb.size⟩⟩⟩
theorem DM.turn (h : DM X w0 w wb ta tb eb O T p q dead refs dn N) (hb : Below w.heap.size w w') (hX : ∀ k, X' k → w.heap.size ≤ k ∧ k < w'.heap.size) : DM X' w0 w' wb ta tb eb O T p q dead refs dn N := by
  obtain ⟨ow, mv, f, V, h1, h2, h3, h4, h5, h6, h7, h8, h9⟩ := h
  exact ⟨ow, mv, f, V, h1.but (S := fun _ => False) (But.of_below hb) id, h2.keep hb, h3.keep hb, h4.keep hb, h5, h6, h7, h8.keep9 hb, ⟨h9.o1, h9.o2, h9.o3, h9.o4, h9.o5, h9.lo, fun k hk => h9.hi k (Nat.le_trans hb.size hk), fun k hk => ⟨h9.hi k (hX k hk).1, by have := (hX k hk).1; have := h4.bel.size; omega, (hX k hk).2⟩⟩⟩
theorem DM.low (h : DM X w0 w wb ta tb eb O T p q dead refs dn N) : Below w0.heap.size w0 w := by obtain ⟨_, _, _, _, _, _, _, h, _⟩ := h; exact h.bel

/-- New blocks are j's. -/
def nwo (ow : Nat → Nat) (w w' : World) (j k : Nat) : Nat := if w.heap.size ≤ k ∧ k < w'.heap.size then j else ow k
theorem nwo_old {ow : Nat → Nat} {w w' : World} {j k : Nat} (h : k < w.heap.size) : nwo ow w w' j k = ow k := by unfold nwo; rw [if_neg (by omega)]
theorem nwo_hi {ow : Nat → Nat} {w w' : World} {j : Nat} (h : ∀ k, w.heap.size ≤ k → ow k = 0) (hs : w.heap.size ≤ w'.heap.size) : ∀ k, w'.heap.size ≤ k → nwo ow w w' j k = 0 := by
  intro k hk; unfold nwo; rw [if_neg (by omega)]; exact h k (by omega)
theorem nwo_lo {ow : Nat → Nat} {w0 w w' : World} {j : Nat} (h : ∀ k, ow k ≠ 0 → w0.heap.size ≤ k) (hs : w0.heap.size ≤ w.heap.size) : ∀ k, nwo ow w w' j k ≠ 0 → w0.heap.size ≤ k := by
  intro k hk; unfold nwo at hk; split at hk
  · omega
  · exact h k hk

variable {mv : Value} {f : Int → Int → Option Lane} {ow : Nat → Nat} {V : Value}

theorem Ow.lt (h : Ow X w0 w ow wb ta tb eb mv f V) {k : Nat} (hk : ow k ≠ 0) : k < w.heap.size := by
  rcases Nat.lt_or_ge k w.heap.size with h1 | h1
  · exact h1
  · exact absurd (h.hi k h1) hk
theorem Ow.new {j : Nat} {S : Nat → Prop} {mv' : Value} {f' : Int → Int → Option Lane} {V' : Value} (h : Ow X w0 w ow wb ta tb eb mv f V) (hb : But S w w') (h0 : w0.heap.size ≤ w.heap.size) (h4 : ∀ k, EF mv' f' eb k → EF mv f eb k ∨ (j = 4 ∧ w.heap.size ≤ k ∧ k < w'.heap.size)) (h5 : ∀ g, V'.ownBlock = some g → V.ownBlock = some g ∨ (j = 5 ∧ w.heap.size ≤ g ∧ g < w'.heap.size)) : Ow X w0 w' (nwo ow w w' j) wb ta tb eb mv' f' V' := by
  have hs := hb.size
  refine ⟨?_, ?_, ?_, fun k hk => ?_, fun g hg => ?_, nwo_lo h.lo h0, nwo_hi h.hi hs, fun k hk => ⟨?_, (h.x k hk).2.1, by have := (h.x k hk).2.2; omega⟩⟩
  · rw [nwo_old (h.lt (by rw [h.o1]; omega)), h.o1]
  · rw [nwo_old (h.lt (by rw [h.o2]; omega)), h.o2]
  · rw [nwo_old (h.lt (by rw [h.o3]; omega)), h.o3]
  · rcases h4 k hk with e | ⟨e, e1, e2⟩
    · have := h.o4 k e; rw [nwo_old (h.lt (by rw [this]; omega)), this]
    · unfold nwo; rw [if_pos ⟨e1, e2⟩, e]
  · rcases h5 g hg with e | ⟨e, e1, e2⟩
    · have := h.o5 g e; rw [nwo_old (h.lt (by rw [this]; omega)), this]
    · unfold nwo; rw [if_pos ⟨e1, e2⟩, e]
  · rw [nwo_old (h.x k hk).2.2, (h.x k hk).1]

theorem MTab.own {t j n : Nat} {A B : List KV} (h : MTab w t (fun k => ow k = n ∧ k ≠ t) A B) (hn : n ≠ 0) (hlt : ∀ k, ow k ≠ 0 → k < w.heap.size) : MTab w t (fun k => nwo ow w w' j k = n ∧ k ≠ t) A B :=
  h.mono (fun k hk => ⟨by rw [nwo_old (hlt k (by rw [hk.1]; exact hn)), hk.1], hk.2⟩) (fun h => h.2 rfl)

/-- A method of the first one's table. -/
theorem DM.opA (h : DM X w0 w wb ta tb eb O T p q dead refs dn N) {g : Nat} {args : Array Value} {R : Ending → Prop} (hc : ∀ D, MTab w ta D O [] → Calls Tryz.prog g args w fun e w' => R e ∧ MU w w' ta D O' []) :
    Calls Tryz.prog g args w fun e w' => R e ∧ DM X w0 w' wb ta tb eb O' T p q dead refs dn N ∧ But (fun k => ¬ X k) w w' := by
  obtain ⟨ow, mv, f, V, h1, h2, h3, h4, h5, h6, h7, h8, h9⟩ := h
  refine (hc _ h2).mono ?_
  rintro e w' ⟨hr, hu⟩
  have hlt := fun k hk => h9.lt (k := k) hk
  have hne : ∀ k n, n ≠ 2 → ow k = n → k ≠ ta := fun k n hn e he => by rw [he, h9.o2] at e; omega
  have hta := h2.lt
  refine ⟨hr, ⟨nwo ow w w' 2, mv, f, V, h1.but hu.bt (hne _ 1 (by omega) h9.o1), hu.mt.mono (fun k hk => ?_) (fun h => h.2 rfl), (MTab.own h3 (by omega) hlt).but hu.bt (fun k hk => ?_) (hne _ 3 (by omega) h9.o3), h4.but hu.bt (fun e => hne _ 4 (by omega) (h9.o4 _ (.inl rfl)) e) (fun mb hm => hne _ 4 (by omega) (h9.o4 _ (.inr (.inl hm)))) (fun a b l j hl hj => hne _ 4 (by omega) (h9.o4 _ (.inr (.inr ⟨a, b, l, hl, hj⟩)))) (fun j hj => by rw [show j = ta from hj]; exact h9.lo ta (by rw [h9.o2]; omega)), h5, h6, h7, MV.row_but h8 hu.bt (fun g e => hne g 5 (by omega) (h9.o5 g e)), h9.new hu.bt h4.bel.size (fun k hk => .inl hk) (fun g hg => .inl hg)⟩, hu.bt.mono (fun k _ e hX => by have := (h9.x k hX).1; rw [show k = ta from e, h9.o2] at this; omega)⟩
  · rcases hk with hk | hk
    · exact ⟨by rw [nwo_old (hlt k (by rw [hk.1]; omega)), hk.1], hk.2⟩
    · exact ⟨by unfold nwo; rw [if_pos hk], by omega⟩
  · intro e
    have hk1 := hk.1
    rw [show k = ta from e, nwo_old hta, h9.o2] at hk1
    omega
/-- A method of the second one's table. -/
theorem DM.opB (h : DM X w0 w wb ta tb eb O T p q dead refs dn N) {g : Nat} {args : Array Value} {R : Ending → Prop} (hc : ∀ D, MTab w tb D [] T → Calls Tryz.prog g args w fun e w' => R e ∧ MU w w' tb D [] T') :
    Calls Tryz.prog g args w fun e w' => R e ∧ DM X w0 w' wb ta tb eb O T' p q dead refs dn N ∧ But (fun k => ¬ X k) w w' := by
  obtain ⟨ow, mv, f, V, h1, h2, h3, h4, h5, h6, h7, h8, h9⟩ := h
  refine (hc _ h3).mono ?_
  rintro e w' ⟨hr, hu⟩
  have hlt := fun k hk => h9.lt (k := k) hk
  have hne : ∀ k n, n ≠ 3 → ow k = n → k ≠ tb := fun k n hn e he => by rw [he, h9.o3] at e; omega
  have htb := h3.lt
  refine ⟨hr, ⟨nwo ow w w' 3, mv, f, V, h1.but hu.bt (hne _ 1 (by omega) h9.o1), (MTab.own h2 (by omega) hlt).but hu.bt (fun k hk => ?_) (hne _ 2 (by omega) h9.o2), hu.mt.mono (fun k hk => ?_) (fun h => h.2 rfl), h4.but hu.bt (fun e => hne _ 4 (by omega) (h9.o4 _ (.inl rfl)) e) (fun mb hm => hne _ 4 (by omega) (h9.o4 _ (.inr (.inl hm)))) (fun a b l j hl hj => hne _ 4 (by omega) (h9.o4 _ (.inr (.inr ⟨a, b, l, hl, hj⟩)))) (fun j hj => by rw [show j = tb from hj]; exact h9.lo tb (by rw [h9.o3]; omega)), h5, h6, h7, MV.row_but h8 hu.bt (fun g e => hne g 5 (by omega) (h9.o5 g e)), h9.new hu.bt h4.bel.size (fun k hk => .inl hk) (fun g hg => .inl hg)⟩, hu.bt.mono (fun k _ e hX => by have := (h9.x k hX).1; rw [show k = tb from e, h9.o3] at this; omega)⟩
  · intro e
    have hk1 := hk.1
    rw [show k = tb from e, nwo_old htb, h9.o3] at hk1
    omega
  · rcases hk with hk | hk
    · exact ⟨by rw [nwo_old (hlt k (by rw [hk.1]; omega)), hk.1], hk.2⟩
    · exact ⟨by unfold nwo; rw [if_pos hk], by omega⟩

/-- The ether turns. -/
theorem DM.air {mv' : Value} {f' : Int → Int → Option Lane} {p' q' : List Sg} {N' : Nat} {S : Nat → Prop}
    (h1 : Sx w wb (.pointer (some ⟨ta, 0, none⟩)) (.pointer (some ⟨tb, 0, none⟩)) (.pointer (some ⟨eb, 0, none⟩)) (.bool dead) (.int .i64 (refs : Int)) V) (h2 : MTab w ta (fun k => ow k = 2 ∧ k ≠ ta) O []) (h3 : MTab w tb (fun k => ow k = 3 ∧ k ≠ tb) [] T) (h4 : w0.heap.size ≤ w.heap.size) (h8 : w.ownsRow 0 InT 1 V dn.length (dvs dn)) (h9 : Ow X w0 w ow wb ta tb eb mv f V)
    (he : EO w0 w' eb mv' f' (p'.length + q'.length) N') (hb : But S w w') (hS : ∀ k, S k → EF mv f eb k) (hf : ∀ k, EF mv' f' eb k → EF mv f eb k ∨ w.heap.size ≤ k) (l1 : LaneIs f' 1 2 p') (l2 : LaneIs f' 2 1 q') (l3 : ∀ a b, ¬ (a = 1 ∧ b = 2) → ¬ (a = 2 ∧ b = 1) → f' a b = none) :
    DM X w0 w' wb ta tb eb O T p' q' dead refs dn N' ∧ But (fun k => ¬ X k) w w' := by
  have hlt := fun k hk => h9.lt (k := k) hk
  have hn : ∀ k n, n ≠ 4 → ow k = n → ¬ S k := fun k n hn e hs => by rw [h9.o4 k (hS k hs)] at e; omega
  have hnn : ∀ (t n j : Nat), n ≠ 4 → n ≠ 0 → ∀ k, (nwo ow w w' j k = n ∧ k ≠ t) → n ≠ j → ¬ S k := by
    intro t n j hn4 hn0 k hk hnj hs
    have := h9.o4 k (hS k hs)
    rw [nwo_old (hlt k (by rw [this]; omega)), this] at hk
    omega
  refine ⟨⟨nwo ow w w' 4, mv', f', V, h1.but hb (hn _ 1 (by omega) h9.o1), (MTab.own h2 (by omega) hlt).but hb (fun k hk => hnn ta 2 4 (by omega) (by omega) k hk (by omega)) (hn _ 2 (by omega) h9.o2), (MTab.own h3 (by omega) hlt).but hb (fun k hk => hnn tb 3 4 (by omega) (by omega) k hk (by omega)) (hn _ 3 (by omega) h9.o3), he, l1, l2, l3, MV.row_but h8 hb (fun g e => hn g 5 (by omega) (h9.o5 g e)), h9.new hb h4 (fun k hk => (hf k hk).imp id (fun e => ⟨rfl, e, (he.ef hk).1⟩)) (fun g hg => .inl hg)⟩, hb.mono (fun k _ e hX => by have := (h9.x k hX).1; rw [h9.o4 k (hS k e)] at this; omega)⟩

theorem wfi1 : wfi 1 := rfl
theorem wfi2 : wfi 2 := rfl

end Go.Proofs.YtceigdeoefhcfaaGreat


