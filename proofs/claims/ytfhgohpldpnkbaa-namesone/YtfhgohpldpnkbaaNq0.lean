/- What the walks of stage 17's two laws lean on. -/
import Derived.Test.YtfhgohpldpnkbaaNp2
namespace Go.Proofs.Ytfhgohpldpnkbaa
open Go.RowKit Go.Lib Go.Maps

/-- A row of acts. -/
def AC (w : World) (v : Value) (l : List Act3) : Prop :=
  ∃ q c, v = .slice q l.length c ∧ ∀ (j : Nat) x, l[j]? = some x → ∃ b o, q = some ⟨b, o, none⟩ ∧ w.cell? ⟨b, o + j * 3, none⟩ = some (.int .i64 x.op) ∧ w.cell? ⟨b, o + j * 3 + 1, none⟩ = some (.string x.nm) ∧ w.cell? ⟨b, o + j * 3 + 2, none⟩ = some (.int .i64 x.pid)

abbrev NoX : Nat → Prop := fun _ => False
theorem PB.rows {X : Nat → Prop} {w0 w : World} {nb rb K : Nat} {R R' : List NP} (h : PB X w0 w nb rb K R R') : ∃ a c, w.cell? ⟨rb, 0, none⟩ = some (.slice a R'.length c) ∧ w.ownsRow 0 ST 1 (.slice a R'.length c) R'.length (nms R') ∧ ∀ k, (Value.slice a R'.length c).ownBlock = some k → ¬ X k := by
  obtain ⟨D, E, h1, h2, h3, h4, h5, h6, h7⟩ := h
  obtain ⟨v0, v1, q1, q2, q3, q4, q5⟩ := h2.rows
  obtain ⟨a, c, rfl, _⟩ := row_sl q2
  exact ⟨a, c, q1.c0, q2, fun k hk => (h4 k (q4 k hk).1).2⟩

/-- One act of a play, and what is asked behind it. -/
theorem play_chain {w wr : World} {nb rb i : Nat} {R : List NP} (h : PB NoX w wr nb rb i R R) (x : Act3) (hx : OkA x) (hi : i ≤ 2000) (hR : R.length ≤ i) (t : TypeId) :
    Hid (Calls Try.prog 7 #[.pointer (some ⟨nb, 0, none⟩), .pointer (some ⟨rb, 0, none⟩), .agg #[.int .i64 x.op, .string x.nm, .int .i64 x.pid]] (wr.alloc (.cells #[.int .i64 x.op, .string x.nm, .int .i64 x.pid] t)) fun e w1 => e = .returned (.bool true) ∧ Tri w1 wr.heap.size (.int .i64 x.op) (.string x.nm) (.int .i64 x.pid) ∧
      Hid (Calls Try.prog 8 #[.pointer (some ⟨nb, 0, none⟩), .string x.nm] w1 fun e w2 => ∃ va qa, e = .returned (.tuple #[.int .i64 va, .bool qa]) ∧ Tri w2 wr.heap.size (.int .i64 x.op) (.string x.nm) (.int .i64 x.pid) ∧
      Hid (Calls Try.prog 9 #[.pointer (some ⟨rb, 0, none⟩), .string x.nm] w2 fun e w3 => e = .returned (.tuple #[.int .i64 va, .bool qa]) ∧ Tri w3 wr.heap.size (.int .i64 x.op) (.string x.nm) (.int .i64 x.pid) ∧
      Hid (Calls Try.prog 10 #[.pointer (some ⟨nb, 0, none⟩), .int .i64 x.pid] w3 fun e w4 => ∃ vb qb, e = .returned (.tuple #[.string vb, .bool qb]) ∧ Tri w4 wr.heap.size (.int .i64 x.op) (.string x.nm) (.int .i64 x.pid) ∧
      Hid (Calls Try.prog 11 #[.pointer (some ⟨rb, 0, none⟩), .int .i64 x.pid] w4 fun e w5 => e = .returned (.tuple #[.string vb, .bool qb]) ∧ Hid (∃ R2, PB NoX w w5 nb rb (i + 1) R2 R2 ∧ R2.length ≤ i + 1)))))) := by
  have T0 : Tri (wr.alloc (.cells #[.int .i64 x.op, .string x.nm, .int .i64 x.pid] t)) wr.heap.size (.int .i64 x.op) (.string x.nm) (.int .i64 x.pid) := Tri.new wr t _ _ _
  have hX : PB (fun k => k = wr.heap.size) w (wr.alloc (.cells #[.int .i64 x.op, .string x.nm, .int .i64 x.pid] t)) nb rb i R R := h.turn (below_new _ _) (fun k hk => .inr (by simp; omega))
  refine hidb ((step_any hX x hx (by omega) (by omega)).mono ?_)
  rintro e w1 ⟨⟨b, rfl, hb⟩, hp1, hbt1⟩
  obtain rfl := hb rfl
  have T1 := T0.but hbt1 (fun e => e.2 rfl)
  have hl := stpN_len x R
  generalize stpN x R = R2 at hp1 hl
  refine ⟨rfl, T1, hidb ?_⟩
  refine ((hp1.tell (Z := fun e _ => e = .returned (.tuple #[.int .i64 ((whN R2 x.nm).getD 0), .bool (whN R2 x.nm).isSome])) (fun D hD => pwhere hD hx.nm))).mono ?_
  rintro e w2 ⟨rfl, hp2, hb2⟩
  have T2 := T1.keep hb2
  refine ⟨_, _, rfl, T2, hidb ?_⟩
  have hE2 : ∃ E, RN w2 rb E R2 := by obtain ⟨_, E, _, h2, _⟩ := hp2; exact ⟨E, h2⟩
  obtain ⟨E2, hE2⟩ := hE2
  refine (rwhere hE2 (by omega) x.nm).mono ?_
  rintro e w3 ⟨rfl, e3⟩
  subst e3
  refine ⟨rfl, T2, hidb ?_⟩
  refine ((hp2.tell (Z := fun e _ => e = .returned (.tuple #[.string ((ofN R2 x.pid).getD ⟨#[]⟩), .bool (ofN R2 x.pid).isSome])) (fun D hD => pof hD hx.pid))).mono ?_
  rintro e w4 ⟨rfl, hp4, hb4⟩
  refine ⟨_, _, rfl, T2.keep hb4, hidb ?_⟩
  have hE4 : ∃ E, RN w4 rb E R2 := by obtain ⟨_, E, _, h2, _⟩ := hp4; exact ⟨E, h2⟩
  obtain ⟨E4, hE4⟩ := hE4
  refine (rof hE4 (by omega) x.pid).mono ?_
  rintro e w5 ⟨rfl, e5⟩
  subst e5
  exact ⟨rfl, hidb ⟨R2, hp4.turn (Below.refl _ _) (fun k hk => hk.elim), by omega⟩⟩
/-- What is told of all names: a row of its own, apart. -/
theorem all_chain {w wr : World} {nb rb K : Nat} {R R' : List NP} {X : Nat → Prop} (h : PB X w wr nb rb K R R') (hK : K ≤ 100000) :
    Calls Try.prog 12 #[.pointer (some ⟨nb, 0, none⟩)] wr fun e w3 => ∃ g cap, e = .returned (.slice (some ⟨g, 0, none⟩) R.length cap) ∧ PB (fun k => X k ∨ k = g) w w3 nb rb K R R' ∧ w3.ownsRow 0 ST 1 (.slice (some ⟨g, 0, none⟩) R.length cap) R.length (nms R) ∧ w.heap.size ≤ g ∧ ¬ X g ∧ Below wr.heap.size wr w3 := by
  have hs := h.low.size
  have hx : ∀ k, X k → k < wr.heap.size := by obtain ⟨_, _, _, _, _, _, _, h6, _⟩ := h; exact h6
  refine (h.tell (Z := fun e w' => ∃ g cap, e = .returned (.slice (some ⟨g, 0, none⟩) R.length cap) ∧ w'.ownsRow wr.heap.size ST 1 (.slice (some ⟨g, 0, none⟩) R.length cap) R.length (nms R)) (fun D hD => (pall hD (by omega)).mono ?_)).mono ?_
  · rintro e w3 ⟨g, cap, rfl, h1, h2⟩
    exact ⟨⟨g, cap, rfl, h1⟩, h2⟩
  · rintro e w3 ⟨⟨g, cap, rfl, ho⟩, -, hb⟩
    have hg := ho.lt g rfl
    exact ⟨g, cap, rfl, h.turn hb (fun k hk => hk.elim .inl (fun e => .inr (by omega))), row_base ho (Nat.zero_le _), by omega, fun e => by have := hx g e; omega, hb⟩
theorem drop_get {xs ys : List Value} {j : Nat} (h : ys.drop j = xs.drop j) {u : Value} (hu : xs[j]? = some u) : ys[j]? = some u := by
  have e1 : (ys.drop j)[0]? = ys[j]? := by rw [List.getElem?_drop]; rfl
  have e2 : (xs.drop j)[0]? = xs[j]? := by rw [List.getElem?_drop]; rfl
  rw [← e1, h, e2, hu]
theorem drop_set {xs ys : List Value} {j : Nat} (h : ys.drop j = xs.drop j) (u : Value) : (ys.set j u).drop (j + 1) = xs.drop (j + 1) := by
  rw [List.drop_set_of_lt (by omega)]
  have e1 := congrArg List.tail h
  rw [List.tail_drop, List.tail_drop] at e1
  exact e1
end Go.Proofs.Ytfhgohpldpnkbaa
