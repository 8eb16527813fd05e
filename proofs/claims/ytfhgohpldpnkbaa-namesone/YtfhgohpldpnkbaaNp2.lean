/- The chapter's example. -/
import Derived.Test.YtfhgohpldpnkbaaNp1
namespace Go.Proofs.Ytfhgohpldpnkbaa
open Go.RowKit Go.Lib Go.Maps

/-- The program's registry alone. -/
def QB (X : Nat → Prop) (w0 w : World) (nb K : Nat) (R : List NP) : Prop :=
  ∃ D, PN w nb D K R ∧ (∀ k, D k → ¬ X k ∧ w0.heap.size ≤ k) ∧ w0.heap.size ≤ nb ∧ ¬ X nb ∧ (∀ k, X k → k < w.heap.size) ∧ Below w0.heap.size w0 w
section
variable {X : Nat → Prop} {w0 w w' : World} {nb rb K : Nat} {R R' : List NP}
theorem QB.low (h : QB X w0 w nb K R) : Below w0.heap.size w0 w := by obtain ⟨_, _, _, _, _, _, h⟩ := h; exact h
theorem QB.lts (h : QB X w0 w nb K R) : nb < w.heap.size ∧ Reg R := by obtain ⟨_, h, _⟩ := h; exact ⟨h.lt, h.reg⟩
theorem QB.turn {X' : Nat → Prop} (h : QB X w0 w nb K R) (hb : Below w.heap.size w w') (hX : ∀ k, X' k → X k ∨ w.heap.size ≤ k ∧ k < w'.heap.size) : QB X' w0 w' nb K R := by
  obtain ⟨D, h1, h3, h4, h5, h6, h7⟩ := h
  have l1 := h1.lt
  have hs := hb.size
  refine ⟨_, h1.cut.keep hb, fun k hk => ⟨fun e => ?_, (h3 k hk.1).2⟩, h4, fun e => ?_, fun k hk => ?_, h7.trans (hb.mono h7.size)⟩
  · rcases hX k e with e | e
    · exact (h3 k hk.1).1 e
    · have := hk.2; omega
  · rcases hX _ e with e | e
    · exact h5 e
    · omega
  · rcases hX _ hk with e | e
    · have := h6 k e; omega
    · omega
theorem QB.keep (h : QB X w0 w nb K R) (hb : Below w.heap.size w w') : QB X w0 w' nb K R := h.turn hb (fun _ => .inl)
theorem PB.qb (h : PB X w0 w nb rb K R R') : QB X w0 w nb K R := by
  obtain ⟨D, E, h1, h2, h3, h4, h5, h6, h7⟩ := h
  exact ⟨D, h1, fun k hk => (h3 k hk).2.2, h5.1, h5.2.2.2.1, h6, h7⟩
theorem QB.pb (h : QB X w0 w nb K R) (t : TypeId) : PB X w0 (w.alloc (.cells #[.slice none 0 0, .slice none 0 0] t)) nb w.heap.size K R [] := by
  obtain ⟨D, h1, h3, h4, h5, h6, h7⟩ := h
  have l1 := h1.lt
  have hs := h7.size
  refine ⟨_, _, h1.cut.keep (below_new _ _), rn_new w t, fun k hk => ⟨by have := hk.2; omega, id, h3 k hk.1⟩, fun k hk => hk.elim, ⟨h4, by omega, by omega, h5, fun e => by have := h6 _ e; omega⟩, fun k hk => by have := h6 k hk; simp; omega, h7.alloc hs _⟩
theorem QB.prog {K2 : Nat} {R2 : List NP} (h : QB X w0 w nb K R) {f : Nat} {args : Array Value} {Z : Ending → Prop} (hc : ∀ D, PN w nb D K R → Calls Try.prog f args w fun e w' => Z e ∧ PU w w' nb D K2 R2) :
    Calls Try.prog f args w fun e w' => Z e ∧ QB X w0 w' nb K2 R2 := by
  obtain ⟨D, h1, h3, h4, h5, h6, h7⟩ := h
  refine (hc D h1).mono ?_
  rintro e w' ⟨hr, hu⟩
  have hs := hu.bt.size
  have hs0 := h7.size
  refine ⟨hr, _, hu.pn, fun k hk => ?_, h4, h5, fun k hk => by have := h6 k hk; omega, ?_⟩
  · rcases hk with hk | hk
    · exact h3 k hk
    · exact ⟨fun e => by have := h6 k e; omega, by omega⟩
  · exact h7.trans (hu.bt.below hs0 (fun k e => by
      rcases e with e | e
      · rw [e]; exact h4
      · exact (h3 k e).2))
theorem QB.tell (h : QB X w0 w nb K R) {f : Nat} {args : Array Value} {Z : Ending → World → Prop} (hc : ∀ D, PN w nb D K R → Calls Try.prog f args w fun e w' => Z e w' ∧ Below w.heap.size w w') :
    Calls Try.prog f args w fun e w' => Z e w' ∧ QB X w0 w' nb K R ∧ Below w.heap.size w w' := by
  have h' := h
  obtain ⟨D, h1, _⟩ := h
  exact (hc D h1).mono (fun e w' ⟨a, b⟩ => ⟨a, h'.keep b, b⟩)
theorem qb_new {w0 w : World} (hb : Below w0.heap.size w0 w) : Calls Try.prog 6 #[] w fun e w' => e = .returned (.pointer (some ⟨w.heap.size, 0, none⟩)) ∧ QB (fun _ => False) w0 w' w.heap.size 0 [] ∧ Below w.heap.size w w' ∧ w'.heap.size = w.heap.size + 1 := by
  refine (pnew w).mono ?_
  rintro e w' ⟨rfl, hb1, hs, hp⟩
  exact ⟨rfl, ⟨_, hp, fun k hk => hk.elim, hb.size, id, fun k hk => hk.elim, hb.trans (hb1.mono hb.size)⟩, hb1, hs⟩
end

abbrev sa : ByteArray := ⟨#[97]⟩
abbrev sb : ByteArray := ⟨#[98]⟩
theorem eq_f {a b : ByteArray} (h : a.data ≠ b.data) : eqT a b = false := eqT_ne.2 (fun e => h (by rw [e]))
theorem kn1 : may [] sa 1 = true := by
  rw [may_iff]
  refine ⟨?_, rfl, by omega, rfl⟩
  unfold okN
  rw [eq_f (by simp [und])]
  rfl
theorem kn2 : regN [] sa 1 = [(sa, 1)] := by simp [regN, kn1, insN, plc]
theorem kn3 : whN [(sa, 1)] sa = some 1 := by simp [whN, eqT_self]
theorem kn4 : ofN [(sa, 1)] 1 = some sa := by simp [ofN]
theorem kn5 : may [(sa, 1)] sa 2 = false := by
  cases h : may [(sa, 1)] sa 2
  · rfl
  · have := (may_iff.1 h).2.1; rw [kn3] at this; cases this
theorem kn6 : may [(sa, 1)] sb 1 = false := by
  cases h : may [(sa, 1)] sb 1
  · rfl
  · have := (may_iff.1 h).2.2.2; rw [kn4] at this; cases this
theorem kn7 : relN [(sa, 1)] 1 = [] := by simp [relN, posP]

set_option maxRecDepth 100000 in
set_option maxHeartbeats 4000000 in
theorem known17_any (w : World) : Calls Try.prog 5 #[] w fun e w' => e = .returned (.bool true) ∧ Below w.heap.size w w' := by
  have CC : Hid (Calls Try.prog 6 #[] w fun e w1 => e = .returned (.pointer (some ⟨w.heap.size, 0, none⟩)) ∧ Hid (Calls Try.prog 13 #[.pointer (some ⟨w.heap.size, 0, none⟩), .string sa, .int .i64 1] w1 fun e w2 => e = .returned (.int .i64 0) ∧ Hid (Calls Try.prog 13 #[.pointer (some ⟨w.heap.size, 0, none⟩), .string sa, .int .i64 2] w2 fun e w3 => e = .returned (.int .i64 13) ∧ Hid (Calls Try.prog 13 #[.pointer (some ⟨w.heap.size, 0, none⟩), .string sb, .int .i64 1] w3 fun e w4 => e = .returned (.int .i64 13) ∧ Hid (Calls Try.prog 14 #[.pointer (some ⟨w.heap.size, 0, none⟩), .int .i64 1] w4 fun e w5 => e = .returned (.bool true) ∧ Hid (Calls Try.prog 8 #[.pointer (some ⟨w.heap.size, 0, none⟩), .string sa] w5 fun e w6 => e = .returned (.tuple #[.int .i64 0, .bool false]) ∧ Hid (Below w.heap.size w w6))))))) := by
    refine hidb ((qb_new (Below.refl _ _)).mono ?_)
    rintro e w1 ⟨rfl, q1, -, -⟩
    refine ⟨rfl, hidb ((q1.prog (K2 := 1) (R2 := [(sa, 1)]) (Z := fun e => e = .returned (.int .i64 0)) (fun D hD => ?_)).mono ?_)⟩
    · have := pregister hD (s := sa) (p := 1) (by simp [ByteArray.size, maxLen]) (by unfold wfi; decide) (by unfold maxLen; omega)
      rw [kn2, show regE [] sa 1 = 0 by simp [regE, kn1]] at this
      exact this
    rintro e w2 ⟨rfl, q2⟩
    refine ⟨rfl, hidb ((q2.prog (K2 := 2) (R2 := [(sa, 1)]) (Z := fun e => e = .returned (.int .i64 13)) (fun D hD => ?_)).mono ?_)⟩
    · have := pregister hD (s := sa) (p := 2) (by simp [ByteArray.size, maxLen]) (by unfold wfi; decide) (by unfold maxLen; omega)
      rw [show regE [(sa, 1)] sa 2 = 13 by simp [regE, kn5], show regN [(sa, 1)] sa 2 = [(sa, 1)] by simp [regN, kn5]] at this
      exact this
    rintro e w3 ⟨rfl, q3⟩
    refine ⟨rfl, hidb ((q3.prog (K2 := 3) (R2 := [(sa, 1)]) (Z := fun e => e = .returned (.int .i64 13)) (fun D hD => ?_)).mono ?_)⟩
    · have := pregister hD (s := sb) (p := 1) (by simp [ByteArray.size, maxLen]) (by unfold wfi; decide) (by unfold maxLen; omega)
      rw [show regE [(sa, 1)] sb 1 = 13 by simp [regE, kn6], show regN [(sa, 1)] sb 1 = [(sa, 1)] by simp [regN, kn6]] at this
      exact this
    rintro e w4 ⟨rfl, q4⟩
    refine ⟨rfl, hidb ((q4.prog (K2 := 3) (R2 := []) (Z := fun e => e = .returned (.bool true)) (fun D hD => ?_)).mono ?_)⟩
    · have := prelease hD (q := 1) (by unfold wfi; decide)
      rw [kn4, kn7] at this
      exact this
    rintro e w5 ⟨rfl, q5⟩
    refine ⟨rfl, hidb ((q5.tell (Z := fun e _ => e = .returned (.tuple #[.int .i64 0, .bool false])) (fun D hD => pwhere hD (s := sa) (by simp [ByteArray.size, maxLen]))).mono ?_)⟩
    rintro e w6 ⟨rfl, q6, -⟩
    exact ⟨rfl, hidb q6.low⟩
  go_enter Try.func5, Try.ntmps5
  go_wp2_with (first
    | (go_at_call 6; refine CC.out.mono ?_; clear CC; rintro e w1 ⟨rfl, C1⟩)
    | (go_at_call 13; refine C1.out.mono ?_; clear C1; rintro e w2 ⟨rfl, C2⟩)
    | (go_at_call 13; refine C2.out.mono ?_; clear C2; rintro e w3 ⟨rfl, C3⟩)
    | (go_at_call 13; refine C3.out.mono ?_; clear C3; rintro e w4 ⟨rfl, C4⟩)
    | (go_at_call 14; refine C4.out.mono ?_; clear C4; rintro e w5 ⟨rfl, C5⟩)
    | (go_at_call 8; refine C5.out.mono ?_; clear C5; rintro e w6 ⟨rfl, HB⟩))
  go_ret
  exact ⟨rfl, HB.out⟩
end Go.Proofs.Ytfhgohpldpnkbaa
