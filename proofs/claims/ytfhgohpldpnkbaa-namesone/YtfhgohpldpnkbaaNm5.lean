/- Register. -/
import Derived.Test.YtfhgohpldpnkbaaNm4
namespace Go.Proofs.Ytfhgohpldpnkbaa
open Go.RowKit Go.Lib Go.Maps Go.WideMaps

theorem may_cases (R : List NP) (s : ByteArray) (p : Int) : may R s p = (okN s && !(whN R s).isSome && decide (1 ≤ p) && !(ofN R p).isSome) := by
  unfold may
  cases whN R s <;> cases ofN R p <;> rfl

set_option maxHeartbeats 2000000 in
theorem pregister {w : World} {b K : Nat} {D : Nat → Prop} {R : List NP} (h : PN w b D K R) {s : ByteArray} {p : Int} (hs : s.size ≤ maxLen) (hw : wfi p) (hK : K < maxLen) :
    Calls Try.prog 13 #[.pointer (some ⟨b, 0, none⟩), .string s, .int .i64 p] w fun e w' => e = .returned (.int .i64 (regE R s p)) ∧ PU w w' b D (K + 1) (regN R s p) := by
  have hmono : ∀ w', Below w.heap.size w w' → PU w w' b D (K + 1) R := fun w' hb => by
    obtain ⟨q1, m, q2, q3⟩ := PU.same h hb
    refine ⟨q1, m, ⟨q2.duo, ?_, q2.reg⟩, q3⟩
    rcases q2.mp with e | ⟨x, y, Dx, Ex, e, r1, r2, r3⟩
    · exact .inl e
    · exact .inr ⟨x, y, Dx, Ex, e, r1.mono (by omega), r2.mono (by omega), r3⟩
  have C1 : Hid (Calls Try.prog 21 #[.string s] w fun e w' => e = .returned (.bool (okN s)) ∧ w' = w) := hidb (mayBe_any s w)
  have C2 : Hid (Calls Try.prog 22 #[.pointer (some ⟨b, 0, none⟩), .string s] w fun e w' => e = .returned (.bool (whN R s).isSome) ∧ Below w.heap.size w w') := hidb (isTaken_any h hs)
  have C3 : Hid (∀ w1, Below w.heap.size w w1 → Calls Try.prog 23 #[.pointer (some ⟨b, 0, none⟩), .int .i64 p] w1 fun e w' => e = .returned (.bool (ofN R p).isSome) ∧ Below w.heap.size w w') := hidb (fun w1 hb => (isNamed_any (h.keep hb) hw).mono (fun e w' ⟨r1, r2⟩ => ⟨r1, hb.trans (r2.mono hb.size)⟩))
  have C4 : Hid (s.size ≤ 64 → ∀ w1, Below w.heap.size w w1 → Calls Try.prog 19 #[.string s] w1 fun e w' => e = .returned (.string s) ∧ Below w.heap.size w w') := hidb (fun hl w1 hb => (clone_any s w1 hl).mono (fun e w' ⟨r1, r2⟩ => ⟨r1, hb.trans (r2.mono hb.size)⟩))
  have C5 : Hid (may R s p = true → ∀ w1, Below w.heap.size w w1 → Calls Try.prog 24 #[.pointer (some ⟨b, 0, none⟩), .string s, .int .i64 p] w1 fun e w' => e = .returned (.tuple #[]) ∧ PU w w' b D (K + 1) (insN R s p)) := hidb (fun hm w1 hb => (enter_any (h.keep hb) hm hw hK).mono (fun e w' ⟨r1, r2⟩ => ⟨r1, PU.after hb r2⟩))
  have HM : Hid (∀ w', Below w.heap.size w w' → PU w w' b D (K + 1) R) := hidb hmono
  unfold regE regN
  rw [may_cases]
  rw [may_cases] at C5
  have hsz : okN s = true → s.size ≤ 64 := fun e => (ok_size e).2.1
  clear h hmono hs hw hK
  generalize (whN R s).isSome = q2 at *
  generalize (ofN R p).isSome = q3 at *
  generalize insN R s p = R' at *
  generalize okN s = q1 at *
  cases q1
  · simp only [Bool.false_and, Bool.false_eq_true, if_false]
    clear C2 C3 C4 C5 hsz
    go_enter Try.func13, Try.ntmps13
    go_wp2_with (go_at_call 21; refine C1.out.mono ?_; clear C1; rintro e w' ⟨rfl, rfl⟩)
    go_ret
    exact ⟨rfl, HM.out _ (Below.refl _ _)⟩
  cases q2
  case true =>
    simp only [Bool.not_true, Bool.and_false, Bool.false_and, Bool.false_eq_true, if_false]
    clear C3 C4 C5 hsz
    go_enter Try.func13, Try.ntmps13
    go_wp2_with (first
      | (go_at_call 21; refine C1.out.mono ?_; clear C1; rintro e w' ⟨rfl, rfl⟩)
      | (go_at_call 22; refine C2.out.mono ?_; clear C2; rintro e w1 ⟨rfl, HB⟩))
    go_ret
    exact ⟨rfl, HM.out _ HB⟩
  by_cases hp : 1 ≤ p
  case neg =>
    have hp' : p < 1 := by omega
    simp only [hp, decide_false, Bool.and_false, Bool.false_and, Bool.false_eq_true, if_false]
    clear C3 C4 C5 hsz hp
    go_enter Try.func13, Try.ntmps13
    go_wp2_with (first
      | (go_at_call 21; refine C1.out.mono ?_; clear C1; rintro e w' ⟨rfl, rfl⟩)
      | (go_at_call 22; refine C2.out.mono ?_; clear C2; rintro e w1 ⟨rfl, HB⟩))
    go_ret
    exact ⟨rfl, HM.out _ HB⟩
  have hp' : ¬ p < 1 := by omega
  cases q3
  case true =>
    simp only [Bool.not_true, Bool.and_false, Bool.false_eq_true, if_false]
    clear C4 C5 hsz hp
    go_enter Try.func13, Try.ntmps13
    go_wp2_with (first
      | (go_at_call 21; refine C1.out.mono ?_; clear C1; rintro e w' ⟨rfl, rfl⟩)
      | (go_at_call 22; refine C2.out.mono ?_; clear C2; rintro e w1 ⟨rfl, HB⟩)
      | (go_at_call 23; refine (C3.out _ HB).mono ?_; clear C3; rintro e w2 ⟨rfl, HB2⟩))
    go_ret
    exact ⟨rfl, HM.out _ HB2⟩
  have C4' := hidb (C4.out (hsz rfl))
  have C5' := hidb (C5.out (by simp [hp]))
  simp only [Bool.not_false, Bool.true_and, hp, decide_true, if_true]
  clear C4 C5 hsz hp HM
  go_enter Try.func13, Try.ntmps13
  go_wp2_with (first
    | (go_at_call 21; refine C1.out.mono ?_; clear C1; rintro e w' ⟨rfl, rfl⟩)
    | (go_at_call 22; refine C2.out.mono ?_; clear C2; rintro e w1 ⟨rfl, HB⟩)
    | (go_at_call 23; refine (C3.out _ HB).mono ?_; clear C3; rintro e w2 ⟨rfl, HB2⟩)
    | (go_at_call 19; refine (C4'.out _ HB2).mono ?_; clear C4'; rintro e w3 ⟨rfl, HB3⟩)
    | (go_at_call 24; refine (C5'.out _ HB3).mono ?_; clear C5'; rintro e w4 ⟨rfl, HP⟩))
  go_ret
  exact ⟨rfl, HP⟩
end Go.Proofs.Ytfhgohpldpnkbaa
