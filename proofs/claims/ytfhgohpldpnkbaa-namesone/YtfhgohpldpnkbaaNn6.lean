/- The document's registry: Register, of any name and pid. -/
import Derived.Test.YtfhgohpldpnkbaaNn4
import Derived.Test.YtfhgohpldpnkbaaNn5
namespace Go.Proofs.Ytfhgohpldpnkbaa
open Go.RowKit Go.Lib Go.Maps

set_option maxRecDepth 100000 in
set_option maxHeartbeats 4000000 in
theorem rrefuse {w : World} {r : Nat} {E : Nat → Prop} {R : List NP} (h : RN w r E R) (hN : R.length ≤ 80000) {s : ByteArray} {p : Int} (hm : may R s p = false) :
    Calls Try.prog 15 #[.pointer (some ⟨r, 0, none⟩), .string s, .int .i64 p] w fun e w' => e = .returned (.int .i64 13) ∧ w' = w := by
  have C1 : Hid (Calls Try.prog 9 #[.pointer (some ⟨r, 0, none⟩), .string s] w fun e w' => e = .returned (.tuple #[.int .i64 ((whN R s).getD 0), .bool (whN R s).isSome]) ∧ w' = w) := hidb (rwhere h (by omega) s)
  have C2 : Hid (Calls Try.prog 11 #[.pointer (some ⟨r, 0, none⟩), .int .i64 p] w fun e w' => e = .returned (.tuple #[.string ((ofN R p).getD ⟨#[]⟩), .bool (ofN R p).isSome]) ∧ w' = w) := hidb (rof h (by omega) p)
  rw [may_cases] at hm
  have hz : (s.toList == []) = (s.size == 0) := by
    rw [ByteArray.toList_eq]
    cases s with | mk d => cases d with | mk l => cases l <;> rfl
  have hu : (und.toList : List UInt8) = [117, 110, 100, 101, 102, 105, 110, 101, 100] := by rw [ByteArray.toList_eq]; rfl
  unfold okN eqT at hm
  rw [hu, ← hz] at hm
  clear hu hz h hN
  generalize (whN R s).isSome = q2 at *
  generalize (whN R s).getD 0 = v2 at *
  generalize (ofN R p).isSome = q3 at *
  generalize (ofN R p).getD ⟨#[]⟩ = v3 at *
  by_cases h1 : s.toList = []
  · have e1 : (s.toList == []) = true := by simp [h1]
    obtain rfl : s = ⟨#[]⟩ := by
      apply ByteArray.ext
      rw [ByteArray.toList_eq] at h1
      simpa using h1
    clear hm h1 e1
    go_enter Try.func15, Try.ntmps15
    go_wp2_with (first
      | (go_at_call 9; refine C1.out.mono ?_; clear C1; rintro e w' ⟨rfl, rfl⟩)
      | (go_at_call 11; refine C2.out.mono ?_; clear C2; rintro e w' ⟨rfl, rfl⟩))
    go_ret
    exact ⟨rfl, rfl⟩
  have e1 : (s.toList == []) = false := by simp [h1]
  rw [e1] at hm
  by_cases h2 : s.size ≤ 64
  case neg =>
    have h2' : (s.size : Int) > 64 := by omega
    clear hm h2
    go_enter Try.func15, Try.ntmps15
    go_wp2_with (first
      | (go_at_call 9; refine C1.out.mono ?_; clear C1; rintro e w' ⟨rfl, rfl⟩)
      | (go_at_call 11; refine C2.out.mono ?_; clear C2; rintro e w' ⟨rfl, rfl⟩))
    go_ret
    exact ⟨rfl, rfl⟩
  have h2' : ¬ (s.size : Int) > 64 := by omega
  by_cases h3 : s.toList = [117, 110, 100, 101, 102, 105, 110, 101, 100]
  · have e3 : (s.toList == [117, 110, 100, 101, 102, 105, 110, 101, 100]) = true := by simp [h3]
    clear hm h2
    go_enter Try.func15, Try.ntmps15
    go_wp2_with (first
      | (go_at_call 9; refine C1.out.mono ?_; clear C1; rintro e w' ⟨rfl, rfl⟩)
      | (go_at_call 11; refine C2.out.mono ?_; clear C2; rintro e w' ⟨rfl, rfl⟩))
    go_ret
    exact ⟨rfl, rfl⟩
  have e3 : (s.toList == [117, 110, 100, 101, 102, 105, 110, 101, 100]) = false := by simp [h3]
  rw [e3] at hm
  cases q2
  case true =>
    clear hm h2
    go_enter Try.func15, Try.ntmps15
    go_wp2_with (first
      | (go_at_call 9; refine C1.out.mono ?_; clear C1; rintro e w' ⟨rfl, rfl⟩)
      | (go_at_call 11; refine C2.out.mono ?_; clear C2; rintro e w' ⟨rfl, rfl⟩))
    go_ret
    exact ⟨rfl, rfl⟩
  by_cases h4 : 1 ≤ p
  case neg =>
    have h4' : p < 1 := by omega
    clear hm h2 h4
    go_enter Try.func15, Try.ntmps15
    go_wp2_with (first
      | (go_at_call 9; refine C1.out.mono ?_; clear C1; rintro e w' ⟨rfl, rfl⟩)
      | (go_at_call 11; refine C2.out.mono ?_; clear C2; rintro e w' ⟨rfl, rfl⟩))
    go_ret
    exact ⟨rfl, rfl⟩
  have h4' : ¬ p < 1 := by omega
  cases q3
  case true =>
    clear hm h2 h4
    go_enter Try.func15, Try.ntmps15
    go_wp2_with (first
      | (go_at_call 9; refine C1.out.mono ?_; clear C1; rintro e w' ⟨rfl, rfl⟩)
      | (go_at_call 11; refine C2.out.mono ?_; clear C2; rintro e w' ⟨rfl, rfl⟩))
    go_ret
    exact ⟨rfl, rfl⟩
  simp [h2, h4] at hm

theorem rregister {w : World} {r : Nat} {E : Nat → Prop} {R : List NP} (h : RN w r E R) (hN : R.length ≤ 80000) (s : ByteArray) (p : Int) :
    Calls Try.prog 15 #[.pointer (some ⟨r, 0, none⟩), .string s, .int .i64 p] w fun e w' => e = .returned (.int .i64 (regE R s p)) ∧ RU w w' r E (regN R s p) := by
  cases hm : may R s p
  · rw [show regE R s p = 13 by simp [regE, hm], show regN R s p = R by simp [regN, hm]]
    exact (rrefuse h hN hm).mono (fun e w' ⟨r1, r2⟩ => ⟨r1, by rw [r2]; exact RU.same h⟩)
  · rw [show regE R s p = 0 by simp [regE, hm], show regN R s p = insN R s p by simp [regN, hm]]
    obtain ⟨v0, v1, hd, h0, h1, q0, q1⟩ := h.rows
    obtain ⟨a0, c0, rfl, hc0⟩ := row_sl h0
    obtain ⟨a1, c1, rfl, hc1⟩ := row_sl h1
    have hF : Fd w r (.slice a0 R.length c0) (.slice a1 R.length c1) R.length R.length (nms R) (pds R) := ⟨hd, h0, h1, fun e => (q0 r e).2 rfl, fun e => (q1 r e).2 rfl⟩
    have some_of : ∀ {t : TypeId} {a : Option Addr} {c : Nat} {xs : List Value}, w.ownsRow 0 t 1 (.slice a R.length c) R.length xs → (∃ g, a = some ⟨g, 0, none⟩) ∨ (a = none ∧ c = 0) := by
      intro t a c xs ho
      rcases ho.2 with ⟨e, _⟩ | ⟨g, cap, cur, e, _⟩
      · injection e with e1 _ e3; exact .inr ⟨e1, e3⟩
      · injection e with e1 _ e3; exact .inl ⟨g, e1⟩
    rcases some_of h0 with ⟨g0, rfl⟩ | ⟨rfl, z0⟩
    · rcases some_of h1 with ⟨g1, rfl⟩ | ⟨rfl, z1⟩
      · exact rreg_ss hF h rfl hN hc0 hc1 hm
      · exact rreg_sn hF h rfl hN hc0 hc1 z1 hm
    · rcases some_of h1 with ⟨g1, rfl⟩ | ⟨rfl, z1⟩
      · exact rreg_ns hF h rfl hN hc0 hc1 z0 hm
      · exact rreg_nn hF h rfl hN hc0 hc1 z0 z1 hm
end Go.Proofs.Ytfhgohpldpnkbaa
