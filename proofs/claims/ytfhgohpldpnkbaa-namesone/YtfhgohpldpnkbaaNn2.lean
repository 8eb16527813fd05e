/- The document's registry: Unregister, Release. -/
import Derived.Test.YtfhgohpldpnkbaaNn1
namespace Go.Proofs.Ytfhgohpldpnkbaa
open Go.RowKit Go.Lib Go.Maps

set_option maxRecDepth 100000 in
set_option maxHeartbeats 2000000 in
theorem runreg {w : World} {r : Nat} {E : Nat → Prop} {R : List NP} (h : RN w r E R) (hN : R.length ≤ 90000) (s : ByteArray) : Calls Try.prog 17 #[.pointer (some ⟨r, 0, none⟩), .string s] w fun e w' => e = .returned (.int .i64 (unrE R s)) ∧ RU w w' r E (unrN R s) := by
  have HR := hidb h
  obtain ⟨v0, v1, hd, h0, h1, -, -⟩ := h.rows
  obtain ⟨a0, k0, rfl, hc0⟩ := row_sl h0
  obtain ⟨a1, k1, rfl, hc1⟩ := row_sl h1
  obtain ⟨c0, c1, f0, f1, hlt⟩ := hd
  have H0 := hidb h0
  have H1 := hidb h1
  obtain ⟨n, hn⟩ : ∃ n, R.length = n := ⟨_, rfl⟩
  rw [hn] at c0 c1
  have HN := hidb (And.intro hn (hn ▸ hN))
  clear h h0 h1 hN hn hc0 hc1
  go_enter Try.func17, Try.ntmps17
  go_wp2_with fail
  go_loopw [5] (fun iv wr => ∃ i : Nat, iv = .int .i64 (i : Int) ∧ i ≤ n ∧ i ≤ (R.findIdx fun x : NP => eqT x.1 s) ∧ wr = w) (fun iv _ => n - (RowKit.intOf iv).toNat)
  case atStart => exact ⟨0, rfl, by omega, by omega, rfl⟩
  case round =>
  obtain ⟨i, rfl, hi, hf, rfl⟩ := hrel
  rename World => w
  have HI := hidb (And.intro hi hf)
  clear hi hf
  have s0 : (0 : Int) ≤ (i : Int) := by omega
  by_cases hin : i < n
  · obtain ⟨y, hy⟩ : ∃ y, R[i]? = some y := ⟨_, List.getElem?_eq_getElem (by have := HN.out.1; omega)⟩
    obtain ⟨g0, q0, e0, d0⟩ := row_at H0.out (i := i) (x := .string y.1) (by rw [List.getElem?_map, hy]; rfl)
    obtain ⟨g1, q1, e1, d1⟩ := row_at H1.out (i := i) (x := .int .i64 y.2) (by rw [List.getElem?_map, hy]; rfl)
    obtain ⟨rfl, -, rfl⟩ : a0 = some ⟨g0, 0, none⟩ ∧ R.length = R.length ∧ k0 = q0 := by simpa using e0
    obtain ⟨rfl, -, rfl⟩ : a1 = some ⟨g1, 0, none⟩ ∧ R.length = R.length ∧ k1 = q1 := by simpa using e1
    have s1 : (i : Int) < (n : Int) := by omega
    have HE : Hid (wrap64 ((i : Int) + 1) = ((i + 1 : Nat) : Int)) := hidb (by have := HN.out; unfold wrap64; omega)
    have HY := hidb hy
    have C : Hid (Calls Try.prog 26 #[.pointer (some ⟨r, 0, none⟩), .int .i64 (i : Int)] w fun e w' => e = .returned (.tuple #[]) ∧ RU w w' r E (R.eraseIdx i)) := hidb (rdrop HR.out (by have := HN.out; omega) (by have := HN.out; omega))
    clear e0 e1 hy hin
    cases hq : eqT y.1 s
    · have t0 : (y.1.toList == s.toList) = false := hq
      have t1 : ¬ y.1.toList = s.toList := by simpa using t0
      have HF := hidb (idx_miss HI.out.2 HY.out hq)
      clear hq C
      go_wp2_with fail
      go_roundw
      case rel => exact ⟨i + 1, by rw [HE.out], by have := s1; omega, HF.out, trivial⟩
      case measure =>
        rw [HE.out]
        simp only [RowKit.intOf, Int.toNat_natCast]
        omega
    · have HF := hidb (idx_hit HI.out.2 HY.out hq)
      obtain rfl := eqT_iff.1 hq
      clear hq
      have HZ : Hid (unrE R y.1 = 0 ∧ unrN R y.1 = R.eraseIdx i) := hidb (by
        have e1 : whN R y.1 = some y.2 := by unfold whN; rw [HF.out.2]; rfl
        refine ⟨by simp [unrE, e1], ?_⟩
        unfold unrN posN
        rw [HF.out.1])
      go_wp2_with (go_at_call 26; refine C.out.mono ?_; clear C; rintro e w1 ⟨rfl, HP⟩)
      go_ret
      rw [HZ.out.1, HZ.out.2]
      exact ⟨rfl, HP⟩
  · have s1 : ¬ (i : Int) < (n : Int) := by omega
    have hz : whN R s = none := by
      unfold whN
      rw [idx_end (by have := HI.out; have := HN.out; omega)]
      rfl
    have HZ : Hid ((unrE R s) = 13 ∧ unrN R s = R) := hidb ⟨by simp [unrE, hz], whN_gone hz⟩
    clear hin hz
    go_wp2_with fail
    go_ret
    rw [HZ.out.1, HZ.out.2]
    exact ⟨rfl, RU.same HR.out⟩

set_option maxRecDepth 100000 in
set_option maxHeartbeats 2000000 in
theorem rrelease {w : World} {r : Nat} {E : Nat → Prop} {R : List NP} (h : RN w r E R) (hN : R.length ≤ 90000) (p : Int) : Calls Try.prog 18 #[.pointer (some ⟨r, 0, none⟩), .int .i64 p] w fun e w' => e = .returned (.bool (ofN R p).isSome) ∧ RU w w' r E (relN R p) := by
  have HR := hidb h
  obtain ⟨v0, v1, hd, h0, h1, -, -⟩ := h.rows
  obtain ⟨a0, k0, rfl, hc0⟩ := row_sl h0
  obtain ⟨a1, k1, rfl, hc1⟩ := row_sl h1
  obtain ⟨c0, c1, f0, f1, hlt⟩ := hd
  have H0 := hidb h0
  have H1 := hidb h1
  obtain ⟨n, hn⟩ : ∃ n, R.length = n := ⟨_, rfl⟩
  rw [hn] at c0 c1
  have HN := hidb (And.intro hn (hn ▸ hN))
  clear h h0 h1 hN hn hc0 hc1
  go_enter Try.func18, Try.ntmps18
  go_wp2_with fail
  go_loopw [5] (fun iv wr => ∃ i : Nat, iv = .int .i64 (i : Int) ∧ i ≤ n ∧ i ≤ (R.findIdx fun x : NP => x.2 == p) ∧ wr = w) (fun iv _ => n - (RowKit.intOf iv).toNat)
  case atStart => exact ⟨0, rfl, by omega, by omega, rfl⟩
  case round =>
  obtain ⟨i, rfl, hi, hf, rfl⟩ := hrel
  rename World => w
  have HI := hidb (And.intro hi hf)
  clear hi hf
  have s0 : (0 : Int) ≤ (i : Int) := by omega
  by_cases hin : i < n
  · obtain ⟨y, hy⟩ : ∃ y, R[i]? = some y := ⟨_, List.getElem?_eq_getElem (by have := HN.out.1; omega)⟩
    obtain ⟨g0, q0, e0, d0⟩ := row_at H0.out (i := i) (x := .string y.1) (by rw [List.getElem?_map, hy]; rfl)
    obtain ⟨g1, q1, e1, d1⟩ := row_at H1.out (i := i) (x := .int .i64 y.2) (by rw [List.getElem?_map, hy]; rfl)
    obtain ⟨rfl, -, rfl⟩ : a0 = some ⟨g0, 0, none⟩ ∧ R.length = R.length ∧ k0 = q0 := by simpa using e0
    obtain ⟨rfl, -, rfl⟩ : a1 = some ⟨g1, 0, none⟩ ∧ R.length = R.length ∧ k1 = q1 := by simpa using e1
    have s1 : (i : Int) < (n : Int) := by omega
    have HE : Hid (wrap64 ((i : Int) + 1) = ((i + 1 : Nat) : Int)) := hidb (by have := HN.out; unfold wrap64; omega)
    have HY := hidb hy
    have C : Hid (Calls Try.prog 26 #[.pointer (some ⟨r, 0, none⟩), .int .i64 (i : Int)] w fun e w' => e = .returned (.tuple #[]) ∧ RU w w' r E (R.eraseIdx i)) := hidb (rdrop HR.out (by have := HN.out; omega) (by have := HN.out; omega))
    clear e0 e1 hy hin
    cases hq : (y.2 == p)
    · have t0 : (y.2 == p) = false := hq
      have t1 : ¬ y.2 = p := by simpa using t0
      have HF := hidb (idx_miss (f := fun x : NP => x.2 == p) HI.out.2 HY.out hq)
      clear hq C
      go_wp2_with fail
      go_roundw
      case rel => exact ⟨i + 1, by rw [HE.out], by have := s1; omega, HF.out, trivial⟩
      case measure =>
        rw [HE.out]
        simp only [RowKit.intOf, Int.toNat_natCast]
        omega
    · have HF := hidb (idx_hit (f := fun x : NP => x.2 == p) HI.out.2 HY.out hq)
      obtain rfl : y.2 = p := by simpa using hq
      clear hq
      have HZ : Hid ((ofN R y.2).isSome = true ∧ relN R y.2 = R.eraseIdx i) := hidb (by
        have e1 : ofN R y.2 = some y.1 := by unfold ofN; rw [HF.out.2]; rfl
        refine ⟨by simp [e1], ?_⟩
        unfold relN posP
        rw [HF.out.1])
      go_wp2_with (go_at_call 26; refine C.out.mono ?_; clear C; rintro e w1 ⟨rfl, HP⟩)
      go_ret
      rw [HZ.out.1, HZ.out.2]
      exact ⟨rfl, HP⟩
  · have s1 : ¬ (i : Int) < (n : Int) := by omega
    have hz : ofN R p = none := by
      unfold ofN
      rw [idx_end (by have := HI.out; have := HN.out; omega)]
      rfl
    have HZ : Hid ((ofN R p).isSome = false ∧ relN R p = R) := hidb ⟨by simp [hz], ofN_gone hz⟩
    clear hin hz
    go_wp2_with fail
    go_ret
    rw [HZ.out.1, HZ.out.2]
    exact ⟨rfl, RU.same HR.out⟩

end Go.Proofs.Ytfhgohpldpnkbaa
