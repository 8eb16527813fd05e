/- The walk of NumNear: it returns true, and nothing that was there has turned. -/
import Derived.Test.YtihkabgoaejcgabDoorY2
namespace Go.Proofs.YtihkabgoaejcgabDoor
open Go.RowKit Ieee

theorem foi (n : Int) : floatOfInt .f64 n = double.nearest (decide (n < 0)) n.natAbs 0 := rfl

theorem U_const (s : Bool) (k : Nat) (hk : k ≤ 100) (c : Nat) (C : Int) (hc : double.word s ((1074 + k) * 4503599627370496 + 4503599627370496) = c) (hC : signed s (4503599627370496 * 2 ^ k) 0 = C) : Flt.U c = C * Flt.P ∧ Flt.fin c = true ∧ c < 18446744073709551616 := by
  have h := Flt.toInt_rung s (k := k) (t := 4503599627370496) hk (by omega) (by omega)
  rw [hc, hC] at h
  exact h.2

theorem k62 : Flt.U 4886405595696988160 = 4611686018427387904 * Flt.P ∧ Flt.fin 4886405595696988160 = true ∧ 4886405595696988160 < 18446744073709551616 :=
  U_const false 10 (by omega) 4886405595696988160 4611686018427387904 (by rw [Flt.word_val]; decide) (by decide)
theorem k62n : Flt.U 14109777632551763968 = (-4611686018427387904) * Flt.P ∧ Flt.fin 14109777632551763968 = true ∧ 14109777632551763968 < 18446744073709551616 :=
  U_const true 10 (by omega) 14109777632551763968 (-4611686018427387904) (by rw [Flt.word_val]; decide) (by decide)
theorem k63 : Flt.U 4890909195324358656 = 9223372036854775808 * Flt.P ∧ Flt.fin 4890909195324358656 = true ∧ 4890909195324358656 < 18446744073709551616 :=
  U_const false 11 (by omega) 4890909195324358656 9223372036854775808 (by rw [Flt.word_val]; decide) (by decide)
theorem k63n : Flt.U 14114281232179134464 = (-9223372036854775808) * Flt.P ∧ Flt.fin 14114281232179134464 = true ∧ 14114281232179134464 < 18446744073709551616 :=
  U_const true 11 (by omega) 14114281232179134464 (-9223372036854775808) (by rw [Flt.word_val]; decide) (by decide)
theorem k53 : Flt.U 4845873199050653696 = 9007199254740992 * Flt.P ∧ Flt.fin 4845873199050653696 = true ∧ 4845873199050653696 < 18446744073709551616 :=
  U_const false 1 (by omega) 4845873199050653696 9007199254740992 (by rw [Flt.word_val]; decide) (by decide)

/-- a whole float against one of these -/
theorem ord_of {x c : Nat} {V C : Int} (hx : x < 18446744073709551616) (fx : Flt.fin x = true) (hV : Flt.U x = V * Flt.P) (hc : Flt.U c = C * Flt.P ∧ Flt.fin c = true ∧ c < 18446744073709551616) : FloatKind.f64.format.order x c = some (compare V C) ∧ FloatKind.f64.format.order c x = some (compare C V) ∧ FloatKind.f64.format.order c c = some .eq ∧ FloatKind.f64.format.order x x = some .eq := by
  refine ⟨?_, ?_, ?_, ?_⟩
  · show double.order x c = _; rw [Flt.order_U hx hc.2.2 fx hc.2.1, hV, hc.1, compare_P]
  · show double.order c x = _; rw [Flt.order_U hc.2.2 hx hc.2.1 fx, hV, hc.1, compare_P]
  · show double.order c c = _; rw [Flt.order_U hc.2.2 hc.2.2 hc.2.1 hc.2.1]; simp
  · show double.order x x = _; rw [Flt.order_U hx hx fx fx]; simp

theorem k0 : Flt.U 0 = 0 * Flt.P ∧ Flt.fin 0 = true ∧ 0 < 18446744073709551616 := ⟨by rw [Flt.U_zero, Int.zero_mul], by decide, by decide⟩

/-- the neighbours of a float above nothing, of one below it -/
theorem beside_pos {x : Nat} {V : Int} (hx : x < 18446744073709551616) (fx : Flt.fin x = true) (hV : Flt.U x = V * Flt.P) (h1 : 0 < V) (h2 : V < 9223372036854775808) :
    (∀ w, Calls Tryd.prog 25 #[.float .f64 x, .float .f64 4890909195324358656] w fun e w' => e = .returned (.float .f64 (IntKind.u64.wrap ((x : Int) + 1)).toNat) ∧ w' = w) ∧
    (∀ w, Calls Tryd.prog 25 #[.float .f64 x, .float .f64 14114281232179134464] w fun e w' => e = .returned (.float .f64 (IntKind.u64.wrap ((x : Int) - 1)).toNat) ∧ w' = w) := by
  have a := ord_of hx fx hV k63
  have b := ord_of hx fx hV k63n
  have c := ord_of hx fx hV k0
  rw [Int.compare_eq_lt.2 h2, Int.compare_eq_gt.2 h2] at a
  rw [Int.compare_eq_gt.2 (by omega : (-9223372036854775808 : Int) < V), Int.compare_eq_lt.2 (by omega : (-9223372036854775808 : Int) < V)] at b
  rw [Int.compare_eq_gt.2 h1] at c
  exact ⟨next_out x _ _ _ .lt (by decide) (f64bits x) rfl a.2.2.2 a.2.2.1 a.1 c.1 a.2.1, next_in x _ _ _ .gt (by decide) (f64bits x) rfl b.2.2.2 b.2.2.1 b.1 c.1 b.2.1⟩

theorem beside_neg {x : Nat} {V : Int} (hx : x < 18446744073709551616) (fx : Flt.fin x = true) (hV : Flt.U x = V * Flt.P) (h1 : V < 0) (h2 : -9223372036854775808 < V) :
    (∀ w, Calls Tryd.prog 25 #[.float .f64 x, .float .f64 4890909195324358656] w fun e w' => e = .returned (.float .f64 (IntKind.u64.wrap ((x : Int) - 1)).toNat) ∧ w' = w) ∧
    (∀ w, Calls Tryd.prog 25 #[.float .f64 x, .float .f64 14114281232179134464] w fun e w' => e = .returned (.float .f64 (IntKind.u64.wrap ((x : Int) + 1)).toNat) ∧ w' = w) := by
  have a := ord_of hx fx hV k63
  have b := ord_of hx fx hV k63n
  have c := ord_of hx fx hV k0
  rw [Int.compare_eq_lt.2 (by omega : V < 9223372036854775808), Int.compare_eq_gt.2 (by omega : V < 9223372036854775808)] at a
  rw [Int.compare_eq_gt.2 h2, Int.compare_eq_lt.2 h2] at b
  rw [Int.compare_eq_lt.2 h1] at c
  exact ⟨next_in x _ _ _ .lt (by decide) (f64bits x) rfl a.2.2.2 a.2.2.1 a.1 c.1 a.2.1, next_out x _ _ _ .gt (by decide) (f64bits x) rfl b.2.2.2 b.2.2.1 b.1 c.1 b.2.1⟩

/-- nothing less a whole float below nothing -/
theorem zero_less {x N : Nat} {a : Nat} (hx : x < 18446744073709551616) (fx : Flt.fin x = true) (hV : (Flt.U x).natAbs = N * 2 ^ a) (hN : N < 9007199254740992) (ha : a ≤ 2045) : ∃ z, floatBits .sub .f64 0 x = some z ∧ z < 18446744073709551616 ∧ Flt.fin z = true ∧ Flt.U z = -Flt.U x := by
  obtain ⟨z, h1, h2, h3, h4⟩ := Flt.sub_exact (x := 0) (y := x) (by decide) hx (by decide) fx hN ha (by rw [Flt.U_zero, Int.zero_sub, Int.natAbs_neg]; exact hV)
  exact ⟨z, h1, h2, h3, by rw [h4, Flt.U_zero, Int.zero_sub]⟩

theorem abs_U {x : Nat} (hx : x < 18446744073709551616) (fx : Flt.fin x = true) : ∃ N a, (Flt.U x).natAbs = N * 2 ^ a ∧ N < 9007199254740992 ∧ a ≤ 2045 := by
  obtain ⟨m, p, hr, hc, hp, he⟩ := Flt.read_canon hx fx
  refine ⟨m, (p + 1074).toNat, ?_, hc.hi, by omega⟩
  rw [Flt.U_abs hr]
  generalize m * 2 ^ (p + 1074).toNat = q
  split <;> omega

theorem size1_whole {x : Nat} {V : Int} (hx : x < 18446744073709551616) (fx : Flt.fin x = true) (hV : Flt.U x = V * Flt.P) : ∃ a, (∀ w, Calls Tryd.prog 18 #[.float .f64 x] w fun e w' => e = .returned (.float .f64 a) ∧ w' = w) ∧ a < 18446744073709551616 ∧ Flt.fin a = true ∧ Flt.U a = (V.natAbs : Int) * Flt.P := by
  have c := ord_of hx fx hV k0
  rcases Int.lt_or_le V 0 with h | h
  · rw [Int.compare_eq_lt.2 h] at c
    obtain ⟨N, a, h1, h2, h3⟩ := abs_U hx fx
    obtain ⟨z, z1, z2, z3, z4⟩ := zero_less hx fx h1 h2 h3
    refine ⟨z, size1_down x z c.1 z1, z2, z3, ?_⟩
    rw [z4, hV, ← Int.neg_mul]
    congr 1
    omega
  · refine ⟨x, size1_up x ?_, hx, fx, ?_⟩
    · rcases Int.lt_or_eq_of_le h with h' | h'
      · rw [Int.compare_eq_gt.2 h'] at c; exact Or.inl c.1
      · rw [Int.compare_eq_eq.2 h'.symm] at c; exact Or.inr c.1
    · rw [hV]; congr 1; omega

/-- a whole float's neighbours, by its rung -/
theorem wrap_up {x r : Nat} (h : x = r) (hr : r + 1 < 18446744073709551616) : (IntKind.u64.wrap ((x : Int) + 1)).toNat = r + 1 := by rw [IntKind.wrap_u64]; omega
theorem wrap_down {x r : Nat} (h : x = r) (h0 : 0 < r) (hr : r < 18446744073709551616) : (IntKind.u64.wrap ((x : Int) - 1)).toNat = r - 1 := by rw [IntKind.wrap_u64]; omega

set_option maxHeartbeats 1000000 in
theorem numNear_any (n : Int) (h1 : -9223372036854775808 ≤ n) (h2 : n ≤ 9223372036854775807) (w : World) (ht : w.cell? ⟨4, 15, none⟩ = some (.int .u8 4)) :
    Calls Tryd.prog 7 #[.int .i64 n] w fun e w' => e = .returned (.bool true) ∧ Below w.heap.size w w' := by
  rcases Nat.lt_or_ge n.natAbs 9007199254740992 with hN | hN
  · -- the number is its own float
    by_cases h0 : n = 0
    · subst h0
      have c := ord_of (x := 0) (V := 0) (by decide) (by decide) k0.1 k63
      have d := ord_of (x := 0) (V := 0) (by decide) (by decide) k0.1 k63n
      have a := ord_of (x := 0) (V := 0) (by decide) (by decide) k0.1 k62
      have b := ord_of (x := 0) (V := 0) (by decide) (by decide) k0.1 k62n
      have e := ord_of (x := 0) (V := 0) (by decide) (by decide) k0.1 k53
      exact near_small 0 0 _ _ 0 near_0 (by decide) a.1 b.1 (cv_int (by decide) (by decide) (by decide)) (next_zero _ _ _ c.2.2.1 (Or.inl c.1) rfl rfl) (next_zero _ _ _ d.2.2.1 (Or.inr d.1) rfl rfl) (size1_up 0 (Or.inr Flt.order_zero_zero)) e.1 w ht
    · have hw := Flt.whole_small (decide (n < 0)) (M := n.natAbs) (by omega)
      rw [← foi] at hw
      have hv : signed (decide (n < 0)) n.natAbs 0 = n := by
        rw [Flt.signed_0]
        by_cases hs : n < 0
        · rw [decide_eq_true hs, if_pos rfl]; omega
        · rw [decide_eq_false hs, if_neg (by simp)]; omega
      have hU := hw.U
      have hi := hw.toInt
      rw [hv] at hU hi
      have a := (ord_of hw.lt hw.fin hU k62).1
      have b := (ord_of hw.lt hw.fin hU k62n).1
      rw [Int.compare_eq_lt.2 (by omega)] at a
      rw [Int.compare_eq_gt.2 (by omega)] at b
      obtain ⟨z, s1, z2, z3, z4⟩ := size1_whole hw.lt hw.fin hU
      have c := (ord_of z2 z3 z4 k53).1
      rw [Int.compare_eq_lt.2 (by omega)] at c
      rcases Int.lt_or_le n 0 with hs | hs
      · obtain ⟨u, d⟩ := beside_neg hw.lt hw.fin hU hs (by omega)
        exact near_small n _ _ _ z rfl hw.fin a b (cv_int hi (by omega) (by omega)) u d s1 c w ht
      · obtain ⟨u, d⟩ := beside_pos hw.lt hw.fin hU (by omega) (by omega)
        exact near_small n _ _ _ z rfl hw.fin a b (cv_int hi (by omega) (by omega)) u d s1 c w ht
  · obtain ⟨r, T, Tu, Td, hx, r1, r2, hT, ⟨ti, hU⟩, tu, td, b1, b7, b2, b3, b4, b5, b6⟩ := Flt.near_beside (decide (n < 0)) (N := n.natAbs) (by omega) (by omega)
    rw [← foi] at hx
    have hwv := Flt.word_val (decide (n < 0)) r
    have hfl : double.word (decide (n < 0)) r < 18446744073709551616 ∧ Flt.fin (double.word (decide (n < 0)) r) = true := by
      rw [hwv]
      by_cases hs : n < 0
      · rw [decide_eq_true hs, if_pos rfl]; refine ⟨by omega, ?_⟩; simp only [Flt.fin, decide_eq_true_eq]; omega
      · rw [decide_eq_false hs, if_neg (by simp)]; refine ⟨by omega, ?_⟩; simp only [Flt.fin, decide_eq_true_eq]; omega
    have a := (ord_of hfl.1 hfl.2 hU k62).1
    have b := (ord_of hfl.1 hfl.2 hU k62n).1
    rw [Flt.signed_0] at hU ti a b
    by_cases hs : n < 0
    · rw [decide_eq_true hs] at *
      simp only [if_true] at hU ti a b hwv
      rcases Nat.lt_or_ge T 4611686018427387904 with hT2 | hT2
      · rw [Int.compare_eq_lt.2 (by omega)] at a
        rw [Int.compare_eq_gt.2 (by omega)] at b
        obtain ⟨z, s1, z2, z3, z4⟩ := size1_whole hfl.1 hfl.2 hU
        have c := (ord_of z2 z3 z4 k53).1
        obtain ⟨u, d⟩ := beside_neg hfl.1 hfl.2 hU (by omega) (by omega)
        rw [wrap_down (r := 9223372036854775808 + r) hwv (by omega) (by omega)] at u
        rw [wrap_up (r := 9223372036854775808 + r) hwv (by omega)] at d
        rw [Flt.word_val, if_pos rfl] at tu td
        rw [Flt.signed_0, if_pos rfl] at tu td
        rw [show 9223372036854775808 + (r - 1) = 9223372036854775808 + r - 1 by omega] at td
        rw [← Nat.add_assoc] at tu
        refine near_large n (-(T : Int)) (-(Td : Int)) (-(Tu : Int)) _ _ _ z hx hfl.2 ?_ ?_ ?_ ?_ ?_ ?_ a b (cv_int ti (by omega) (by omega)) (cv_int td (by omega) (by omega)) (cv_int tu (by omega) (by omega)) u d s1 ?_ ?_ ?_ w ht
        · omega
        · omega
        · omega
        · omega
        · omega
        · omega
        · rcases Int.lt_or_eq_of_le (show (9007199254740992 : Int) ≤ (((-(T : Int)).natAbs : Nat) : Int) by omega) with h | h
          · rw [Int.compare_eq_gt.2 h] at c; exact Or.inl c
          · rw [Int.compare_eq_eq.2 h.symm] at c; exact Or.inr c
        · omega
        · omega
      · rw [Int.compare_eq_lt.2 (by omega)] at a
        refine near_far n _ hx hfl.2 (Or.inr ⟨a, ?_⟩) w ht
        rcases Int.lt_or_eq_of_le (show -(T : Int) ≤ -4611686018427387904 by omega) with h | h
        · rw [Int.compare_eq_lt.2 h] at b; exact Or.inl b
        · rw [Int.compare_eq_eq.2 h] at b; exact Or.inr b
    · rw [decide_eq_false hs] at *
      simp only [Bool.false_eq_true, if_false] at hU ti a b hwv
      rcases Nat.lt_or_ge T 4611686018427387904 with hT2 | hT2
      · rw [Int.compare_eq_lt.2 (by omega)] at a
        rw [Int.compare_eq_gt.2 (by omega)] at b
        obtain ⟨z, s1, z2, z3, z4⟩ := size1_whole hfl.1 hfl.2 hU
        have c := (ord_of z2 z3 z4 k53).1
        obtain ⟨u, d⟩ := beside_pos hfl.1 hfl.2 hU (by omega) (by omega)
        rw [wrap_up (r := 0 + r) hwv (by omega)] at u
        rw [wrap_down (r := 0 + r) hwv (by omega) (by omega)] at d
        rw [Flt.word_val, if_neg (by simp)] at tu td
        rw [Flt.signed_0, if_neg (by simp)] at tu td
        rw [show 0 + (r - 1) = 0 + r - 1 by omega] at td
        rw [← Nat.add_assoc] at tu
        refine near_large n (T : Int) (Tu : Int) (Td : Int) _ _ _ z hx hfl.2 ?_ ?_ ?_ ?_ ?_ ?_ a b (cv_int ti (by omega) (by omega)) (cv_int tu (by omega) (by omega)) (cv_int td (by omega) (by omega)) u d s1 ?_ ?_ ?_ w ht
        · omega
        · omega
        · omega
        · omega
        · omega
        · omega
        · rcases Int.lt_or_eq_of_le (show (9007199254740992 : Int) ≤ (((T : Int).natAbs : Nat) : Int) by omega) with h | h
          · rw [Int.compare_eq_gt.2 h] at c; exact Or.inl c
          · rw [Int.compare_eq_eq.2 h.symm] at c; exact Or.inr c
        · omega
        · omega
      · refine near_far n _ hx hfl.2 (Or.inl ?_) w ht
        rcases Int.lt_or_eq_of_le (show (4611686018427387904 : Int) ≤ T by omega) with h | h
        · rw [Int.compare_eq_gt.2 h] at a; exact Or.inl a
        · rw [Int.compare_eq_eq.2 h.symm] at a; exact Or.inr a
end Go.Proofs.YtihkabgoaejcgabDoor
