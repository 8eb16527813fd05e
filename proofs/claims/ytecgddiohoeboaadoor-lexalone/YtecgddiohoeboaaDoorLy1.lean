/- The reference's numbers. -/
import Derived.Test.YtecgddiohoeboaaDoorLy0
import Derived.Test.YtecgddiohoeboaaDoorLxG
namespace Go.Proofs.YtecgddiohoeboaaDoor
open Go.RowKit Go.Lib
attribute [local go_sem] store_float f64bits
attribute [local go_sem ↓] Go.wp_at_zero Go.wp_at_succ

/-- A token as the reference tells it. -/
def rV (v : Value) (i E : Nat) : Value :=
  match v with
  | .tuple #[.agg #[a, b, c, d, _], .int _ e] => if e = 0 then .tuple #[.agg #[a, b, c, d, .int .i64 (i : Int)], .int .i64 (E : Int), .int .i64 0] else .tuple #[.agg #[.int .i64 (0), .string (⟨#[]⟩), .int .i64 (0), .float .f64 (0), .int .i64 (0)], .int .i64 0, .int .i64 e]
  | v => v
theorem rV_tk (k : Int) (x : ByteArray) (n : Int) (f : Nat) (i E : Nat) : rV (.tuple #[.agg #[.int .i64 (k), .string (x), .int .i64 (n), .float .f64 (f), .int .i64 (0)], .int .i64 0]) i E = .tuple #[.agg #[.int .i64 (k), .string (x), .int .i64 (n), .float .f64 (f), .int .i64 ((i : Int))], .int .i64 (E : Int), .int .i64 0] := rfl
theorem rV_bad (e : Int) (he : e ≠ 0) (i E : Nat) : rV (badV e) i E = .tuple #[.agg #[.int .i64 (0), .string (⟨#[]⟩), .int .i64 (0), .float .f64 (0), .int .i64 (0)], .int .i64 0, .int .i64 e] := by
  show (if e = 0 then _ else _) = _
  rw [if_neg he]

set_option maxHeartbeats 1000000 in
theorem rbits_any (s : ByteArray) (i : Nat) (hi : i < s.size) (hs : s.size ≤ 65536) (w : World) : Calls Tryd.prog 46 #[.string s, .int .i64 (i : Int)] w fun e w' => e = .returned (rV (bitsV s i) i (i + 17)) ∧ Below w.heap.size w w' := by
  unfold bitsV
  obtain ⟨o, ho⟩ : ∃ o, hexN s 16 (i + 1) 0 = o := ⟨_, rfl⟩
  rw [ho]
  have hf := f64frombits
  by_cases hlong : s.size < i + 17
  · have i3 : (s.size : Int) < (i : Int) + 17 := by omega
    obtain rfl : none = o := by
      cases o with
      | none => rfl
      | some v => have := hexN_in s 15 (i + 1) 0 v ho; omega
    rw [rV_bad 22 (by decide)]
    go_enter Tryd.func46, Tryd.ntmps46
    go_wp2_with fail
    exact bodyPost_ret (v := .tuple #[.agg #[.int .i64 (0), .string (⟨#[]⟩), .int .i64 (0), .float .f64 (0), .int .i64 (0)], .int .i64 0, .int .i64 22]) (by simp [results, Tryd.results46, go_sem]) rfl ⟨rfl, by (repeat (first | exact Below.refl _ _ | assumption | refine Below.drew ?_ | refine below_drewN ?_ _ | refine Below.setCell ?_ (by simp) _ | refine Below.alloc ?_ (by (first | exact Nat.le_refl _ | (simp; done) | (simp; omega) | omega)) _ | refine Below.trans ?_ (Below.mono (by assumption) (by first | exact Nat.le_refl _ | (simp; done) | (simp; omega) | omega))))⟩
  · have i3 : ¬ (s.size : Int) < (i : Int) + 17 := by omega
    go_enter Tryd.func46, Tryd.ntmps46
    go_wp2_with fail
    go_loopg [7, 8] 16 (fun gf s7 s8 wx => ∃ m V : Nat, s7 = .int .u64 (V : Int) ∧ s8 = .int .i64 ((i + 1 + m : Nat) : Int) ∧ m + gf = 16 ∧ hexN s gf (i + 1 + m) V = o ∧ V < 16 ^ m ∧ wx = wbox w)
    case atStart => exact ⟨0, 0, rfl, by simp, rfl, ho, by simp, rfl⟩
    case round =>
      obtain ⟨m, V, rfl, rfl, hgf, hx, hV, hwx⟩ := hrel
      obtain rfl := hwx.symm
      by_cases hm : m < 16
      · obtain ⟨g', rfl⟩ : ∃ g', gk = g' + 1 := ⟨gk - 1, by omega⟩
        have hps : i + 1 + m < s.size := by omega
        obtain ⟨q, hq⟩ : ∃ q, i + 1 + m = q := ⟨_, rfl⟩
        have hxa : hexAt s q = hexd (bt s q) := by unfold hexAt; rw [if_pos (by omega)]
        have i0 : (0 : Int) ≤ (q : Int) := by omega
        have i1 : (q : Int) < (s.size : Int) := by omega
        have i2 : (q : Int) < (i : Int) + 17 := by omega
        have hb := fun h => at_byte s q h
        have cH := rhexed_any (bt s q)
        rw [hq] at hx ⊢
        obtain ⟨c, hc⟩ : ∃ c, bt s q = c := ⟨_, rfl⟩
        rw [hc] at cH hxa
        simp only [hc] at hb
        have hV60 : V < 1152921504606846976 := by
          have h1 : 16 ^ m ≤ 16 ^ 15 := Nat.pow_le_pow_right (by omega) (by omega)
          omega
        have H16 : Hid (16 ^ (m + 1) = 16 ^ m * 16) := hidb (Nat.pow_succ _ _)
        cases hd : hexd c with
        | none =>
          rw [hd] at cH hxa
          rw [hexN_none _ _ _ _ hxa] at hx
          subst hx
          clear hxa hc hd
          go_wp2_with (first | (go_at_call 67; refine (cH _).mono ?_; rintro e w' ⟨rfl, hw'⟩; obtain rfl := hw'.symm))
          exact bodyPost_ret (v := .tuple #[.agg #[.int .i64 (0), .string (⟨#[]⟩), .int .i64 (0), .float .f64 (0), .int .i64 (0)], .int .i64 0, .int .i64 22]) (by simp [results, Tryd.results46, go_sem]) rfl ⟨rfl, by (repeat (first | exact Below.refl _ _ | assumption | refine Below.drew ?_ | refine below_drewN ?_ _ | refine Below.setCell ?_ (by simp) _ | refine Below.alloc ?_ (by (first | exact Nat.le_refl _ | (simp; done) | (simp; omega) | omega)) _ | refine Below.trans ?_ (Below.mono (by assumption) (by first | exact Nat.le_refl _ | (simp; done) | (simp; omega) | omega))))⟩
        | some d =>
          have hd16 := hexd_lt hd
          rw [hd] at cH hxa
          rw [hexN_some _ _ _ _ _ hxa] at hx
          obtain ⟨X, hX⟩ : ∃ X : Int, (V : Int) = X := ⟨_, rfl⟩
          obtain ⟨Y, hY⟩ : ∃ Y : Int, (d : Int) = Y := ⟨_, rfl⟩
          rw [hX]
          simp only [hY] at cH
          have x0 : 0 ≤ X := by omega
          have x1 : X < 1152921504606846976 := by omega
          have y0 : 0 ≤ Y := by omega
          have y1 : Y < 16 := by omega
          have y2 : ¬ Y < 0 := by omega
          have e1 : IntKind.u64.wrap (X * 16) = X * 16 := by rw [IntKind.wrap_u64]; omega
          have e2 := or16 X Y x0 x1 y0 y1
          have HRR : Hid (X * 16 + Y = ((V * 16 + d : Nat) : Int)) := hidb (by omega)
          have HV : Hid (V * 16 + d < 16 ^ (m + 1)) := hidb (by rw [H16.out]; omega)
          have HX := hidb hx
          clear hxa hc hd hX hY hV60 hx hV H16 hd16
          go_wp2_with (first | (go_at_call 67; refine (cH _).mono ?_; rintro e w' ⟨rfl, hw'⟩; obtain rfl := hw'.symm))
          go_roundg g'
          case measure => omega
          case rel => exact ⟨m + 1, V * 16 + d, by rw [HRR.out], by rw [← hq]; simp; omega, by omega, by rw [← HX.out, ← hq]; rfl, HV.out, rfl⟩
      · obtain rfl : m = 16 := by omega
        obtain rfl : gk = 0 := by omega
        obtain rfl : some V = o := hx
        have i2 : ¬ (((i + 1 + 16 : Nat) : Int) < (i : Int) + 17) := by omega
        have hV64 : V < 18446744073709551616 := by omega
        have cF := refFinite_any V
        cases hfin : Flt.fin V <;> rw [hfin] at cF
        · go_wp2_with (first | (go_at_call 68; refine (cF _).mono ?_; rintro e w1 ⟨rfl, hb1⟩; have HB1 := hidb hb1; obtain ⟨z0, z1, z2, z3, z4, y0, y1, y2, y3, y4, _⟩ := (wbox_box w).keep hb1))
          exact bodyPost_ret (v := .tuple #[.agg #[.int .i64 (0), .string (⟨#[]⟩), .int .i64 (0), .float .f64 (0), .int .i64 (0)], .int .i64 0, .int .i64 22]) (by simp [results, Tryd.results46, go_sem, z0, z1, z2, z3, z4]) rfl ⟨rfl, below_set5 ((wbox_below w).trans (HB1.out.mono (wbox_below w).size)) (Nat.le_refl _) _ _ _ _ _⟩
        · go_wp2_with (first | (go_at_call 68; refine (cF _).mono ?_; rintro e w1 ⟨rfl, hb1⟩; have HB1 := hidb hb1; obtain ⟨z0, z1, z2, z3, z4, y0, y1, y2, y3, y4, _⟩ := (wbox_box w).keep hb1))
          exact bodyPost_ret (v := .tuple #[.agg #[.int .i64 (4), .string (⟨#[]⟩), .int .i64 (0), .float .f64 (V), .int .i64 ((i : Int))], .int .i64 ((i + 17 : Nat) : Int), .int .i64 0]) (by simp [results, Tryd.results46, go_sem, z0, z1, z2, z3, z4]) rfl ⟨rfl, below_set5 ((wbox_below w).trans (HB1.out.mono (wbox_below w).size)) (Nat.le_refl _) _ _ _ _ _⟩
end Go.Proofs.YtecgddiohoeboaaDoor
