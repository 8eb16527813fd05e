import Derived.Test.YtecgddiohoeboaaDoorG13
/- The reference's numbers with a point. -/
namespace Go.Proofs.YtecgddiohoeboaaDoor
open Go.RowKit Go.Lib
attribute [local go_sem] store_float f64bits
attribute [local go_sem ↓] Go.wp_at_zero Go.wp_at_succ

set_option maxHeartbeats 1000000 in
set_option maxRecDepth 100000 in
theorem rnf_cn1 (s X P : ByteArray) (i E F c0 : Nat) (hiE : i < E) (hE : E + 1 < s.size) (hs : s.size ≤ 65536) (hX : s.extract i E = X) (hXs : X.size + i = E) (hP : s.extract (E + 1) F = P) (hPs : P.size + (E + 1) = F) (hgo : ∀ p, i ≤ p → p < E → pDigit (bt s p) = true) (hgo2 : ∀ p, E + 1 ≤ p → p < F → pDigit (bt s p) = true) (hEF : E + 1 < F) (hFs : F ≤ s.size) (h46 : bt s E = 46) (hc0 : bt X 0 = c0) (hz1 : 1 < X.size) (hz2 : c0 ≠ 48) (hnd : F < s.size ∧ pDigit (bt s F) = false) (ho : 15 < X.size + P.size) (w : World) : Calls Tryd.prog 45 #[.string s, .int .i64 (i : Int)] w fun e w' => e = .returned (.tuple #[.agg #[.int .i64 (0), .string (⟨#[]⟩), .int .i64 (0), .float .f64 (0), .int .i64 (0)], .int .i64 0, .int .i64 22]) ∧ Below w.heap.size w w' := by
  have i6 : (0 : Int) ≤ (i : Int) := by omega
  have hb0 : ∀ h, (X[0]'h).toNat = c0 := fun h => by rw [at_byte, hc0]
  have r1 : ¬ (s.size : Int) ≤ (E : Int) + 1 := by omega
  have hb3 : ∀ h, (s[E + 1]'h).toNat = bt s (E + 1) := fun h => at_byte s (E + 1) h
  have hw3 : (E : Int) + 1 < (s.size : Int) := by omega
  have z1 : (1 : Int) < (X.size : Int) := by omega
  have z2 : ((c0 : Int) == 48) = false := by simp; omega
  have o1 : (15 : Int) < (X.size : Int) + (P.size : Int) := by omega
  go_enter Tryd.func45, Tryd.ntmps45
  go_wp2_with fail
  go_loopg [7] (E - i) (fun gf s7 wx => ∃ p : Nat, s7 = .int .i64 (p : Int) ∧ i ≤ p ∧ p + gf = E ∧ wx = wbox w)
  case atStart => exact ⟨i, rfl, Nat.le_refl _, by omega, rfl⟩
  case round =>
    obtain ⟨p, rfl, hip, hgf, hwx⟩ := hrel
    obtain rfl := hwx.symm
    by_cases hpE : p < E
    · obtain ⟨g', rfl⟩ : ∃ g', gk = g' + 1 := ⟨gk - 1, by omega⟩
      have i0 : (0 : Int) ≤ (p : Int) := by omega
      have i1 : (p : Int) < (s.size : Int) := by omega
      have hb := fun h => at_byte s p h
      have cD := rdigit_any (bt s p)
      rw [hgo p hip hpE] at cD
      go_wp2_with (first | (go_at_call 44; refine (cD _).mono ?_; rintro e w' ⟨rfl, hw'⟩; obtain rfl := hw'.symm; clear cD))
      go_roundg g'
      case measure => omega
      case rel => exact ⟨p + 1, by simp, by omega, by omega, rfl⟩
    · obtain rfl : p = E := by omega
      have i0 : (0 : Int) ≤ (p : Int) := by omega
      have i1 : (p : Int) < (s.size : Int) := by omega
      have i4 : (i : Int) ≤ (p : Int) := by omega
      have hbE : ∀ h, (s[p]'h).toNat = 46 := fun h => by rw [at_byte, h46]
      have cD := rdigit_any 46
      have cD3 := rdigit_any (bt s (p + 1))
      rw [show pDigit 46 = false from rfl] at cD
      rw [hgo2 (p + 1) (Nat.le_refl _) hEF] at cD3
      go_wp2_with (first | (go_at_call 44; refine (cD _).mono ?_; rintro e w' ⟨rfl, hw'⟩; obtain rfl := hw'.symm; clear cD) | (go_at_call 44; refine (cD3 _).mono ?_; rintro e w' ⟨rfl, hw'⟩; obtain rfl := hw'.symm; clear cD3))
      clear hbE i0 i1 hb3
      go_loopg [7] (F - (p + 1)) (fun gf s7 wx => ∃ r : Nat, s7 = .int .i64 (r : Int) ∧ p + 1 ≤ r ∧ r + gf = F ∧ wx = wbox w)
      case atStart => exact ⟨p + 1, by simp, Nat.le_refl _, by omega, rfl⟩
      case round =>
        obtain ⟨r, rfl, hip, hgf, hwx⟩ := hrel
        obtain rfl := hwx.symm
        by_cases hpF : r < F
        · obtain ⟨g2, rfl⟩ : ∃ g2, gk = g2 + 1 := ⟨gk - 1, by omega⟩
          have k0 : (0 : Int) ≤ (r : Int) := by omega
          have k1 : (r : Int) < (s.size : Int) := by omega
          have hb := fun h => at_byte s r h
          have cD := rdigit_any (bt s r)
          rw [hgo2 r hip hpF] at cD
          go_wp2_with (first | (go_at_call 44; refine (cD _).mono ?_; rintro e w' ⟨rfl, hw'⟩; obtain rfl := hw'.symm; clear cD))
          go_roundg g2
          case measure => omega
          case rel => exact ⟨r + 1, by simp, by omega, by omega, rfl⟩
        ·
          obtain rfl : r = F := by omega
          have k0 : (0 : Int) ≤ (r : Int) := by omega
          have k1 : (r : Int) < (s.size : Int) := by omega
          have k4 : (p : Int) + 1 ≤ (r : Int) := by omega
          have hb := fun h => at_byte s r h
          have cD := rdigit_any (bt s r)
          rw [hnd.2] at cD
          go_wp2_with (first | (go_at_call 44; refine (cD _).mono ?_; rintro e w' ⟨rfl, hw'⟩; obtain rfl := hw'.symm; clear cD))
          exact bodyPost_ret (v := .tuple #[.agg #[.int .i64 (0), .string (⟨#[]⟩), .int .i64 (0), .float .f64 (0), .int .i64 (0)], .int .i64 0, .int .i64 22]) (by simp [results, Tryd.results45, go_sem]) rfl ⟨rfl, by (repeat (first | exact Below.refl _ _ | assumption | refine Below.drew ?_ | refine below_drewN ?_ _ | refine Below.setCell ?_ (by simp) _ | refine Below.alloc ?_ (by (first | exact Nat.le_refl _ | (simp; done) | (simp; omega) | omega)) _ | refine Below.trans ?_ (Below.mono (by assumption) (by first | exact Nat.le_refl _ | (simp; done) | (simp; omega) | omega))))⟩

set_option maxHeartbeats 1000000 in
set_option maxRecDepth 100000 in
theorem rnf_cn2 (s X P : ByteArray) (i E F c0 V Q : Nat) (hiE : i < E) (hE : E + 1 < s.size) (hs : s.size ≤ 65536) (hX : s.extract i E = X) (hXs : X.size + i = E) (hP : s.extract (E + 1) F = P) (hPs : P.size + (E + 1) = F) (hgo : ∀ p, i ≤ p → p < E → pDigit (bt s p) = true) (hgo2 : ∀ p, E + 1 ≤ p → p < F → pDigit (bt s p) = true) (hEF : E + 1 < F) (hFs : F ≤ s.size) (h46 : bt s E = 46) (hc0 : bt X 0 = c0) (hz1 : 1 < X.size) (hz2 : c0 ≠ 48) (hnd : F < s.size ∧ pDigit (bt s F) = false) (hD : Digs (X ++ P)) (ho : ¬ 15 < X.size + P.size) (hV : wor (X ++ P) (X ++ P).size = V) (hQ : fq V P.size = Q) (w : World) : Calls Tryd.prog 45 #[.string s, .int .i64 (i : Int)] w fun e w' => e = .returned (.tuple #[.agg #[.int .i64 (4), .string (⟨#[]⟩), .int .i64 (0), .float .f64 (Q), .int .i64 ((i : Int))], .int .i64 (F : Int), .int .i64 0]) ∧ Below w.heap.size w w' := by
  have i6 : (0 : Int) ≤ (i : Int) := by omega
  have hb0 : ∀ h, (X[0]'h).toNat = c0 := fun h => by rw [at_byte, hc0]
  have r1 : ¬ (s.size : Int) ≤ (E : Int) + 1 := by omega
  have hb3 : ∀ h, (s[E + 1]'h).toNat = bt s (E + 1) := fun h => at_byte s (E + 1) h
  have hw3 : (E : Int) + 1 < (s.size : Int) := by omega
  have z1 : (1 : Int) < (X.size : Int) := by omega
  have z2 : ((c0 : Int) == 48) = false := by simp; omega
  have o1 : ¬ (15 : Int) < (X.size : Int) + (P.size : Int) := by omega
  have hsz : (X ++ P).size = X.size + P.size := ByteArray.size_append ..
  have cW := rwhole_any (X ++ P) hD (by omega)
  have hvl := wor_lt18 _ hD (by omega) _ (Nat.le_refl _)
  rw [hV] at cW hvl
  have hq := fq_some V P.size (by omega) (by omega)
  rw [hQ] at hq
  have hqq := fun t w => run_float_arith (P := Tryd.prog) w .quo t .f64 _ _ _ hq
  have hcv := conv10 P.size _ (p10_at P.size (by omega))
  clear hq hD hsz
  go_enter Tryd.func45, Tryd.ntmps45
  go_wp2_with fail
  go_loopg [7] (E - i) (fun gf s7 wx => ∃ p : Nat, s7 = .int .i64 (p : Int) ∧ i ≤ p ∧ p + gf = E ∧ wx = wbox w)
  case atStart => exact ⟨i, rfl, Nat.le_refl _, by omega, rfl⟩
  case round =>
    obtain ⟨p, rfl, hip, hgf, hwx⟩ := hrel
    obtain rfl := hwx.symm
    by_cases hpE : p < E
    · obtain ⟨g', rfl⟩ : ∃ g', gk = g' + 1 := ⟨gk - 1, by omega⟩
      have i0 : (0 : Int) ≤ (p : Int) := by omega
      have i1 : (p : Int) < (s.size : Int) := by omega
      have hb := fun h => at_byte s p h
      have cD := rdigit_any (bt s p)
      rw [hgo p hip hpE] at cD
      go_wp2_with (first | (go_at_call 44; refine (cD _).mono ?_; rintro e w' ⟨rfl, hw'⟩; obtain rfl := hw'.symm; clear cD))
      go_roundg g'
      case measure => omega
      case rel => exact ⟨p + 1, by simp, by omega, by omega, rfl⟩
    · obtain rfl : p = E := by omega
      have i0 : (0 : Int) ≤ (p : Int) := by omega
      have i1 : (p : Int) < (s.size : Int) := by omega
      have i4 : (i : Int) ≤ (p : Int) := by omega
      have hbE : ∀ h, (s[p]'h).toNat = 46 := fun h => by rw [at_byte, h46]
      have cD := rdigit_any 46
      have cD3 := rdigit_any (bt s (p + 1))
      rw [show pDigit 46 = false from rfl] at cD
      rw [hgo2 (p + 1) (Nat.le_refl _) hEF] at cD3
      go_wp2_with (first | (go_at_call 44; refine (cD _).mono ?_; rintro e w' ⟨rfl, hw'⟩; obtain rfl := hw'.symm; clear cD) | (go_at_call 44; refine (cD3 _).mono ?_; rintro e w' ⟨rfl, hw'⟩; obtain rfl := hw'.symm; clear cD3))
      clear hbE i0 i1 hb3
      go_loopg [7] (F - (p + 1)) (fun gf s7 wx => ∃ r : Nat, s7 = .int .i64 (r : Int) ∧ p + 1 ≤ r ∧ r + gf = F ∧ wx = wbox w)
      case atStart => exact ⟨p + 1, by simp, Nat.le_refl _, by omega, rfl⟩
      case round =>
        obtain ⟨r, rfl, hip, hgf, hwx⟩ := hrel
        obtain rfl := hwx.symm
        by_cases hpF : r < F
        · obtain ⟨g2, rfl⟩ : ∃ g2, gk = g2 + 1 := ⟨gk - 1, by omega⟩
          have k0 : (0 : Int) ≤ (r : Int) := by omega
          have k1 : (r : Int) < (s.size : Int) := by omega
          have hb := fun h => at_byte s r h
          have cD := rdigit_any (bt s r)
          rw [hgo2 r hip hpF] at cD
          go_wp2_with (first | (go_at_call 44; refine (cD _).mono ?_; rintro e w' ⟨rfl, hw'⟩; obtain rfl := hw'.symm; clear cD))
          go_roundg g2
          case measure => omega
          case rel => exact ⟨r + 1, by simp, by omega, by omega, rfl⟩
        ·
          obtain rfl : r = F := by omega
          have k0 : (0 : Int) ≤ (r : Int) := by omega
          have k1 : (r : Int) < (s.size : Int) := by omega
          have k4 : (p : Int) + 1 ≤ (r : Int) := by omega
          have hb := fun h => at_byte s r h
          have cD := rdigit_any (bt s r)
          rw [hnd.2] at cD
          go_wp2_with (first | (go_at_call 44; refine (cD _).mono ?_; rintro e w' ⟨rfl, hw'⟩; obtain rfl := hw'.symm; clear cD))
          go_loopg [11, 12] P.size (fun gf s11 s12 wx => ∃ j : Nat, s11 = .int .i64 ((10 ^ j : Nat) : Int) ∧ s12 = .int .i64 (j : Int) ∧ j + gf = P.size ∧ wx = wbox w)
          case atStart => exact ⟨0, rfl, rfl, by omega, rfl⟩
          case round =>
            obtain ⟨j, rfl, rfl, hjg, hwx⟩ := hrel
            obtain rfl := hwx.symm
            by_cases hjP : j < P.size
            · obtain ⟨g3, rfl⟩ : ∃ g3, gk = g3 + 1 := ⟨gk - 1, by omega⟩
              have j1 : (j : Int) < (P.size : Int) := by omega
              have ht : 10 ^ j ≤ 10 ^ 14 := Nat.pow_le_pow_right (by omega) (by omega)
              have hts : 10 ^ (j + 1) = 10 ^ j * 10 := Nat.pow_succ ..
              obtain ⟨T, hTT⟩ : ∃ T : Int, ((10 ^ j : Nat) : Int) = T := ⟨_, rfl⟩
              have HT : Hid (((10 ^ (j + 1) : Nat) : Int) = 10 * T) := hidb (by omega)
              have t0 : 0 ≤ T := by omega
              have t1 : T ≤ 100000000000000 := by omega
              rw [hTT]
              clear hTT ht hts hqq hcv
              go_wp2_with fail
              go_roundg g3
              case measure => omega
              case rel => exact ⟨j + 1, by rw [HT.out], by simp, by omega, rfl⟩
            · obtain rfl : j = P.size := by omega
              have j1 : ¬ (P.size : Int) < (P.size : Int) := by omega
              obtain ⟨T, hTT⟩ : ∃ T : Int, ((10 ^ P.size : Nat) : Int) = T := ⟨_, rfl⟩
              rw [hTT] at hcv ⊢
              go_wp2_with (first | (go_at_call 66; refine (cW _).mono ?_; rintro e w' ⟨rfl, hw'⟩; obtain rfl := hw'.symm))
              exact bodyPost_ret (v := .tuple #[.agg #[.int .i64 (4), .string (⟨#[]⟩), .int .i64 (0), .float .f64 (Q), .int .i64 ((i : Int))], .int .i64 (r : Int), .int .i64 0]) (by simp [results, Tryd.results45, go_sem]) rfl ⟨rfl, by (repeat (first | exact Below.refl _ _ | assumption | refine Below.drew ?_ | refine below_drewN ?_ _ | refine Below.setCell ?_ (by simp) _ | refine Below.alloc ?_ (by (first | exact Nat.le_refl _ | (simp; done) | (simp; omega) | omega)) _ | refine Below.trans ?_ (Below.mono (by assumption) (by first | exact Nat.le_refl _ | (simp; done) | (simp; omega) | omega))))⟩

set_option maxHeartbeats 1000000 in
set_option maxRecDepth 100000 in
theorem rnf_ce1 (s X P : ByteArray) (i E F c0 : Nat) (hiE : i < E) (hE : E + 1 < s.size) (hs : s.size ≤ 65536) (hX : s.extract i E = X) (hXs : X.size + i = E) (hP : s.extract (E + 1) F = P) (hPs : P.size + (E + 1) = F) (hgo : ∀ p, i ≤ p → p < E → pDigit (bt s p) = true) (hgo2 : ∀ p, E + 1 ≤ p → p < F → pDigit (bt s p) = true) (hEF : E + 1 < F) (hFs : F ≤ s.size) (h46 : bt s E = 46) (hc0 : bt X 0 = c0) (hz1 : 1 < X.size) (hz2 : c0 ≠ 48) (hnd : s.size ≤ F) (ho : 15 < X.size + P.size) (w : World) : Calls Tryd.prog 45 #[.string s, .int .i64 (i : Int)] w fun e w' => e = .returned (.tuple #[.agg #[.int .i64 (0), .string (⟨#[]⟩), .int .i64 (0), .float .f64 (0), .int .i64 (0)], .int .i64 0, .int .i64 22]) ∧ Below w.heap.size w w' := by
  have i6 : (0 : Int) ≤ (i : Int) := by omega
  have hb0 : ∀ h, (X[0]'h).toNat = c0 := fun h => by rw [at_byte, hc0]
  have r1 : ¬ (s.size : Int) ≤ (E : Int) + 1 := by omega
  have hb3 : ∀ h, (s[E + 1]'h).toNat = bt s (E + 1) := fun h => at_byte s (E + 1) h
  have hw3 : (E : Int) + 1 < (s.size : Int) := by omega
  have z1 : (1 : Int) < (X.size : Int) := by omega
  have z2 : ((c0 : Int) == 48) = false := by simp; omega
  have o1 : (15 : Int) < (X.size : Int) + (P.size : Int) := by omega
  go_enter Tryd.func45, Tryd.ntmps45
  go_wp2_with fail
  go_loopg [7] (E - i) (fun gf s7 wx => ∃ p : Nat, s7 = .int .i64 (p : Int) ∧ i ≤ p ∧ p + gf = E ∧ wx = wbox w)
  case atStart => exact ⟨i, rfl, Nat.le_refl _, by omega, rfl⟩
  case round =>
    obtain ⟨p, rfl, hip, hgf, hwx⟩ := hrel
    obtain rfl := hwx.symm
    by_cases hpE : p < E
    · obtain ⟨g', rfl⟩ : ∃ g', gk = g' + 1 := ⟨gk - 1, by omega⟩
      have i0 : (0 : Int) ≤ (p : Int) := by omega
      have i1 : (p : Int) < (s.size : Int) := by omega
      have hb := fun h => at_byte s p h
      have cD := rdigit_any (bt s p)
      rw [hgo p hip hpE] at cD
      go_wp2_with (first | (go_at_call 44; refine (cD _).mono ?_; rintro e w' ⟨rfl, hw'⟩; obtain rfl := hw'.symm; clear cD))
      go_roundg g'
      case measure => omega
      case rel => exact ⟨p + 1, by simp, by omega, by omega, rfl⟩
    · obtain rfl : p = E := by omega
      have i0 : (0 : Int) ≤ (p : Int) := by omega
      have i1 : (p : Int) < (s.size : Int) := by omega
      have i4 : (i : Int) ≤ (p : Int) := by omega
      have hbE : ∀ h, (s[p]'h).toNat = 46 := fun h => by rw [at_byte, h46]
      have cD := rdigit_any 46
      have cD3 := rdigit_any (bt s (p + 1))
      rw [show pDigit 46 = false from rfl] at cD
      rw [hgo2 (p + 1) (Nat.le_refl _) hEF] at cD3
      go_wp2_with (first | (go_at_call 44; refine (cD _).mono ?_; rintro e w' ⟨rfl, hw'⟩; obtain rfl := hw'.symm; clear cD) | (go_at_call 44; refine (cD3 _).mono ?_; rintro e w' ⟨rfl, hw'⟩; obtain rfl := hw'.symm; clear cD3))
      clear hbE i0 i1 hb3
      go_loopg [7] (F - (p + 1)) (fun gf s7 wx => ∃ r : Nat, s7 = .int .i64 (r : Int) ∧ p + 1 ≤ r ∧ r + gf = F ∧ wx = wbox w)
      case atStart => exact ⟨p + 1, by simp, Nat.le_refl _, by omega, rfl⟩
      case round =>
        obtain ⟨r, rfl, hip, hgf, hwx⟩ := hrel
        obtain rfl := hwx.symm
        by_cases hpF : r < F
        · obtain ⟨g2, rfl⟩ : ∃ g2, gk = g2 + 1 := ⟨gk - 1, by omega⟩
          have k0 : (0 : Int) ≤ (r : Int) := by omega
          have k1 : (r : Int) < (s.size : Int) := by omega
          have hb := fun h => at_byte s r h
          have cD := rdigit_any (bt s r)
          rw [hgo2 r hip hpF] at cD
          go_wp2_with (first | (go_at_call 44; refine (cD _).mono ?_; rintro e w' ⟨rfl, hw'⟩; obtain rfl := hw'.symm; clear cD))
          go_roundg g2
          case measure => omega
          case rel => exact ⟨r + 1, by simp, by omega, by omega, rfl⟩
        ·
          obtain rfl : r = F := by omega
          have k1 : ¬ (r : Int) < (s.size : Int) := by omega
          have k5 : (r : Int) ≤ (s.size : Int) := by omega
          have k4 : (p : Int) + 1 ≤ (r : Int) := by omega
          go_wp2_with fail
          exact bodyPost_ret (v := .tuple #[.agg #[.int .i64 (0), .string (⟨#[]⟩), .int .i64 (0), .float .f64 (0), .int .i64 (0)], .int .i64 0, .int .i64 22]) (by simp [results, Tryd.results45, go_sem]) rfl ⟨rfl, by (repeat (first | exact Below.refl _ _ | assumption | refine Below.drew ?_ | refine below_drewN ?_ _ | refine Below.setCell ?_ (by simp) _ | refine Below.alloc ?_ (by (first | exact Nat.le_refl _ | (simp; done) | (simp; omega) | omega)) _ | refine Below.trans ?_ (Below.mono (by assumption) (by first | exact Nat.le_refl _ | (simp; done) | (simp; omega) | omega))))⟩

set_option maxHeartbeats 1000000 in
set_option maxRecDepth 100000 in
theorem rnf_ce2 (s X P : ByteArray) (i E F c0 V Q : Nat) (hiE : i < E) (hE : E + 1 < s.size) (hs : s.size ≤ 65536) (hX : s.extract i E = X) (hXs : X.size + i = E) (hP : s.extract (E + 1) F = P) (hPs : P.size + (E + 1) = F) (hgo : ∀ p, i ≤ p → p < E → pDigit (bt s p) = true) (hgo2 : ∀ p, E + 1 ≤ p → p < F → pDigit (bt s p) = true) (hEF : E + 1 < F) (hFs : F ≤ s.size) (h46 : bt s E = 46) (hc0 : bt X 0 = c0) (hz1 : 1 < X.size) (hz2 : c0 ≠ 48) (hnd : s.size ≤ F) (hD : Digs (X ++ P)) (ho : ¬ 15 < X.size + P.size) (hV : wor (X ++ P) (X ++ P).size = V) (hQ : fq V P.size = Q) (w : World) : Calls Tryd.prog 45 #[.string s, .int .i64 (i : Int)] w fun e w' => e = .returned (.tuple #[.agg #[.int .i64 (4), .string (⟨#[]⟩), .int .i64 (0), .float .f64 (Q), .int .i64 ((i : Int))], .int .i64 (F : Int), .int .i64 0]) ∧ Below w.heap.size w w' := by
  have i6 : (0 : Int) ≤ (i : Int) := by omega
  have hb0 : ∀ h, (X[0]'h).toNat = c0 := fun h => by rw [at_byte, hc0]
  have r1 : ¬ (s.size : Int) ≤ (E : Int) + 1 := by omega
  have hb3 : ∀ h, (s[E + 1]'h).toNat = bt s (E + 1) := fun h => at_byte s (E + 1) h
  have hw3 : (E : Int) + 1 < (s.size : Int) := by omega
  have z1 : (1 : Int) < (X.size : Int) := by omega
  have z2 : ((c0 : Int) == 48) = false := by simp; omega
  have o1 : ¬ (15 : Int) < (X.size : Int) + (P.size : Int) := by omega
  have hsz : (X ++ P).size = X.size + P.size := ByteArray.size_append ..
  have cW := rwhole_any (X ++ P) hD (by omega)
  have hvl := wor_lt18 _ hD (by omega) _ (Nat.le_refl _)
  rw [hV] at cW hvl
  have hq := fq_some V P.size (by omega) (by omega)
  rw [hQ] at hq
  have hqq := fun t w => run_float_arith (P := Tryd.prog) w .quo t .f64 _ _ _ hq
  have hcv := conv10 P.size _ (p10_at P.size (by omega))
  clear hq hD hsz
  go_enter Tryd.func45, Tryd.ntmps45
  go_wp2_with fail
  go_loopg [7] (E - i) (fun gf s7 wx => ∃ p : Nat, s7 = .int .i64 (p : Int) ∧ i ≤ p ∧ p + gf = E ∧ wx = wbox w)
  case atStart => exact ⟨i, rfl, Nat.le_refl _, by omega, rfl⟩
  case round =>
    obtain ⟨p, rfl, hip, hgf, hwx⟩ := hrel
    obtain rfl := hwx.symm
    by_cases hpE : p < E
    · obtain ⟨g', rfl⟩ : ∃ g', gk = g' + 1 := ⟨gk - 1, by omega⟩
      have i0 : (0 : Int) ≤ (p : Int) := by omega
      have i1 : (p : Int) < (s.size : Int) := by omega
      have hb := fun h => at_byte s p h
      have cD := rdigit_any (bt s p)
      rw [hgo p hip hpE] at cD
      go_wp2_with (first | (go_at_call 44; refine (cD _).mono ?_; rintro e w' ⟨rfl, hw'⟩; obtain rfl := hw'.symm; clear cD))
      go_roundg g'
      case measure => omega
      case rel => exact ⟨p + 1, by simp, by omega, by omega, rfl⟩
    · obtain rfl : p = E := by omega
      have i0 : (0 : Int) ≤ (p : Int) := by omega
      have i1 : (p : Int) < (s.size : Int) := by omega
      have i4 : (i : Int) ≤ (p : Int) := by omega
      have hbE : ∀ h, (s[p]'h).toNat = 46 := fun h => by rw [at_byte, h46]
      have cD := rdigit_any 46
      have cD3 := rdigit_any (bt s (p + 1))
      rw [show pDigit 46 = false from rfl] at cD
      rw [hgo2 (p + 1) (Nat.le_refl _) hEF] at cD3
      go_wp2_with (first | (go_at_call 44; refine (cD _).mono ?_; rintro e w' ⟨rfl, hw'⟩; obtain rfl := hw'.symm; clear cD) | (go_at_call 44; refine (cD3 _).mono ?_; rintro e w' ⟨rfl, hw'⟩; obtain rfl := hw'.symm; clear cD3))
      clear hbE i0 i1 hb3
      go_loopg [7] (F - (p + 1)) (fun gf s7 wx => ∃ r : Nat, s7 = .int .i64 (r : Int) ∧ p + 1 ≤ r ∧ r + gf = F ∧ wx = wbox w)
      case atStart => exact ⟨p + 1, by simp, Nat.le_refl _, by omega, rfl⟩
      case round =>
        obtain ⟨r, rfl, hip, hgf, hwx⟩ := hrel
        obtain rfl := hwx.symm
        by_cases hpF : r < F
        · obtain ⟨g2, rfl⟩ : ∃ g2, gk = g2 + 1 := ⟨gk - 1, by omega⟩
          have k0 : (0 : Int) ≤ (r : Int) := by omega
          have k1 : (r : Int) < (s.size : Int) := by omega
          have hb := fun h => at_byte s r h
          have cD := rdigit_any (bt s r)
          rw [hgo2 r hip hpF] at cD
          go_wp2_with (first | (go_at_call 44; refine (cD _).mono ?_; rintro e w' ⟨rfl, hw'⟩; obtain rfl := hw'.symm; clear cD))
          go_roundg g2
          case measure => omega
          case rel => exact ⟨r + 1, by simp, by omega, by omega, rfl⟩
        ·
          obtain rfl : r = F := by omega
          have k1 : ¬ (r : Int) < (s.size : Int) := by omega
          have k5 : (r : Int) ≤ (s.size : Int) := by omega
          have k4 : (p : Int) + 1 ≤ (r : Int) := by omega
          go_wp2_with fail
          go_loopg [11, 12] P.size (fun gf s11 s12 wx => ∃ j : Nat, s11 = .int .i64 ((10 ^ j : Nat) : Int) ∧ s12 = .int .i64 (j : Int) ∧ j + gf = P.size ∧ wx = wbox w)
          case atStart => exact ⟨0, rfl, rfl, by omega, rfl⟩
          case round =>
            obtain ⟨j, rfl, rfl, hjg, hwx⟩ := hrel
            obtain rfl := hwx.symm
            by_cases hjP : j < P.size
            · obtain ⟨g3, rfl⟩ : ∃ g3, gk = g3 + 1 := ⟨gk - 1, by omega⟩
              have j1 : (j : Int) < (P.size : Int) := by omega
              have ht : 10 ^ j ≤ 10 ^ 14 := Nat.pow_le_pow_right (by omega) (by omega)
              have hts : 10 ^ (j + 1) = 10 ^ j * 10 := Nat.pow_succ ..
              obtain ⟨T, hTT⟩ : ∃ T : Int, ((10 ^ j : Nat) : Int) = T := ⟨_, rfl⟩
              have HT : Hid (((10 ^ (j + 1) : Nat) : Int) = 10 * T) := hidb (by omega)
              have t0 : 0 ≤ T := by omega
              have t1 : T ≤ 100000000000000 := by omega
              rw [hTT]
              clear hTT ht hts hqq hcv
              go_wp2_with fail
              go_roundg g3
              case measure => omega
              case rel => exact ⟨j + 1, by rw [HT.out], by simp, by omega, rfl⟩
            · obtain rfl : j = P.size := by omega
              have j1 : ¬ (P.size : Int) < (P.size : Int) := by omega
              obtain ⟨T, hTT⟩ : ∃ T : Int, ((10 ^ P.size : Nat) : Int) = T := ⟨_, rfl⟩
              rw [hTT] at hcv ⊢
              go_wp2_with (first | (go_at_call 66; refine (cW _).mono ?_; rintro e w' ⟨rfl, hw'⟩; obtain rfl := hw'.symm))
              exact bodyPost_ret (v := .tuple #[.agg #[.int .i64 (4), .string (⟨#[]⟩), .int .i64 (0), .float .f64 (Q), .int .i64 ((i : Int))], .int .i64 (r : Int), .int .i64 0]) (by simp [results, Tryd.results45, go_sem]) rfl ⟨rfl, by (repeat (first | exact Below.refl _ _ | assumption | refine Below.drew ?_ | refine below_drewN ?_ _ | refine Below.setCell ?_ (by simp) _ | refine Below.alloc ?_ (by (first | exact Nat.le_refl _ | (simp; done) | (simp; omega) | omega)) _ | refine Below.trans ?_ (Below.mono (by assumption) (by first | exact Nat.le_refl _ | (simp; done) | (simp; omega) | omega))))⟩

end Go.Proofs.YtecgddiohoeboaaDoor


