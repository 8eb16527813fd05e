import Derived.Test.YthdljnakmekhkaaGreatDoorG24
import Derived.Test.YthdljnakmekhkaaGreatDoorG25
/- The reference's numbers with a point. -/
namespace Go.Proofs.YthdljnakmekhkaaGreatDoor
open Go.RowKit Go.Lib
attribute [local go_sem] store_float f64bits
attribute [local go_sem ↓] Go.wp_at_zero Go.wp_at_succ

set_option maxHeartbeats 1000000 in
set_option maxRecDepth 100000 in
theorem rnf_ln1 (s X P : ByteArray) (i E F c0 : Nat) (hiE : i < E) (hE : E + 1 < s.size) (hs : s.size ≤ 65536) (hX : s.extract i E = X) (hXs : X.size + i = E) (hP : s.extract (E + 1) F = P) (hPs : P.size + (E + 1) = F) (hgo : ∀ p, i ≤ p → p < E → pDigit (bt s p) = true) (hgo2 : ∀ p, E + 1 ≤ p → p < F → pDigit (bt s p) = true) (hEF : E + 1 < F) (hFs : F ≤ s.size) (h46 : bt s E = 46) (hc0 : bt X 0 = c0) (hz1 : ¬ 1 < X.size) (hnd : F < s.size ∧ pDigit (bt s F) = false) (ho : 15 < X.size + P.size) (w : World) : Calls Tryz.prog 57 #[.string s, .int .i64 (i : Int)] w fun e w' => e = .returned (.tuple #[.agg #[.int .i64 (0), .string (⟨#[]⟩), .int .i64 (0), .float .f64 (0), .int .i64 (0)], .int .i64 0, .int .i64 22]) ∧ Below w.heap.size w w' := by
  have i6 : (0 : Int) ≤ (i : Int) := by omega
  have hb0 : ∀ h, (X[0]'h).toNat = c0 := fun h => by rw [at_byte, hc0]
  have r1 : ¬ (s.size : Int) ≤ (E : Int) + 1 := by omega
  have hb3 : ∀ h, (s[E + 1]'h).toNat = bt s (E + 1) := fun h => at_byte s (E + 1) h
  have hw3 : (E : Int) + 1 < (s.size : Int) := by omega
  have z1 : ¬ (1 : Int) < (X.size : Int) := by omega
  have o1 : (15 : Int) < (X.size : Int) + (P.size : Int) := by omega
  go_enter Tryz.func57, Tryz.ntmps57
  go_wp2_with fail
  go_loopg [7] (E - i) (fun gf s7 wx => ∃ p : Nat, s7 = .int .i64 (p : Int) ∧ i ≤ p ∧ p + gf = E ∧ wx = wbox w)
  case atStart => exact ⟨i, rfl, Nat.le_refl _, by omega, rfl⟩
  case round =>
    obtain ⟨p, rfl, hip, hgf, hwx⟩ := hrel
    obtain rfl := hwx.symm
    by_cases hpE : p < E
    · obtain ⟨g', rfl⟩ : ∃ g', gk = g' + 1 := ⟨gk - 1, by omega⟩
      have i0 : (0 : Int) ≤ (p : Int) := by omega
      have i1 : (p : Int) < (s.size : Int) := by omega
      have hb := fun h => at_byte s p h
      have cD := rdigit_any (bt s p)
      rw [hgo p hip hpE] at cD
      go_wp2_with (first | (go_at_call 56; refine (cD _).mono ?_; rintro e w' ⟨rfl, hw'⟩; obtain rfl := hw'.symm; clear cD))
      go_roundg g'
      case measure => omega
      case rel => exact ⟨p + 1, by simp, by omega, by omega, rfl⟩
    · obtain rfl : p = E := by omega
      have i0 : (0 : Int) ≤ (p : Int) := by omega
      have i1 : (p : Int) < (s.size : Int) := by omega
      have i4 : (i : Int) ≤ (p : Int) := by omega
      have hbE : ∀ h, (s[p]'h).toNat = 46 := fun h => by rw [at_byte, h46]
      have cD := rdigit_any 46
      have cD3 := rdigit_any (bt s (p + 1))
      rw [show pDigit 46 = false from rfl] at cD
      rw [hgo2 (p + 1) (Nat.le_refl _) hEF] at cD3
      go_wp2_with (first | (go_at_call 56; refine (cD _).mono ?_; rintro e w' ⟨rfl, hw'⟩; obtain rfl := hw'.symm; clear cD) | (go_at_call 56; refine (cD3 _).mono ?_; rintro e w' ⟨rfl, hw'⟩; obtain rfl := hw'.symm; clear cD3))
      clear hbE i0 i1 hb3
      go_loopg [7] (F - (p + 1)) (fun gf s7 wx => ∃ r : Nat, s7 = .int .i64 (r : Int) ∧ p + 1 ≤ r ∧ r + gf = F ∧ wx = wbox w)
      case atStart => exact ⟨p + 1, by simp, Nat.le_refl _, by omega, rfl⟩
      case round =>
        obtain ⟨r, rfl, hip, hgf, hwx⟩ := hrel
        obtain rfl := hwx.symm
        by_cases hpF : r < F
        · obtain ⟨g2, rfl⟩ : ∃ g2, gk = g2 + 1 := ⟨gk - 1, by omega⟩
          have k0 : (0 : Int) ≤ (r : Int) := by omega
          have k1 : (r : Int) < (s.size : Int) := by omega
          have hb := fun h => at_byte s r h
          have cD := rdigit_any (bt s r)
          rw [hgo2 r hip hpF] at cD
          go_wp2_with (first | (go_at_call 56; refine (cD _).mono ?_; rintro e w' ⟨rfl, hw'⟩; obtain rfl := hw'.symm; clear cD))
          go_roundg g2
          case measure => omega
          case rel => exact ⟨r + 1, by simp, by omega, by omega, rfl⟩
        ·
          obtain rfl : r = F := by omega
          have k0 : (0 : Int) ≤ (r : Int) := by omega
          have k1 : (r : Int) < (s.size : Int) := by omega
          have k4 : (p : Int) + 1 ≤ (r : Int) := by omega
          have hb := fun h => at_byte s r h
          have cD := rdigit_any (bt s r)
          rw [hnd.2] at cD
          go_wp2_with (first | (go_at_call 56; refine (cD _).mono ?_; rintro e w' ⟨rfl, hw'⟩; obtain rfl := hw'.symm; clear cD))
          exact bodyPost_ret (v := .tuple #[.agg #[.int .i64 (0), .string (⟨#[]⟩), .int .i64 (0), .float .f64 (0), .int .i64 (0)], .int .i64 0, .int .i64 22]) (by simp [results, Tryz.results57, go_sem]) rfl ⟨rfl, by (repeat (first | exact Below.refl _ _ | assumption | refine Below.drew ?_ | refine below_drewN ?_ _ | refine Below.setCell ?_ (by simp) _ | refine Below.alloc ?_ (by (first | exact Nat.le_refl _ | (simp; done) | (simp; omega) | omega)) _ | refine Below.trans ?_ (Below.mono (by assumption) (by first | exact Nat.le_refl _ | (simp; done) | (simp; omega) | omega))))⟩

set_option maxHeartbeats 1000000 in
set_option maxRecDepth 100000 in
theorem rnf_ln2 (s X P : ByteArray) (i E F c0 V Q : Nat) (hiE : i < E) (hE : E + 1 < s.size) (hs : s.size ≤ 65536) (hX : s.extract i E = X) (hXs : X.size + i = E) (hP : s.extract (E + 1) F = P) (hPs : P.size + (E + 1) = F) (hgo : ∀ p, i ≤ p → p < E → pDigit (bt s p) = true) (hgo2 : ∀ p, E + 1 ≤ p → p < F → pDigit (bt s p) = true) (hEF : E + 1 < F) (hFs : F ≤ s.size) (h46 : bt s E = 46) (hc0 : bt X 0 = c0) (hz1 : ¬ 1 < X.size) (hnd : F < s.size ∧ pDigit (bt s F) = false) (hD : Digs (X ++ P)) (ho : ¬ 15 < X.size + P.size) (hV : wor (X ++ P) (X ++ P).size = V) (hQ : fq V P.size = Q) (w : World) : Calls Tryz.prog 57 #[.string s, .int .i64 (i : Int)] w fun e w' => e = .returned (.tuple #[.agg #[.int .i64 (4), .string (⟨#[]⟩), .int .i64 (0), .float .f64 (Q), .int .i64 ((i : Int))], .int .i64 (F : Int), .int .i64 0]) ∧ Below w.heap.size w w' := by
  have i6 : (0 : Int) ≤ (i : Int) := by omega
  have hb0 : ∀ h, (X[0]'h).toNat = c0 := fun h => by rw [at_byte, hc0]
  have r1 : ¬ (s.size : Int) ≤ (E : Int) + 1 := by omega
  have hb3 : ∀ h, (s[E + 1]'h).toNat = bt s (E + 1) := fun h => at_byte s (E + 1) h
  have hw3 : (E : Int) + 1 < (s.size : Int) := by omega
  have z1 : ¬ (1 : Int) < (X.size : Int) := by omega
  have o1 : ¬ (15 : Int) < (X.size : Int) + (P.size : Int) := by omega
  have hsz : (X ++ P).size = X.size + P.size := ByteArray.size_append ..
  have cW := rwhole_any (X ++ P) hD (by omega)
  have hvl := wor_lt18 _ hD (by omega) _ (Nat.le_refl _)
  rw [hV] at cW hvl
  have hq := fq_some V P.size (by omega) (by omega)
  rw [hQ] at hq
  have hqq := fun t w => run_float_arith (P := Tryz.prog) w .quo t .f64 _ _ _ hq
  have hcv := conv10 P.size _ (p10_at P.size (by omega))
  clear hq hD hsz
  go_enter Tryz.func57, Tryz.ntmps57
  go_wp2_with fail
  go_loopg [7] (E - i) (fun gf s7 wx => ∃ p : Nat, s7 = .int .i64 (p : Int) ∧ i ≤ p ∧ p + gf = E ∧ wx = wbox w)
  case atStart => exact ⟨i, rfl, Nat.le_refl _, by omega, rfl⟩
  case round =>
    obtain ⟨p, rfl, hip, hgf, hwx⟩ := hrel
    obtain rfl := hwx.symm
    by_cases hpE : p < E
    · obtain ⟨g', rfl⟩ : ∃ g', gk = g' + 1 := ⟨gk - 1, by omega⟩
      have i0 : (0 : Int) ≤ (p : Int) := by omega
      have i1 : (p : Int) < (s.size : Int) := by omega
      have hb := fun h => at_byte s p h
      have cD := rdigit_any (bt s p)
      rw [hgo p hip hpE] at cD
      go_wp2_with (first | (go_at_call 56; refine (cD _).mono ?_; rintro e w' ⟨rfl, hw'⟩; obtain rfl := hw'.symm; clear cD))
      go_roundg g'
      case measure => omega
      case rel => exact ⟨p + 1, by simp, by omega, by omega, rfl⟩
    · obtain rfl : p = E := by omega
      have i0 : (0 : Int) ≤ (p : Int) := by omega
      have i1 : (p : Int) < (s.size : Int) := by omega
      have i4 : (i : Int) ≤ (p : Int) := by omega
      have hbE : ∀ h, (s[p]'h).toNat = 46 := fun h => by rw [at_byte, h46]
      have cD := rdigit_any 46
      have cD3 := rdigit_any (bt s (p + 1))
      rw [show pDigit 46 = false from rfl] at cD
      rw [hgo2 (p + 1) (Nat.le_refl _) hEF] at cD3
      go_wp2_with (first | (go_at_call 56; refine (cD _).mono ?_; rintro e w' ⟨rfl, hw'⟩; obtain rfl := hw'.symm; clear cD) | (go_at_call 56; refine (cD3 _).mono ?_; rintro e w' ⟨rfl, hw'⟩; obtain rfl := hw'.symm; clear cD3))
      clear hbE i0 i1 hb3
      go_loopg [7] (F - (p + 1)) (fun gf s7 wx => ∃ r : Nat, s7 = .int .i64 (r : Int) ∧ p + 1 ≤ r ∧ r + gf = F ∧ wx = wbox w)
      case atStart => exact ⟨p + 1, by simp, Nat.le_refl _, by omega, rfl⟩
      case round =>
        obtain ⟨r, rfl, hip, hgf, hwx⟩ := hrel
        obtain rfl := hwx.symm
        by_cases hpF : r < F
        · obtain ⟨g2, rfl⟩ : ∃ g2, gk = g2 + 1 := ⟨gk - 1, by omega⟩
          have k0 : (0 : Int) ≤ (r : Int) := by omega
          have k1 : (r : Int) < (s.size : Int) := by omega
          have hb := fun h => at_byte s r h
          have cD := rdigit_any (bt s r)
          rw [hgo2 r hip hpF] at cD
          go_wp2_with (first | (go_at_call 56; refine (cD _).mono ?_; rintro e w' ⟨rfl, hw'⟩; obtain rfl := hw'.symm; clear cD))
          go_roundg g2
          case measure => omega
          case rel => exact ⟨r + 1, by simp, by omega, by omega, rfl⟩
        ·
          obtain rfl : r = F := by omega
          have k0 : (0 : Int) ≤ (r : Int) := by omega
          have k1 : (r : Int) < (s.size : Int) := by omega
          have k4 : (p : Int) + 1 ≤ (r : Int) := by omega
          have hb := fun h => at_byte s r h
          have cD := rdigit_any (bt s r)
          rw [hnd.2] at cD
          go_wp2_with (first | (go_at_call 56; refine (cD _).mono ?_; rintro e w' ⟨rfl, hw'⟩; obtain rfl := hw'.symm; clear cD))
          go_loopg [11, 12] P.size (fun gf s11 s12 wx => ∃ j : Nat, s11 = .int .i64 ((10 ^ j : Nat) : Int) ∧ s12 = .int .i64 (j : Int) ∧ j + gf = P.size ∧ wx = wbox w)
          case atStart => exact ⟨0, rfl, rfl, by omega, rfl⟩
          case round =>
            obtain ⟨j, rfl, rfl, hjg, hwx⟩ := hrel
            obtain rfl := hwx.symm
            by_cases hjP : j < P.size
            · obtain ⟨g3, rfl⟩ : ∃ g3, gk = g3 + 1 := ⟨gk - 1, by omega⟩
              have j1 : (j : Int) < (P.size : Int) := by omega
              have ht : 10 ^ j ≤ 10 ^ 14 := Nat.pow_le_pow_right (by omega) (by omega)
              have hts : 10 ^ (j + 1) = 10 ^ j * 10 := Nat.pow_succ ..
              obtain ⟨T, hTT⟩ : ∃ T : Int, ((10 ^ j : Nat) : Int) = T := ⟨_, rfl⟩
              have HT : Hid (((10 ^ (j + 1) : Nat) : Int) = 10 * T) := hidb (by omega)
              have t0 : 0 ≤ T := by omega
              have t1 : T ≤ 100000000000000 := by omega
              rw [hTT]
              clear hTT ht hts hqq hcv
              go_wp2_with fail
              go_roundg g3
              case measure => omega
              case rel => exact ⟨j + 1, by rw [HT.out], by simp, by omega, rfl⟩
            · obtain rfl : j = P.size := by omega
              have j1 : ¬ (P.size : Int) < (P.size : Int) := by omega
              obtain ⟨T, hTT⟩ : ∃ T : Int, ((10 ^ P.size : Nat) : Int) = T := ⟨_, rfl⟩
              rw [hTT] at hcv ⊢
              go_wp2_with (first | (go_at_call 82; refine (cW _).mono ?_; rintro e w' ⟨rfl, hw'⟩; obtain rfl := hw'.symm))
              exact bodyPost_ret (v := .tuple #[.agg #[.int .i64 (4), .string (⟨#[]⟩), .int .i64 (0), .float .f64 (Q), .int .i64 ((i : Int))], .int .i64 (r : Int), .int .i64 0]) (by simp [results, Tryz.results57, go_sem]) rfl ⟨rfl, by (repeat (first | exact Below.refl _ _ | assumption | refine Below.drew ?_ | refine below_drewN ?_ _ | refine Below.setCell ?_ (by simp) _ | refine Below.alloc ?_ (by (first | exact Nat.le_refl _ | (simp; done) | (simp; omega) | omega)) _ | refine Below.trans ?_ (Below.mono (by assumption) (by first | exact Nat.le_refl _ | (simp; done) | (simp; omega) | omega))))⟩

set_option maxHeartbeats 1000000 in
set_option maxRecDepth 100000 in
theorem rnf_le1 (s X P : ByteArray) (i E F c0 : Nat) (hiE : i < E) (hE : E + 1 < s.size) (hs : s.size ≤ 65536) (hX : s.extract i E = X) (hXs : X.size + i = E) (hP : s.extract (E + 1) F = P) (hPs : P.size + (E + 1) = F) (hgo : ∀ p, i ≤ p → p < E → pDigit (bt s p) = true) (hgo2 : ∀ p, E + 1 ≤ p → p < F → pDigit (bt s p) = true) (hEF : E + 1 < F) (hFs : F ≤ s.size) (h46 : bt s E = 46) (hc0 : bt X 0 = c0) (hz1 : ¬ 1 < X.size) (hnd : s.size ≤ F) (ho : 15 < X.size + P.size) (w : World) : Calls Tryz.prog 57 #[.string s, .int .i64 (i : Int)] w fun e w' => e = .returned (.tuple #[.agg #[.int .i64 (0), .string (⟨#[]⟩), .int .i64 (0), .float .f64 (0), .int .i64 (0)], .int .i64 0, .int .i64 22]) ∧ Below w.heap.size w w' := by
  have i6 : (0 : Int) ≤ (i : Int) := by omega
  have hb0 : ∀ h, (X[0]'h).toNat = c0 := fun h => by rw [at_byte, hc0]
  have r1 : ¬ (s.size : Int) ≤ (E : Int) + 1 := by omega
  have hb3 : ∀ h, (s[E + 1]'h).toNat = bt s (E + 1) := fun h => at_byte s (E + 1) h
  have hw3 : (E : Int) + 1 < (s.size : Int) := by omega
  have z1 : ¬ (1 : Int) < (X.size : Int) := by omega
  have o1 : (15 : Int) < (X.size : Int) + (P.size : Int) := by omega
  go_enter Tryz.func57, Tryz.ntmps57
  go_wp2_with fail
  go_loopg [7] (E - i) (fun gf s7 wx => ∃ p : Nat, s7 = .int .i64 (p : Int) ∧ i ≤ p ∧ p + gf = E ∧ wx = wbox w)
  case atStart => exact ⟨i, rfl, Nat.le_refl _, by omega, rfl⟩
  case round =>
    obtain ⟨p, rfl, hip, hgf, hwx⟩ := hrel
    obtain rfl := hwx.symm
    by_cases hpE : p < E
    · obtain ⟨g', rfl⟩ : ∃ g', gk = g' + 1 := ⟨gk - 1, by omega⟩
      have i0 : (0 : Int) ≤ (p : Int) := by omega
      have i1 : (p : Int) < (s.size : Int) := by omega
      have hb := fun h => at_byte s p h
      have cD := rdigit_any (bt s p)
      rw [hgo p hip hpE] at cD
      go_wp2_with (first | (go_at_call 56; refine (cD _).mono ?_; rintro e w' ⟨rfl, hw'⟩; obtain rfl := hw'.symm; clear cD))
      go_roundg g'
      case measure => omega
      case rel => exact ⟨p + 1, by simp, by omega, by omega, rfl⟩
    · obtain rfl : p = E := by omega
      have i0 : (0 : Int) ≤ (p : Int) := by omega
      have i1 : (p : Int) < (s.size : Int) := by omega
      have i4 : (i : Int) ≤ (p : Int) := by omega
      have hbE : ∀ h, (s[p]'h).toNat = 46 := fun h => by rw [at_byte, h46]
      have cD := rdigit_any 46
      have cD3 := rdigit_any (bt s (p + 1))
      rw [show pDigit 46 = false from rfl] at cD
      rw [hgo2 (p + 1) (Nat.le_refl _) hEF] at cD3
      go_wp2_with (first | (go_at_call 56; refine (cD _).mono ?_; rintro e w' ⟨rfl, hw'⟩; obtain rfl := hw'.symm; clear cD) | (go_at_call 56; refine (cD3 _).mono ?_; rintro e w' ⟨rfl, hw'⟩; obtain rfl := hw'.symm; clear cD3))
      clear hbE i0 i1 hb3
      go_loopg [7] (F - (p + 1)) (fun gf s7 wx => ∃ r : Nat, s7 = .int .i64 (r : Int) ∧ p + 1 ≤ r ∧ r + gf = F ∧ wx = wbox w)
      case atStart => exact ⟨p + 1, by simp, Nat.le_refl _, by omega, rfl⟩
      case round =>
        obtain ⟨r, rfl, hip, hgf, hwx⟩ := hrel
        obtain rfl := hwx.symm
        by_cases hpF : r < F
        · obtain ⟨g2, rfl⟩ : ∃ g2, gk = g2 + 1 := ⟨gk - 1, by omega⟩
          have k0 : (0 : Int) ≤ (r : Int) := by omega
          have k1 : (r : Int) < (s.size : Int) := by omega
          have hb := fun h => at_byte s r h
          have cD := rdigit_any (bt s r)
          rw [hgo2 r hip hpF] at cD
          go_wp2_with (first | (go_at_call 56; refine (cD _).mono ?_; rintro e w' ⟨rfl, hw'⟩; obtain rfl := hw'.symm; clear cD))
          go_roundg g2
          case measure => omega
          case rel => exact ⟨r + 1, by simp, by omega, by omega, rfl⟩
        ·
          obtain rfl : r = F := by omega
          have k1 : ¬ (r : Int) < (s.size : Int) := by omega
          have k5 : (r : Int) ≤ (s.size : Int) := by omega
          have k4 : (p : Int) + 1 ≤ (r : Int) := by omega
          go_wp2_with fail
          exact bodyPost_ret (v := .tuple #[.agg #[.int .i64 (0), .string (⟨#[]⟩), .int .i64 (0), .float .f64 (0), .int .i64 (0)], .int .i64 0, .int .i64 22]) (by simp [results, Tryz.results57, go_sem]) rfl ⟨rfl, by (repeat (first | exact Below.refl _ _ | assumption | refine Below.drew ?_ | refine below_drewN ?_ _ | refine Below.setCell ?_ (by simp) _ | refine Below.alloc ?_ (by (first | exact Nat.le_refl _ | (simp; done) | (simp; omega) | omega)) _ | refine Below.trans ?_ (Below.mono (by assumption) (by first | exact Nat.le_refl _ | (simp; done) | (simp; omega) | omega))))⟩

set_option maxHeartbeats 1000000 in
set_option maxRecDepth 100000 in
theorem rnf_le2 (s X P : ByteArray) (i E F c0 V Q : Nat) (hiE : i < E) (hE : E + 1 < s.size) (hs : s.size ≤ 65536) (hX : s.extract i E = X) (hXs : X.size + i = E) (hP : s.extract (E + 1) F = P) (hPs : P.size + (E + 1) = F) (hgo : ∀ p, i ≤ p → p < E → pDigit (bt s p) = true) (hgo2 : ∀ p, E + 1 ≤ p → p < F → pDigit (bt s p) = true) (hEF : E + 1 < F) (hFs : F ≤ s.size) (h46 : bt s E = 46) (hc0 : bt X 0 = c0) (hz1 : ¬ 1 < X.size) (hnd : s.size ≤ F) (hD : Digs (X ++ P)) (ho : ¬ 15 < X.size + P.size) (hV : wor (X ++ P) (X ++ P).size = V) (hQ : fq V P.size = Q) (w : World) : Calls Tryz.prog 57 #[.string s, .int .i64 (i : Int)] w fun e w' => e = .returned (.tuple #[.agg #[.int .i64 (4), .string (⟨#[]⟩), .int .i64 (0), .float .f64 (Q), .int .i64 ((i : Int))], .int .i64 (F : Int), .int .i64 0]) ∧ Below w.heap.size w w' := by
  have i6 : (0 : Int) ≤ (i : Int) := by omega
  have hb0 : ∀ h, (X[0]'h).toNat = c0 := fun h => by rw [at_byte, hc0]
  have r1 : ¬ (s.size : Int) ≤ (E : Int) + 1 := by omega
  have hb3 : ∀ h, (s[E + 1]'h).toNat = bt s (E + 1) := fun h => at_byte s (E + 1) h
  have hw3 : (E : Int) + 1 < (s.size : Int) := by omega
  have z1 : ¬ (1 : Int) < (X.size : Int) := by omega
  have o1 : ¬ (15 : Int) < (X.size : Int) + (P.size : Int) := by omega
  have hsz : (X ++ P).size = X.size + P.size := ByteArray.size_append ..
  have cW := rwhole_any (X ++ P) hD (by omega)
  have hvl := wor_lt18 _ hD (by omega) _ (Nat.le_refl _)
  rw [hV] at cW hvl
  have hq := fq_some V P.size (by omega) (by omega)
  rw [hQ] at hq
  have hqq := fun t w => run_float_arith (P := Tryz.prog) w .quo t .f64 _ _ _ hq
  have hcv := conv10 P.size _ (p10_at P.size (by omega))
  clear hq hD hsz
  go_enter Tryz.func57, Tryz.ntmps57
  go_wp2_with fail
  go_loopg [7] (E - i) (fun gf s7 wx => ∃ p : Nat, s7 = .int .i64 (p : Int) ∧ i ≤ p ∧ p + gf = E ∧ wx = wbox w)
  case atStart => exact ⟨i, rfl, Nat.le_refl _, by omega, rfl⟩
  case round =>
    obtain ⟨p, rfl, hip, hgf, hwx⟩ := hrel
    obtain rfl := hwx.symm
    by_cases hpE : p < E
    · obtain ⟨g', rfl⟩ : ∃ g', gk = g' + 1 := ⟨gk - 1, by omega⟩
      have i0 : (0 : Int) ≤ (p : Int) := by omega
      have i1 : (p : Int) < (s.size : Int) := by omega
      have hb := fun h => at_byte s p h
      have cD := rdigit_any (bt s p)
      rw [hgo p hip hpE] at cD
      go_wp2_with (first | (go_at_call 56; refine (cD _).mono ?_; rintro e w' ⟨rfl, hw'⟩; obtain rfl := hw'.symm; clear cD))
      go_roundg g'
      case measure => omega
      case rel => exact ⟨p + 1, by simp, by omega, by omega, rfl⟩
    · obtain rfl : p = E := by omega
      have i0 : (0 : Int) ≤ (p : Int) := by omega
      have i1 : (p : Int) < (s.size : Int) := by omega
      have i4 : (i : Int) ≤ (p : Int) := by omega
      have hbE : ∀ h, (s[p]'h).toNat = 46 := fun h => by rw [at_byte, h46]
      have cD := rdigit_any 46
      have cD3 := rdigit_any (bt s (p + 1))
      rw [show pDigit 46 = false from rfl] at cD
      rw [hgo2 (p + 1) (Nat.le_refl _) hEF] at cD3
      go_wp2_with (first | (go_at_call 56; refine (cD _).mono ?_; rintro e w' ⟨rfl, hw'⟩; obtain rfl := hw'.symm; clear cD) | (go_at_call 56; refine (cD3 _).mono ?_; rintro e w' ⟨rfl, hw'⟩; obtain rfl := hw'.symm; clear cD3))
      clear hbE i0 i1 hb3
      go_loopg [7] (F - (p + 1)) (fun gf s7 wx => ∃ r : Nat, s7 = .int .i64 (r : Int) ∧ p + 1 ≤ r ∧ r + gf = F ∧ wx = wbox w)
      case atStart => exact ⟨p + 1, by simp, Nat.le_refl _, by omega, rfl⟩
      case round =>
        obtain ⟨r, rfl, hip, hgf, hwx⟩ := hrel
        obtain rfl := hwx.symm
        by_cases hpF : r < F
        · obtain ⟨g2, rfl⟩ : ∃ g2, gk = g2 + 1 := ⟨gk - 1, by omega⟩
          have k0 : (0 : Int) ≤ (r : Int) := by omega
          have k1 : (r : Int) < (s.size : Int) := by omega
          have hb := fun h => at_byte s r h
          have cD := rdigit_any (bt s r)
          rw [hgo2 r hip hpF] at cD
          go_wp2_with (first | (go_at_call 56; refine (cD _).mono ?_; rintro e w' ⟨rfl, hw'⟩; obtain rfl := hw'.symm; clear cD))
          go_roundg g2
          case measure => omega
          case rel => exact ⟨r + 1, by simp, by omega, by omega, rfl⟩
        ·
          obtain rfl : r = F := by omega
          have k1 : ¬ (r : Int) < (s.size : Int) := by omega
          have k5 : (r : Int) ≤ (s.size : Int) := by omega
          have k4 : (p : Int) + 1 ≤ (r : Int) := by omega
          go_wp2_with fail
          go_loopg [11, 12] P.size (fun gf s11 s12 wx => ∃ j : Nat, s11 = .int .i64 ((10 ^ j : Nat) : Int) ∧ s12 = .int .i64 (j : Int) ∧ j + gf = P.size ∧ wx = wbox w)
          case atStart => exact ⟨0, rfl, rfl, by omega, rfl⟩
          case round =>
            obtain ⟨j, rfl, rfl, hjg, hwx⟩ := hrel
            obtain rfl := hwx.symm
            by_cases hjP : j < P.size
            · obtain ⟨g3, rfl⟩ : ∃ g3, gk = g3 + 1 := ⟨gk - 1, by omega⟩
              have j1 : (j : Int) < (P.size : Int) := by omega
              have ht : 10 ^ j ≤ 10 ^ 14 := Nat.pow_le_pow_right (by omega) (by omega)
              have hts : 10 ^ (j + 1) = 10 ^ j * 10 := Nat.pow_succ ..
              obtain ⟨T, hTT⟩ : ∃ T : Int, ((10 ^ j : Nat) : Int) = T := ⟨_, rfl⟩
              have HT : Hid (((10 ^ (j + 1) : Nat) : Int) = 10 * T) := hidb (by omega)
              have t0 : 0 ≤ T := by omega
              have t1 : T ≤ 100000000000000 := by omega
              rw [hTT]
              clear hTT ht hts hqq hcv
              go_wp2_with fail
              go_roundg g3
              case measure => omega
              case rel => exact ⟨j + 1, by rw [HT.out], by simp, by omega, rfl⟩
            · obtain rfl : j = P.size := by omega
              have j1 : ¬ (P.size : Int) < (P.size : Int) := by omega
              obtain ⟨T, hTT⟩ : ∃ T : Int, ((10 ^ P.size : Nat) : Int) = T := ⟨_, rfl⟩
              rw [hTT] at hcv ⊢
              go_wp2_with (first | (go_at_call 82; refine (cW _).mono ?_; rintro e w' ⟨rfl, hw'⟩; obtain rfl := hw'.symm))
              exact bodyPost_ret (v := .tuple #[.agg #[.int .i64 (4), .string (⟨#[]⟩), .int .i64 (0), .float .f64 (Q), .int .i64 ((i : Int))], .int .i64 (r : Int), .int .i64 0]) (by simp [results, Tryz.results57, go_sem]) rfl ⟨rfl, by (repeat (first | exact Below.refl _ _ | assumption | refine Below.drew ?_ | refine below_drewN ?_ _ | refine Below.setCell ?_ (by simp) _ | refine Below.alloc ?_ (by (first | exact Nat.le_refl _ | (simp; done) | (simp; omega) | omega)) _ | refine Below.trans ?_ (Below.mono (by assumption) (by first | exact Nat.le_refl _ | (simp; done) | (simp; omega) | omega))))⟩

end Go.Proofs.YthdljnakmekhkaaGreatDoor


/- The reference's numbers with a point. -/
namespace Go.Proofs.YthdljnakmekhkaaGreatDoor
open Go.RowKit Go.Lib
attribute [local go_sem] store_float f64bits
attribute [local go_sem ↓] Go.wp_at_zero Go.wp_at_succ

set_option maxHeartbeats 1000000 in
set_option maxRecDepth 100000 in
theorem rnf_cn1 (s X P : ByteArray) (i E F c0 : Nat) (hiE : i < E) (hE : E + 1 < s.size) (hs : s.size ≤ 65536) (hX : s.extract i E = X) (hXs : X.size + i = E) (hP : s.extract (E + 1) F = P) (hPs : P.size + (E + 1) = F) (hgo : ∀ p, i ≤ p → p < E → pDigit (bt s p) = true) (hgo2 : ∀ p, E + 1 ≤ p → p < F → pDigit (bt s p) = true) (hEF : E + 1 < F) (hFs : F ≤ s.size) (h46 : bt s E = 46) (hc0 : bt X 0 = c0) (hz1 : 1 < X.size) (hz2 : c0 ≠ 48) (hnd : F < s.size ∧ pDigit (bt s F) = false) (ho : 15 < X.size + P.size) (w : World) : Calls Tryz.prog 57 #[.string s, .int .i64 (i : Int)] w fun e w' => e = .returned (.tuple #[.agg #[.int .i64 (0), .string (⟨#[]⟩), .int .i64 (0), .float .f64 (0), .int .i64 (0)], .int .i64 0, .int .i64 22]) ∧ Below w.heap.size w w' := by
  have i6 : (0 : Int) ≤ (i : Int) := by omega
  have hb0 : ∀ h, (X[0]'h).toNat = c0 := fun h => by rw [at_byte, hc0]
  have r1 : ¬ (s.size : Int) ≤ (E : Int) + 1 := by omega
  have hb3 : ∀ h, (s[E + 1]'h).toNat = bt s (E + 1) := fun h => at_byte s (E + 1) h
  have hw3 : (E : Int) + 1 < (s.size : Int) := by omega
  have z1 : (1 : Int) < (X.size : Int) := by omega
  have z2 : ((c0 : Int) == 48) = false := by simp; omega
  have o1 : (15 : Int) < (X.size : Int) + (P.size : Int) := by omega
  go_enter Tryz.func57, Tryz.ntmps57
  go_wp2_with fail
  go_loopg [7] (E - i) (fun gf s7 wx => ∃ p : Nat, s7 = .int .i64 (p : Int) ∧ i ≤ p ∧ p + gf = E ∧ wx = wbox w)
  case atStart => exact ⟨i, rfl, Nat.le_refl _, by omega, rfl⟩
  case round =>
    obtain ⟨p, rfl, hip, hgf, hwx⟩ := hrel
    obtain rfl := hwx.symm
    by_cases hpE : p < E
    · obtain ⟨g', rfl⟩ : ∃ g', gk = g' + 1 := ⟨gk - 1, by omega⟩
      have i0 : (0 : Int) ≤ (p : Int) := by omega
      have i1 : (p : Int) < (s.size : Int) := by omega
      have hb := fun h => at_byte s p h
      have cD := rdigit_any (bt s p)
      rw [hgo p hip hpE] at cD
      go_wp2_with (first | (go_at_call 56; refine (cD _).mono ?_; rintro e w' ⟨rfl, hw'⟩; obtain rfl := hw'.symm; clear cD))
      go_roundg g'
      case measure => omega
      case rel => exact ⟨p + 1, by simp, by omega, by omega, rfl⟩
    · obtain rfl : p = E := by omega
      have i0 : (0 : Int) ≤ (p : Int) := by omega
      have i1 : (p : Int) < (s.size : Int) := by omega
      have i4 : (i : Int) ≤ (p : Int) := by omega
      have hbE : ∀ h, (s[p]'h).toNat = 46 := fun h => by rw [at_byte, h46]
      have cD := rdigit_any 46
      have cD3 := rdigit_any (bt s (p + 1))
      rw [show pDigit 46 = false from rfl] at cD
      rw [hgo2 (p + 1) (Nat.le_refl _) hEF] at cD3
      go_wp2_with (first | (go_at_call 56; refine (cD _).mono ?_; rintro e w' ⟨rfl, hw'⟩; obtain rfl := hw'.symm; clear cD) | (go_at_call 56; refine (cD3 _).mono ?_; rintro e w' ⟨rfl, hw'⟩; obtain rfl := hw'.symm; clear cD3))
      clear hbE i0 i1 hb3
      go_loopg [7] (F - (p + 1)) (fun gf s7 wx => ∃ r : Nat, s7 = .int .i64 (r : Int) ∧ p + 1 ≤ r ∧ r + gf = F ∧ wx = wbox w)
      case atStart => exact ⟨p + 1, by simp, Nat.le_refl _, by omega, rfl⟩
      case round =>
        obtain ⟨r, rfl, hip, hgf, hwx⟩ := hrel
        obtain rfl := hwx.symm
        by_cases hpF : r < F
        · obtain ⟨g2, rfl⟩ : ∃ g2, gk = g2 + 1 := ⟨gk - 1, by omega⟩
          have k0 : (0 : Int) ≤ (r : Int) := by omega
          have k1 : (r : Int) < (s.size : Int) := by omega
          have hb := fun h => at_byte s r h
          have cD := rdigit_any (bt s r)
          rw [hgo2 r hip hpF] at cD
          go_wp2_with (first | (go_at_call 56; refine (cD _).mono ?_; rintro e w' ⟨rfl, hw'⟩; obtain rfl := hw'.symm; clear cD))
          go_roundg g2
          case measure => omega
          case rel => exact ⟨r + 1, by simp, by omega, by omega, rfl⟩
        ·
          obtain rfl : r = F := by omega
          have k0 : (0 : Int) ≤ (r : Int) := by omega
          have k1 : (r : Int) < (s.size : Int) := by omega
          have k4 : (p : Int) + 1 ≤ (r : Int) := by omega
          have hb := fun h => at_byte s r h
          have cD := rdigit_any (bt s r)
          rw [hnd.2] at cD
          go_wp2_with (first | (go_at_call 56; refine (cD _).mono ?_; rintro e w' ⟨rfl, hw'⟩; obtain rfl := hw'.symm; clear cD))
          exact bodyPost_ret (v := .tuple #[.agg #[.int .i64 (0), .string (⟨#[]⟩), .int .i64 (0), .float .f64 (0), .int .i64 (0)], .int .i64 0, .int .i64 22]) (by simp [results, Tryz.results57, go_sem]) rfl ⟨rfl, by (repeat (first | exact Below.refl _ _ | assumption | refine Below.drew ?_ | refine below_drewN ?_ _ | refine Below.setCell ?_ (by simp) _ | refine Below.alloc ?_ (by (first | exact Nat.le_refl _ | (simp; done) | (simp; omega) | omega)) _ | refine Below.trans ?_ (Below.mono (by assumption) (by first | exact Nat.le_refl _ | (simp; done) | (simp; omega) | omega))))⟩

set_option maxHeartbeats 1000000 in
set_option maxRecDepth 100000 in
theorem rnf_cn2 (s X P : ByteArray) (i E F c0 V Q : Nat) (hiE : i < E) (hE : E + 1 < s.size) (hs : s.size ≤ 65536) (hX : s.extract i E = X) (hXs : X.size + i = E) (hP : s.extract (E + 1) F = P) (hPs : P.size + (E + 1) = F) (hgo : ∀ p, i ≤ p → p < E → pDigit (bt s p) = true) (hgo2 : ∀ p, E + 1 ≤ p → p < F → pDigit (bt s p) = true) (hEF : E + 1 < F) (hFs : F ≤ s.size) (h46 : bt s E = 46) (hc0 : bt X 0 = c0) (hz1 : 1 < X.size) (hz2 : c0 ≠ 48) (hnd : F < s.size ∧ pDigit (bt s F) = false) (hD : Digs (X ++ P)) (ho : ¬ 15 < X.size + P.size) (hV : wor (X ++ P) (X ++ P).size = V) (hQ : fq V P.size = Q) (w : World) : Calls Tryz.prog 57 #[.string s, .int .i64 (i : Int)] w fun e w' => e = .returned (.tuple #[.agg #[.int .i64 (4), .string (⟨#[]⟩), .int .i64 (0), .float .f64 (Q), .int .i64 ((i : Int))], .int .i64 (F : Int), .int .i64 0]) ∧ Below w.heap.size w w' := by
  have i6 : (0 : Int) ≤ (i : Int) := by omega
  have hb0 : ∀ h, (X[0]'h).toNat = c0 := fun h => by rw [at_byte, hc0]
  have r1 : ¬ (s.size : Int) ≤ (E : Int) + 1 := by omega
  have hb3 : ∀ h, (s[E + 1]'h).toNat = bt s (E + 1) := fun h => at_byte s (E + 1) h
  have hw3 : (E : Int) + 1 < (s.size : Int) := by omega
  have z1 : (1 : Int) < (X.size : Int) := by omega
  have z2 : ((c0 : Int) == 48) = false := by simp; omega
  have o1 : ¬ (15 : Int) < (X.size : Int) + (P.size : Int) := by omega
  have hsz : (X ++ P).size = X.size + P.size := ByteArray.size_append ..
  have cW := rwhole_any (X ++ P) hD (by omega)
  have hvl := wor_lt18 _ hD (by omega) _ (Nat.le_refl _)
  rw [hV] at cW hvl
  have hq := fq_some V P.size (by omega) (by omega)
  rw [hQ] at hq
  have hqq := fun t w => run_float_arith (P := Tryz.prog) w .quo t .f64 _ _ _ hq
  have hcv := conv10 P.size _ (p10_at P.size (by omega))
  clear hq hD hsz
  go_enter Tryz.func57, Tryz.ntmps57
  go_wp2_with fail
  go_loopg [7] (E - i) (fun gf s7 wx => ∃ p : Nat, s7 = .int .i64 (p : Int) ∧ i ≤ p ∧ p + gf = E ∧ wx = wbox w)
  case atStart => exact ⟨i, rfl, Nat.le_refl _, by omega, rfl⟩
  case round =>
    obtain ⟨p, rfl, hip, hgf, hwx⟩ := hrel
    obtain rfl := hwx.symm
    by_cases hpE : p < E
    · obtain ⟨g', rfl⟩ : ∃ g', gk = g' + 1 := ⟨gk - 1, by omega⟩
      have i0 : (0 : Int) ≤ (p : Int) := by omega
      have i1 : (p : Int) < (s.size : Int) := by omega
      have hb := fun h => at_byte s p h
      have cD := rdigit_any (bt s p)
      rw [hgo p hip hpE] at cD
      go_wp2_with (first | (go_at_call 56; refine (cD _).mono ?_; rintro e w' ⟨rfl, hw'⟩; obtain rfl := hw'.symm; clear cD))
      go_roundg g'
      case measure => omega
      case rel => exact ⟨p + 1, by simp, by omega, by omega, rfl⟩
    · obtain rfl : p = E := by omega
      have i0 : (0 : Int) ≤ (p : Int) := by omega
      have i1 : (p : Int) < (s.size : Int) := by omega
      have i4 : (i : Int) ≤ (p : Int) := by omega
      have hbE : ∀ h, (s[p]'h).toNat = 46 := fun h => by rw [at_byte, h46]
      have cD := rdigit_any 46
      have cD3 := rdigit_any (bt s (p + 1))
      rw [show pDigit 46 = false from rfl] at cD
      rw [hgo2 (p + 1) (Nat.le_refl _) hEF] at cD3
      go_wp2_with (first | (go_at_call 56; refine (cD _).mono ?_; rintro e w' ⟨rfl, hw'⟩; obtain rfl := hw'.symm; clear cD) | (go_at_call 56; refine (cD3 _).mono ?_; rintro e w' ⟨rfl, hw'⟩; obtain rfl := hw'.symm; clear cD3))
      clear hbE i0 i1 hb3
      go_loopg [7] (F - (p + 1)) (fun gf s7 wx => ∃ r : Nat, s7 = .int .i64 (r : Int) ∧ p + 1 ≤ r ∧ r + gf = F ∧ wx = wbox w)
      case atStart => exact ⟨p + 1, by simp, Nat.le_refl _, by omega, rfl⟩
      case round =>
        obtain ⟨r, rfl, hip, hgf, hwx⟩ := hrel
        obtain rfl := hwx.symm
        by_cases hpF : r < F
        · obtain ⟨g2, rfl⟩ : ∃ g2, gk = g2 + 1 := ⟨gk - 1, by omega⟩
          have k0 : (0 : Int) ≤ (r : Int) := by omega
          have k1 : (r : Int) < (s.size : Int) := by omega
          have hb := fun h => at_byte s r h
          have cD := rdigit_any (bt s r)
          rw [hgo2 r hip hpF] at cD
          go_wp2_with (first | (go_at_call 56; refine (cD _).mono ?_; rintro e w' ⟨rfl, hw'⟩; obtain rfl := hw'.symm; clear cD))
          go_roundg g2
          case measure => omega
          case rel => exact ⟨r + 1, by simp, by omega, by omega, rfl⟩
        ·
          obtain rfl : r = F := by omega
          have k0 : (0 : Int) ≤ (r : Int) := by omega
          have k1 : (r : Int) < (s.size : Int) := by omega
          have k4 : (p : Int) + 1 ≤ (r : Int) := by omega
          have hb := fun h => at_byte s r h
          have cD := rdigit_any (bt s r)
          rw [hnd.2] at cD
          go_wp2_with (first | (go_at_call 56; refine (cD _).mono ?_; rintro e w' ⟨rfl, hw'⟩; obtain rfl := hw'.symm; clear cD))
          go_loopg [11, 12] P.size (fun gf s11 s12 wx => ∃ j : Nat, s11 = .int .i64 ((10 ^ j : Nat) : Int) ∧ s12 = .int .i64 (j : Int) ∧ j + gf = P.size ∧ wx = wbox w)
          case atStart => exact ⟨0, rfl, rfl, by omega, rfl⟩
          case round =>
            obtain ⟨j, rfl, rfl, hjg, hwx⟩ := hrel
            obtain rfl := hwx.symm
            by_cases hjP : j < P.size
            · obtain ⟨g3, rfl⟩ : ∃ g3, gk = g3 + 1 := ⟨gk - 1, by omega⟩
              have j1 : (j : Int) < (P.size : Int) := by omega
              have ht : 10 ^ j ≤ 10 ^ 14 := Nat.pow_le_pow_right (by omega) (by omega)
              have hts : 10 ^ (j + 1) = 10 ^ j * 10 := Nat.pow_succ ..
              obtain ⟨T, hTT⟩ : ∃ T : Int, ((10 ^ j : Nat) : Int) = T := ⟨_, rfl⟩
              have HT : Hid (((10 ^ (j + 1) : Nat) : Int) = 10 * T) := hidb (by omega)
              have t0 : 0 ≤ T := by omega
              have t1 : T ≤ 100000000000000 := by omega
              rw [hTT]
              clear hTT ht hts hqq hcv
              go_wp2_with fail
              go_roundg g3
              case measure => omega
              case rel => exact ⟨j + 1, by rw [HT.out], by simp, by omega, rfl⟩
            · obtain rfl : j = P.size := by omega
              have j1 : ¬ (P.size : Int) < (P.size : Int) := by omega
              obtain ⟨T, hTT⟩ : ∃ T : Int, ((10 ^ P.size : Nat) : Int) = T := ⟨_, rfl⟩
              rw [hTT] at hcv ⊢
              go_wp2_with (first | (go_at_call 82; refine (cW _).mono ?_; rintro e w' ⟨rfl, hw'⟩; obtain rfl := hw'.symm))
              exact bodyPost_ret (v := .tuple #[.agg #[.int .i64 (4), .string (⟨#[]⟩), .int .i64 (0), .float .f64 (Q), .int .i64 ((i : Int))], .int .i64 (r : Int), .int .i64 0]) (by simp [results, Tryz.results57, go_sem]) rfl ⟨rfl, by (repeat (first | exact Below.refl _ _ | assumption | refine Below.drew ?_ | refine below_drewN ?_ _ | refine Below.setCell ?_ (by simp) _ | refine Below.alloc ?_ (by (first | exact Nat.le_refl _ | (simp; done) | (simp; omega) | omega)) _ | refine Below.trans ?_ (Below.mono (by assumption) (by first | exact Nat.le_refl _ | (simp; done) | (simp; omega) | omega))))⟩

set_option maxHeartbeats 1000000 in
set_option maxRecDepth 100000 in
theorem rnf_ce1 (s X P : ByteArray) (i E F c0 : Nat) (hiE : i < E) (hE : E + 1 < s.size) (hs : s.size ≤ 65536) (hX : s.extract i E = X) (hXs : X.size + i = E) (hP : s.extract (E + 1) F = P) (hPs : P.size + (E + 1) = F) (hgo : ∀ p, i ≤ p → p < E → pDigit (bt s p) = true) (hgo2 : ∀ p, E + 1 ≤ p → p < F → pDigit (bt s p) = true) (hEF : E + 1 < F) (hFs : F ≤ s.size) (h46 : bt s E = 46) (hc0 : bt X 0 = c0) (hz1 : 1 < X.size) (hz2 : c0 ≠ 48) (hnd : s.size ≤ F) (ho : 15 < X.size + P.size) (w : World) : Calls Tryz.prog 57 #[.string s, .int .i64 (i : Int)] w fun e w' => e = .returned (.tuple #[.agg #[.int .i64 (0), .string (⟨#[]⟩), .int .i64 (0), .float .f64 (0), .int .i64 (0)], .int .i64 0, .int .i64 22]) ∧ Below w.heap.size w w' := by
  have i6 : (0 : Int) ≤ (i : Int) := by omega
  have hb0 : ∀ h, (X[0]'h).toNat = c0 := fun h => by rw [at_byte, hc0]
  have r1 : ¬ (s.size : Int) ≤ (E : Int) + 1 := by omega
  have hb3 : ∀ h, (s[E + 1]'h).toNat = bt s (E + 1) := fun h => at_byte s (E + 1) h
  have hw3 : (E : Int) + 1 < (s.size : Int) := by omega
  have z1 : (1 : Int) < (X.size : Int) := by omega
  have z2 : ((c0 : Int) == 48) = false := by simp; omega
  have o1 : (15 : Int) < (X.size : Int) + (P.size : Int) := by omega
  go_enter Tryz.func57, Tryz.ntmps57
  go_wp2_with fail
  go_loopg [7] (E - i) (fun gf s7 wx => ∃ p : Nat, s7 = .int .i64 (p : Int) ∧ i ≤ p ∧ p + gf = E ∧ wx = wbox w)
  case atStart => exact ⟨i, rfl, Nat.le_refl _, by omega, rfl⟩
  case round =>
    obtain ⟨p, rfl, hip, hgf, hwx⟩ := hrel
    obtain rfl := hwx.symm
    by_cases hpE : p < E
    · obtain ⟨g', rfl⟩ : ∃ g', gk = g' + 1 := ⟨gk - 1, by omega⟩
      have i0 : (0 : Int) ≤ (p : Int) := by omega
      have i1 : (p : Int) < (s.size : Int) := by omega
      have hb := fun h => at_byte s p h
      have cD := rdigit_any (bt s p)
      rw [hgo p hip hpE] at cD
      go_wp2_with (first | (go_at_call 56; refine (cD _).mono ?_; rintro e w' ⟨rfl, hw'⟩; obtain rfl := hw'.symm; clear cD))
      go_roundg g'
      case measure => omega
      case rel => exact ⟨p + 1, by simp, by omega, by omega, rfl⟩
    · obtain rfl : p = E := by omega
      have i0 : (0 : Int) ≤ (p : Int) := by omega
      have i1 : (p : Int) < (s.size : Int) := by omega
      have i4 : (i : Int) ≤ (p : Int) := by omega
      have hbE : ∀ h, (s[p]'h).toNat = 46 := fun h => by rw [at_byte, h46]
      have cD := rdigit_any 46
      have cD3 := rdigit_any (bt s (p + 1))
      rw [show pDigit 46 = false from rfl] at cD
      rw [hgo2 (p + 1) (Nat.le_refl _) hEF] at cD3
      go_wp2_with (first | (go_at_call 56; refine (cD _).mono ?_; rintro e w' ⟨rfl, hw'⟩; obtain rfl := hw'.symm; clear cD) | (go_at_call 56; refine (cD3 _).mono ?_; rintro e w' ⟨rfl, hw'⟩; obtain rfl := hw'.symm; clear cD3))
      clear hbE i0 i1 hb3
      go_loopg [7] (F - (p + 1)) (fun gf s7 wx => ∃ r : Nat, s7 = .int .i64 (r : Int) ∧ p + 1 ≤ r ∧ r + gf = F ∧ wx = wbox w)
      case atStart => exact ⟨p + 1, by simp, Nat.le_refl _, by omega, rfl⟩
      case round =>
        obtain ⟨r, rfl, hip, hgf, hwx⟩ := hrel
        obtain rfl := hwx.symm
        by_cases hpF : r < F
        · obtain ⟨g2, rfl⟩ : ∃ g2, gk = g2 + 1 := ⟨gk - 1, by omega⟩
          have k0 : (0 : Int) ≤ (r : Int) := by omega
          have k1 : (r : Int) < (s.size : Int) := by omega
          have hb := fun h => at_byte s r h
          have cD := rdigit_any (bt s r)
          rw [hgo2 r hip hpF] at cD
          go_wp2_with (first | (go_at_call 56; refine (cD _).mono ?_; rintro e w' ⟨rfl, hw'⟩; obtain rfl := hw'.symm; clear cD))
          go_roundg g2
          case measure => omega
          case rel => exact ⟨r + 1, by simp, by omega, by omega, rfl⟩
        ·
          obtain rfl : r = F := by omega
          have k1 : ¬ (r : Int) < (s.size : Int) := by omega
          have k5 : (r : Int) ≤ (s.size : Int) := by omega
          have k4 : (p : Int) + 1 ≤ (r : Int) := by omega
          go_wp2_with fail
          exact bodyPost_ret (v := .tuple #[.agg #[.int .i64 (0), .string (⟨#[]⟩), .int .i64 (0), .float .f64 (0), .int .i64 (0)], .int .i64 0, .int .i64 22]) (by simp [results, Tryz.results57, go_sem]) rfl ⟨rfl, by (repeat (first | exact Below.refl _ _ | assumption | refine Below.drew ?_ | refine below_drewN ?_ _ | refine Below.setCell ?_ (by simp) _ | refine Below.alloc ?_ (by (first | exact Nat.le_refl _ | (simp; done) | (simp; omega) | omega)) _ | refine Below.trans ?_ (Below.mono (by assumption) (by first | exact Nat.le_refl _ | (simp; done) | (simp; omega) | omega))))⟩

set_option maxHeartbeats 1000000 in
set_option maxRecDepth 100000 in
theorem rnf_ce2 (s X P : ByteArray) (i E F c0 V Q : Nat) (hiE : i < E) (hE : E + 1 < s.size) (hs : s.size ≤ 65536) (hX : s.extract i E = X) (hXs : X.size + i = E) (hP : s.extract (E + 1) F = P) (hPs : P.size + (E + 1) = F) (hgo : ∀ p, i ≤ p → p < E → pDigit (bt s p) = true) (hgo2 : ∀ p, E + 1 ≤ p → p < F → pDigit (bt s p) = true) (hEF : E + 1 < F) (hFs : F ≤ s.size) (h46 : bt s E = 46) (hc0 : bt X 0 = c0) (hz1 : 1 < X.size) (hz2 : c0 ≠ 48) (hnd : s.size ≤ F) (hD : Digs (X ++ P)) (ho : ¬ 15 < X.size + P.size) (hV : wor (X ++ P) (X ++ P).size = V) (hQ : fq V P.size = Q) (w : World) : Calls Tryz.prog 57 #[.string s, .int .i64 (i : Int)] w fun e w' => e = .returned (.tuple #[.agg #[.int .i64 (4), .string (⟨#[]⟩), .int .i64 (0), .float .f64 (Q), .int .i64 ((i : Int))], .int .i64 (F : Int), .int .i64 0]) ∧ Below w.heap.size w w' := by
  have i6 : (0 : Int) ≤ (i : Int) := by omega
  have hb0 : ∀ h, (X[0]'h).toNat = c0 := fun h => by rw [at_byte, hc0]
  have r1 : ¬ (s.size : Int) ≤ (E : Int) + 1 := by omega
  have hb3 : ∀ h, (s[E + 1]'h).toNat = bt s (E + 1) := fun h => at_byte s (E + 1) h
  have hw3 : (E : Int) + 1 < (s.size : Int) := by omega
  have z1 : (1 : Int) < (X.size : Int) := by omega
  have z2 : ((c0 : Int) == 48) = false := by simp; omega
  have o1 : ¬ (15 : Int) < (X.size : Int) + (P.size : Int) := by omega
  have hsz : (X ++ P).size = X.size + P.size := ByteArray.size_append ..
  have cW := rwhole_any (X ++ P) hD (by omega)
  have hvl := wor_lt18 _ hD (by omega) _ (Nat.le_refl _)
  rw [hV] at cW hvl
  have hq := fq_some V P.size (by omega) (by omega)
  rw [hQ] at hq
  have hqq := fun t w => run_float_arith (P := Tryz.prog) w .quo t .f64 _ _ _ hq
  have hcv := conv10 P.size _ (p10_at P.size (by omega))
  clear hq hD hsz
  go_enter Tryz.func57, Tryz.ntmps57
  go_wp2_with fail
  go_loopg [7] (E - i) (fun gf s7 wx => ∃ p : Nat, s7 = .int .i64 (p : Int) ∧ i ≤ p ∧ p + gf = E ∧ wx = wbox w)
  case atStart => exact ⟨i, rfl, Nat.le_refl _, by omega, rfl⟩
  case round =>
    obtain ⟨p, rfl, hip, hgf, hwx⟩ := hrel
    obtain rfl := hwx.symm
    by_cases hpE : p < E
    · obtain ⟨g', rfl⟩ : ∃ g', gk = g' + 1 := ⟨gk - 1, by omega⟩
      have i0 : (0 : Int) ≤ (p : Int) := by omega
      have i1 : (p : Int) < (s.size : Int) := by omega
      have hb := fun h => at_byte s p h
      have cD := rdigit_any (bt s p)
      rw [hgo p hip hpE] at cD
      go_wp2_with (first | (go_at_call 56; refine (cD _).mono ?_; rintro e w' ⟨rfl, hw'⟩; obtain rfl := hw'.symm; clear cD))
      go_roundg g'
      case measure => omega
      case rel => exact ⟨p + 1, by simp, by omega, by omega, rfl⟩
    · obtain rfl : p = E := by omega
      have i0 : (0 : Int) ≤ (p : Int) := by omega
      have i1 : (p : Int) < (s.size : Int) := by omega
      have i4 : (i : Int) ≤ (p : Int) := by omega
      have hbE : ∀ h, (s[p]'h).toNat = 46 := fun h => by rw [at_byte, h46]
      have cD := rdigit_any 46
      have cD3 := rdigit_any (bt s (p + 1))
      rw [show pDigit 46 = false from rfl] at cD
      rw [hgo2 (p + 1) (Nat.le_refl _) hEF] at cD3
      go_wp2_with (first | (go_at_call 56; refine (cD _).mono ?_; rintro e w' ⟨rfl, hw'⟩; obtain rfl := hw'.symm; clear cD) | (go_at_call 56; refine (cD3 _).mono ?_; rintro e w' ⟨rfl, hw'⟩; obtain rfl := hw'.symm; clear cD3))
      clear hbE i0 i1 hb3
      go_loopg [7] (F - (p + 1)) (fun gf s7 wx => ∃ r : Nat, s7 = .int .i64 (r : Int) ∧ p + 1 ≤ r ∧ r + gf = F ∧ wx = wbox w)
      case atStart => exact ⟨p + 1, by simp, Nat.le_refl _, by omega, rfl⟩
      case round =>
        obtain ⟨r, rfl, hip, hgf, hwx⟩ := hrel
        obtain rfl := hwx.symm
        by_cases hpF : r < F
        · obtain ⟨g2, rfl⟩ : ∃ g2, gk = g2 + 1 := ⟨gk - 1, by omega⟩
          have k0 : (0 : Int) ≤ (r : Int) := by omega
          have k1 : (r : Int) < (s.size : Int) := by omega
          have hb := fun h => at_byte s r h
          have cD := rdigit_any (bt s r)
          rw [hgo2 r hip hpF] at cD
          go_wp2_with (first | (go_at_call 56; refine (cD _).mono ?_; rintro e w' ⟨rfl, hw'⟩; obtain rfl := hw'.symm; clear cD))
          go_roundg g2
          case measure => omega
          case rel => exact ⟨r + 1, by simp, by omega, by omega, rfl⟩
        ·
          obtain rfl : r = F := by omega
          have k1 : ¬ (r : Int) < (s.size : Int) := by omega
          have k5 : (r : Int) ≤ (s.size : Int) := by omega
          have k4 : (p : Int) + 1 ≤ (r : Int) := by omega
          go_wp2_with fail
          go_loopg [11, 12] P.size (fun gf s11 s12 wx => ∃ j : Nat, s11 = .int .i64 ((10 ^ j : Nat) : Int) ∧ s12 = .int .i64 (j : Int) ∧ j + gf = P.size ∧ wx = wbox w)
          case atStart => exact ⟨0, rfl, rfl, by omega, rfl⟩
          case round =>
            obtain ⟨j, rfl, rfl, hjg, hwx⟩ := hrel
            obtain rfl := hwx.symm
            by_cases hjP : j < P.size
            · obtain ⟨g3, rfl⟩ : ∃ g3, gk = g3 + 1 := ⟨gk - 1, by omega⟩
              have j1 : (j : Int) < (P.size : Int) := by omega
              have ht : 10 ^ j ≤ 10 ^ 14 := Nat.pow_le_pow_right (by omega) (by omega)
              have hts : 10 ^ (j + 1) = 10 ^ j * 10 := Nat.pow_succ ..
              obtain ⟨T, hTT⟩ : ∃ T : Int, ((10 ^ j : Nat) : Int) = T := ⟨_, rfl⟩
              have HT : Hid (((10 ^ (j + 1) : Nat) : Int) = 10 * T) := hidb (by omega)
              have t0 : 0 ≤ T := by omega
              have t1 : T ≤ 100000000000000 := by omega
              rw [hTT]
              clear hTT ht hts hqq hcv
              go_wp2_with fail
              go_roundg g3
              case measure => omega
              case rel => exact ⟨j + 1, by rw [HT.out], by simp, by omega, rfl⟩
            · obtain rfl : j = P.size := by omega
              have j1 : ¬ (P.size : Int) < (P.size : Int) := by omega
              obtain ⟨T, hTT⟩ : ∃ T : Int, ((10 ^ P.size : Nat) : Int) = T := ⟨_, rfl⟩
              rw [hTT] at hcv ⊢
              go_wp2_with (first | (go_at_call 82; refine (cW _).mono ?_; rintro e w' ⟨rfl, hw'⟩; obtain rfl := hw'.symm))
              exact bodyPost_ret (v := .tuple #[.agg #[.int .i64 (4), .string (⟨#[]⟩), .int .i64 (0), .float .f64 (Q), .int .i64 ((i : Int))], .int .i64 (r : Int), .int .i64 0]) (by simp [results, Tryz.results57, go_sem]) rfl ⟨rfl, by (repeat (first | exact Below.refl _ _ | assumption | refine Below.drew ?_ | refine below_drewN ?_ _ | refine Below.setCell ?_ (by simp) _ | refine Below.alloc ?_ (by (first | exact Nat.le_refl _ | (simp; done) | (simp; omega) | omega)) _ | refine Below.trans ?_ (Below.mono (by assumption) (by first | exact Nat.le_refl _ | (simp; done) | (simp; omega) | omega))))⟩

end Go.Proofs.YthdljnakmekhkaaGreatDoor


/- The reference's number. -/
namespace Go.Proofs.YthdljnakmekhkaaGreatDoor
open Go.RowKit Go.Lib

theorem rV_whole_bad (X : ByteArray) (i E : Nat) (h : 18 < X.size ∨ (¬ 18 < X.size ∧ 576460752303423487 < wor X X.size)) : rV (wholeV X) i E = .tuple #[.agg #[.int .i64 (0), .string (⟨#[]⟩), .int .i64 (0), .float .f64 (0), .int .i64 (0)], .int .i64 0, .int .i64 22] := by
  unfold wholeV
  rcases h with h | ⟨h1, h2⟩
  · rw [if_pos h, rV_bad 22 (by decide)]
  · rw [if_neg h1, if_pos h2, rV_bad 22 (by decide)]
theorem rV_whole_ok (X : ByteArray) (i E : Nat) (h1 : ¬ 18 < X.size) (h2 : ¬ 576460752303423487 < wor X X.size) : rV (wholeV X) i E = .tuple #[.agg #[.int .i64 (3), .string (⟨#[]⟩), .int .i64 ((wor X X.size : Nat)), .float .f64 (0), .int .i64 ((i : Int))], .int .i64 (E : Int), .int .i64 0] := by
  unfold wholeV
  rw [if_neg h1, if_neg h2, rV_tk]

theorem rwholes (s X : ByteArray) (i E : Nat) (hiE : i < E) (hE : E ≤ s.size) (hs : s.size ≤ 65536) (hX : s.extract i E = X) (hXs : X.size = E - i) (hgo : ∀ p, i ≤ p → p < E → pDigit (bt s p) = true) (hz : ¬ (1 < X.size ∧ bt X 0 = 48)) (hD : Digs X)
    (hr : s.size ≤ E ∨ (E < s.size ∧ pDigit (bt s E) = false ∧ (s.size ≤ E + 1 ∨ (¬ s.size ≤ E + 1 ∧ (bt s E ≠ 46 ∨ (bt s E = 46 ∧ pDigit (bt s (E + 1)) = false)))))) (w : World) :
    Calls Tryz.prog 57 #[.string s, .int .i64 (i : Int)] w fun e w' => e = .returned (rV (wholeV X) i E) ∧ Below w.heap.size w w' := by
  have hsmall : ¬ 1 < X.size → ¬ 576460752303423487 < wor X X.size := fun h => by
    have h1 := wor_lt X hD X.size (Nat.le_refl _)
    have h2 : 10 ^ X.size ≤ 10 ^ 1 := Nat.pow_le_pow_right (by omega) (by omega)
    omega
  rcases hr with hr | ⟨hr1, hr2, hr3 | ⟨hr3, hr4 | ⟨hr4, hr5⟩⟩⟩
  · by_cases hz1 : 1 < X.size
    · have hz2 : bt X 0 ≠ 48 := fun e => hz ⟨hz1, e⟩
      by_cases ho : 18 < X.size
      · rw [rV_whole_bad X i E (.inl ho)]; exact rni_e1c1 s X i E (bt X 0) hiE hE hs hX hXs hgo rfl hr hz2 (by omega) ho w
      · by_cases hm : 576460752303423487 < wor X X.size
        · rw [rV_whole_bad X i E (.inr ⟨ho, hm⟩)]; exact rni_e1c2 s X i E (bt X 0) (wor X X.size) hiE hE hs hX hXs hgo rfl hr hz2 (by omega) hD ho rfl hm w
        · rw [rV_whole_ok X i E ho hm]; exact rni_e1c3 s X i E (bt X 0) (wor X X.size) hiE hE hs hX hXs hgo rfl hr hz2 (by omega) hD ho rfl hm w
    · rw [rV_whole_ok X i E (by omega) (hsmall hz1)]; exact rni_e1l3 s X i E (bt X 0) (wor X X.size) hiE hE hs hX hXs hgo rfl hr hz1 (by omega) hD rfl (hsmall hz1) w
  · by_cases hz1 : 1 < X.size
    · have hz2 : bt X 0 ≠ 48 := fun e => hz ⟨hz1, e⟩
      by_cases ho : 18 < X.size
      · rw [rV_whole_bad X i E (.inl ho)]; exact rni_n1c1 s X i E (bt X 0) hiE hE hs hX hXs hgo rfl hr1 hr2 hz2 hr3 ho w
      · by_cases hm : 576460752303423487 < wor X X.size
        · rw [rV_whole_bad X i E (.inr ⟨ho, hm⟩)]; exact rni_n1c2 s X i E (bt X 0) (wor X X.size) hiE hE hs hX hXs hgo rfl hr1 hr2 hz2 hr3 hD ho rfl hm w
        · rw [rV_whole_ok X i E ho hm]; exact rni_n1c3 s X i E (bt X 0) (wor X X.size) hiE hE hs hX hXs hgo rfl hr1 hr2 hz2 hr3 hD ho rfl hm w
    · rw [rV_whole_ok X i E (by omega) (hsmall hz1)]; exact rni_n1l3 s X i E (bt X 0) (wor X X.size) hiE hE hs hX hXs hgo rfl hr1 hr2 hz1 hr3 hD rfl (hsmall hz1) w
  · by_cases hz1 : 1 < X.size
    · have hz2 : bt X 0 ≠ 48 := fun e => hz ⟨hz1, e⟩
      by_cases ho : 18 < X.size
      · rw [rV_whole_bad X i E (.inl ho)]; exact rni_n2c1 s X i E (bt X 0) hiE hE hs hX hXs hgo rfl hr1 hr2 hz2 hr3 hr4 ho w
      · by_cases hm : 576460752303423487 < wor X X.size
        · rw [rV_whole_bad X i E (.inr ⟨ho, hm⟩)]; exact rni_n2c2 s X i E (bt X 0) (wor X X.size) hiE hE hs hX hXs hgo rfl hr1 hr2 hz2 hr3 hr4 hD ho rfl hm w
        · rw [rV_whole_ok X i E ho hm]; exact rni_n2c3 s X i E (bt X 0) (wor X X.size) hiE hE hs hX hXs hgo rfl hr1 hr2 hz2 hr3 hr4 hD ho rfl hm w
    · rw [rV_whole_ok X i E (by omega) (hsmall hz1)]; exact rni_n2l3 s X i E (bt X 0) (wor X X.size) hiE hE hs hX hXs hgo rfl hr1 hr2 hz1 hr3 hr4 hD rfl (hsmall hz1) w
  · by_cases hz1 : 1 < X.size
    · have hz2 : bt X 0 ≠ 48 := fun e => hz ⟨hz1, e⟩
      by_cases ho : 18 < X.size
      · rw [rV_whole_bad X i E (.inl ho)]; exact rni_n3c1 s X i E (bt X 0) hiE hE hs hX hXs hgo rfl hr1 hr2 hz2 hr3 hr4 hr5 ho w
      · by_cases hm : 576460752303423487 < wor X X.size
        · rw [rV_whole_bad X i E (.inr ⟨ho, hm⟩)]; exact rni_n3c2 s X i E (bt X 0) (wor X X.size) hiE hE hs hX hXs hgo rfl hr1 hr2 hz2 hr3 hr4 hr5 hD ho rfl hm w
        · rw [rV_whole_ok X i E ho hm]; exact rni_n3c3 s X i E (bt X 0) (wor X X.size) hiE hE hs hX hXs hgo rfl hr1 hr2 hz2 hr3 hr4 hr5 hD ho rfl hm w
    · rw [rV_whole_ok X i E (by omega) (hsmall hz1)]; exact rni_n3l3 s X i E (bt X 0) (wor X X.size) hiE hE hs hX hXs hgo rfl hr1 hr2 hz1 hr3 hr4 hr5 hD rfl (hsmall hz1) w

theorem rV_float_bad (X P : ByteArray) (i F : Nat) (h : 15 < X.size + P.size) : rV (floatV X P) i F = .tuple #[.agg #[.int .i64 (0), .string (⟨#[]⟩), .int .i64 (0), .float .f64 (0), .int .i64 (0)], .int .i64 0, .int .i64 22] := by
  unfold floatV
  rw [if_pos (by rw [ByteArray.size_append]; exact h), rV_bad 22 (by decide)]
theorem rV_float_ok (X P : ByteArray) (i F : Nat) (h : ¬ 15 < X.size + P.size) : rV (floatV X P) i F = .tuple #[.agg #[.int .i64 (4), .string (⟨#[]⟩), .int .i64 (0), .float .f64 (fq (wor (X ++ P) (X ++ P).size) P.size), .int .i64 ((i : Int))], .int .i64 (F : Int), .int .i64 0] := by
  unfold floatV
  rw [if_neg (by rw [ByteArray.size_append]; exact h), rV_tk]

theorem rfloats (s X P : ByteArray) (i E F : Nat) (hiE : i < E) (hE : E + 1 < s.size) (hs : s.size ≤ 65536) (hX : s.extract i E = X) (hXs : X.size + i = E) (hP : s.extract (E + 1) F = P) (hPs : P.size + (E + 1) = F) (hgo : ∀ p, i ≤ p → p < E → pDigit (bt s p) = true) (hgo2 : ∀ p, E + 1 ≤ p → p < F → pDigit (bt s p) = true) (hEF : E + 1 < F) (hFs : F ≤ s.size) (h46 : bt s E = 46)
    (hz : ¬ (1 < X.size ∧ bt X 0 = 48)) (hD : Digs (X ++ P)) (hnd : F < s.size → pDigit (bt s F) = false) (w : World) :
    Calls Tryz.prog 57 #[.string s, .int .i64 (i : Int)] w fun e w' => e = .returned (rV (floatV X P) i F) ∧ Below w.heap.size w w' := by
  by_cases ho : 15 < X.size + P.size
  · rw [rV_float_bad X P i F ho]
    by_cases hz1 : 1 < X.size
    · have hz2 : bt X 0 ≠ 48 := fun e => hz ⟨hz1, e⟩
      by_cases hF : F < s.size
      · exact rnf_cn1 s X P i E F (bt X 0) hiE hE hs hX hXs hP hPs hgo hgo2 hEF hFs h46 rfl hz1 hz2 ⟨hF, hnd hF⟩ ho w
      · exact rnf_ce1 s X P i E F (bt X 0) hiE hE hs hX hXs hP hPs hgo hgo2 hEF hFs h46 rfl hz1 hz2 (by omega) ho w
    · by_cases hF : F < s.size
      · exact rnf_ln1 s X P i E F (bt X 0) hiE hE hs hX hXs hP hPs hgo hgo2 hEF hFs h46 rfl hz1 ⟨hF, hnd hF⟩ ho w
      · exact rnf_le1 s X P i E F (bt X 0) hiE hE hs hX hXs hP hPs hgo hgo2 hEF hFs h46 rfl hz1 (by omega) ho w
  · rw [rV_float_ok X P i F ho]
    by_cases hz1 : 1 < X.size
    · have hz2 : bt X 0 ≠ 48 := fun e => hz ⟨hz1, e⟩
      by_cases hF : F < s.size
      · exact rnf_cn2 s X P i E F (bt X 0) _ _ hiE hE hs hX hXs hP hPs hgo hgo2 hEF hFs h46 rfl hz1 hz2 ⟨hF, hnd hF⟩ hD ho rfl rfl w
      · exact rnf_ce2 s X P i E F (bt X 0) _ _ hiE hE hs hX hXs hP hPs hgo hgo2 hEF hFs h46 rfl hz1 hz2 (by omega) hD ho rfl rfl w
    · by_cases hF : F < s.size
      · exact rnf_ln2 s X P i E F (bt X 0) _ _ hiE hE hs hX hXs hP hPs hgo hgo2 hEF hFs h46 rfl hz1 ⟨hF, hnd hF⟩ hD ho rfl rfl w
      · exact rnf_le2 s X P i E F (bt X 0) _ _ hiE hE hs hX hXs hP hPs hgo hgo2 hEF hFs h46 rfl hz1 (by omega) hD ho rfl rfl w

theorem rnumber_any (s : ByteArray) (i : Nat) (hi : i < s.size) (hd : pDigit (bt s i) = true) (hs : s.size ≤ 65536) (w : World) : Calls Tryz.prog 57 #[.string s, .int .i64 (i : Int)] w fun e w' => e = .returned (rV (numV s i) i (fracEnd s (goes pDigit s i))) ∧ Below w.heap.size w w' := by
  have hge : i + 1 ≤ goes pDigit s i := by rw [goes_on hi hd]; exact goes_ge _ _ _
  have hle := goes_le pDigit s i (by omega)
  have hgo := fun p h1 h2 => goes_all pDigit s i p h1 h2
  have hnd := goes_not pDigit s i
  have hDX := digs_part s i (by omega)
  have hDP := digs_frac s (goes pDigit s i)
  have hXs : (s.extract i (goes pDigit s i)).size = goes pDigit s i - i := by rw [size_ext]; omega
  unfold numV
  obtain ⟨E, hE⟩ : ∃ E, goes pDigit s i = E := ⟨_, rfl⟩
  rw [hE] at hge hle hnd hDX hDP hXs ⊢
  simp only [hE] at hgo
  by_cases hA : 1 < (s.extract i E).size ∧ bt (s.extract i E) 0 = 48
  · rw [if_pos hA, rV_bad 22 (by decide)]
    by_cases hl : E < s.size
    · exact rnz_n s _ i E _ (by omega) hle hs rfl hXs hgo rfl hl (hnd hl) hA.1 hA.2 w
    · exact rnz_e s _ i E _ (by omega) hle hs rfl hXs hgo rfl (by omega) hA.1 hA.2 w
  · rw [if_neg hA]
    cases hf : fracOk s E
    · have hP0 : fracS s E = ⟨#[]⟩ := by unfold fracS; rw [hf]; rfl
      have hF : fracEnd s E = E := by unfold fracEnd; rw [hf]; rfl
      rw [hP0, hF, if_pos (show (⟨#[]⟩ : ByteArray).size = 0 from rfl)]
      refine rwholes s _ i E (by omega) hle hs rfl hXs hgo hA hDX ?_ w
      by_cases hl : E < s.size
      · right
        refine ⟨hl, hnd hl, ?_⟩
        by_cases h1 : s.size ≤ E + 1
        · exact .inl h1
        · refine .inr ⟨h1, ?_⟩
          by_cases h2 : bt s E = 46
          · refine .inr ⟨h2, ?_⟩
            have h3 : E + 1 < s.size := by omega
            simpa [fracOk, hl, h2, h3] using hf
          · exact .inl h2
      · left; omega
    · have hP1 : fracS s E = s.extract (E + 1) (goes pDigit s (E + 1)) := by unfold fracS; rw [hf]; rfl
      have hF1 : fracEnd s E = goes pDigit s (E + 1) := by unfold fracEnd; rw [hf]; rfl
      simp [fracOk] at hf
      obtain ⟨⟨⟨f1, f2⟩, f3⟩, f4⟩ := hf
      have hge2 : E + 2 ≤ goes pDigit s (E + 1) := by rw [goes_on f3 f4]; exact goes_ge _ _ _
      have hle2 := goes_le pDigit s (E + 1) (by omega)
      have hPs : (s.extract (E + 1) (goes pDigit s (E + 1))).size = goes pDigit s (E + 1) - (E + 1) := by rw [size_ext]; omega
      rw [hP1] at hDP ⊢
      rw [hF1, if_neg (by omega)]
      exact rfloats s _ _ i E _ (by omega) f3 hs rfl (by omega) rfl (by omega) hgo (fun p h1 h2 => goes_all pDigit s (E + 1) p h1 h2) (by omega) hle2 f2 hA (digs_append _ _ hDX hDP) (goes_not pDigit s (E + 1)) w
end Go.Proofs.YthdljnakmekhkaaGreatDoor


