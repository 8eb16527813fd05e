import Derived.Test.YthdljnakmekhkaaGreatDoorG24
/- The reference's numbers that are whole, or none. -/
namespace Go.Proofs.YthdljnakmekhkaaGreatDoor
open Go.RowKit Go.Lib
attribute [local go_sem] store_float f64bits
attribute [local go_sem ↓] Go.wp_at_zero Go.wp_at_succ

set_option maxHeartbeats 1000000 in
set_option maxRecDepth 100000 in
theorem rnz_e (s X : ByteArray) (i E c0 : Nat) (hiE : i < E) (hE : E ≤ s.size) (hs : s.size ≤ 65536) (hX : s.extract i E = X) (hXs : X.size = E - i) (hgo : ∀ p, i ≤ p → p < E → pDigit (bt s p) = true) (hc0 : bt X 0 = c0) (hn : s.size ≤ E) (hz1 : 1 < X.size) (hz2 : c0 = 48) (w : World) : Calls Tryz.prog 57 #[.string s, .int .i64 (i : Int)] w fun e w' => e = .returned (.tuple #[.agg #[.int .i64 (0), .string (⟨#[]⟩), .int .i64 (0), .float .f64 (0), .int .i64 (0)], .int .i64 0, .int .i64 22]) ∧ Below w.heap.size w w' := by
  have i6 : (0 : Int) ≤ (i : Int) := by omega
  have hb0 : ∀ h, (X[0]'h).toNat = c0 := fun h => by rw [at_byte, hc0]
  have z1 : (1 : Int) < (X.size : Int) := by omega
  subst hz2
  go_enter Tryz.func57, Tryz.ntmps57
  go_wp2_with fail
  go_loopg [7] (E - i) (fun gf s7 wx => ∃ p : Nat, s7 = .int .i64 (p : Int) ∧ i ≤ p ∧ p + gf = E ∧ wx = wbox w)
  case atStart => exact ⟨i, rfl, Nat.le_refl _, by omega, rfl⟩
  case round =>
    obtain ⟨p, rfl, hip, hgf, hwx⟩ := hrel
    obtain rfl := hwx.symm
    by_cases hpE : p < E
    · obtain ⟨g', rfl⟩ : ∃ g', gk = g' + 1 := ⟨gk - 1, by omega⟩
      have i0 : (0 : Int) ≤ (p : Int) := by omega
      have i1 : (p : Int) < (s.size : Int) := by omega
      have hb := fun h => at_byte s p h
      have cD := rdigit_any (bt s p)
      rw [hgo p hip hpE] at cD
      go_wp2_with (first | (go_at_call 56; refine (cD _).mono ?_; rintro e w' ⟨rfl, hw'⟩; obtain rfl := hw'.symm))
      go_roundg g'
      case measure => omega
      case rel => exact ⟨p + 1, by simp, by omega, by omega, rfl⟩
    · obtain rfl : p = E := by omega
      have i1 : ¬ (p : Int) < (s.size : Int) := by omega
      have i5 : (p : Int) ≤ (s.size : Int) := by omega
      have i4 : (i : Int) ≤ (p : Int) := by omega
      go_wp2_with fail
      all_goals exact bodyPost_ret (v := .tuple #[.agg #[.int .i64 (0), .string (⟨#[]⟩), .int .i64 (0), .float .f64 (0), .int .i64 (0)], .int .i64 0, .int .i64 22]) (by simp [results, Tryz.results57, go_sem]) rfl ⟨rfl, by (repeat (first | exact Below.refl _ _ | assumption | refine Below.drew ?_ | refine below_drewN ?_ _ | refine Below.setCell ?_ (by simp) _ | refine Below.alloc ?_ (by (first | exact Nat.le_refl _ | (simp; done) | (simp; omega) | omega)) _ | refine Below.trans ?_ (Below.mono (by assumption) (by first | exact Nat.le_refl _ | (simp; done) | (simp; omega) | omega))))⟩

set_option maxHeartbeats 1000000 in
set_option maxRecDepth 100000 in
theorem rnz_n (s X : ByteArray) (i E c0 : Nat) (hiE : i < E) (hE : E ≤ s.size) (hs : s.size ≤ 65536) (hX : s.extract i E = X) (hXs : X.size = E - i) (hgo : ∀ p, i ≤ p → p < E → pDigit (bt s p) = true) (hc0 : bt X 0 = c0) (hn : E < s.size) (hnd : pDigit (bt s E) = false) (hz1 : 1 < X.size) (hz2 : c0 = 48) (w : World) : Calls Tryz.prog 57 #[.string s, .int .i64 (i : Int)] w fun e w' => e = .returned (.tuple #[.agg #[.int .i64 (0), .string (⟨#[]⟩), .int .i64 (0), .float .f64 (0), .int .i64 (0)], .int .i64 0, .int .i64 22]) ∧ Below w.heap.size w w' := by
  have i6 : (0 : Int) ≤ (i : Int) := by omega
  have hb0 : ∀ h, (X[0]'h).toNat = c0 := fun h => by rw [at_byte, hc0]
  have z1 : (1 : Int) < (X.size : Int) := by omega
  subst hz2
  go_enter Tryz.func57, Tryz.ntmps57
  go_wp2_with fail
  go_loopg [7] (E - i) (fun gf s7 wx => ∃ p : Nat, s7 = .int .i64 (p : Int) ∧ i ≤ p ∧ p + gf = E ∧ wx = wbox w)
  case atStart => exact ⟨i, rfl, Nat.le_refl _, by omega, rfl⟩
  case round =>
    obtain ⟨p, rfl, hip, hgf, hwx⟩ := hrel
    obtain rfl := hwx.symm
    by_cases hpE : p < E
    · obtain ⟨g', rfl⟩ : ∃ g', gk = g' + 1 := ⟨gk - 1, by omega⟩
      have i0 : (0 : Int) ≤ (p : Int) := by omega
      have i1 : (p : Int) < (s.size : Int) := by omega
      have hb := fun h => at_byte s p h
      have cD := rdigit_any (bt s p)
      rw [hgo p hip hpE] at cD
      go_wp2_with (first | (go_at_call 56; refine (cD _).mono ?_; rintro e w' ⟨rfl, hw'⟩; obtain rfl := hw'.symm))
      go_roundg g'
      case measure => omega
      case rel => exact ⟨p + 1, by simp, by omega, by omega, rfl⟩
    · obtain rfl : p = E := by omega
      have i0 : (0 : Int) ≤ (p : Int) := by omega
      have i1 : (p : Int) < (s.size : Int) := by omega
      have i4 : (i : Int) ≤ (p : Int) := by omega
      have hb := fun h => at_byte s p h
      have cD := rdigit_any (bt s p)
      rw [hnd] at cD
      go_wp2_with (first | (go_at_call 56; refine (cD _).mono ?_; rintro e w' ⟨rfl, hw'⟩; obtain rfl := hw'.symm))
      all_goals exact bodyPost_ret (v := .tuple #[.agg #[.int .i64 (0), .string (⟨#[]⟩), .int .i64 (0), .float .f64 (0), .int .i64 (0)], .int .i64 0, .int .i64 22]) (by simp [results, Tryz.results57, go_sem]) rfl ⟨rfl, by (repeat (first | exact Below.refl _ _ | assumption | refine Below.drew ?_ | refine below_drewN ?_ _ | refine Below.setCell ?_ (by simp) _ | refine Below.alloc ?_ (by (first | exact Nat.le_refl _ | (simp; done) | (simp; omega) | omega)) _ | refine Below.trans ?_ (Below.mono (by assumption) (by first | exact Nat.le_refl _ | (simp; done) | (simp; omega) | omega))))⟩

set_option maxHeartbeats 1000000 in
set_option maxRecDepth 100000 in
theorem rni_e1l3 (s X : ByteArray) (i E c0 V : Nat) (hiE : i < E) (hE : E ≤ s.size) (hs : s.size ≤ 65536) (hX : s.extract i E = X) (hXs : X.size = E - i) (hgo : ∀ p, i ≤ p → p < E → pDigit (bt s p) = true) (hc0 : bt X 0 = c0) (hn : s.size ≤ E) (hz1 : ¬ 1 < X.size) (h1 : s.size ≤ E + 1) (hD : Digs X) (hV : wor X X.size = V) (hm : ¬ 576460752303423487 < V) (w : World) : Calls Tryz.prog 57 #[.string s, .int .i64 (i : Int)] w fun e w' => e = .returned (.tuple #[.agg #[.int .i64 (3), .string (⟨#[]⟩), .int .i64 ((V : Nat)), .float .f64 (0), .int .i64 ((i : Int))], .int .i64 (E : Int), .int .i64 0]) ∧ Below w.heap.size w w' := by
  have i6 : (0 : Int) ≤ (i : Int) := by omega
  have hb0 : ∀ h, (X[0]'h).toNat = c0 := fun h => by rw [at_byte, hc0]
  have z1 : ¬ (1 : Int) < (X.size : Int) := by omega
  have r1 : (s.size : Int) ≤ (E : Int) + 1 := by omega
  have o1 : ¬ (18 : Int) < (X.size : Int) := by omega
  have cW := rwhole_any X hD (by omega)
  rw [hV] at cW
  have o2 : ¬ (576460752303423487 : Int) < (V : Int) := by omega
  go_enter Tryz.func57, Tryz.ntmps57
  go_wp2_with fail
  go_loopg [7] (E - i) (fun gf s7 wx => ∃ p : Nat, s7 = .int .i64 (p : Int) ∧ i ≤ p ∧ p + gf = E ∧ wx = wbox w)
  case atStart => exact ⟨i, rfl, Nat.le_refl _, by omega, rfl⟩
  case round =>
    obtain ⟨p, rfl, hip, hgf, hwx⟩ := hrel
    obtain rfl := hwx.symm
    by_cases hpE : p < E
    · obtain ⟨g', rfl⟩ : ∃ g', gk = g' + 1 := ⟨gk - 1, by omega⟩
      have i0 : (0 : Int) ≤ (p : Int) := by omega
      have i1 : (p : Int) < (s.size : Int) := by omega
      have hb := fun h => at_byte s p h
      have cD := rdigit_any (bt s p)
      rw [hgo p hip hpE] at cD
      go_wp2_with (first | (go_at_call 56; refine (cD _).mono ?_; rintro e w' ⟨rfl, hw'⟩; obtain rfl := hw'.symm))
      go_roundg g'
      case measure => omega
      case rel => exact ⟨p + 1, by simp, by omega, by omega, rfl⟩
    · obtain rfl : p = E := by omega
      have i1 : ¬ (p : Int) < (s.size : Int) := by omega
      have i5 : (p : Int) ≤ (s.size : Int) := by omega
      have i4 : (i : Int) ≤ (p : Int) := by omega
      go_wp2_with (first | (go_at_call 82; refine (cW _).mono ?_; rintro e w' ⟨rfl, hw'⟩; obtain rfl := hw'.symm))
      all_goals exact bodyPost_ret (v := .tuple #[.agg #[.int .i64 (3), .string (⟨#[]⟩), .int .i64 ((V : Nat)), .float .f64 (0), .int .i64 ((i : Int))], .int .i64 (p : Int), .int .i64 0]) (by simp [results, Tryz.results57, go_sem]) rfl ⟨rfl, by (repeat (first | exact Below.refl _ _ | assumption | refine Below.drew ?_ | refine below_drewN ?_ _ | refine Below.setCell ?_ (by simp) _ | refine Below.alloc ?_ (by (first | exact Nat.le_refl _ | (simp; done) | (simp; omega) | omega)) _ | refine Below.trans ?_ (Below.mono (by assumption) (by first | exact Nat.le_refl _ | (simp; done) | (simp; omega) | omega))))⟩

set_option maxHeartbeats 1000000 in
set_option maxRecDepth 100000 in
theorem rni_e1c1 (s X : ByteArray) (i E c0 : Nat) (hiE : i < E) (hE : E ≤ s.size) (hs : s.size ≤ 65536) (hX : s.extract i E = X) (hXs : X.size = E - i) (hgo : ∀ p, i ≤ p → p < E → pDigit (bt s p) = true) (hc0 : bt X 0 = c0) (hn : s.size ≤ E) (hz2 : c0 ≠ 48) (h1 : s.size ≤ E + 1) (ho : 18 < X.size) (w : World) : Calls Tryz.prog 57 #[.string s, .int .i64 (i : Int)] w fun e w' => e = .returned (.tuple #[.agg #[.int .i64 (0), .string (⟨#[]⟩), .int .i64 (0), .float .f64 (0), .int .i64 (0)], .int .i64 0, .int .i64 22]) ∧ Below w.heap.size w w' := by
  have i6 : (0 : Int) ≤ (i : Int) := by omega
  have hb0 : ∀ h, (X[0]'h).toNat = c0 := fun h => by rw [at_byte, hc0]
  have z2 : ((c0 : Int) == 48) = false := by simp; omega
  have r1 : (s.size : Int) ≤ (E : Int) + 1 := by omega
  have o1 : (18 : Int) < (X.size : Int) := by omega
  go_enter Tryz.func57, Tryz.ntmps57
  go_wp2_with fail
  go_loopg [7] (E - i) (fun gf s7 wx => ∃ p : Nat, s7 = .int .i64 (p : Int) ∧ i ≤ p ∧ p + gf = E ∧ wx = wbox w)
  case atStart => exact ⟨i, rfl, Nat.le_refl _, by omega, rfl⟩
  case round =>
    obtain ⟨p, rfl, hip, hgf, hwx⟩ := hrel
    obtain rfl := hwx.symm
    by_cases hpE : p < E
    · obtain ⟨g', rfl⟩ : ∃ g', gk = g' + 1 := ⟨gk - 1, by omega⟩
      have i0 : (0 : Int) ≤ (p : Int) := by omega
      have i1 : (p : Int) < (s.size : Int) := by omega
      have hb := fun h => at_byte s p h
      have cD := rdigit_any (bt s p)
      rw [hgo p hip hpE] at cD
      go_wp2_with (first | (go_at_call 56; refine (cD _).mono ?_; rintro e w' ⟨rfl, hw'⟩; obtain rfl := hw'.symm))
      go_roundg g'
      case measure => omega
      case rel => exact ⟨p + 1, by simp, by omega, by omega, rfl⟩
    · obtain rfl : p = E := by omega
      have i1 : ¬ (p : Int) < (s.size : Int) := by omega
      have i5 : (p : Int) ≤ (s.size : Int) := by omega
      have i4 : (i : Int) ≤ (p : Int) := by omega
      go_wp2_with fail
      all_goals exact bodyPost_ret (v := .tuple #[.agg #[.int .i64 (0), .string (⟨#[]⟩), .int .i64 (0), .float .f64 (0), .int .i64 (0)], .int .i64 0, .int .i64 22]) (by simp [results, Tryz.results57, go_sem]) rfl ⟨rfl, by (repeat (first | exact Below.refl _ _ | assumption | refine Below.drew ?_ | refine below_drewN ?_ _ | refine Below.setCell ?_ (by simp) _ | refine Below.alloc ?_ (by (first | exact Nat.le_refl _ | (simp; done) | (simp; omega) | omega)) _ | refine Below.trans ?_ (Below.mono (by assumption) (by first | exact Nat.le_refl _ | (simp; done) | (simp; omega) | omega))))⟩

set_option maxHeartbeats 1000000 in
set_option maxRecDepth 100000 in
theorem rni_e1c2 (s X : ByteArray) (i E c0 V : Nat) (hiE : i < E) (hE : E ≤ s.size) (hs : s.size ≤ 65536) (hX : s.extract i E = X) (hXs : X.size = E - i) (hgo : ∀ p, i ≤ p → p < E → pDigit (bt s p) = true) (hc0 : bt X 0 = c0) (hn : s.size ≤ E) (hz2 : c0 ≠ 48) (h1 : s.size ≤ E + 1) (hD : Digs X) (ho : ¬ 18 < X.size) (hV : wor X X.size = V) (hm : 576460752303423487 < V) (w : World) : Calls Tryz.prog 57 #[.string s, .int .i64 (i : Int)] w fun e w' => e = .returned (.tuple #[.agg #[.int .i64 (0), .string (⟨#[]⟩), .int .i64 (0), .float .f64 (0), .int .i64 (0)], .int .i64 0, .int .i64 22]) ∧ Below w.heap.size w w' := by
  have i6 : (0 : Int) ≤ (i : Int) := by omega
  have hb0 : ∀ h, (X[0]'h).toNat = c0 := fun h => by rw [at_byte, hc0]
  have z2 : ((c0 : Int) == 48) = false := by simp; omega
  have r1 : (s.size : Int) ≤ (E : Int) + 1 := by omega
  have o1 : ¬ (18 : Int) < (X.size : Int) := by omega
  have cW := rwhole_any X hD (by omega)
  rw [hV] at cW
  have o2 : (576460752303423487 : Int) < (V : Int) := by omega
  go_enter Tryz.func57, Tryz.ntmps57
  go_wp2_with fail
  go_loopg [7] (E - i) (fun gf s7 wx => ∃ p : Nat, s7 = .int .i64 (p : Int) ∧ i ≤ p ∧ p + gf = E ∧ wx = wbox w)
  case atStart => exact ⟨i, rfl, Nat.le_refl _, by omega, rfl⟩
  case round =>
    obtain ⟨p, rfl, hip, hgf, hwx⟩ := hrel
    obtain rfl := hwx.symm
    by_cases hpE : p < E
    · obtain ⟨g', rfl⟩ : ∃ g', gk = g' + 1 := ⟨gk - 1, by omega⟩
      have i0 : (0 : Int) ≤ (p : Int) := by omega
      have i1 : (p : Int) < (s.size : Int) := by omega
      have hb := fun h => at_byte s p h
      have cD := rdigit_any (bt s p)
      rw [hgo p hip hpE] at cD
      go_wp2_with (first | (go_at_call 56; refine (cD _).mono ?_; rintro e w' ⟨rfl, hw'⟩; obtain rfl := hw'.symm))
      go_roundg g'
      case measure => omega
      case rel => exact ⟨p + 1, by simp, by omega, by omega, rfl⟩
    · obtain rfl : p = E := by omega
      have i1 : ¬ (p : Int) < (s.size : Int) := by omega
      have i5 : (p : Int) ≤ (s.size : Int) := by omega
      have i4 : (i : Int) ≤ (p : Int) := by omega
      go_wp2_with (first | (go_at_call 82; refine (cW _).mono ?_; rintro e w' ⟨rfl, hw'⟩; obtain rfl := hw'.symm))
      all_goals exact bodyPost_ret (v := .tuple #[.agg #[.int .i64 (0), .string (⟨#[]⟩), .int .i64 (0), .float .f64 (0), .int .i64 (0)], .int .i64 0, .int .i64 22]) (by simp [results, Tryz.results57, go_sem]) rfl ⟨rfl, by (repeat (first | exact Below.refl _ _ | assumption | refine Below.drew ?_ | refine below_drewN ?_ _ | refine Below.setCell ?_ (by simp) _ | refine Below.alloc ?_ (by (first | exact Nat.le_refl _ | (simp; done) | (simp; omega) | omega)) _ | refine Below.trans ?_ (Below.mono (by assumption) (by first | exact Nat.le_refl _ | (simp; done) | (simp; omega) | omega))))⟩

set_option maxHeartbeats 1000000 in
set_option maxRecDepth 100000 in
theorem rni_e1c3 (s X : ByteArray) (i E c0 V : Nat) (hiE : i < E) (hE : E ≤ s.size) (hs : s.size ≤ 65536) (hX : s.extract i E = X) (hXs : X.size = E - i) (hgo : ∀ p, i ≤ p → p < E → pDigit (bt s p) = true) (hc0 : bt X 0 = c0) (hn : s.size ≤ E) (hz2 : c0 ≠ 48) (h1 : s.size ≤ E + 1) (hD : Digs X) (ho : ¬ 18 < X.size) (hV : wor X X.size = V) (hm : ¬ 576460752303423487 < V) (w : World) : Calls Tryz.prog 57 #[.string s, .int .i64 (i : Int)] w fun e w' => e = .returned (.tuple #[.agg #[.int .i64 (3), .string (⟨#[]⟩), .int .i64 ((V : Nat)), .float .f64 (0), .int .i64 ((i : Int))], .int .i64 (E : Int), .int .i64 0]) ∧ Below w.heap.size w w' := by
  have i6 : (0 : Int) ≤ (i : Int) := by omega
  have hb0 : ∀ h, (X[0]'h).toNat = c0 := fun h => by rw [at_byte, hc0]
  have z2 : ((c0 : Int) == 48) = false := by simp; omega
  have r1 : (s.size : Int) ≤ (E : Int) + 1 := by omega
  have o1 : ¬ (18 : Int) < (X.size : Int) := by omega
  have cW := rwhole_any X hD (by omega)
  rw [hV] at cW
  have o2 : ¬ (576460752303423487 : Int) < (V : Int) := by omega
  go_enter Tryz.func57, Tryz.ntmps57
  go_wp2_with fail
  go_loopg [7] (E - i) (fun gf s7 wx => ∃ p : Nat, s7 = .int .i64 (p : Int) ∧ i ≤ p ∧ p + gf = E ∧ wx = wbox w)
  case atStart => exact ⟨i, rfl, Nat.le_refl _, by omega, rfl⟩
  case round =>
    obtain ⟨p, rfl, hip, hgf, hwx⟩ := hrel
    obtain rfl := hwx.symm
    by_cases hpE : p < E
    · obtain ⟨g', rfl⟩ : ∃ g', gk = g' + 1 := ⟨gk - 1, by omega⟩
      have i0 : (0 : Int) ≤ (p : Int) := by omega
      have i1 : (p : Int) < (s.size : Int) := by omega
      have hb := fun h => at_byte s p h
      have cD := rdigit_any (bt s p)
      rw [hgo p hip hpE] at cD
      go_wp2_with (first | (go_at_call 56; refine (cD _).mono ?_; rintro e w' ⟨rfl, hw'⟩; obtain rfl := hw'.symm))
      go_roundg g'
      case measure => omega
      case rel => exact ⟨p + 1, by simp, by omega, by omega, rfl⟩
    · obtain rfl : p = E := by omega
      have i1 : ¬ (p : Int) < (s.size : Int) := by omega
      have i5 : (p : Int) ≤ (s.size : Int) := by omega
      have i4 : (i : Int) ≤ (p : Int) := by omega
      go_wp2_with (first | (go_at_call 82; refine (cW _).mono ?_; rintro e w' ⟨rfl, hw'⟩; obtain rfl := hw'.symm))
      all_goals exact bodyPost_ret (v := .tuple #[.agg #[.int .i64 (3), .string (⟨#[]⟩), .int .i64 ((V : Nat)), .float .f64 (0), .int .i64 ((i : Int))], .int .i64 (p : Int), .int .i64 0]) (by simp [results, Tryz.results57, go_sem]) rfl ⟨rfl, by (repeat (first | exact Below.refl _ _ | assumption | refine Below.drew ?_ | refine below_drewN ?_ _ | refine Below.setCell ?_ (by simp) _ | refine Below.alloc ?_ (by (first | exact Nat.le_refl _ | (simp; done) | (simp; omega) | omega)) _ | refine Below.trans ?_ (Below.mono (by assumption) (by first | exact Nat.le_refl _ | (simp; done) | (simp; omega) | omega))))⟩

set_option maxHeartbeats 1000000 in
set_option maxRecDepth 100000 in
theorem rni_n1l3 (s X : ByteArray) (i E c0 V : Nat) (hiE : i < E) (hE : E ≤ s.size) (hs : s.size ≤ 65536) (hX : s.extract i E = X) (hXs : X.size = E - i) (hgo : ∀ p, i ≤ p → p < E → pDigit (bt s p) = true) (hc0 : bt X 0 = c0) (hn : E < s.size) (hnd : pDigit (bt s E) = false) (hz1 : ¬ 1 < X.size) (h1 : s.size ≤ E + 1) (hD : Digs X) (hV : wor X X.size = V) (hm : ¬ 576460752303423487 < V) (w : World) : Calls Tryz.prog 57 #[.string s, .int .i64 (i : Int)] w fun e w' => e = .returned (.tuple #[.agg #[.int .i64 (3), .string (⟨#[]⟩), .int .i64 ((V : Nat)), .float .f64 (0), .int .i64 ((i : Int))], .int .i64 (E : Int), .int .i64 0]) ∧ Below w.heap.size w w' := by
  have i6 : (0 : Int) ≤ (i : Int) := by omega
  have hb0 : ∀ h, (X[0]'h).toNat = c0 := fun h => by rw [at_byte, hc0]
  have z1 : ¬ (1 : Int) < (X.size : Int) := by omega
  have r1 : (s.size : Int) ≤ (E : Int) + 1 := by omega
  have o1 : ¬ (18 : Int) < (X.size : Int) := by omega
  have cW := rwhole_any X hD (by omega)
  rw [hV] at cW
  have o2 : ¬ (576460752303423487 : Int) < (V : Int) := by omega
  go_enter Tryz.func57, Tryz.ntmps57
  go_wp2_with fail
  go_loopg [7] (E - i) (fun gf s7 wx => ∃ p : Nat, s7 = .int .i64 (p : Int) ∧ i ≤ p ∧ p + gf = E ∧ wx = wbox w)
  case atStart => exact ⟨i, rfl, Nat.le_refl _, by omega, rfl⟩
  case round =>
    obtain ⟨p, rfl, hip, hgf, hwx⟩ := hrel
    obtain rfl := hwx.symm
    by_cases hpE : p < E
    · obtain ⟨g', rfl⟩ : ∃ g', gk = g' + 1 := ⟨gk - 1, by omega⟩
      have i0 : (0 : Int) ≤ (p : Int) := by omega
      have i1 : (p : Int) < (s.size : Int) := by omega
      have hb := fun h => at_byte s p h
      have cD := rdigit_any (bt s p)
      rw [hgo p hip hpE] at cD
      go_wp2_with (first | (go_at_call 56; refine (cD _).mono ?_; rintro e w' ⟨rfl, hw'⟩; obtain rfl := hw'.symm))
      go_roundg g'
      case measure => omega
      case rel => exact ⟨p + 1, by simp, by omega, by omega, rfl⟩
    · obtain rfl : p = E := by omega
      have i0 : (0 : Int) ≤ (p : Int) := by omega
      have i1 : (p : Int) < (s.size : Int) := by omega
      have i4 : (i : Int) ≤ (p : Int) := by omega
      have hb := fun h => at_byte s p h
      have cD := rdigit_any (bt s p)
      rw [hnd] at cD
      go_wp2_with (first | (go_at_call 56; refine (cD _).mono ?_; rintro e w' ⟨rfl, hw'⟩; obtain rfl := hw'.symm) | (go_at_call 82; refine (cW _).mono ?_; rintro e w' ⟨rfl, hw'⟩; obtain rfl := hw'.symm))
      all_goals exact bodyPost_ret (v := .tuple #[.agg #[.int .i64 (3), .string (⟨#[]⟩), .int .i64 ((V : Nat)), .float .f64 (0), .int .i64 ((i : Int))], .int .i64 (p : Int), .int .i64 0]) (by simp [results, Tryz.results57, go_sem]) rfl ⟨rfl, by (repeat (first | exact Below.refl _ _ | assumption | refine Below.drew ?_ | refine below_drewN ?_ _ | refine Below.setCell ?_ (by simp) _ | refine Below.alloc ?_ (by (first | exact Nat.le_refl _ | (simp; done) | (simp; omega) | omega)) _ | refine Below.trans ?_ (Below.mono (by assumption) (by first | exact Nat.le_refl _ | (simp; done) | (simp; omega) | omega))))⟩

set_option maxHeartbeats 1000000 in
set_option maxRecDepth 100000 in
theorem rni_n1c1 (s X : ByteArray) (i E c0 : Nat) (hiE : i < E) (hE : E ≤ s.size) (hs : s.size ≤ 65536) (hX : s.extract i E = X) (hXs : X.size = E - i) (hgo : ∀ p, i ≤ p → p < E → pDigit (bt s p) = true) (hc0 : bt X 0 = c0) (hn : E < s.size) (hnd : pDigit (bt s E) = false) (hz2 : c0 ≠ 48) (h1 : s.size ≤ E + 1) (ho : 18 < X.size) (w : World) : Calls Tryz.prog 57 #[.string s, .int .i64 (i : Int)] w fun e w' => e = .returned (.tuple #[.agg #[.int .i64 (0), .string (⟨#[]⟩), .int .i64 (0), .float .f64 (0), .int .i64 (0)], .int .i64 0, .int .i64 22]) ∧ Below w.heap.size w w' := by
  have i6 : (0 : Int) ≤ (i : Int) := by omega
  have hb0 : ∀ h, (X[0]'h).toNat = c0 := fun h => by rw [at_byte, hc0]
  have z2 : ((c0 : Int) == 48) = false := by simp; omega
  have r1 : (s.size : Int) ≤ (E : Int) + 1 := by omega
  have o1 : (18 : Int) < (X.size : Int) := by omega
  go_enter Tryz.func57, Tryz.ntmps57
  go_wp2_with fail
  go_loopg [7] (E - i) (fun gf s7 wx => ∃ p : Nat, s7 = .int .i64 (p : Int) ∧ i ≤ p ∧ p + gf = E ∧ wx = wbox w)
  case atStart => exact ⟨i, rfl, Nat.le_refl _, by omega, rfl⟩
  case round =>
    obtain ⟨p, rfl, hip, hgf, hwx⟩ := hrel
    obtain rfl := hwx.symm
    by_cases hpE : p < E
    · obtain ⟨g', rfl⟩ : ∃ g', gk = g' + 1 := ⟨gk - 1, by omega⟩
      have i0 : (0 : Int) ≤ (p : Int) := by omega
      have i1 : (p : Int) < (s.size : Int) := by omega
      have hb := fun h => at_byte s p h
      have cD := rdigit_any (bt s p)
      rw [hgo p hip hpE] at cD
      go_wp2_with (first | (go_at_call 56; refine (cD _).mono ?_; rintro e w' ⟨rfl, hw'⟩; obtain rfl := hw'.symm))
      go_roundg g'
      case measure => omega
      case rel => exact ⟨p + 1, by simp, by omega, by omega, rfl⟩
    · obtain rfl : p = E := by omega
      have i0 : (0 : Int) ≤ (p : Int) := by omega
      have i1 : (p : Int) < (s.size : Int) := by omega
      have i4 : (i : Int) ≤ (p : Int) := by omega
      have hb := fun h => at_byte s p h
      have cD := rdigit_any (bt s p)
      rw [hnd] at cD
      go_wp2_with (first | (go_at_call 56; refine (cD _).mono ?_; rintro e w' ⟨rfl, hw'⟩; obtain rfl := hw'.symm))
      all_goals exact bodyPost_ret (v := .tuple #[.agg #[.int .i64 (0), .string (⟨#[]⟩), .int .i64 (0), .float .f64 (0), .int .i64 (0)], .int .i64 0, .int .i64 22]) (by simp [results, Tryz.results57, go_sem]) rfl ⟨rfl, by (repeat (first | exact Below.refl _ _ | assumption | refine Below.drew ?_ | refine below_drewN ?_ _ | refine Below.setCell ?_ (by simp) _ | refine Below.alloc ?_ (by (first | exact Nat.le_refl _ | (simp; done) | (simp; omega) | omega)) _ | refine Below.trans ?_ (Below.mono (by assumption) (by first | exact Nat.le_refl _ | (simp; done) | (simp; omega) | omega))))⟩

set_option maxHeartbeats 1000000 in
set_option maxRecDepth 100000 in
theorem rni_n1c2 (s X : ByteArray) (i E c0 V : Nat) (hiE : i < E) (hE : E ≤ s.size) (hs : s.size ≤ 65536) (hX : s.extract i E = X) (hXs : X.size = E - i) (hgo : ∀ p, i ≤ p → p < E → pDigit (bt s p) = true) (hc0 : bt X 0 = c0) (hn : E < s.size) (hnd : pDigit (bt s E) = false) (hz2 : c0 ≠ 48) (h1 : s.size ≤ E + 1) (hD : Digs X) (ho : ¬ 18 < X.size) (hV : wor X X.size = V) (hm : 576460752303423487 < V) (w : World) : Calls Tryz.prog 57 #[.string s, .int .i64 (i : Int)] w fun e w' => e = .returned (.tuple #[.agg #[.int .i64 (0), .string (⟨#[]⟩), .int .i64 (0), .float .f64 (0), .int .i64 (0)], .int .i64 0, .int .i64 22]) ∧ Below w.heap.size w w' := by
  have i6 : (0 : Int) ≤ (i : Int) := by omega
  have hb0 : ∀ h, (X[0]'h).toNat = c0 := fun h => by rw [at_byte, hc0]
  have z2 : ((c0 : Int) == 48) = false := by simp; omega
  have r1 : (s.size : Int) ≤ (E : Int) + 1 := by omega
  have o1 : ¬ (18 : Int) < (X.size : Int) := by omega
  have cW := rwhole_any X hD (by omega)
  rw [hV] at cW
  have o2 : (576460752303423487 : Int) < (V : Int) := by omega
  go_enter Tryz.func57, Tryz.ntmps57
  go_wp2_with fail
  go_loopg [7] (E - i) (fun gf s7 wx => ∃ p : Nat, s7 = .int .i64 (p : Int) ∧ i ≤ p ∧ p + gf = E ∧ wx = wbox w)
  case atStart => exact ⟨i, rfl, Nat.le_refl _, by omega, rfl⟩
  case round =>
    obtain ⟨p, rfl, hip, hgf, hwx⟩ := hrel
    obtain rfl := hwx.symm
    by_cases hpE : p < E
    · obtain ⟨g', rfl⟩ : ∃ g', gk = g' + 1 := ⟨gk - 1, by omega⟩
      have i0 : (0 : Int) ≤ (p : Int) := by omega
      have i1 : (p : Int) < (s.size : Int) := by omega
      have hb := fun h => at_byte s p h
      have cD := rdigit_any (bt s p)
      rw [hgo p hip hpE] at cD
      go_wp2_with (first | (go_at_call 56; refine (cD _).mono ?_; rintro e w' ⟨rfl, hw'⟩; obtain rfl := hw'.symm))
      go_roundg g'
      case measure => omega
      case rel => exact ⟨p + 1, by simp, by omega, by omega, rfl⟩
    · obtain rfl : p = E := by omega
      have i0 : (0 : Int) ≤ (p : Int) := by omega
      have i1 : (p : Int) < (s.size : Int) := by omega
      have i4 : (i : Int) ≤ (p : Int) := by omega
      have hb := fun h => at_byte s p h
      have cD := rdigit_any (bt s p)
      rw [hnd] at cD
      go_wp2_with (first | (go_at_call 56; refine (cD _).mono ?_; rintro e w' ⟨rfl, hw'⟩; obtain rfl := hw'.symm) | (go_at_call 82; refine (cW _).mono ?_; rintro e w' ⟨rfl, hw'⟩; obtain rfl := hw'.symm))
      all_goals exact bodyPost_ret (v := .tuple #[.agg #[.int .i64 (0), .string (⟨#[]⟩), .int .i64 (0), .float .f64 (0), .int .i64 (0)], .int .i64 0, .int .i64 22]) (by simp [results, Tryz.results57, go_sem]) rfl ⟨rfl, by (repeat (first | exact Below.refl _ _ | assumption | refine Below.drew ?_ | refine below_drewN ?_ _ | refine Below.setCell ?_ (by simp) _ | refine Below.alloc ?_ (by (first | exact Nat.le_refl _ | (simp; done) | (simp; omega) | omega)) _ | refine Below.trans ?_ (Below.mono (by assumption) (by first | exact Nat.le_refl _ | (simp; done) | (simp; omega) | omega))))⟩

set_option maxHeartbeats 1000000 in
set_option maxRecDepth 100000 in
theorem rni_n1c3 (s X : ByteArray) (i E c0 V : Nat) (hiE : i < E) (hE : E ≤ s.size) (hs : s.size ≤ 65536) (hX : s.extract i E = X) (hXs : X.size = E - i) (hgo : ∀ p, i ≤ p → p < E → pDigit (bt s p) = true) (hc0 : bt X 0 = c0) (hn : E < s.size) (hnd : pDigit (bt s E) = false) (hz2 : c0 ≠ 48) (h1 : s.size ≤ E + 1) (hD : Digs X) (ho : ¬ 18 < X.size) (hV : wor X X.size = V) (hm : ¬ 576460752303423487 < V) (w : World) : Calls Tryz.prog 57 #[.string s, .int .i64 (i : Int)] w fun e w' => e = .returned (.tuple #[.agg #[.int .i64 (3), .string (⟨#[]⟩), .int .i64 ((V : Nat)), .float .f64 (0), .int .i64 ((i : Int))], .int .i64 (E : Int), .int .i64 0]) ∧ Below w.heap.size w w' := by
  have i6 : (0 : Int) ≤ (i : Int) := by omega
  have hb0 : ∀ h, (X[0]'h).toNat = c0 := fun h => by rw [at_byte, hc0]
  have z2 : ((c0 : Int) == 48) = false := by simp; omega
  have r1 : (s.size : Int) ≤ (E : Int) + 1 := by omega
  have o1 : ¬ (18 : Int) < (X.size : Int) := by omega
  have cW := rwhole_any X hD (by omega)
  rw [hV] at cW
  have o2 : ¬ (576460752303423487 : Int) < (V : Int) := by omega
  go_enter Tryz.func57, Tryz.ntmps57
  go_wp2_with fail
  go_loopg [7] (E - i) (fun gf s7 wx => ∃ p : Nat, s7 = .int .i64 (p : Int) ∧ i ≤ p ∧ p + gf = E ∧ wx = wbox w)
  case atStart => exact ⟨i, rfl, Nat.le_refl _, by omega, rfl⟩
  case round =>
    obtain ⟨p, rfl, hip, hgf, hwx⟩ := hrel
    obtain rfl := hwx.symm
    by_cases hpE : p < E
    · obtain ⟨g', rfl⟩ : ∃ g', gk = g' + 1 := ⟨gk - 1, by omega⟩
      have i0 : (0 : Int) ≤ (p : Int) := by omega
      have i1 : (p : Int) < (s.size : Int) := by omega
      have hb := fun h => at_byte s p h
      have cD := rdigit_any (bt s p)
      rw [hgo p hip hpE] at cD
      go_wp2_with (first | (go_at_call 56; refine (cD _).mono ?_; rintro e w' ⟨rfl, hw'⟩; obtain rfl := hw'.symm))
      go_roundg g'
      case measure => omega
      case rel => exact ⟨p + 1, by simp, by omega, by omega, rfl⟩
    · obtain rfl : p = E := by omega
      have i0 : (0 : Int) ≤ (p : Int) := by omega
      have i1 : (p : Int) < (s.size : Int) := by omega
      have i4 : (i : Int) ≤ (p : Int) := by omega
      have hb := fun h => at_byte s p h
      have cD := rdigit_any (bt s p)
      rw [hnd] at cD
      go_wp2_with (first | (go_at_call 56; refine (cD _).mono ?_; rintro e w' ⟨rfl, hw'⟩; obtain rfl := hw'.symm) | (go_at_call 82; refine (cW _).mono ?_; rintro e w' ⟨rfl, hw'⟩; obtain rfl := hw'.symm))
      all_goals exact bodyPost_ret (v := .tuple #[.agg #[.int .i64 (3), .string (⟨#[]⟩), .int .i64 ((V : Nat)), .float .f64 (0), .int .i64 ((i : Int))], .int .i64 (p : Int), .int .i64 0]) (by simp [results, Tryz.results57, go_sem]) rfl ⟨rfl, by (repeat (first | exact Below.refl _ _ | assumption | refine Below.drew ?_ | refine below_drewN ?_ _ | refine Below.setCell ?_ (by simp) _ | refine Below.alloc ?_ (by (first | exact Nat.le_refl _ | (simp; done) | (simp; omega) | omega)) _ | refine Below.trans ?_ (Below.mono (by assumption) (by first | exact Nat.le_refl _ | (simp; done) | (simp; omega) | omega))))⟩

set_option maxHeartbeats 1000000 in
set_option maxRecDepth 100000 in
theorem rni_n2l3 (s X : ByteArray) (i E c0 V : Nat) (hiE : i < E) (hE : E ≤ s.size) (hs : s.size ≤ 65536) (hX : s.extract i E = X) (hXs : X.size = E - i) (hgo : ∀ p, i ≤ p → p < E → pDigit (bt s p) = true) (hc0 : bt X 0 = c0) (hn : E < s.size) (hnd : pDigit (bt s E) = false) (hz1 : ¬ 1 < X.size) (h1 : ¬ s.size ≤ E + 1) (h2 : bt s E ≠ 46) (hD : Digs X) (hV : wor X X.size = V) (hm : ¬ 576460752303423487 < V) (w : World) : Calls Tryz.prog 57 #[.string s, .int .i64 (i : Int)] w fun e w' => e = .returned (.tuple #[.agg #[.int .i64 (3), .string (⟨#[]⟩), .int .i64 ((V : Nat)), .float .f64 (0), .int .i64 ((i : Int))], .int .i64 (E : Int), .int .i64 0]) ∧ Below w.heap.size w w' := by
  have i6 : (0 : Int) ≤ (i : Int) := by omega
  have hb0 : ∀ h, (X[0]'h).toNat = c0 := fun h => by rw [at_byte, hc0]
  have z1 : ¬ (1 : Int) < (X.size : Int) := by omega
  have r1 : ¬ (s.size : Int) ≤ (E : Int) + 1 := by omega
  have r2 : ((bt s E : Int) != 46) = true := by simp; omega
  have r3 : ((bt s E : Int) == 46) = false := by simp; omega
  have o1 : ¬ (18 : Int) < (X.size : Int) := by omega
  have cW := rwhole_any X hD (by omega)
  rw [hV] at cW
  have o2 : ¬ (576460752303423487 : Int) < (V : Int) := by omega
  go_enter Tryz.func57, Tryz.ntmps57
  go_wp2_with fail
  go_loopg [7] (E - i) (fun gf s7 wx => ∃ p : Nat, s7 = .int .i64 (p : Int) ∧ i ≤ p ∧ p + gf = E ∧ wx = wbox w)
  case atStart => exact ⟨i, rfl, Nat.le_refl _, by omega, rfl⟩
  case round =>
    obtain ⟨p, rfl, hip, hgf, hwx⟩ := hrel
    obtain rfl := hwx.symm
    by_cases hpE : p < E
    · obtain ⟨g', rfl⟩ : ∃ g', gk = g' + 1 := ⟨gk - 1, by omega⟩
      have i0 : (0 : Int) ≤ (p : Int) := by omega
      have i1 : (p : Int) < (s.size : Int) := by omega
      have hb := fun h => at_byte s p h
      have cD := rdigit_any (bt s p)
      rw [hgo p hip hpE] at cD
      go_wp2_with (first | (go_at_call 56; refine (cD _).mono ?_; rintro e w' ⟨rfl, hw'⟩; obtain rfl := hw'.symm))
      go_roundg g'
      case measure => omega
      case rel => exact ⟨p + 1, by simp, by omega, by omega, rfl⟩
    · obtain rfl : p = E := by omega
      have i0 : (0 : Int) ≤ (p : Int) := by omega
      have i1 : (p : Int) < (s.size : Int) := by omega
      have i4 : (i : Int) ≤ (p : Int) := by omega
      have hb := fun h => at_byte s p h
      have cD := rdigit_any (bt s p)
      rw [hnd] at cD
      go_wp2_with (first | (go_at_call 56; refine (cD _).mono ?_; rintro e w' ⟨rfl, hw'⟩; obtain rfl := hw'.symm) | (go_at_call 82; refine (cW _).mono ?_; rintro e w' ⟨rfl, hw'⟩; obtain rfl := hw'.symm))
      all_goals exact bodyPost_ret (v := .tuple #[.agg #[.int .i64 (3), .string (⟨#[]⟩), .int .i64 ((V : Nat)), .float .f64 (0), .int .i64 ((i : Int))], .int .i64 (p : Int), .int .i64 0]) (by simp [results, Tryz.results57, go_sem]) rfl ⟨rfl, by (repeat (first | exact Below.refl _ _ | assumption | refine Below.drew ?_ | refine below_drewN ?_ _ | refine Below.setCell ?_ (by simp) _ | refine Below.alloc ?_ (by (first | exact Nat.le_refl _ | (simp; done) | (simp; omega) | omega)) _ | refine Below.trans ?_ (Below.mono (by assumption) (by first | exact Nat.le_refl _ | (simp; done) | (simp; omega) | omega))))⟩

set_option maxHeartbeats 1000000 in
set_option maxRecDepth 100000 in
theorem rni_n2c1 (s X : ByteArray) (i E c0 : Nat) (hiE : i < E) (hE : E ≤ s.size) (hs : s.size ≤ 65536) (hX : s.extract i E = X) (hXs : X.size = E - i) (hgo : ∀ p, i ≤ p → p < E → pDigit (bt s p) = true) (hc0 : bt X 0 = c0) (hn : E < s.size) (hnd : pDigit (bt s E) = false) (hz2 : c0 ≠ 48) (h1 : ¬ s.size ≤ E + 1) (h2 : bt s E ≠ 46) (ho : 18 < X.size) (w : World) : Calls Tryz.prog 57 #[.string s, .int .i64 (i : Int)] w fun e w' => e = .returned (.tuple #[.agg #[.int .i64 (0), .string (⟨#[]⟩), .int .i64 (0), .float .f64 (0), .int .i64 (0)], .int .i64 0, .int .i64 22]) ∧ Below w.heap.size w w' := by
  have i6 : (0 : Int) ≤ (i : Int) := by omega
  have hb0 : ∀ h, (X[0]'h).toNat = c0 := fun h => by rw [at_byte, hc0]
  have z2 : ((c0 : Int) == 48) = false := by simp; omega
  have r1 : ¬ (s.size : Int) ≤ (E : Int) + 1 := by omega
  have r2 : ((bt s E : Int) != 46) = true := by simp; omega
  have r3 : ((bt s E : Int) == 46) = false := by simp; omega
  have o1 : (18 : Int) < (X.size : Int) := by omega
  go_enter Tryz.func57, Tryz.ntmps57
  go_wp2_with fail
  go_loopg [7] (E - i) (fun gf s7 wx => ∃ p : Nat, s7 = .int .i64 (p : Int) ∧ i ≤ p ∧ p + gf = E ∧ wx = wbox w)
  case atStart => exact ⟨i, rfl, Nat.le_refl _, by omega, rfl⟩
  case round =>
    obtain ⟨p, rfl, hip, hgf, hwx⟩ := hrel
    obtain rfl := hwx.symm
    by_cases hpE : p < E
    · obtain ⟨g', rfl⟩ : ∃ g', gk = g' + 1 := ⟨gk - 1, by omega⟩
      have i0 : (0 : Int) ≤ (p : Int) := by omega
      have i1 : (p : Int) < (s.size : Int) := by omega
      have hb := fun h => at_byte s p h
      have cD := rdigit_any (bt s p)
      rw [hgo p hip hpE] at cD
      go_wp2_with (first | (go_at_call 56; refine (cD _).mono ?_; rintro e w' ⟨rfl, hw'⟩; obtain rfl := hw'.symm))
      go_roundg g'
      case measure => omega
      case rel => exact ⟨p + 1, by simp, by omega, by omega, rfl⟩
    · obtain rfl : p = E := by omega
      have i0 : (0 : Int) ≤ (p : Int) := by omega
      have i1 : (p : Int) < (s.size : Int) := by omega
      have i4 : (i : Int) ≤ (p : Int) := by omega
      have hb := fun h => at_byte s p h
      have cD := rdigit_any (bt s p)
      rw [hnd] at cD
      go_wp2_with (first | (go_at_call 56; refine (cD _).mono ?_; rintro e w' ⟨rfl, hw'⟩; obtain rfl := hw'.symm))
      all_goals exact bodyPost_ret (v := .tuple #[.agg #[.int .i64 (0), .string (⟨#[]⟩), .int .i64 (0), .float .f64 (0), .int .i64 (0)], .int .i64 0, .int .i64 22]) (by simp [results, Tryz.results57, go_sem]) rfl ⟨rfl, by (repeat (first | exact Below.refl _ _ | assumption | refine Below.drew ?_ | refine below_drewN ?_ _ | refine Below.setCell ?_ (by simp) _ | refine Below.alloc ?_ (by (first | exact Nat.le_refl _ | (simp; done) | (simp; omega) | omega)) _ | refine Below.trans ?_ (Below.mono (by assumption) (by first | exact Nat.le_refl _ | (simp; done) | (simp; omega) | omega))))⟩

set_option maxHeartbeats 1000000 in
set_option maxRecDepth 100000 in
theorem rni_n2c2 (s X : ByteArray) (i E c0 V : Nat) (hiE : i < E) (hE : E ≤ s.size) (hs : s.size ≤ 65536) (hX : s.extract i E = X) (hXs : X.size = E - i) (hgo : ∀ p, i ≤ p → p < E → pDigit (bt s p) = true) (hc0 : bt X 0 = c0) (hn : E < s.size) (hnd : pDigit (bt s E) = false) (hz2 : c0 ≠ 48) (h1 : ¬ s.size ≤ E + 1) (h2 : bt s E ≠ 46) (hD : Digs X) (ho : ¬ 18 < X.size) (hV : wor X X.size = V) (hm : 576460752303423487 < V) (w : World) : Calls Tryz.prog 57 #[.string s, .int .i64 (i : Int)] w fun e w' => e = .returned (.tuple #[.agg #[.int .i64 (0), .string (⟨#[]⟩), .int .i64 (0), .float .f64 (0), .int .i64 (0)], .int .i64 0, .int .i64 22]) ∧ Below w.heap.size w w' := by
  have i6 : (0 : Int) ≤ (i : Int) := by omega
  have hb0 : ∀ h, (X[0]'h).toNat = c0 := fun h => by rw [at_byte, hc0]
  have z2 : ((c0 : Int) == 48) = false := by simp; omega
  have r1 : ¬ (s.size : Int) ≤ (E : Int) + 1 := by omega
  have r2 : ((bt s E : Int) != 46) = true := by simp; omega
  have r3 : ((bt s E : Int) == 46) = false := by simp; omega
  have o1 : ¬ (18 : Int) < (X.size : Int) := by omega
  have cW := rwhole_any X hD (by omega)
  rw [hV] at cW
  have o2 : (576460752303423487 : Int) < (V : Int) := by omega
  go_enter Tryz.func57, Tryz.ntmps57
  go_wp2_with fail
  go_loopg [7] (E - i) (fun gf s7 wx => ∃ p : Nat, s7 = .int .i64 (p : Int) ∧ i ≤ p ∧ p + gf = E ∧ wx = wbox w)
  case atStart => exact ⟨i, rfl, Nat.le_refl _, by omega, rfl⟩
  case round =>
    obtain ⟨p, rfl, hip, hgf, hwx⟩ := hrel
    obtain rfl := hwx.symm
    by_cases hpE : p < E
    · obtain ⟨g', rfl⟩ : ∃ g', gk = g' + 1 := ⟨gk - 1, by omega⟩
      have i0 : (0 : Int) ≤ (p : Int) := by omega
      have i1 : (p : Int) < (s.size : Int) := by omega
      have hb := fun h => at_byte s p h
      have cD := rdigit_any (bt s p)
      rw [hgo p hip hpE] at cD
      go_wp2_with (first | (go_at_call 56; refine (cD _).mono ?_; rintro e w' ⟨rfl, hw'⟩; obtain rfl := hw'.symm))
      go_roundg g'
      case measure => omega
      case rel => exact ⟨p + 1, by simp, by omega, by omega, rfl⟩
    · obtain rfl : p = E := by omega
      have i0 : (0 : Int) ≤ (p : Int) := by omega
      have i1 : (p : Int) < (s.size : Int) := by omega
      have i4 : (i : Int) ≤ (p : Int) := by omega
      have hb := fun h => at_byte s p h
      have cD := rdigit_any (bt s p)
      rw [hnd] at cD
      go_wp2_with (first | (go_at_call 56; refine (cD _).mono ?_; rintro e w' ⟨rfl, hw'⟩; obtain rfl := hw'.symm) | (go_at_call 82; refine (cW _).mono ?_; rintro e w' ⟨rfl, hw'⟩; obtain rfl := hw'.symm))
      all_goals exact bodyPost_ret (v := .tuple #[.agg #[.int .i64 (0), .string (⟨#[]⟩), .int .i64 (0), .float .f64 (0), .int .i64 (0)], .int .i64 0, .int .i64 22]) (by simp [results, Tryz.results57, go_sem]) rfl ⟨rfl, by (repeat (first | exact Below.refl _ _ | assumption | refine Below.drew ?_ | refine below_drewN ?_ _ | refine Below.setCell ?_ (by simp) _ | refine Below.alloc ?_ (by (first | exact Nat.le_refl _ | (simp; done) | (simp; omega) | omega)) _ | refine Below.trans ?_ (Below.mono (by assumption) (by first | exact Nat.le_refl _ | (simp; done) | (simp; omega) | omega))))⟩

set_option maxHeartbeats 1000000 in
set_option maxRecDepth 100000 in
theorem rni_n2c3 (s X : ByteArray) (i E c0 V : Nat) (hiE : i < E) (hE : E ≤ s.size) (hs : s.size ≤ 65536) (hX : s.extract i E = X) (hXs : X.size = E - i) (hgo : ∀ p, i ≤ p → p < E → pDigit (bt s p) = true) (hc0 : bt X 0 = c0) (hn : E < s.size) (hnd : pDigit (bt s E) = false) (hz2 : c0 ≠ 48) (h1 : ¬ s.size ≤ E + 1) (h2 : bt s E ≠ 46) (hD : Digs X) (ho : ¬ 18 < X.size) (hV : wor X X.size = V) (hm : ¬ 576460752303423487 < V) (w : World) : Calls Tryz.prog 57 #[.string s, .int .i64 (i : Int)] w fun e w' => e = .returned (.tuple #[.agg #[.int .i64 (3), .string (⟨#[]⟩), .int .i64 ((V : Nat)), .float .f64 (0), .int .i64 ((i : Int))], .int .i64 (E : Int), .int .i64 0]) ∧ Below w.heap.size w w' := by
  have i6 : (0 : Int) ≤ (i : Int) := by omega
  have hb0 : ∀ h, (X[0]'h).toNat = c0 := fun h => by rw [at_byte, hc0]
  have z2 : ((c0 : Int) == 48) = false := by simp; omega
  have r1 : ¬ (s.size : Int) ≤ (E : Int) + 1 := by omega
  have r2 : ((bt s E : Int) != 46) = true := by simp; omega
  have r3 : ((bt s E : Int) == 46) = false := by simp; omega
  have o1 : ¬ (18 : Int) < (X.size : Int) := by omega
  have cW := rwhole_any X hD (by omega)
  rw [hV] at cW
  have o2 : ¬ (576460752303423487 : Int) < (V : Int) := by omega
  go_enter Tryz.func57, Tryz.ntmps57
  go_wp2_with fail
  go_loopg [7] (E - i) (fun gf s7 wx => ∃ p : Nat, s7 = .int .i64 (p : Int) ∧ i ≤ p ∧ p + gf = E ∧ wx = wbox w)
  case atStart => exact ⟨i, rfl, Nat.le_refl _, by omega, rfl⟩
  case round =>
    obtain ⟨p, rfl, hip, hgf, hwx⟩ := hrel
    obtain rfl := hwx.symm
    by_cases hpE : p < E
    · obtain ⟨g', rfl⟩ : ∃ g', gk = g' + 1 := ⟨gk - 1, by omega⟩
      have i0 : (0 : Int) ≤ (p : Int) := by omega
      have i1 : (p : Int) < (s.size : Int) := by omega
      have hb := fun h => at_byte s p h
      have cD := rdigit_any (bt s p)
      rw [hgo p hip hpE] at cD
      go_wp2_with (first | (go_at_call 56; refine (cD _).mono ?_; rintro e w' ⟨rfl, hw'⟩; obtain rfl := hw'.symm))
      go_roundg g'
      case measure => omega
      case rel => exact ⟨p + 1, by simp, by omega, by omega, rfl⟩
    · obtain rfl : p = E := by omega
      have i0 : (0 : Int) ≤ (p : Int) := by omega
      have i1 : (p : Int) < (s.size : Int) := by omega
      have i4 : (i : Int) ≤ (p : Int) := by omega
      have hb := fun h => at_byte s p h
      have cD := rdigit_any (bt s p)
      rw [hnd] at cD
      go_wp2_with (first | (go_at_call 56; refine (cD _).mono ?_; rintro e w' ⟨rfl, hw'⟩; obtain rfl := hw'.symm) | (go_at_call 82; refine (cW _).mono ?_; rintro e w' ⟨rfl, hw'⟩; obtain rfl := hw'.symm))
      all_goals exact bodyPost_ret (v := .tuple #[.agg #[.int .i64 (3), .string (⟨#[]⟩), .int .i64 ((V : Nat)), .float .f64 (0), .int .i64 ((i : Int))], .int .i64 (p : Int), .int .i64 0]) (by simp [results, Tryz.results57, go_sem]) rfl ⟨rfl, by (repeat (first | exact Below.refl _ _ | assumption | refine Below.drew ?_ | refine below_drewN ?_ _ | refine Below.setCell ?_ (by simp) _ | refine Below.alloc ?_ (by (first | exact Nat.le_refl _ | (simp; done) | (simp; omega) | omega)) _ | refine Below.trans ?_ (Below.mono (by assumption) (by first | exact Nat.le_refl _ | (simp; done) | (simp; omega) | omega))))⟩

end Go.Proofs.YthdljnakmekhkaaGreatDoor


/- The reference's numbers that are whole, or none. -/
namespace Go.Proofs.YthdljnakmekhkaaGreatDoor
open Go.RowKit Go.Lib
attribute [local go_sem] store_float f64bits
attribute [local go_sem ↓] Go.wp_at_zero Go.wp_at_succ

set_option maxHeartbeats 1000000 in
set_option maxRecDepth 100000 in
theorem rni_n3l3 (s X : ByteArray) (i E c0 V : Nat) (hiE : i < E) (hE : E ≤ s.size) (hs : s.size ≤ 65536) (hX : s.extract i E = X) (hXs : X.size = E - i) (hgo : ∀ p, i ≤ p → p < E → pDigit (bt s p) = true) (hc0 : bt X 0 = c0) (hn : E < s.size) (hnd : pDigit (bt s E) = false) (hz1 : ¬ 1 < X.size) (h1 : ¬ s.size ≤ E + 1) (h2 : bt s E = 46) (h3 : pDigit (bt s (E + 1)) = false) (hD : Digs X) (hV : wor X X.size = V) (hm : ¬ 576460752303423487 < V) (w : World) : Calls Tryz.prog 57 #[.string s, .int .i64 (i : Int)] w fun e w' => e = .returned (.tuple #[.agg #[.int .i64 (3), .string (⟨#[]⟩), .int .i64 ((V : Nat)), .float .f64 (0), .int .i64 ((i : Int))], .int .i64 (E : Int), .int .i64 0]) ∧ Below w.heap.size w w' := by
  have i6 : (0 : Int) ≤ (i : Int) := by omega
  have hb0 : ∀ h, (X[0]'h).toNat = c0 := fun h => by rw [at_byte, hc0]
  have z1 : ¬ (1 : Int) < (X.size : Int) := by omega
  have r1 : ¬ (s.size : Int) ≤ (E : Int) + 1 := by omega
  have cD3 := rdigit_any (bt s (E + 1))
  rw [h3] at cD3
  have hb3 : ∀ h, (s[E + 1]'h).toNat = bt s (E + 1) := fun h => at_byte s (E + 1) h
  have hb4 : ∀ h, (s[((E : Int) + 1).toNat]'h).toNat = bt s (E + 1) := fun h => by rw [← at_byte s (E + 1) (by omega)]; congr 1
  have hw3 : (E : Int) + 1 < (s.size : Int) := by omega
  have o1 : ¬ (18 : Int) < (X.size : Int) := by omega
  have cW := rwhole_any X hD (by omega)
  rw [hV] at cW
  have o2 : ¬ (576460752303423487 : Int) < (V : Int) := by omega
  go_enter Tryz.func57, Tryz.ntmps57
  go_wp2_with fail
  go_loopg [7] (E - i) (fun gf s7 wx => ∃ p : Nat, s7 = .int .i64 (p : Int) ∧ i ≤ p ∧ p + gf = E ∧ wx = wbox w)
  case atStart => exact ⟨i, rfl, Nat.le_refl _, by omega, rfl⟩
  case round =>
    obtain ⟨p, rfl, hip, hgf, hwx⟩ := hrel
    obtain rfl := hwx.symm
    by_cases hpE : p < E
    · obtain ⟨g', rfl⟩ : ∃ g', gk = g' + 1 := ⟨gk - 1, by omega⟩
      have i0 : (0 : Int) ≤ (p : Int) := by omega
      have i1 : (p : Int) < (s.size : Int) := by omega
      have hb := fun h => at_byte s p h
      have cD := rdigit_any (bt s p)
      rw [hgo p hip hpE] at cD
      go_wp2_with (first | (go_at_call 56; refine (cD _).mono ?_; rintro e w' ⟨rfl, hw'⟩; obtain rfl := hw'.symm))
      go_roundg g'
      case measure => omega
      case rel => exact ⟨p + 1, by simp, by omega, by omega, rfl⟩
    · obtain rfl : p = E := by omega
      have i0 : (0 : Int) ≤ (p : Int) := by omega
      have i1 : (p : Int) < (s.size : Int) := by omega
      have i4 : (i : Int) ≤ (p : Int) := by omega
      have hb := fun h => at_byte s p h
      have cD := rdigit_any (bt s p)
      rw [hnd] at cD
      rw [h2] at cD
      simp only [h2] at hb
      go_wp2_with (first | (go_at_call 56; refine (cD _).mono ?_; rintro e w' ⟨rfl, hw'⟩; obtain rfl := hw'.symm; clear cD) | (go_at_call 56; refine (cD3 _).mono ?_; rintro e w' ⟨rfl, hw'⟩; obtain rfl := hw'.symm; clear cD3) | (go_at_call 82; refine (cW _).mono ?_; rintro e w' ⟨rfl, hw'⟩; obtain rfl := hw'.symm))
      all_goals exact bodyPost_ret (v := .tuple #[.agg #[.int .i64 (3), .string (⟨#[]⟩), .int .i64 ((V : Nat)), .float .f64 (0), .int .i64 ((i : Int))], .int .i64 (p : Int), .int .i64 0]) (by simp [results, Tryz.results57, go_sem]) rfl ⟨rfl, by (repeat (first | exact Below.refl _ _ | assumption | refine Below.drew ?_ | refine below_drewN ?_ _ | refine Below.setCell ?_ (by simp) _ | refine Below.alloc ?_ (by (first | exact Nat.le_refl _ | (simp; done) | (simp; omega) | omega)) _ | refine Below.trans ?_ (Below.mono (by assumption) (by first | exact Nat.le_refl _ | (simp; done) | (simp; omega) | omega))))⟩

set_option maxHeartbeats 1000000 in
set_option maxRecDepth 100000 in
theorem rni_n3c1 (s X : ByteArray) (i E c0 : Nat) (hiE : i < E) (hE : E ≤ s.size) (hs : s.size ≤ 65536) (hX : s.extract i E = X) (hXs : X.size = E - i) (hgo : ∀ p, i ≤ p → p < E → pDigit (bt s p) = true) (hc0 : bt X 0 = c0) (hn : E < s.size) (hnd : pDigit (bt s E) = false) (hz2 : c0 ≠ 48) (h1 : ¬ s.size ≤ E + 1) (h2 : bt s E = 46) (h3 : pDigit (bt s (E + 1)) = false) (ho : 18 < X.size) (w : World) : Calls Tryz.prog 57 #[.string s, .int .i64 (i : Int)] w fun e w' => e = .returned (.tuple #[.agg #[.int .i64 (0), .string (⟨#[]⟩), .int .i64 (0), .float .f64 (0), .int .i64 (0)], .int .i64 0, .int .i64 22]) ∧ Below w.heap.size w w' := by
  have i6 : (0 : Int) ≤ (i : Int) := by omega
  have hb0 : ∀ h, (X[0]'h).toNat = c0 := fun h => by rw [at_byte, hc0]
  have z2 : ((c0 : Int) == 48) = false := by simp; omega
  have r1 : ¬ (s.size : Int) ≤ (E : Int) + 1 := by omega
  have cD3 := rdigit_any (bt s (E + 1))
  rw [h3] at cD3
  have hb3 : ∀ h, (s[E + 1]'h).toNat = bt s (E + 1) := fun h => at_byte s (E + 1) h
  have hb4 : ∀ h, (s[((E : Int) + 1).toNat]'h).toNat = bt s (E + 1) := fun h => by rw [← at_byte s (E + 1) (by omega)]; congr 1
  have hw3 : (E : Int) + 1 < (s.size : Int) := by omega
  have o1 : (18 : Int) < (X.size : Int) := by omega
  go_enter Tryz.func57, Tryz.ntmps57
  go_wp2_with fail
  go_loopg [7] (E - i) (fun gf s7 wx => ∃ p : Nat, s7 = .int .i64 (p : Int) ∧ i ≤ p ∧ p + gf = E ∧ wx = wbox w)
  case atStart => exact ⟨i, rfl, Nat.le_refl _, by omega, rfl⟩
  case round =>
    obtain ⟨p, rfl, hip, hgf, hwx⟩ := hrel
    obtain rfl := hwx.symm
    by_cases hpE : p < E
    · obtain ⟨g', rfl⟩ : ∃ g', gk = g' + 1 := ⟨gk - 1, by omega⟩
      have i0 : (0 : Int) ≤ (p : Int) := by omega
      have i1 : (p : Int) < (s.size : Int) := by omega
      have hb := fun h => at_byte s p h
      have cD := rdigit_any (bt s p)
      rw [hgo p hip hpE] at cD
      go_wp2_with (first | (go_at_call 56; refine (cD _).mono ?_; rintro e w' ⟨rfl, hw'⟩; obtain rfl := hw'.symm))
      go_roundg g'
      case measure => omega
      case rel => exact ⟨p + 1, by simp, by omega, by omega, rfl⟩
    · obtain rfl : p = E := by omega
      have i0 : (0 : Int) ≤ (p : Int) := by omega
      have i1 : (p : Int) < (s.size : Int) := by omega
      have i4 : (i : Int) ≤ (p : Int) := by omega
      have hb := fun h => at_byte s p h
      have cD := rdigit_any (bt s p)
      rw [hnd] at cD
      rw [h2] at cD
      simp only [h2] at hb
      go_wp2_with (first | (go_at_call 56; refine (cD _).mono ?_; rintro e w' ⟨rfl, hw'⟩; obtain rfl := hw'.symm; clear cD) | (go_at_call 56; refine (cD3 _).mono ?_; rintro e w' ⟨rfl, hw'⟩; obtain rfl := hw'.symm; clear cD3))
      all_goals exact bodyPost_ret (v := .tuple #[.agg #[.int .i64 (0), .string (⟨#[]⟩), .int .i64 (0), .float .f64 (0), .int .i64 (0)], .int .i64 0, .int .i64 22]) (by simp [results, Tryz.results57, go_sem]) rfl ⟨rfl, by (repeat (first | exact Below.refl _ _ | assumption | refine Below.drew ?_ | refine below_drewN ?_ _ | refine Below.setCell ?_ (by simp) _ | refine Below.alloc ?_ (by (first | exact Nat.le_refl _ | (simp; done) | (simp; omega) | omega)) _ | refine Below.trans ?_ (Below.mono (by assumption) (by first | exact Nat.le_refl _ | (simp; done) | (simp; omega) | omega))))⟩

set_option maxHeartbeats 1000000 in
set_option maxRecDepth 100000 in
theorem rni_n3c2 (s X : ByteArray) (i E c0 V : Nat) (hiE : i < E) (hE : E ≤ s.size) (hs : s.size ≤ 65536) (hX : s.extract i E = X) (hXs : X.size = E - i) (hgo : ∀ p, i ≤ p → p < E → pDigit (bt s p) = true) (hc0 : bt X 0 = c0) (hn : E < s.size) (hnd : pDigit (bt s E) = false) (hz2 : c0 ≠ 48) (h1 : ¬ s.size ≤ E + 1) (h2 : bt s E = 46) (h3 : pDigit (bt s (E + 1)) = false) (hD : Digs X) (ho : ¬ 18 < X.size) (hV : wor X X.size = V) (hm : 576460752303423487 < V) (w : World) : Calls Tryz.prog 57 #[.string s, .int .i64 (i : Int)] w fun e w' => e = .returned (.tuple #[.agg #[.int .i64 (0), .string (⟨#[]⟩), .int .i64 (0), .float .f64 (0), .int .i64 (0)], .int .i64 0, .int .i64 22]) ∧ Below w.heap.size w w' := by
  have i6 : (0 : Int) ≤ (i : Int) := by omega
  have hb0 : ∀ h, (X[0]'h).toNat = c0 := fun h => by rw [at_byte, hc0]
  have z2 : ((c0 : Int) == 48) = false := by simp; omega
  have r1 : ¬ (s.size : Int) ≤ (E : Int) + 1 := by omega
  have cD3 := rdigit_any (bt s (E + 1))
  rw [h3] at cD3
  have hb3 : ∀ h, (s[E + 1]'h).toNat = bt s (E + 1) := fun h => at_byte s (E + 1) h
  have hb4 : ∀ h, (s[((E : Int) + 1).toNat]'h).toNat = bt s (E + 1) := fun h => by rw [← at_byte s (E + 1) (by omega)]; congr 1
  have hw3 : (E : Int) + 1 < (s.size : Int) := by omega
  have o1 : ¬ (18 : Int) < (X.size : Int) := by omega
  have cW := rwhole_any X hD (by omega)
  rw [hV] at cW
  have o2 : (576460752303423487 : Int) < (V : Int) := by omega
  go_enter Tryz.func57, Tryz.ntmps57
  go_wp2_with fail
  go_loopg [7] (E - i) (fun gf s7 wx => ∃ p : Nat, s7 = .int .i64 (p : Int) ∧ i ≤ p ∧ p + gf = E ∧ wx = wbox w)
  case atStart => exact ⟨i, rfl, Nat.le_refl _, by omega, rfl⟩
  case round =>
    obtain ⟨p, rfl, hip, hgf, hwx⟩ := hrel
    obtain rfl := hwx.symm
    by_cases hpE : p < E
    · obtain ⟨g', rfl⟩ : ∃ g', gk = g' + 1 := ⟨gk - 1, by omega⟩
      have i0 : (0 : Int) ≤ (p : Int) := by omega
      have i1 : (p : Int) < (s.size : Int) := by omega
      have hb := fun h => at_byte s p h
      have cD := rdigit_any (bt s p)
      rw [hgo p hip hpE] at cD
      go_wp2_with (first | (go_at_call 56; refine (cD _).mono ?_; rintro e w' ⟨rfl, hw'⟩; obtain rfl := hw'.symm))
      go_roundg g'
      case measure => omega
      case rel => exact ⟨p + 1, by simp, by omega, by omega, rfl⟩
    · obtain rfl : p = E := by omega
      have i0 : (0 : Int) ≤ (p : Int) := by omega
      have i1 : (p : Int) < (s.size : Int) := by omega
      have i4 : (i : Int) ≤ (p : Int) := by omega
      have hb := fun h => at_byte s p h
      have cD := rdigit_any (bt s p)
      rw [hnd] at cD
      rw [h2] at cD
      simp only [h2] at hb
      go_wp2_with (first | (go_at_call 56; refine (cD _).mono ?_; rintro e w' ⟨rfl, hw'⟩; obtain rfl := hw'.symm; clear cD) | (go_at_call 56; refine (cD3 _).mono ?_; rintro e w' ⟨rfl, hw'⟩; obtain rfl := hw'.symm; clear cD3) | (go_at_call 82; refine (cW _).mono ?_; rintro e w' ⟨rfl, hw'⟩; obtain rfl := hw'.symm))
      all_goals exact bodyPost_ret (v := .tuple #[.agg #[.int .i64 (0), .string (⟨#[]⟩), .int .i64 (0), .float .f64 (0), .int .i64 (0)], .int .i64 0, .int .i64 22]) (by simp [results, Tryz.results57, go_sem]) rfl ⟨rfl, by (repeat (first | exact Below.refl _ _ | assumption | refine Below.drew ?_ | refine below_drewN ?_ _ | refine Below.setCell ?_ (by simp) _ | refine Below.alloc ?_ (by (first | exact Nat.le_refl _ | (simp; done) | (simp; omega) | omega)) _ | refine Below.trans ?_ (Below.mono (by assumption) (by first | exact Nat.le_refl _ | (simp; done) | (simp; omega) | omega))))⟩

set_option maxHeartbeats 1000000 in
set_option maxRecDepth 100000 in
theorem rni_n3c3 (s X : ByteArray) (i E c0 V : Nat) (hiE : i < E) (hE : E ≤ s.size) (hs : s.size ≤ 65536) (hX : s.extract i E = X) (hXs : X.size = E - i) (hgo : ∀ p, i ≤ p → p < E → pDigit (bt s p) = true) (hc0 : bt X 0 = c0) (hn : E < s.size) (hnd : pDigit (bt s E) = false) (hz2 : c0 ≠ 48) (h1 : ¬ s.size ≤ E + 1) (h2 : bt s E = 46) (h3 : pDigit (bt s (E + 1)) = false) (hD : Digs X) (ho : ¬ 18 < X.size) (hV : wor X X.size = V) (hm : ¬ 576460752303423487 < V) (w : World) : Calls Tryz.prog 57 #[.string s, .int .i64 (i : Int)] w fun e w' => e = .returned (.tuple #[.agg #[.int .i64 (3), .string (⟨#[]⟩), .int .i64 ((V : Nat)), .float .f64 (0), .int .i64 ((i : Int))], .int .i64 (E : Int), .int .i64 0]) ∧ Below w.heap.size w w' := by
  have i6 : (0 : Int) ≤ (i : Int) := by omega
  have hb0 : ∀ h, (X[0]'h).toNat = c0 := fun h => by rw [at_byte, hc0]
  have z2 : ((c0 : Int) == 48) = false := by simp; omega
  have r1 : ¬ (s.size : Int) ≤ (E : Int) + 1 := by omega
  have cD3 := rdigit_any (bt s (E + 1))
  rw [h3] at cD3
  have hb3 : ∀ h, (s[E + 1]'h).toNat = bt s (E + 1) := fun h => at_byte s (E + 1) h
  have hb4 : ∀ h, (s[((E : Int) + 1).toNat]'h).toNat = bt s (E + 1) := fun h => by rw [← at_byte s (E + 1) (by omega)]; congr 1
  have hw3 : (E : Int) + 1 < (s.size : Int) := by omega
  have o1 : ¬ (18 : Int) < (X.size : Int) := by omega
  have cW := rwhole_any X hD (by omega)
  rw [hV] at cW
  have o2 : ¬ (576460752303423487 : Int) < (V : Int) := by omega
  go_enter Tryz.func57, Tryz.ntmps57
  go_wp2_with fail
  go_loopg [7] (E - i) (fun gf s7 wx => ∃ p : Nat, s7 = .int .i64 (p : Int) ∧ i ≤ p ∧ p + gf = E ∧ wx = wbox w)
  case atStart => exact ⟨i, rfl, Nat.le_refl _, by omega, rfl⟩
  case round =>
    obtain ⟨p, rfl, hip, hgf, hwx⟩ := hrel
    obtain rfl := hwx.symm
    by_cases hpE : p < E
    · obtain ⟨g', rfl⟩ : ∃ g', gk = g' + 1 := ⟨gk - 1, by omega⟩
      have i0 : (0 : Int) ≤ (p : Int) := by omega
      have i1 : (p : Int) < (s.size : Int) := by omega
      have hb := fun h => at_byte s p h
      have cD := rdigit_any (bt s p)
      rw [hgo p hip hpE] at cD
      go_wp2_with (first | (go_at_call 56; refine (cD _).mono ?_; rintro e w' ⟨rfl, hw'⟩; obtain rfl := hw'.symm))
      go_roundg g'
      case measure => omega
      case rel => exact ⟨p + 1, by simp, by omega, by omega, rfl⟩
    · obtain rfl : p = E := by omega
      have i0 : (0 : Int) ≤ (p : Int) := by omega
      have i1 : (p : Int) < (s.size : Int) := by omega
      have i4 : (i : Int) ≤ (p : Int) := by omega
      have hb := fun h => at_byte s p h
      have cD := rdigit_any (bt s p)
      rw [hnd] at cD
      rw [h2] at cD
      simp only [h2] at hb
      go_wp2_with (first | (go_at_call 56; refine (cD _).mono ?_; rintro e w' ⟨rfl, hw'⟩; obtain rfl := hw'.symm; clear cD) | (go_at_call 56; refine (cD3 _).mono ?_; rintro e w' ⟨rfl, hw'⟩; obtain rfl := hw'.symm; clear cD3) | (go_at_call 82; refine (cW _).mono ?_; rintro e w' ⟨rfl, hw'⟩; obtain rfl := hw'.symm))
      all_goals exact bodyPost_ret (v := .tuple #[.agg #[.int .i64 (3), .string (⟨#[]⟩), .int .i64 ((V : Nat)), .float .f64 (0), .int .i64 ((i : Int))], .int .i64 (p : Int), .int .i64 0]) (by simp [results, Tryz.results57, go_sem]) rfl ⟨rfl, by (repeat (first | exact Below.refl _ _ | assumption | refine Below.drew ?_ | refine below_drewN ?_ _ | refine Below.setCell ?_ (by simp) _ | refine Below.alloc ?_ (by (first | exact Nat.le_refl _ | (simp; done) | (simp; omega) | omega)) _ | refine Below.trans ?_ (Below.mono (by assumption) (by first | exact Nat.le_refl _ | (simp; done) | (simp; omega) | omega))))⟩

end Go.Proofs.YthdljnakmekhkaaGreatDoor


