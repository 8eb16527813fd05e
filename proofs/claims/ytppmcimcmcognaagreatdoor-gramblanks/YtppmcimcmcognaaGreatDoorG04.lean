import Derived.Test.YtppmcimcmcognaaGreatDoorG03
import Derived.Test.YtppmcimcmcognaaGreatDoorG00
/- Digits: what they are worth. -/
namespace Go.Proofs.YtppmcimcmcognaaGreatDoor
open Go.RowKit Go.Lib
attribute [local go_sem] store_float f64bits
attribute [local go_sem ↓] Go.wp_at_zero Go.wp_at_succ

/-- What the first k digits are worth. -/
def wor (D : ByteArray) : Nat → Nat
  | 0 => 0
  | k + 1 => wor D k * 10 + (bt D k - 48)

def Digs (D : ByteArray) : Prop := ∀ j, j < D.size → pDigit (bt D j) = true

theorem wor_lt (D : ByteArray) (h : Digs D) : ∀ k, k ≤ D.size → wor D k < 10 ^ k := by
  intro k
  induction k with
  | zero => intro _; simp [wor]
  | succ k ih =>
    intro hk
    have h1 := ih (by omega)
    have h2 := h k (by omega)
    simp [pDigit] at h2
    simp only [wor, Nat.pow_succ]
    omega

theorem wor_lt18 (D : ByteArray) (h : Digs D) (hs : D.size ≤ 18) (k : Nat) (hk : k ≤ D.size) : wor D k < 1000000000000000000 := by
  have h1 := wor_lt D h k hk
  have h2 : 10 ^ k ≤ 10 ^ 18 := Nat.pow_le_pow_right (by omega) (by omega)
  omega

set_option maxHeartbeats 1000000 in
set_option maxRecDepth 1000000 in
theorem worth_any (D : ByteArray) (h : Digs D) (hs : D.size ≤ 18) (w : World) :
    Calls Tryz.prog 92 #[.string D] w fun e w' => e = .returned (.int .i64 (wor D D.size)) ∧ Below w.heap.size w w' := by
  have hb0 : Below w.heap.size w (w.iter D 0) := (Below.refl _ _).alloc (Nat.le_refl _) _
  have hit0 := World.iter_heap w D 0
  go_enter Tryz.func92, Tryz.ntmps92
  go_wp2_with fail
  go_loopg [3] D.size (fun gf s3 wx => ∃ pos, s3 = .int .i64 (wor D pos : Nat) ∧ wx.heap[w.heap.size]? = some (.stringIter D pos) ∧ Below w.heap.size w wx ∧ pos + gf = D.size)
  case atStart => exact ⟨0, rfl, hit0, hb0, by omega⟩
  case round =>
    obtain ⟨pos, rfl, hit, hbw, hgf⟩ := hrel
    by_cases hlt : pos < D.size
    · obtain ⟨g', rfl⟩ : ∃ g', gk = g' + 1 := ⟨gk - 1, by omega⟩
      have hd := h pos hlt
      simp [pDigit] at hd
      have hnx : ∀ ty, (Instr.next (.pointer (some ⟨w.heap.size, 0, none⟩)) true ty).run Tryz.prog wr = _ := fun ty => Lib.run_next_any_at wr w.heap.size D pos ty hit hlt
      rw [decode_low D pos (by omega)] at hnx
      have hit2 := Lib.iterAt_heap wr w.heap.size D pos (pos + 1) hit
      have hbw2 := Lib.below_iterAt hbw (k := w.heap.size) (Nat.le_refl _) D (pos + 1)
      simp only at hnx
      obtain ⟨W, hWd⟩ : ∃ W, wr.iterAt w.heap.size D (pos + 1) = W := ⟨_, rfl⟩
      rw [hWd] at hnx hit2 hbw2
      have hv : wor D pos < 100000000000000000 := by
        have h1 := wor_lt D h pos (by omega)
        have h2 : 10 ^ pos ≤ 10 ^ 17 := Nat.pow_le_pow_right (by omega) (by omega)
        omega
      have hsu : wor D (pos + 1) = wor D pos * 10 + (bt D pos - 48) := rfl
      obtain ⟨V, hV⟩ : ∃ V, wor D pos = V := ⟨_, rfl⟩
      obtain ⟨c, hc⟩ : ∃ c, bt D pos = c := ⟨_, rfl⟩
      rw [hV] at hv hsu ⊢
      rw [hc] at hd hsu hnx
      obtain ⟨X, hX⟩ : ∃ X : Int, (V : Int) = X := ⟨_, rfl⟩
      obtain ⟨Y, hY⟩ : ∃ Y : Int, (c : Int) = Y := ⟨_, rfl⟩
      rw [hX]
      rw [hY] at hnx
      have x0 : 0 ≤ X := by omega
      have x1 : X < 100000000000000000 := by omega
      have y0 : 48 ≤ Y := by omega
      have y1 : Y ≤ 57 := by omega
      have HR : Hid ((wor D (pos + 1) : Int) = X * 10 + (Y - 48)) := hidb (by omega)
      clear hWd hv hsu hX hY hd hV hc hit hbw
      go_wp2_with fail
      go_roundg g'
      case measure => omega
      case rel => exact ⟨pos + 1, by rw [HR.out], hit2, hbw2, by omega⟩
    · obtain rfl : pos = D.size := by omega
      have hnx : ∀ ty, (Instr.next (.pointer (some ⟨w.heap.size, 0, none⟩)) true ty).run Tryz.prog wr = _ := fun ty => Lib.run_next_end_at wr w.heap.size D D.size ty hit hlt
      go_wp2_with fail
      go_ret
      exact ⟨rfl, hbw⟩

/-- A digit of sixteen. -/
def hexd (b : Nat) : Option Nat := if pDigit b = true then some (b - 48) else if 97 ≤ b ∧ b ≤ 102 then some (b - 87) else none
def hexAt (s : ByteArray) (p : Nat) : Option Nat := if p < s.size then hexd (bt s p) else none
def hexN (s : ByteArray) : Nat → Nat → Nat → Option Nat
  | 0, _, u => some u
  | k + 1, p, u => (hexAt s p).bind fun d => hexN s k (p + 1) (u * 16 + d)

theorem hex_cases (s : ByteArray) (p : Nat) :
    (zDigit (nxR s p) = true ∧ p < s.size ∧ nxK s p = 1 ∧ 48 ≤ nxR s p ∧ nxR s p ≤ 57 ∧ hexAt s p = some (nxR s p - 48).toNat) ∨
    (zDigit (nxR s p) = false ∧ p < s.size ∧ nxK s p = 1 ∧ 97 ≤ nxR s p ∧ nxR s p ≤ 102 ∧ hexAt s p = some (nxR s p - 87).toNat) ∨
    (zDigit (nxR s p) = false ∧ ¬ (97 ≤ nxR s p) ∧ hexAt s p = none) ∨ (zDigit (nxR s p) = false ∧ 97 ≤ nxR s p ∧ ¬ (nxR s p ≤ 102) ∧ hexAt s p = none) := by
  rcases Nat.lt_or_ge p s.size with hl | hl
  · rcases Nat.lt_or_ge (bt s p) 128 with hb | hb
    · obtain ⟨h1, h2⟩ := nx_low hl hb
      rw [h1, h2, zDigit_nat]
      simp only [hexAt, hl, if_true, hexd]
      cases hd : pDigit (bt s p)
      · simp
        by_cases h97 : 97 ≤ bt s p
        · by_cases h102 : bt s p ≤ 102
          · left; refine ⟨by omega, by omega, by omega, by omega⟩
          · right; right; omega
        · right; left; omega
      · simp [pDigit] at hd
        left
        refine ⟨by first | rfl | trivial, by first | trivial | exact hl, by first | rfl | trivial, by omega, by omega, ?_⟩
        simp
        omega
    · obtain ⟨h1, h2, h3⟩ := nx_high hl hb
      right; right; right
      refine ⟨by simp [zDigit]; omega, by omega, by omega, ?_⟩
      simp only [hexAt, hl, if_true, hexd, flat_digit _ hb]
      simp; omega
  · obtain ⟨h1, h2⟩ := nx_end hl
    have hn : ¬ p < s.size := by omega
    right; right; left
    rw [h1]
    exact ⟨by decide, by decide, by simp [hexAt, hn]⟩

theorem or16 (k t : Int) (h0 : 0 ≤ k) (h1 : k < 1152921504606846976) (h2 : 0 ≤ t) (h3 : t < 16) : bits .or .u64 (k * 16) t = k * 16 + t := by
  obtain ⟨A, rfl⟩ := Int.eq_ofNat_of_zero_le h0
  obtain ⟨B, rfl⟩ := Int.eq_ofNat_of_zero_le h2
  have h := u64_or_nat (A * 16) B (by omega) (by omega)
  have e : A * 16 ||| B = A * 16 + B := by
    have := Nat.two_pow_add_eq_or_of_lt (i := 4) (b := B) (by omega) A
    rw [Nat.mul_comm A 16]
    exact this.symm
  rw [e] at h
  simpa using h

theorem hexN_none (s : ByteArray) (k p u : Nat) (h : hexAt s p = none) : hexN s (k + 1) p u = none := by simp [hexN, h]
theorem hexN_some (s : ByteArray) (k p u d : Nat) (h : hexAt s p = some d) : hexN s (k + 1) p u = hexN s k (p + 1) (u * 16 + d) := by simp [hexN, h]

set_option maxHeartbeats 1000000 in
set_option maxRecDepth 1000000 in
theorem hex_any (s : ByteArray) (i b n : Nat) (hn : n ≤ 16) (hi : i ≤ s.size) (hs : s.size ≤ 65536) (w : World) (h : Sc w b s i) (hT : Lib.Utf8Tabs G1 G2 w) (hb1 : b ≠ G1) (hb2 : b ≠ G2) :
    Calls Tryz.prog 72 #[.pointer (some ⟨b, 0, none⟩), .int .i64 (n : Int)] w fun e w' => e = .returned (.tuple #[.int .u64 ((hexN s n i 0).getD 0 : Nat), .bool (hexN s n i 0).isSome]) ∧ But (· = b) w w' ∧ ∃ j, i ≤ j ∧ j ≤ s.size ∧ Sc w' b s j ∧ ((hexN s n i 0).isSome = true → j = i + n) := by
  obtain ⟨o, ho⟩ : ∃ o, hexN s n i 0 = o := ⟨_, rfl⟩
  rw [ho]
  go_enter Tryz.func72, Tryz.ntmps72
  go_wp2_with fail
  go_loopg [6, 9] n (fun gf s6 s9 wx => ∃ m V : Nat, s6 = .int .u64 (V : Int) ∧ s9 = .int .i64 (m : Int) ∧ m + gf = n ∧ Sc wx b s (i + m) ∧ But (· = b) w wx ∧ hexN s gf (i + m) V = o ∧ V < 16 ^ m ∧ i + m ≤ s.size)
  case atStart => exact ⟨0, 0, rfl, rfl, by omega, h, But.refl _ _, ho, by simp, hi⟩
  case round =>
    obtain ⟨m, V, rfl, rfl, hgf, hsc, hbw, hx, hV, him⟩ := hrel
    have cN := next_any s (i + m) b him hs wr hsc (Utf8Tabs_but hT hbw (fun e => hb1 e.symm) (fun e => hb2 e.symm))
    have HN := hidb (nx_in s (i + m) him)
    by_cases hm : m < n
    · obtain ⟨g', rfl⟩ : ∃ g', gk = g' + 1 := ⟨gk - 1, by omega⟩
      have hlt : (m : Int) < (n : Int) := by omega
      have hV60 : V < 1152921504606846976 := by
        have h1 : 16 ^ m ≤ 16 ^ 15 := Nat.pow_le_pow_right (by omega) (by omega)
        omega
      have hcs := hex_cases s (i + m)
      obtain ⟨r, hr⟩ : ∃ r, nxR s (i + m) = r := ⟨_, rfl⟩
      rw [hr] at cN hcs
      have H16 : Hid (16 ^ (m + 1) = 16 ^ m * 16) := hidb (Nat.pow_succ _ _)
      obtain ⟨X, hX⟩ : ∃ X : Int, (V : Int) = X := ⟨_, rfl⟩
      have HX := hidb hX
      have x0 : 0 ≤ X := by omega
      have x1 : X < 1152921504606846976 := by omega
      have HV := hidb hV
      have HBW := hidb hbw
      have HXX := hidb hx
      rw [hX]
      have e1 : IntKind.u64.wrap (X * 16) = X * 16 := by rw [IntKind.wrap_u64]; omega
      clear hX hV60 hr hV hbw hx hsc h ho hT
      rcases hcs with ⟨hz, hp, hk, r0, r1, ha⟩ | ⟨hz, hp, hk, r0, r1, ha⟩ | ⟨hz, r0, ha⟩ | ⟨hz, r0, r1, ha⟩
      · rw [hk] at cN
        have HA := hidb (hexN_some s g' (i + m) V _ ha)
        have e2 := or16 X (r - 48) x0 x1 (by omega) (by omega)
        clear ha hk
        go_wp2_with (first | (go_at_call 65; refine cN.mono ?_; rintro e w1 ⟨rfl, hsc1, hbut1⟩; have HS1 := hidb hsc1; have HB1 := hidb hbut1) | (go_at_call 38; refine (isDigit_any _ _).mono ?_; rintro e w' ⟨rfl, hw'⟩; obtain rfl := hw'.symm; rw [hz]))
        have HJ := HX.out
        have HVV := HV.out
        have HPW := H16.out
        have HRR : (X * 16 + (r - 48)) = ((V * 16 + (r - 48).toNat : Nat) : Int) := by omega
        go_roundg g'
        case measure => omega
        case rel => exact ⟨m + 1, V * 16 + (r - 48).toNat, by rw [HRR], by simp, by omega, HS1.out, HBW.out.trans HB1.out, by rw [← HXX.out, HA.out]; rfl, by omega, by omega⟩
      · rw [hk] at cN
        have HA := hidb (hexN_some s g' (i + m) V _ ha)
        have e2 := or16 X (r - 87) x0 x1 (by omega) (by omega)
        have e3 : r - 97 + 10 = r - 87 := by omega
        clear ha hk
        go_wp2_with (first | (go_at_call 65; refine cN.mono ?_; rintro e w1 ⟨rfl, hsc1, hbut1⟩; have HS1 := hidb hsc1; have HB1 := hidb hbut1) | (go_at_call 38; refine (isDigit_any _ _).mono ?_; rintro e w' ⟨rfl, hw'⟩; obtain rfl := hw'.symm; rw [hz]))
        have HJ := HX.out
        have HVV := HV.out
        have HPW := H16.out
        have HRR : (X * 16 + (r - 87)) = ((V * 16 + (r - 87).toNat : Nat) : Int) := by omega
        go_roundg g'
        case measure => omega
        case rel => exact ⟨m + 1, V * 16 + (r - 87).toNat, by rw [HRR], by simp, by omega, HS1.out, HBW.out.trans HB1.out, by rw [← HXX.out, HA.out]; rfl, by omega, by omega⟩
      · have HO : Hid (none = o) := hidb (by rw [← HXX.out, hexN_none _ _ _ _ ha])
        clear ha
        go_wp2_with (first | (go_at_call 65; refine cN.mono ?_; rintro e w1 ⟨rfl, hsc1, hbut1⟩; have HS1 := hidb hsc1; have HB1 := hidb hbut1) | (go_at_call 38; refine (isDigit_any _ _).mono ?_; rintro e w' ⟨rfl, hw'⟩; obtain rfl := hw'.symm; rw [hz]))
        refine bodyPost_ret (v := .tuple #[.int .u64 0, .bool false]) (by simp [results, Tryz.results72, go_sem]) rfl ⟨by rw [← HO.out]; rfl, HBW.out.trans HB1.out, i + m + nxK s (i + m), by omega, HN.out, HS1.out, by rw [← HO.out]; intro h; cases h⟩
      · have HO : Hid (none = o) := hidb (by rw [← HXX.out, hexN_none _ _ _ _ ha])
        clear ha
        go_wp2_with (first | (go_at_call 65; refine cN.mono ?_; rintro e w1 ⟨rfl, hsc1, hbut1⟩; have HS1 := hidb hsc1; have HB1 := hidb hbut1) | (go_at_call 38; refine (isDigit_any _ _).mono ?_; rintro e w' ⟨rfl, hw'⟩; obtain rfl := hw'.symm; rw [hz]))
        refine bodyPost_ret (v := .tuple #[.int .u64 0, .bool false]) (by simp [results, Tryz.results72, go_sem]) rfl ⟨by rw [← HO.out]; rfl, HBW.out.trans HB1.out, i + m + nxK s (i + m), by omega, HN.out, HS1.out, by rw [← HO.out]; intro h; cases h⟩
    · obtain rfl : m = n := by omega
      obtain rfl : gk = 0 := by omega
      obtain rfl : some V = o := hx
      go_wp2_with fail
      exact bodyPost_ret (v := .tuple #[.int .u64 (V : Int), .bool true]) (by simp [results, Tryz.results72, go_sem]) rfl ⟨rfl, hbw, i + m, by omega, him, hsc, fun _ => rfl⟩
end Go.Proofs.YtppmcimcmcognaaGreatDoor


/- Small contracts of the program: how numbers are made, or refused, by the program. -/
namespace Go.Proofs.YtppmcimcmcognaaGreatDoor
open Go.RowKit
attribute [local go_sem] store_float

theorem isWhole_any (n : Int) (w : World) : Calls Tryz.prog 110 #[.int .i64 n] w fun e w' => e = .returned (.bool (whB n)) ∧ w' = w := by
  cases hb : whB n
  · rcases whB_no hb with h | h
    · clear hb
      go_enter Tryz.func110, Tryz.ntmps110
      go_wp2
      go_ret
      exact ⟨rfl, rfl⟩
    · have h2 : -576460752303423488 ≤ n := by omega
      clear hb
      go_enter Tryz.func110, Tryz.ntmps110
      go_wp2
      go_ret
      refine ⟨?_, rfl⟩
      simp
      omega
  · obtain ⟨h1, h2⟩ := whB_yes hb
    clear hb
    go_enter Tryz.func110, Tryz.ntmps110
    go_wp2
    go_ret
    refine ⟨?_, rfl⟩
    simp

theorem isFinite_any (u : Nat) (hu : u < 18446744073709551616) (w : World) : Calls Tryz.prog 94 #[.int .u64 u] w fun e w' => e = .returned (.bool (Flt.fin u)) ∧ w' = w := by
  have hx := Flt.and_exp u hu
  have hy := u64_and_nat u 9218868437227405312 hu (by decide)
  have hz : (bits .and .u64 (u : Int) 9218868437227405312 != 9218868437227405312) = Flt.fin u := by
    rw [show (9218868437227405312 : Int) = ((9218868437227405312 : Nat) : Int) from rfl, hy, Bool.eq_iff_iff]
    cases hf : Flt.fin u
    · have := hx.2 hf; rw [this]; simp
    · have : ¬ (u &&& 9218868437227405312 = 9218868437227405312) := fun h => by rw [hx.1 h] at hf; cases hf
      simp; omega
  clear hx hy
  go_enter Tryz.func94, Tryz.ntmps94
  go_wp2
  go_ret
  exact ⟨rfl, rfl⟩

theorem numInt_any (n : Int) (w : World) : Calls Tryz.prog 91 #[.int .i64 n] w fun e w' => e = .returned (.tuple #[.agg #[.int .i64 (numInt n).k, .int .i64 (numInt n).n, .float .f64 (numInt n).f, .string ⟨#[]⟩, .slice none 0 0], .int .i64 (numInt n).e]) ∧ Below w.heap.size w w' := by
  cases hb : whB n
  · have e : numInt n = ⟨0, 0, 0, 12⟩ := by simp [numInt, hb]
    rw [e]; clear e
    go_enter Tryz.func91, Tryz.ntmps91
    go_wp2_with (go_at_call 110; refine (isWhole_any _ _).mono ?_; rintro e w' ⟨rfl, rfl⟩)
    exact bodyPost_ret (v := .tuple #[.agg #[.int .i64 0, .int .i64 0, .float .f64 0, .string ⟨#[]⟩, .slice none 0 0], .int .i64 12]) (by simp [results, Tryz.results91, go_sem]) rfl ⟨rfl, (Below.refl _ _).alloc (Nat.le_refl _) _⟩
  · have e : numInt n = ⟨1, n, 0, 0⟩ := by simp [numInt, hb]
    rw [e]; clear e
    go_enter Tryz.func91, Tryz.ntmps91
    go_wp2_with (go_at_call 110; refine (isWhole_any _ _).mono ?_; rintro e w' ⟨rfl, rfl⟩)
    exact bodyPost_ret (v := .tuple #[.agg #[.int .i64 1, .int .i64 n, .float .f64 0, .string ⟨#[]⟩, .slice none 0 0], .int .i64 0]) (by simp [results, Tryz.results91, go_sem]) rfl ⟨rfl, (Below.refl _ _).alloc (Nat.le_refl _) _⟩

theorem numBits_any (u : Nat) (hu : u < 18446744073709551616) (w : World) : Calls Tryz.prog 73 #[.int .u64 u] w fun e w' => e = .returned (.tuple #[.agg #[.int .i64 (numBits u).k, .int .i64 (numBits u).n, .float .f64 (numBits u).f, .string ⟨#[]⟩, .slice none 0 0], .int .i64 (numBits u).e]) ∧ Below w.heap.size w w' := by
  have hf := f64frombits
  cases hb : Flt.fin u
  · have e : numBits u = ⟨0, 0, 0, 11⟩ := by simp [numBits, hb]
    rw [e]; clear e
    go_enter Tryz.func73, Tryz.ntmps73
    go_wp2_with (go_at_call 94; refine (isFinite_any _ hu _).mono ?_; rintro e w' ⟨rfl, rfl⟩)
    exact bodyPost_ret (v := .tuple #[.agg #[.int .i64 0, .int .i64 0, .float .f64 0, .string ⟨#[]⟩, .slice none 0 0], .int .i64 11]) (by simp [results, Tryz.results73, go_sem]) rfl ⟨rfl, (Below.refl _ _).alloc (Nat.le_refl _) _⟩
  · have e : numBits u = ⟨2, 0, u, 0⟩ := by simp [numBits, hb]
    rw [e]; clear e
    go_enter Tryz.func73, Tryz.ntmps73
    go_wp2_with (go_at_call 94; refine (isFinite_any _ hu _).mono ?_; rintro e w' ⟨rfl, rfl⟩)
    exact bodyPost_ret (v := .tuple #[.agg #[.int .i64 2, .int .i64 0, .float .f64 u, .string ⟨#[]⟩, .slice none 0 0], .int .i64 0]) (by simp [results, Tryz.results73, go_sem]) rfl ⟨rfl, (Below.refl _ _).alloc (Nat.le_refl _) _⟩

end Go.Proofs.YtppmcimcmcognaaGreatDoor


/- How numbers are made, or refused, by the document's own reckoning. -/
namespace Go.Proofs.YtppmcimcmcognaaGreatDoor
open Go.RowKit
attribute [local go_sem] store_float

theorem refFinite_any (x : Nat) (w : World) : Calls Tryz.prog 85 #[.float .f64 x] w fun e w' => e = .returned (.bool (Flt.fin x)) ∧ Below w.heap.size w w' := by
  cases hb : Flt.fin x
  · have hs := fun t w => sub_nan t x hb w
    have ho : ∀ t y, (FloatKind.f64.format.order (Flt.nanOf t) y) = none := fun t y => Flt.nanOf_order t y
    go_enter Tryz.func85, Tryz.ntmps85
    go_wp2
    go_ret
    exact ⟨rfl, (Below.refl _ _).drew⟩
  · have hs := fun t w => sub_fin t x hb w
    have ho : (FloatKind.f64.format.order 0 0) = some .eq := Flt.order_zero_zero
    go_enter Tryz.func85, Tryz.ntmps85
    go_wp2
    go_ret
    exact ⟨rfl, Below.refl _ _⟩

end Go.Proofs.YtppmcimcmcognaaGreatDoor


