import Derived.Test.YtdpfmmbfidknfaaGreatDoorG21
import Derived.Test.YtdpfmmbfidknfaaGreatDoorG20
/- The reference's tokens, given its token. -/
namespace Go.Proofs.YtdpfmmbfidknfaaGreatDoor
open Go.RowKit Go.Lib
attribute [local go_sem] store_float f64bits
attribute [local go_sem ↓] Go.wp_at_zero Go.wp_at_succ

theorem rV_err (k : Int) (x : ByteArray) (n : Int) (f : Nat) (er : Int) (he : er ≠ 0) (i E : Nat) : rV (.tuple #[.agg #[.int .i64 (k), .string (x), .int .i64 (n), .float .f64 (f), .int .i64 (0)], .int .i64 er]) i E = .tuple #[.agg #[.int .i64 (0), .string (⟨#[]⟩), .int .i64 (0), .float .f64 (0), .int .i64 (0)], .int .i64 0, .int .i64 er] := by
  show (if er = 0 then _ else _) = _
  rw [if_neg he]

theorem toks_at (s : ByteArray) (k p : Nat) (done : List Tk) (hp : p < s.size) (hb : pBlank (bt s p) = false) (h37 : bt s p ≠ 37) : toks s (k + 1) p done = layT s k p done := by
  have h : goes pBlank s p = p := goes_stop hb
  simp only [toks, h, hp, if_true, h37, if_false, layT]
theorem toks_end (s : ByteArray) (k p : Nat) (done : List Tk) (hp : s.size ≤ p) : toks s (k + 1) p done = .inl (done ++ [⟨8, ⟨#[]⟩, 0, 0, p⟩]) := by
  have h : goes pBlank s p = p := goes_end hp
  have h2 : ¬ p < s.size := by omega
  simp only [toks, h, h2, if_false]

end Go.Proofs.YtdpfmmbfidknfaaGreatDoor


/- Digits as lists; sources that are a single float. -/
namespace Go.Proofs.YtdpfmmbfidknfaaGreatDoor
open Go.RowKit Go.Lib

/-- What digits of sixteen are worth. -/
def hvz : List UInt8 → Nat → Option Nat
  | [], u => some u
  | c :: l, u => (hexd c.toNat).bind fun d => hvz l (u * 16 + d)

theorem hv_snoc (l : List UInt8) (c : UInt8) : ∀ u, hvz (l ++ [c]) u = (hvz l u).bind fun v => (hexd c.toNat).map fun d => v * 16 + d := by
  induction l with
  | nil => intro u; simp only [List.nil_append, hvz, Option.bind_some]; cases hexd c.toNat <;> rfl
  | cons a l ih =>
    intro u
    simp only [List.cons_append, hvz]
    cases hexd a.toNat with
    | none => rfl
    | some d => simp only [Option.bind_some]; exact ih _

theorem hexN_hv (s : ByteArray) : ∀ (l : List UInt8) (p u : Nat), (∀ j (h : j < l.length), bt s (p + j) = (l[j]).toNat) → p + l.length ≤ s.size → hexN s l.length p u = hvz l u := by
  intro l
  induction l with
  | nil => intros; rfl
  | cons c l ih =>
    intro p u hb hs
    have h0 := hb 0 (by simp)
    have h1 : hexAt s p = hexd c.toNat := by
      unfold hexAt
      rw [if_pos (by simp at hs; omega)]
      exact congrArg hexd h0
    simp only [List.length_cons, hexN, hvz]
    rw [h1]
    cases hexd c.toNat with
    | none => rfl
    | some d =>
      simp only [Option.bind_some]
      refine ih (p + 1) (u * 16 + d) (fun j hj => ?_) (by simp at hs; omega)
      have := hb (j + 1) (by simpa using hj)
      rw [show p + 1 + j = p + (j + 1) by omega, this]
      rfl

theorem bt_mk (l : List UInt8) (i : Nat) (h : i < l.length) : bt ⟨l.toArray⟩ i = (l[i]).toNat := by
  unfold bt
  rw [get_of_lt _ i (by exact h)]
  rfl

/-- '#' and sixteen digits. -/
theorem allT_hash (S : ByteArray) (u : Nat) (hS : S.size = 17) (h0 : bt S 0 = 35) (hx : hexN S 16 1 0 = some u) :
    allT S = if Flt.fin u = true then .inl [⟨4, ⟨#[]⟩, 0, u, 0⟩, ⟨8, ⟨#[]⟩, 0, 0, 17⟩] else .inr (22, 0) := by
  have tv : tokV S 0 = bitsV S 0 := by unfold tokV; rw [h0]; rfl
  have te : tokE S 0 = 17 := by unfold tokE; rw [h0]; rfl
  have bv : bitsV S 0 = if Flt.fin u = true then .tuple #[.agg #[.int .i64 (4), .string (⟨#[]⟩), .int .i64 (0), .float .f64 (u), .int .i64 (0)], .int .i64 0] else badV 22 := by
    unfold bitsV
    rw [hx]
  unfold allT
  rw [if_neg (by omega), hS, toks_at S 17 0 [] (by omega) (by rw [h0]; rfl) (by omega)]
  unfold layT
  rw [tv, te, bv]
  cases Flt.fin u with
  | false => rfl
  | true =>
    simp only [if_true]
    show toks S 17 17 _ = _
    rw [toks_end S 16 17 _ (by omega)]
    rfl

/-- What digits are worth. -/
def wl : List UInt8 → Nat
  | [] => 0
  | c :: l => (c.toNat - 48) * 10 ^ l.length + wl l

theorem wl_append (a b : List UInt8) : wl (a ++ b) = wl a * 10 ^ b.length + wl b := by
  induction a with
  | nil => simp [wl]
  | cons c l ih =>
    simp only [List.cons_append, wl, ih, List.length_append, Nat.pow_add, Nat.add_mul, Nat.mul_assoc, Nat.add_assoc]

theorem wor_wl (D : ByteArray) (l : List UInt8) (h : ∀ j (hj : j < l.length), bt D j = (l[j]).toNat) : ∀ k, k ≤ l.length → wor D k = wl (l.take k) := by
  intro k
  induction k with
  | zero => intro _; rfl
  | succ k ih =>
    intro hk
    rw [List.take_add_one, wl_append, List.getElem?_eq_getElem (by omega)]
    simp only [wor, ih (by omega), h k (by omega), Option.toList_some, List.length_singleton, wl, List.length_nil]
    omega

/-- Digits, a point, digits. -/
theorem allT_dec (S : ByteArray) (n k V : Nat) (hn : 1 ≤ n) (hk : 1 ≤ k) (hnk : n + k ≤ 15) (hS : S.size = n + 1 + k) (hd : ∀ j, j < n → pDigit (bt S j) = true) (hp : bt S n = 46) (he : ∀ j, j < k → pDigit (bt S (n + 1 + j)) = true) (hz : n = 1 ∨ bt S 0 ≠ 48) (hV : wor (S.extract 0 n ++ S.extract (n + 1) (n + 1 + k)) (n + k) = V) :
    allT S = .inl [⟨4, ⟨#[]⟩, 0, fq V k, 0⟩, ⟨8, ⟨#[]⟩, 0, 0, n + 1 + k⟩] := by
  have d0 := hd 0 hn
  have g1 : goes pDigit S 0 = n := by
    have := goes_past pDigit S 0 n (by omega) (fun j hj => by rw [Nat.zero_add]; exact hd j hj)
    rw [this, Nat.zero_add]
    exact goes_stop (by rw [hp]; rfl)
  have g2 : goes pDigit S (n + 1) = n + 1 + k := by
    rw [goes_past pDigit S (n + 1) k (by omega) he]
    exact goes_end (by omega)
  have fo : fracOk S n = true := by
    unfold fracOk
    have := he 0 hk
    simp only [Nat.add_zero] at this
    simp [hp, this]
    omega
  have fe : fracEnd S n = n + 1 + k := by unfold fracEnd; rw [if_pos fo, g2]
  have fs : fracS S n = S.extract (n + 1) (n + 1 + k) := by unfold fracS; rw [if_pos fo, g2]
  have s1 : (S.extract 0 n).size = n := by rw [size_ext]; omega
  have s2 : (S.extract (n + 1) (n + 1 + k)).size = k := by rw [size_ext]; omega
  have s3 : (S.extract 0 n ++ S.extract (n + 1) (n + 1 + k)).size = n + k := by rw [ByteArray.size_append, s1, s2]
  have nv : numV S 0 = .tuple #[.agg #[.int .i64 (4), .string (⟨#[]⟩), .int .i64 (0), .float .f64 (fq V k), .int .i64 (0)], .int .i64 0] := by
    unfold numV
    rw [g1, fs, s1, s2, bt_ext2 S 0 n 0 (by omega) (by omega), Nat.zero_add, if_neg (by omega), if_neg (by omega)]
    unfold floatV
    rw [s3, s2, hV, if_neg (by omega)]
  have c0 : bt S 0 < 58 ∧ 48 ≤ bt S 0 := by simp [pDigit] at d0; omega
  have n1 : ¬ pSmall (bt S 0) = true := by simp [pSmall]; omega
  have n2 : ¬ (pCapital (bt S 0) = true ∨ bt S 0 = 95) := by simp [pCapital]; omega
  have tv : tokV S 0 = numV S 0 := by unfold tokV; rw [if_neg n1, if_neg n2, if_pos d0]
  have te : tokE S 0 = n + 1 + k := by unfold tokE; rw [if_neg n1, if_neg n2, if_pos d0, g1, fe]
  unfold allT
  rw [if_neg (by omega), hS, toks_at S (n + 1 + k) 0 [] (by omega) (by simp [pBlank]; omega) (by omega)]
  unfold layT
  rw [tv, te, nv]
  show toks S (n + 1 + k) (n + 1 + k) _ = _
  rw [show n + 1 + k = (n + k) + 1 by omega, toks_end S (n + k) _ _ (by omega)]
  rfl

/-- A word that is the nearest to a number is itself. -/
theorem word_self (s : Bool) (r : Nat) (h : r ≤ 9218868437227405312) : Ieee.double.order (Ieee.double.word s r) (Ieee.double.word s r) = some .eq := by
  have hb : ∀ d : Ieee.Datum, d.isNaN = false → d.order d = some .eq := by
    intro d hd
    cases d with
    | number a m p => simp only [Ieee.Datum.order, Std.ReflCmp.compare_self]
    | infinity a => simp only [Ieee.Datum.order, Std.ReflCmp.compare_self]
    | nan a t => cases hd
  refine hb _ ?_
  unfold Ieee.Format.read Ieee.Format.word
  have e1 : Ieee.double.signWeight = 9223372036854775808 := rfl
  have e2 : Ieee.double.binade = 4503599627370496 := rfl
  have e3 : Ieee.double.infRung = 9218868437227405312 := rfl
  simp only [e1, e2, e3]
  have em : (if s = true then 9223372036854775808 + r else r) % 9223372036854775808 = r := by
    cases s
    · simp; omega
    · simp; omega
  rw [em]
  split
  · rfl
  · split
    · rfl
    · rw [if_pos (by omega)]
      rfl

theorem nearest_self (s : Bool) (m : Nat) (p : Int) : Ieee.double.order (Ieee.double.nearest s m p) (Ieee.double.nearest s m p) = some .eq := by
  unfold Ieee.Format.nearest
  split
  · exact word_self s 0 (by omega)
  · exact word_self s _ (Nat.min_le_right _ _)

theorem fq_self (V k : Nat) (hV : V ≤ 1152921504606846976) (hk : k < 16) : Ieee.double.order (fq V k) (fq V k) = some .eq := by
  have h1 := fq_some V k hV hk
  obtain ⟨s, m, p, ha⟩ := near_read V hV
  obtain ⟨t, n, q, hb, hn⟩ := p10_read k _ (p10_at k hk)
  have h2 : Ieee.double.div (floatOfInt .f64 (V : Int)) (p10 k) = some (fq V k) := h1
  unfold Ieee.Format.div at h2
  rw [ha, hb] at h2
  simp only [Ieee.Datum.quotient, hn, if_false, Option.map_some, Option.some.injEq, Ieee.Format.write] at h2
  rw [← h2]
  exact nearest_self _ _ _

theorem p10s_0 : floatBits .mul .f64 (p10 0) 4621819117588971520 = some (p10 1) := by kernel_rfl
theorem p10s_1 : floatBits .mul .f64 (p10 1) 4621819117588971520 = some (p10 2) := by kernel_rfl
theorem p10s_2 : floatBits .mul .f64 (p10 2) 4621819117588971520 = some (p10 3) := by kernel_rfl
theorem p10s_3 : floatBits .mul .f64 (p10 3) 4621819117588971520 = some (p10 4) := by kernel_rfl
theorem p10s_4 : floatBits .mul .f64 (p10 4) 4621819117588971520 = some (p10 5) := by kernel_rfl
theorem p10s_5 : floatBits .mul .f64 (p10 5) 4621819117588971520 = some (p10 6) := by kernel_rfl
theorem p10s_6 : floatBits .mul .f64 (p10 6) 4621819117588971520 = some (p10 7) := by kernel_rfl
theorem p10s_7 : floatBits .mul .f64 (p10 7) 4621819117588971520 = some (p10 8) := by kernel_rfl
theorem p10s_8 : floatBits .mul .f64 (p10 8) 4621819117588971520 = some (p10 9) := by kernel_rfl
theorem p10s_9 : floatBits .mul .f64 (p10 9) 4621819117588971520 = some (p10 10) := by kernel_rfl
theorem p10s_10 : floatBits .mul .f64 (p10 10) 4621819117588971520 = some (p10 11) := by kernel_rfl
theorem p10s_11 : floatBits .mul .f64 (p10 11) 4621819117588971520 = some (p10 12) := by kernel_rfl
theorem p10_step (k : Nat) (hk : k < 12) : floatBits .mul .f64 (p10 k) 4621819117588971520 = some (p10 (k + 1)) := by
  match k, hk with
  | 0, _ => exact p10s_0
  | 1, _ => exact p10s_1
  | 2, _ => exact p10s_2
  | 3, _ => exact p10s_3
  | 4, _ => exact p10s_4
  | 5, _ => exact p10s_5
  | 6, _ => exact p10s_6
  | 7, _ => exact p10s_7
  | 8, _ => exact p10s_8
  | 9, _ => exact p10s_9
  | 10, _ => exact p10s_10
  | 11, _ => exact p10s_11
  | (k + 12), h => omega
end Go.Proofs.YtdpfmmbfidknfaaGreatDoor


