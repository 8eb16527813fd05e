import Derived.Test.YtajadhkpadkikaaGreatDoorG18
import Derived.Test.YtajadhkpadkikaaGreatDoorG19
import Derived.Test.YtajadhkpadkikaaGreatDoorG16
/- Is a term right, all that it has: the document's Check, Right, Words, walked: just what the program's tell. -/
namespace Go.Proofs.YtajadhkpadkikaaGreatDoor
open Go.RowKit Go.Deep
attribute [local go_sem] store_float
attribute [local go_sem ↓] Go.wp_at_zero Go.wp_at_succ

set_option maxHeartbeats 1600000 in
set_option maxRecDepth 100000 in
theorem rall_any : ∀ (t : Tr) (w : World), t.In w 0 →
    Calls Tryz.prog 84 #[t.val] w fun e w' => e = .returned (.bool (allT goodT t)) ∧ Below w.heap.size w w' := by
  refine Tr.ind fun k n f s a c kids hk => ?_
  intro w hin
  show Calls Tryz.prog 84 #[.agg #[.int .i64 k, .int .i64 n, .float .f64 f, .string s, .slice a kids.length c]] w _
  have HK : Hid (∀ t, t ∈ kids → ∀ (w : World), t.In w 0 → Calls Tryz.prog 84 #[t.val] w fun e w' => e = .returned (.bool (allT goodT t)) ∧ Below w.heap.size w w') := hk
  have HIN : Hid ((Tr.mk k n f s a c kids).In w 0) := hin
  have hlen := len_small hin
  have cF := fields_any k n f s a kids.length c
  obtain ⟨QQ, hQQ⟩ : ∃ Q : Bool, allT goodT (.mk k n f s a c kids) = Q := ⟨_, rfl⟩
  have hq0 : QQ = (gF k n f s kids.length && allAll goodT kids) := by rw [← hQQ]; simp only [allT]; rw [goodT_gF]
  rw [hQQ]
  have HQ := hidb hq0
  clear hk hin hQQ hq0
  go_enter Tryz.func84, Tryz.ntmps84
  go_wp2_with fail
  refine (cF _).mono ?_
  rintro e w2 ⟨rfl, hb2⟩
  have B2 := box_then (Below.refl _ _) hb2
  have HB2 : Hid _ := B2
  obtain ⟨d0, d1, d2, d3, d4⟩ := box_at B2
  clear B2 hb2 cF
  cases hF : gF k n f s kids.length with
  | false =>
    have HF := hidb hF
    clear hF
    go_wp2_with fail
    go_ret
    exact ⟨gf_tell (by rw [HQ.out, HF.out]; rfl), box_below HB2.out⟩
  | true =>
    have HF := hidb hF
    clear hF
    go_wp2_with fail
    go_loopw [3] (fun iv wr => ∃ (m : Nat), m ≤ kids.length ∧ iv = .int .i64 m ∧ (allAll goodT kids = allAll goodT (kids.drop m)) ∧ Below (w.heap.size + 1) (w.alloc (.cells #[.int .i64 k, .int .i64 n, .float .f64 f, .string s, .slice a kids.length c] 25)) wr) (fun iv _ => kids.length - (intOf iv).toNat)
    case atStart => exact ⟨0, by omega, rfl, by simp, HB2.out⟩
    case round =>
      clear d0 d1 d2 d3 d4
      obtain ⟨m, hm, rfl, hrest, hbel⟩ := hrel
      have HR := hidb hrest
      have HB1 : Hid _ := hbel
      have d4 := (box_at hbel).2.2.2.2
      have HB : Hid (Below w.heap.size w wr) := box_below hbel
      clear hrest hbel
      by_cases hml : m < kids.length
      · have hmb : (m : Int) < (kids.length : Int) := by omega
        obtain ⟨b, o, rfl, hat⟩ := kid_at (in_below HB.out HIN.out) (by omega)
        obtain ⟨k', n', f', s', a', c', kids', hu, hin', c0, c1, c2, c3, c4⟩ := hat m hml
        have IH := HK.out _ (List.mem_of_getElem? hu) wr hin'
        have hmz : (0 : Int) ≤ (m : Int) := by omega
        have HD := hidb (drop_one hu)
        clear hu hin' hat
        go_wp2_with fail
        refine IH.mono ?_
        rintro e wz ⟨rfl, hbz⟩
        have HZ := box_then HB1.out hbz
        have HZH : Hid _ := HZ
        clear hbz IH HZ
        cases hA : allT goodT (.mk k' n' f' s' a' c' kids') with
        | false =>
          have HA := hidb hA
          clear hA
          go_wp2
          go_ret
          exact ⟨gf_tell (by rw [HQ.out, HR.out, HD.out]; simp only [allAll]; rw [HA.out]; simp), box_below HZH.out⟩
        | true =>
          have HA := hidb hA
          clear hA
          go_wp2
          go_roundw
          case rel => exact ⟨m + 1, by omega, by go_num, by rw [HR.out, HD.out]; simp only [allAll]; rw [HA.out]; simp, HZH.out⟩
          case measure => simp [intOf]; omega
      · have hmn : ¬ (m : Int) < (kids.length : Int) := by omega
        go_wp2
        go_ret
        exact ⟨gf_tell (by rw [HQ.out, HF.out, HR.out, List.drop_of_length_le (by omega)]; rfl), HB.out⟩


set_option maxHeartbeats 1000000 in
theorem rcheck_t (t : Tr) (w : World) (hin : t.In w 0) (hsm : SmallW t) : Calls Tryz.prog 30 #[t.val] w fun e w' => e = .returned (.int .i64 (errT t)) ∧ Below w.heap.size w w' := by
  cases t with
  | mk k n f s a c kids =>
    show Calls Tryz.prog 30 #[.agg #[.int .i64 k, .int .i64 n, .float .f64 f, .string s, .slice a kids.length c]] w _
    have cM := fun W h => rmeasureW_any (.mk k n f s a c kids) 200 65536 W h hsm (by decide) (by decide) (by decide) (by decide)
    have cA := fun W h => rall_any (.mk k n f s a c kids) W h
    have HIN := hidb hin
    unfold errT
    generalize meas (.mk k n f s a c kids) 200 65536 = M at cM ⊢
    generalize allT goodT (.mk k n f s a c kids) = A at cA ⊢
    clear hsm hin
    have hIn1 : ∀ {W : World}, Below w.heap.size w W → (Tr.mk k n f s a c kids).In W 0 := fun h => in_below h HIN.out
    by_cases hM : M < 0
    · rw [if_pos hM]
      go_enter Tryz.func30, Tryz.ntmps30
      go_wp2_with fail
      refine (cM _ (hIn1 (below_new w _))).mono ?_
      rintro e w2 ⟨rfl, hb2⟩
      have B2 := box_then (Below.refl _ _) hb2
      have HB2 : Hid _ := B2
      obtain ⟨d0, d1, d2, d3, d4⟩ := box_at B2
      clear B2 hb2
      go_wp2_with fail
      go_ret
      exact ⟨rfl, box_below HB2.out⟩
    · rw [if_neg hM]
      cases A with
      | false =>
        go_enter Tryz.func30, Tryz.ntmps30
        go_wp2_with fail
        refine (cM _ (hIn1 (below_new w _))).mono ?_
        rintro e w2 ⟨rfl, hb2⟩
        have B2 := box_then (Below.refl _ _) hb2
        have HB2 : Hid _ := B2
        obtain ⟨d0, d1, d2, d3, d4⟩ := box_at B2
        clear B2 hb2
        go_wp2_with fail
        refine (cA _ (hIn1 (box_below HB2.out))).mono ?_
        rintro e w3 ⟨rfl, hb3⟩
        have HB3 : Hid _ := box_then HB2.out hb3
        clear hb3
        go_wp2_with fail
        go_ret
        exact ⟨rfl, box_below HB3.out⟩
      | true =>
        go_enter Tryz.func30, Tryz.ntmps30
        go_wp2_with fail
        refine (cM _ (hIn1 (below_new w _))).mono ?_
        rintro e w2 ⟨rfl, hb2⟩
        have B2 := box_then (Below.refl _ _) hb2
        have HB2 : Hid _ := B2
        obtain ⟨d0, d1, d2, d3, d4⟩ := box_at B2
        clear B2 hb2
        go_wp2_with fail
        refine (cA _ (hIn1 (box_below HB2.out))).mono ?_
        rintro e w3 ⟨rfl, hb3⟩
        have HB3 : Hid _ := box_then HB2.out hb3
        clear hb3
        go_wp2_with fail
        go_ret
        exact ⟨rfl, box_below HB3.out⟩

set_option maxHeartbeats 1000000 in
theorem rright_t (t : Tr) (w : World) (hin : t.In w 0) (hsm : SmallW t) : Calls Tryz.prog 21 #[t.val] w fun e w' => e = .returned (.bool (errT t == 0)) ∧ Below w.heap.size w w' := by
  have cC := rcheck_t t
  generalize errT t = R at cC ⊢
  have HIN := hidb hin
  cases t with
  | mk k n f s a c kids =>
    replace cC : ∀ (w : World), (Tr.mk k n f s a c kids).In w 0 → SmallW (.mk k n f s a c kids) → Calls Tryz.prog 30 #[.agg #[.int .i64 k, .int .i64 n, .float .f64 f, .string s, .slice a kids.length c]] w fun e w' => e = .returned (.int .i64 R) ∧ Below w.heap.size w w' := cC
    show Calls Tryz.prog 21 #[.agg #[.int .i64 k, .int .i64 n, .float .f64 f, .string s, .slice a kids.length c]] w _
    have HSM := hidb hsm
    clear hin hsm
    go_enter Tryz.func21, Tryz.ntmps21
    go_wp2_with fail
    refine (cC _ (in_below (below_new w _) HIN.out) HSM.out).mono ?_
    rintro e w2 ⟨rfl, hb2⟩
    have HB2 : Hid _ := box_then (Below.refl _ _) hb2
    clear hb2
    go_wp2_with fail
    go_ret
    exact ⟨rfl, box_below HB2.out⟩

end Go.Proofs.YtajadhkpadkikaaGreatDoor


/- Plain facts on binary floats of 64 bits: the nearest float of a whole number of at least 2^53 by its highest 53 bits; doubling; the negative of a float by subtracting it from nothing. -/
namespace Go.Proofs.YtajadhkpadkikaaGreatDoor.Flt
open Ieee

/-- the highest 53 bits, rounded -/
def topR (u k : Nat) : Nat := u / 2 ^ k + (2 ^ k < 2 * (u % 2 ^ k) || (2 ^ k == 2 * (u % 2 ^ k) && u / 2 ^ k % 2 == 1)).toNat

theorem topR_bounds {u k : Nat} (h1 : 4503599627370496 ≤ u / 2 ^ k) (h2 : u / 2 ^ k < 9007199254740992) : 4503599627370496 ≤ topR u k ∧ topR u k ≤ 9007199254740992 := by
  unfold topR
  generalize (2 ^ k < 2 * (u % 2 ^ k) || (2 ^ k == 2 * (u % 2 ^ k) && u / 2 ^ k % 2 == 1) : Bool) = b
  cases b <;> simp <;> omega

theorem log2_of_top {u k : Nat} (h1 : 4503599627370496 ≤ u / 2 ^ k) (h2 : u / 2 ^ k < 9007199254740992) : u.log2 = k + 52 := by
  have hp := Nat.two_pow_pos k
  refine log2_eq ?_ ?_
  · rw [Nat.pow_add, Nat.mul_comm]
    exact (Nat.le_div_iff_mul_le hp).1 h1
  · rw [show k + 52 + 1 = 53 + k by omega, Nat.pow_add]
    exact (Nat.div_lt_iff_lt_mul hp).1 h2

theorem near_big (neg : Bool) {u k : Nat} (hk : k ≤ 100) (h1 : 4503599627370496 ≤ u / 2 ^ k) (h2 : u / 2 ^ k < 9007199254740992) :
    double.nearest neg u 0 = double.word neg ((1074 + k) * 4503599627370496 + topR u k) := by
  have hl := log2_of_top h1 h2
  have h0 : u ≠ 0 := by intro h; subst h; simp at h1
  have hb := topR_bounds h1 h2
  unfold Format.nearest
  simp only [bn, ir, lp]
  rw [if_neg h0, hl]
  have hfb : (double.fractionBits : Int) = 52 := rfl
  have elast : max ((0 : Int) + ((k + 52 : Nat) : Int) - (double.fractionBits : Int)) (-1074) = (k : Int) := by rw [hfb]; omega
  rw [elast]
  have e1 : ((0 : Int) - (k : Int)).toNat = 0 := by omega
  have e2 : ((k : Int) - (0 : Int)).toNat = k := by omega
  have e3 : ((k : Int) - -1074).toNat = 1074 + k := by omega
  rw [e1, e2, e3, Nat.shiftLeft_zero]
  have ec : Toward.even.cut neg u k = topR u k := by
    unfold Toward.cut topR
    rw [hl, Nat.min_eq_left (by omega), Nat.one_shiftLeft]
  rw [ec, Nat.min_eq_left (by omega)]

theorem near_top {t : Nat} (h1 : 4503599627370496 ≤ t) (h2 : t ≤ 9007199254740992) : double.nearest false t 0 = 1074 * 4503599627370496 + t := by
  rcases Nat.lt_or_ge t 9007199254740992 with h | h
  · have := near_big false (u := t) (k := 0) (by omega) (by simpa using h1) (by simpa using h)
    rw [this, word_val]
    simp [topR, Nat.mod_one]
  · have e : t = 9007199254740992 := by omega
    subst e
    decide

/-- a float of the second kind, by its rung: doubled -/
theorem mul_two {j t : Nat} (hj : j ≤ 200) (h1 : 4503599627370496 ≤ t) (h2 : t ≤ 9007199254740992) :
    double.mul ((1074 + j) * 4503599627370496 + t) 4611686018427387904 = some ((1074 + (j + 1)) * 4503599627370496 + t) := by
  have hr2 : double.read 4611686018427387904 = .number false 4503599627370496 (-51) := by decide
  have go : ∀ {m : Nat} {p : Int} (hc : Canon m p) (hn : 4503599627370496 ≤ m) (hp : p ≤ 500), double.mul ((p + 1074).toNat * 4503599627370496 + m) 4611686018427387904 = some ((p + 1 + 1074).toNat * 4503599627370496 + m) := by
    intro m p hc hn hp
    have hrd := read_word false hc hn (by omega)
    rw [word_val] at hrd
    simp only [Bool.false_eq_true, if_false, Nat.zero_add] at hrd
    have hlo := hc.lo
    have hhi := hc.hi
    have hc2 : Canon m (p + 1) := ⟨by omega, hhi, Or.inl hn⟩
    have hw := nearest_canon false hc2 52
    unfold Format.mul
    rw [hrd, hr2]
    simp only [Datum.product, Bool.xor_false, Option.map_some, Format.write, Option.some.injEq]
    rw [show p + -51 = p + 1 - ((52 : Nat) : Int) by omega, show (4503599627370496 : Nat) = 2 ^ 52 from rfl, hw, word_val, Nat.min_eq_left (by omega)]
    simp
  rcases Nat.lt_or_ge t 9007199254740992 with h | h
  · have := go (m := t) (p := (j : Int)) ⟨by omega, h, Or.inl h1⟩ h1 (by omega)
    rw [show ((j : Int) + 1074).toNat = 1074 + j by omega, show ((j : Int) + 1 + 1074).toNat = 1074 + (j + 1) by omega] at this
    exact this
  · have e : t = 9007199254740992 := by omega
    subst e
    have := go (m := 4503599627370496) (p := (j : Int) + 1) ⟨by omega, by omega, Or.inl (by omega)⟩ (by omega) (by omega)
    rw [show ((j : Int) + 1 + 1074).toNat = 1075 + j by omega, show ((j : Int) + 1 + 1 + 1074).toNat = 1076 + j by omega] at this
    rw [show (1074 + j) * 4503599627370496 + 9007199254740992 = (1075 + j) * 4503599627370496 + 4503599627370496 by omega, this]
    rw [show (1076 + j) * 4503599627370496 + 4503599627370496 = (1074 + (j + 1)) * 4503599627370496 + 9007199254740992 by omega]

/-- nothing less a float: its sign turned -/
theorem zero_sub {x : Nat} (h0 : 4503599627370496 ≤ x) (hf : x < 9218868437227405312) : double.sub 0 x = some (9223372036854775808 + x) := by
  have hx : x < 18446744073709551616 := by omega
  have hfin : fin x = true := by simp [fin]; omega
  obtain ⟨m, p, hr, hc, hp, he⟩ := read_canon hx hfin
  have hneg : decide (9223372036854775808 ≤ x) = false := by simp; omega
  rw [hneg] at hr
  have hxm : x % 9223372036854775808 = x := Nat.mod_eq_of_lt (by omega)
  rw [hxm] at he
  have h1 : double.read 0 = .number false 0 (-1074) := by decide
  have hlo := hc.lo
  have hm0 : 0 < m := by
    rcases Nat.eq_zero_or_pos m with h | h
    · subst h
      have := hc.norm
      omega
    · exact h
  have hmin : min (-1074) p = -1074 := by omega
  unfold Format.sub
  rw [hr, h1]
  have hz : ∀ k, signed false 0 k = 0 := fun k => by simp [signed]
  simp only [Datum.opposite, Datum.sum, hmin, hz, Int.zero_add, Option.map_some, Option.some.injEq, Bool.not_false]
  have hw := nearest_canon true hc (p + 1074).toNat
  rw [show p - ((p + 1074).toNat : Int) = -1074 by omega, word_val, ← he, Nat.min_eq_left (by omega)] at hw
  rw [show (p - -1074).toNat = (p + 1074).toNat by omega]
  have hq : 0 < m * 2 ^ (p + 1074).toNat := Nat.mul_pos hm0 (Nat.two_pow_pos _)
  rw [← Nat.shiftLeft_eq] at hw hq
  simp only [Format.write]
  rw [show signed true m (p + 1074).toNat = -((m <<< (p + 1074).toNat : Nat) : Int) from rfl, if_neg (by omega), decide_eq_true (by omega), Int.natAbs_neg, Int.natAbs_natCast, hw]
  simp
end Go.Proofs.YtajadhkpadkikaaGreatDoor.Flt


