import Derived.Test.YtgljglindgbjaaaGreatDoorG09
import Derived.Deep.AppendLies
import Derived.Deep.RegionLaw
import Derived.BigQuiet
import Derived.Test.YtgljglindgbjaaaGreatDoorG07
/- Twin, of terms that are the same. -/
namespace Go.Proofs.YtgljglindgbjaaaGreatDoor
open Go.RowKit Go.Deep
attribute [local go_sem] store_float f64bits f64frombits
attribute [local go_sem ↓] Go.wp_at_zero Go.wp_at_succ

abbrev Ent (f : Nat) : Prop := ∀ args w, (callFunc f args).run Tryz.prog w = .ok (.enter f args) w

theorem run_call {f : Nat} (ent : Ent f) {o : Oper} {a : Act} {w : World} (xs : Array Operand) (ts : Array TypeId) (hop : o.op = Op.call { callee := .value (.func f), args := xs, argTypes := ts }) (vs : Array Value) (hx' : xs.toList.map a.eval = vs.toList) :
    (execOp a.eval o).run Tryz.prog w = .ok (.enter f vs) w := by
  have hx : xs.map a.eval = vs := by apply Array.ext'; simpa using hx'
  unfold execOp
  rw [hop]
  have hf : a.eval (.func f) = ({ tmps := #[], defers := [] } : Act).eval (.func f) := rfl
  have ent2 := ent vs w
  simp only [resolve, hx, hf]
  go_simp

theorem step_call {f : Nat} {vs : Array Value} {ops : Array Oper} {o : Oper} {a : Act} {w : World} {K : Act → World → Prop} {Q : Exit → Act → World → Prop} {E : Prop} (hg : o.guard = none) (hrun : (execOp a.eval o).run Tryz.prog w = .ok (.enter f vs) w)
    {Post : Ending → World → Prop} (hc : Calls Tryz.prog f vs w Post) (h : ∀ e w', Post e w' → match e with | .returned v => K (a.put o.dst v) w' | .panicked c => Q (.panic c) a w' | .outgrown => LetsOut Q) :
    if Region.wanted o (yielded ops a.tmps) = true then Oper.wp Tryz.prog o a w K Q else E := by
  have hw : Region.wanted o (yielded ops a.tmps) = true := by simp [Region.wanted, hg]
  rw [if_pos hw]
  unfold Oper.wp
  rw [hrun, Oper.upon_enter]
  refine hc.mono fun e w'' hh => ?_
  have := h e w'' hh
  cases e <;> exact this

theorem ent_twin : Ent 8 := by
  intro args w
  kernel_rfl

theorem smA_get : ∀ (l l' : List Tr), SmA l l' → ∀ (j : Nat) (t t' : Tr), l[j]? = some t → l'[j]? = some t' → Sm t t'
  | [], [], _, j, t, t', h, _ => by simp at h
  | u :: r, u' :: r', hl, j, t, t', h, h' => by
    unfold SmA at hl
    rcases j with _ | j
    · obtain rfl : u = t := by simpa using h
      obtain rfl : u' = t' := by simpa using h'
      exact hl.1
    · exact smA_get r r' hl.2 j t t' (by simpa using h) (by simpa using h')
  | [], _ :: _, hl, _, _, _, _, _ => by unfold SmA at hl; exact hl.elim
  | _ :: _, [], hl, _, _, _, _, _ => by unfold SmA at hl; exact hl.elim

theorem step_twin {vs : Array Value} {ops : Array Oper} {o : Oper} {a : Act} {w : World} {K : Act → World → Prop} {Q : Exit → Act → World → Prop} {E : Prop} (hg : o.guard = none) (hrun : (execOp a.eval o).run Tryz.prog w = .ok (.enter 8 vs) w)
    (hc : Calls Tryz.prog 8 vs w fun e w' => e = .returned (.bool true) ∧ Below w.heap.size w w') (hok : ∀ w', Below w.heap.size w w' → K (a.put o.dst (.bool true)) w') :
    if Region.wanted o (yielded ops a.tmps) = true then Oper.wp Tryz.prog o a w K Q else E :=
  step_call hg hrun hc fun e w' hh => by
    obtain ⟨rfl, h⟩ := hh
    exact hok w' h

set_option maxHeartbeats 3000000 in
set_option maxRecDepth 100000 in
theorem twin_same : ∀ t t' : Tr, Sm t t' → ∀ w, t.In w 0 → t'.In w 0 → Calls Tryz.prog 8 #[t.val, t'.val] w fun e w' => e = .returned (.bool true) ∧ Below w.heap.size w w' := by
  refine Tr.ind fun k n f s a c kids hk t' hs w hin hin' => ?_
  obtain ⟨k', n', f', s', a', c', kids'⟩ := t'
  unfold Sm at hs
  obtain ⟨rfl, rfl, rfl, rfl, hsa⟩ := hs
  have hl := smA_len hsa
  have hsm := len_small hin
  obtain ⟨M, hM⟩ : ∃ M, kids.length = M := ⟨_, rfl⟩
  have hM' : kids'.length = M := by omega
  have HK := hidb hk
  have HSA := hidb hsa
  have HI := hidb hin
  have HI' := hidb hin'
  have HM := hidb hM
  have HM' := hidb hM'
  rw [hM] at hsm
  simp only [Tr.val, Tr.cells]
  rw [hM, hM']
  clear hk hsa hin hin' hl hM hM'
  go_enter Tryz.func8, Tryz.ntmps8
  go_wp2_with fail
  have X1 := (Box.new w 27 (.int .i64 k) (.int .i64 n) (.float .f64 f) (.string s) (.slice a M c)).keep (below_new _ (Obj.cells #[.int .i64 k, .int .i64 n, .float .f64 f, .string s, .slice a' M c'] 27))
  have X2 := Box.new (w.alloc (Obj.cells #[.int .i64 k, .int .i64 n, .float .f64 f, .string s, .slice a M c] 27)) 27 (.int .i64 k) (.int .i64 n) (.float .f64 f) (.string s) (.slice a' M c')
  have hs1 : (w.alloc (Obj.cells #[.int .i64 k, .int .i64 n, .float .f64 f, .string s, .slice a M c] 27)).heap.size = w.heap.size + 1 := by simp
  rw [hs1] at X2
  have HB2 : Hid (Below w.heap.size w ((w.alloc (Obj.cells #[.int .i64 k, .int .i64 n, .float .f64 f, .string s, .slice a M c] 27)).alloc (Obj.cells #[.int .i64 k, .int .i64 n, .float .f64 f, .string s, .slice a' M c'] 27))) := hidb ((below_new w _).alloc (by simp) _)
  generalize hW2 : ((w.alloc (Obj.cells #[.int .i64 k, .int .i64 n, .float .f64 f, .string s, .slice a M c] 27)).alloc (Obj.cells #[.int .i64 k, .int .i64 n, .float .f64 f, .string s, .slice a' M c'] 27)) = W2 at *
  clear hW2 hs1
  have HX1 := hidb X1
  have HX2 := hidb X2
  obtain ⟨x0, x1, x2, x3, x4, -, -, -, -, -, -⟩ := X1
  obtain ⟨y0, y1, y2, y3, y4, -, -, -, -, -, -⟩ := X2
  have k1 : (k != k) = false := by simp
  have k2 : (!(s.toList == s.toList)) = false := by simp
  have k3 : (n != n) = false := by simp
  have k4 : (((f : Nat) : Int) != ((f : Nat) : Int)) = false := by simp
  have k6 : (((M : Nat) : Int) != ((M : Nat) : Int)) = false := by simp
  go_quiet (fail)
  have HB4 := hidb (below_drewN HB2.out nq)
  have hbd : Below W2.heap.size W2 (W2.drewN nq) := below_drewN (Below.refl _ _) nq
  have HX3 := hidb (HX1.out.keep hbd)
  have HX4 := hidb (HX2.out.keep hbd)
  clear hbd x0 x1 x2 x3 x4 y0 y1 y2 y3 y4 HX1 HX2 HB2
  generalize W2.drewN nq = W4 at HB4 HX3 HX4 ⊢
  go_wp2_with fail
  clear k1 k2 k3 k4 k6
  go_loopw [5] (fun iv wr => ∃ (m : Nat), m ≤ M ∧ iv = .int .i64 m ∧ Below W4.heap.size W4 wr) (fun iv _ => M - (intOf iv).toNat)
  case atStart => exact ⟨0, by omega, rfl, Below.refl _ _⟩
  case round =>
    obtain ⟨m, hm, rfl, hby⟩ := hrel
    have HBY := hidb hby
    have HBW := hidb (HB4.out.trans (hby.mono HB4.out.size))
    have e4 := (HX3.out.keep hby).c4
    have g4 := (HX4.out.keep hby).c4
    clear hby
    by_cases hml : m < M
    · have hmb : (m : Int) < (M : Int) := by omega
      have hmz : (0 : Int) ≤ (m : Int) := by omega
      obtain ⟨b, o, rfl, hat⟩ := kid_at HI.out (by have := HM.out; omega)
      obtain ⟨k1, n1, f1, s1, a1, c1, ks1, hu1, hin1, x0, x1, x2, x3, x4⟩ := hat m (by have := HM.out; omega)
      obtain ⟨b', o', rfl, hat'⟩ := kid_at HI'.out (by have := HM'.out; omega)
      obtain ⟨k2, n2, f2, s2, a2, c2, ks2, hu2, hin2, y0, y1, y2, y3, y4⟩ := hat' m (by have := HM'.out; omega)
      have hlb : b < w.heap.size := World.block_lt_of_cell? w _ x0
      have hlb' : b' < w.heap.size := World.block_lt_of_cell? w _ y0
      have v0 := (HBW.out.cell hlb).trans x0
      have v1 := (HBW.out.cell hlb).trans x1
      have v2 := (HBW.out.cell hlb).trans x2
      have v3 := (HBW.out.cell hlb).trans x3
      have v4 := (HBW.out.cell hlb).trans x4
      have z0 := (HBW.out.cell hlb').trans y0
      have z1 := (HBW.out.cell hlb').trans y1
      have z2 := (HBW.out.cell hlb').trans y2
      have z3 := (HBW.out.cell hlb').trans y3
      have z4 := (HBW.out.cell hlb').trans y4
      have hss := smA_get _ _ HSA.out m _ _ hu1 hu2
      have hbd : Below wr.heap.size wr wr.drew := (Below.refl _ _).drew
      have TW := hidb (HK.out _ (List.mem_of_getElem? hu1) _ hss wr.drew (in_below (HBW.out.trans (hbd.mono HBW.out.size)) hin1) (in_below (HBW.out.trans (hbd.mono HBW.out.size)) hin2))
      simp only [Tr.val, Tr.cells] at TW
      clear hat hat' hu1 hu2 hin1 hin2 x0 x1 x2 x3 x4 y0 y1 y2 y3 y4 hss hbd
      go_wp2_with fail
      go_region_law (first
        | (refine step_twin rfl (run_call ent_twin #[.tmp 54, .tmp 59] _ rfl #[.agg #[.int .i64 k1, .int .i64 n1, .float .f64 f1, .string s1, .slice a1 ks1.length c1], .agg #[.int .i64 k2, .int .i64 n2, .float .f64 f2, .string s2, .slice a2 ks2.length c2]] rfl) TW.out ?_; intro wz hbz; have HBZ := hidb (HBY.out.trans ((undrew hbz).mono HBY.out.size)); clear hbz))
      all_goals (
        go_wp2_with fail
        go_roundw
        case rel => exact ⟨m + 1, by omega, by go_num, HBZ.out⟩
        case measure => simp [intOf]; omega)
    · have hmn : ¬ (m : Int) < (M : Int) := by omega
      go_wp2_with fail
      go_ret
      exact ⟨rfl, HBW.out⟩
end Go.Proofs.YtgljglindgbjaaaGreatDoor


/- Plain facts on binary floats of 64 bits: the nearest float of a whole number of at least 2^53 by its highest 53 bits; doubling; the negative of a float by subtracting it from nothing. -/
namespace Go.Proofs.YtgljglindgbjaaaGreatDoor.Flt
open Ieee

/-- the highest 53 bits, rounded -/
def topR (u k : Nat) : Nat := u / 2 ^ k + (2 ^ k < 2 * (u % 2 ^ k) || (2 ^ k == 2 * (u % 2 ^ k) && u / 2 ^ k % 2 == 1)).toNat

theorem topR_bounds {u k : Nat} (h1 : 4503599627370496 ≤ u / 2 ^ k) (h2 : u / 2 ^ k < 9007199254740992) : 4503599627370496 ≤ topR u k ∧ topR u k ≤ 9007199254740992 := by
  unfold topR
  generalize (2 ^ k < 2 * (u % 2 ^ k) || (2 ^ k == 2 * (u % 2 ^ k) && u / 2 ^ k % 2 == 1) : Bool) = b
  cases b <;> simp <;> omega

theorem log2_of_top {u k : Nat} (h1 : 4503599627370496 ≤ u / 2 ^ k) (h2 : u / 2 ^ k < 9007199254740992) : u.log2 = k + 52 := by
  have hp := Nat.two_pow_pos k
  refine log2_eq ?_ ?_
  · rw [Nat.pow_add, Nat.mul_comm]
    exact (Nat.le_div_iff_mul_le hp).1 h1
  · rw [show k + 52 + 1 = 53 + k by omega, Nat.pow_add]
    exact (Nat.div_lt_iff_lt_mul hp).1 h2

theorem near_big (neg : Bool) {u k : Nat} (hk : k ≤ 100) (h1 : 4503599627370496 ≤ u / 2 ^ k) (h2 : u / 2 ^ k < 9007199254740992) :
    double.nearest neg u 0 = double.word neg ((1074 + k) * 4503599627370496 + topR u k) := by
  have hl := log2_of_top h1 h2
  have h0 : u ≠ 0 := by intro h; subst h; simp at h1
  have hb := topR_bounds h1 h2
  unfold Format.nearest
  simp only [bn, ir, lp]
  rw [if_neg h0, hl]
  have hfb : (double.fractionBits : Int) = 52 := rfl
  have elast : max ((0 : Int) + ((k + 52 : Nat) : Int) - (double.fractionBits : Int)) (-1074) = (k : Int) := by rw [hfb]; omega
  rw [elast]
  have e1 : ((0 : Int) - (k : Int)).toNat = 0 := by omega
  have e2 : ((k : Int) - (0 : Int)).toNat = k := by omega
  have e3 : ((k : Int) - -1074).toNat = 1074 + k := by omega
  rw [e1, e2, e3, Nat.shiftLeft_zero]
  have ec : Toward.even.cut neg u k = topR u k := by
    unfold Toward.cut topR
    rw [hl, Nat.min_eq_left (by omega), Nat.one_shiftLeft]
  rw [ec, Nat.min_eq_left (by omega)]

theorem near_top {t : Nat} (h1 : 4503599627370496 ≤ t) (h2 : t ≤ 9007199254740992) : double.nearest false t 0 = 1074 * 4503599627370496 + t := by
  rcases Nat.lt_or_ge t 9007199254740992 with h | h
  · have := near_big false (u := t) (k := 0) (by omega) (by simpa using h1) (by simpa using h)
    rw [this, word_val]
    simp [topR, Nat.mod_one]
  · have e : t = 9007199254740992 := by omega
    subst e
    decide

/-- a float of the second kind, by its rung: doubled -/
theorem mul_two {j t : Nat} (hj : j ≤ 200) (h1 : 4503599627370496 ≤ t) (h2 : t ≤ 9007199254740992) :
    double.mul ((1074 + j) * 4503599627370496 + t) 4611686018427387904 = some ((1074 + (j + 1)) * 4503599627370496 + t) := by
  have hr2 : double.read 4611686018427387904 = .number false 4503599627370496 (-51) := by decide
  have go : ∀ {m : Nat} {p : Int} (hc : Canon m p) (hn : 4503599627370496 ≤ m) (hp : p ≤ 500), double.mul ((p + 1074).toNat * 4503599627370496 + m) 4611686018427387904 = some ((p + 1 + 1074).toNat * 4503599627370496 + m) := by
    intro m p hc hn hp
    have hrd := read_word false hc hn (by omega)
    rw [word_val] at hrd
    simp only [Bool.false_eq_true, if_false, Nat.zero_add] at hrd
    have hlo := hc.lo
    have hhi := hc.hi
    have hc2 : Canon m (p + 1) := ⟨by omega, hhi, Or.inl hn⟩
    have hw := nearest_canon false hc2 52
    unfold Format.mul
    rw [hrd, hr2]
    simp only [Datum.product, Bool.xor_false, Option.map_some, Format.write, Option.some.injEq]
    rw [show p + -51 = p + 1 - ((52 : Nat) : Int) by omega, show (4503599627370496 : Nat) = 2 ^ 52 from rfl, hw, word_val, Nat.min_eq_left (by omega)]
    simp
  rcases Nat.lt_or_ge t 9007199254740992 with h | h
  · have := go (m := t) (p := (j : Int)) ⟨by omega, h, Or.inl h1⟩ h1 (by omega)
    rw [show ((j : Int) + 1074).toNat = 1074 + j by omega, show ((j : Int) + 1 + 1074).toNat = 1074 + (j + 1) by omega] at this
    exact this
  · have e : t = 9007199254740992 := by omega
    subst e
    have := go (m := 4503599627370496) (p := (j : Int) + 1) ⟨by omega, by omega, Or.inl (by omega)⟩ (by omega) (by omega)
    rw [show ((j : Int) + 1 + 1074).toNat = 1075 + j by omega, show ((j : Int) + 1 + 1 + 1074).toNat = 1076 + j by omega] at this
    rw [show (1074 + j) * 4503599627370496 + 9007199254740992 = (1075 + j) * 4503599627370496 + 4503599627370496 by omega, this]
    rw [show (1076 + j) * 4503599627370496 + 4503599627370496 = (1074 + (j + 1)) * 4503599627370496 + 9007199254740992 by omega]

/-- nothing less a float: its sign turned -/
theorem zero_sub {x : Nat} (h0 : 4503599627370496 ≤ x) (hf : x < 9218868437227405312) : double.sub 0 x = some (9223372036854775808 + x) := by
  have hx : x < 18446744073709551616 := by omega
  have hfin : fin x = true := by simp [fin]; omega
  obtain ⟨m, p, hr, hc, hp, he⟩ := read_canon hx hfin
  have hneg : decide (9223372036854775808 ≤ x) = false := by simp; omega
  rw [hneg] at hr
  have hxm : x % 9223372036854775808 = x := Nat.mod_eq_of_lt (by omega)
  rw [hxm] at he
  have h1 : double.read 0 = .number false 0 (-1074) := by decide
  have hlo := hc.lo
  have hm0 : 0 < m := by
    rcases Nat.eq_zero_or_pos m with h | h
    · subst h
      have := hc.norm
      omega
    · exact h
  have hmin : min (-1074) p = -1074 := by omega
  unfold Format.sub
  rw [hr, h1]
  have hz : ∀ k, signed false 0 k = 0 := fun k => by simp [signed]
  simp only [Datum.opposite, Datum.sum, hmin, hz, Int.zero_add, Option.map_some, Option.some.injEq, Bool.not_false]
  have hw := nearest_canon true hc (p + 1074).toNat
  rw [show p - ((p + 1074).toNat : Int) = -1074 by omega, word_val, ← he, Nat.min_eq_left (by omega)] at hw
  rw [show (p - -1074).toNat = (p + 1074).toNat by omega]
  have hq : 0 < m * 2 ^ (p + 1074).toNat := Nat.mul_pos hm0 (Nat.two_pow_pos _)
  rw [← Nat.shiftLeft_eq] at hw hq
  simp only [Format.write]
  rw [show signed true m (p + 1074).toNat = -((m <<< (p + 1074).toNat : Nat) : Int) from rfl, if_neg (by omega), decide_eq_true (by omega), Int.natAbs_neg, Int.natAbs_natCast, hw]
  simp
end Go.Proofs.YtgljglindgbjaaaGreatDoor.Flt


/- Plain facts on binary floats of 64 bits: a number's value in units of its least place; the order and the sign of a difference by it. -/
namespace Go.Proofs.YtgljglindgbjaaaGreatDoor.Flt
open Ieee

/-- a value in units of 2^-1074 -/
def unit (s : Bool) (m : Nat) (p : Int) : Int := signed s m (p + 1074).toNat

theorem signed_up (s : Bool) (m a b : Nat) : signed s m (a + b) = signed s m a * ((2 ^ b : Nat) : Int) := by
  unfold signed
  cases s <;> simp [Nat.shiftLeft_eq, Nat.pow_add] <;> simp [Int.mul_assoc, Int.neg_mul]

theorem compare_mul {a b c : Int} (hc : 0 < c) : compare (a * c) (b * c) = compare a b := by
  rcases Int.lt_trichotomy a b with h | h | h
  · rw [Int.compare_eq_lt.2 h, Int.compare_eq_lt.2 (Int.mul_lt_mul_of_pos_right h hc)]
  · subst h; simp
  · rw [Int.compare_eq_gt.2 h, Int.compare_eq_gt.2 (Int.mul_lt_mul_of_pos_right h hc)]

theorem order_unit (s t : Bool) (m n : Nat) {p q : Int} (hp : -1074 ≤ p) (hq : -1074 ≤ q) : Datum.order (.number s m p) (.number t n q) = some (compare (unit s m p) (unit t n q)) := by
  unfold Datum.order unit
  have e1 : (p + 1074).toNat = (p - min p q).toNat + (min p q + 1074).toNat := by omega
  have e2 : (q + 1074).toNat = (q - min p q).toNat + (min p q + 1074).toNat := by omega
  simp only [Option.some.injEq]
  rw [e1, e2, signed_up, signed_up, compare_mul (by have := Nat.two_pow_pos (min p q + 1074).toNat; omega)]

/-- any rung above nothing, against nothing -/
theorem order_word_zero (neg : Bool) {r : Nat} (h0 : 0 < r) (h1 : r ≤ 9218868437227405312) : double.order (double.word neg r) 0 = some (if neg then .lt else .gt) := by
  have hz : double.read 0 = .number false 0 (-1074) := by decide
  unfold Format.order
  rw [hz, word_val]
  by_cases hi : r = 9218868437227405312
  · subst hi; cases neg <;> decide
  · have hx : (if neg = true then 9223372036854775808 else 0) + r < 18446744073709551616 := by cases neg <;> simp <;> omega
    have hm : ((if neg = true then 9223372036854775808 else 0) + r) % 9223372036854775808 = r := by cases neg <;> simp <;> omega
    have hf : fin ((if neg = true then 9223372036854775808 else 0) + r) = true := by simp only [fin, hm, decide_eq_true_eq]; omega
    obtain ⟨m, p, hr, hc, hp, he⟩ := read_canon hx hf
    rw [hm] at he
    have hs : decide (9223372036854775808 ≤ (if neg = true then 9223372036854775808 else 0) + r) = neg := by cases neg <;> simp <;> omega
    rw [hr, hs, order_unit _ _ _ _ hc.lo (by omega)]
    have hm0 : 0 < m := by have := hc.norm; rcases Nat.eq_zero_or_pos m with h | h <;> omega
    have hpos : 0 < m <<< (p + 1074).toNat := by rw [Nat.shiftLeft_eq]; exact Nat.mul_pos hm0 (Nat.two_pow_pos _)
    have hz0 : unit false 0 (-1074) = 0 := by simp [unit, signed]
    rw [hz0]
    cases neg
    · simp only [Bool.false_eq_true, if_false, Option.some.injEq]
      exact Int.compare_eq_gt.2 (by unfold unit signed; simp only [Bool.false_eq_true, if_false]; omega)
    · simp only [if_true, Option.some.injEq]
      exact Int.compare_eq_lt.2 (by unfold unit signed; simp only [if_true]; omega)
end Go.Proofs.YtgljglindgbjaaaGreatDoor.Flt


