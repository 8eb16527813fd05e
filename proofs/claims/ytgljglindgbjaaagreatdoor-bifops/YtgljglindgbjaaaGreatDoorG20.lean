import Derived.Test.YtgljglindgbjaaaGreatDoorG15
import Derived.Test.YtgljglindgbjaaaGreatDoorG19
import Derived.Test.YtgljglindgbjaaaGreatDoorG11
/- term.Cmp and term.Same of any two right terms. -/
namespace Go.Proofs.YtgljglindgbjaaaGreatDoor
open Go.RowKit Go.Lib Go.Deep
attribute [local go_sem] store_float f64bits
attribute [local go_sem ↓] Go.wp_at_zero Go.wp_at_succ

theorem err_all {t : Tr} (h : errT t = 0) : allT goodT t = true := by
  unfold errT at h
  split at h
  · cases h
  · split at h
    · rename_i h2; exact h2
    · cases h
theorem cmpB_self : ∀ l : List UInt8, compareBytes l l = 0
  | [] => rfl
  | x :: r => by
    unfold compareBytes
    rw [if_neg (by simp), if_neg (by simp)]
    exact cmpB_self r
theorem idP_cmp : ∀ t t' : Tr, idP t t' = true → cmpT t t' = 0 := by
  refine Tr.ind fun k n f s a c ks hk => ?_
  rintro ⟨k', n', f', s', a', c', ks'⟩ h
  unfold idP at h
  simp only [Bool.and_eq_true, beq_iff_eq] at h
  obtain ⟨rfl, rfl, hs, hf, hl, hd⟩ := h
  obtain rfl : f = f' := by omega
  have hll : ks.length = ks'.length := by omega
  obtain rfl : s = s' := by
    rw [ByteArray.toList_eq, ByteArray.toList_eq] at hs
    exact ByteArray.ext (Array.toList_inj.1 hs)
  have hall : ∀ (l l' : List Tr), (∀ t, t ∈ l → t ∈ ks) → l.length = l'.length → idL l l' = true → cmpA l l' = 0 := by
    intro l
    induction l with
    | nil =>
      intro l' _ he _
      cases l' with
      | nil => simp only [cmpA]
      | cons => simp at he
    | cons t r ih =>
      intro l' hm he h
      cases l' with
      | nil => simp at he
      | cons t' r' =>
        unfold idL at h
        simp only [Bool.and_eq_true] at h
        unfold cmpA
        rw [hk t (hm t (by simp)) t' h.1, if_neg (by simp)]
        exact ih r' (fun u hu => hm u (by simp [hu])) (by simpa using he) h.2
  have hA := hall ks ks' (fun _ h => h) hll hd
  have hr : cmpI (rk k) (rk k) = 0 := cmpI_zero.2 rfl
  have hn : cmpI n n = 0 := cmpI_zero.2 rfl
  have hc : compare (valU k n f) (valU k n f) = .eq := by simp [compare, compareOfLessAndEq]
  unfold cmpT
  rw [hr, hn, hA, hll, cmpI_zero.2 rfl, cmpB_self, hc]
  simp [Flt.ordI]

theorem checkPair (t t' : Tr) (w : World) (ty : TypeId) (h1 : t.In w 0) (h2 : t'.In w 0) (s1 : Small t) (s2 : Small t') (e1 : errT t = 0) (e2 : errT t' = 0) :
    Calls Tryz.prog 168 #[.slice (some ⟨w.heap.size, 0, none⟩) 2 2] (w.alloc (.cells ([t, t'].flatMap Tr.cells).toArray ty)) fun e w' => e = .returned (.int .i64 0) ∧ Below w.heap.size w w' := by
  have hin := built_in w [t, t'] (fun u hu => by
    rcases List.mem_cons.1 hu with h | h
    · rw [h]; exact h1
    · rw [List.mem_singleton.1 h]; exact h2) ty (by simp)
  have hb := below_new w (.cells ([t, t'].flatMap Tr.cells).toArray ty)
  generalize w.alloc (.cells ([t, t'].flatMap Tr.cells).toArray ty) = V at *
  have h := checkAll_ok 0 0 0 ⟨#[]⟩ (some ⟨w.heap.size, 0, none⟩) 2 [t, t'] V hin (by unfold Small SmallAll SmallAll SmallAll; exact ⟨by simp, s1, s2, trivial⟩) (fun u hu => by
    rcases List.mem_cons.1 hu with h | h
    · rw [h]; exact e1
    · rw [List.mem_singleton.1 h]; exact e2)
  have e : [t, t'].length = 2 := rfl
  rw [e] at h
  refine h.mono ?_
  rintro e w1 ⟨rfl, hb1⟩
  exact ⟨rfl, hb.trans (hb1.mono hb.size)⟩

set_option maxHeartbeats 8000000 in
set_option maxRecDepth 100000 in
theorem Cmp_any (t t' : Tr) (w : World) (h1 : t.In w 0) (h2 : t'.In w 0) (s1 : Small t) (s2 : Small t') (e1 : errT t = 0) (e2 : errT t' = 0) : Calls Tryz.prog 148 #[t.val, t'.val] w fun e w' => e = .returned (.tuple #[.int .i64 (cmpT t t'), .int .i64 0]) ∧ Below w.heap.size w w' := by
  have CK := hidb (fun (W : World) (hW : Below w.heap.size w W) => checkPair t t' W 27 (in_below hW h1) (in_below hW h2) s1 s2 e1 e2)
  have CM := hidb (fun (W : World) (hW : Below w.heap.size w W) => compare_any t (err_all e1) t' (err_all e2) W (in_below hW h1) (in_below hW h2))
  obtain ⟨R, hR⟩ : ∃ R, cmpT t t' = R := ⟨_, rfl⟩
  rw [hR] at CM ⊢
  obtain ⟨k, n, f, s, a, c, ks⟩ := t
  obtain ⟨k', n', f', s', a', c', ks'⟩ := t'
  simp only [Tr.val, Tr.cells, List.flatMap_cons, List.flatMap_nil, List.append_nil, List.cons_append, List.nil_append] at CK CM ⊢
  clear h1 h2 s1 s2 e1 e2 hR
  generalize ks.length = l at *
  generalize ks'.length = l' at *
  obtain ⟨V, hV⟩ : ∃ V, (w.alloc (.cells #[.int .i64 k, .int .i64 n, .float .f64 f, .string s, .slice a l c] 27)).alloc (.cells #[.int .i64 k', .int .i64 n', .float .f64 f', .string s', .slice a' l' c'] 27) = V := ⟨_, rfl⟩
  have HBV : Hid (Below w.heap.size w V ∧ V.heap.size = w.heap.size + 1 + 1) := hidb (by rw [← hV]; exact ⟨(below_new w _).alloc (by simp) _, by simp⟩)
  have HB1 : Hid (Box V w.heap.size (.int .i64 k) (.int .i64 n) (.float .f64 f) (.string s) (.slice a l c)) := hidb (by rw [← hV]; exact (Box.new w _ _ _ _ _ _).keep (below_new _ _))
  have HB2 : Hid (Box V (w.heap.size + 1) (.int .i64 k') (.int .i64 n') (.float .f64 f') (.string s') (.slice a' l' c')) := hidb (by
    rw [← hV]
    have := Box.new (w.alloc (.cells #[.int .i64 k, .int .i64 n, .float .f64 f, .string s, .slice a l c] 27)) 27 (.int .i64 k') (.int .i64 n') (.float .f64 f') (.string s') (.slice a' l' c')
    simpa using this)
  have HV := hidb hV
  clear hV
  go_enter Tryz.func148, Tryz.ntmps148
  go_wp2_with fail
  rw [HV.out, ← HBV.out.2]
  refine (CK.out V HBV.out.1).mono ?_
  rintro e w2 ⟨rfl, hb2⟩
  have HB3 := hidb hb2
  have HX1 := hidb (HB1.out.keep HB3.out)
  have HX2 := hidb (HB2.out.keep HB3.out)
  obtain ⟨⟨x0, x1, x2, x3, x4⟩, -, xl⟩ := Box.six HX1.out
  obtain ⟨⟨y0, y1, y2, y3, y4⟩, -, yl⟩ := Box.six HX2.out
  clear hb2
  go_wp2_with fail
  refine (CM.out _ (HBV.out.1.trans (HB3.out.mono HBV.out.1.size))).mono ?_
  rintro e w4 ⟨rfl, hb4⟩
  have HB4 := hidb (HBV.out.1.trans ((HB3.out.trans (hb4.mono HB3.out.size)).mono HBV.out.1.size))
  clear hb4
  go_wp2_with fail
  go_ret2
  exact ⟨rfl, HB4.out⟩

set_option maxHeartbeats 8000000 in
set_option maxRecDepth 100000 in
theorem Same_any (t t' : Tr) (w : World) (h1 : t.In w 0) (h2 : t'.In w 0) (s1 : Small t) (s2 : Small t') (e1 : errT t = 0) (e2 : errT t' = 0) : Calls Tryz.prog 149 #[t.val, t'.val] w fun e w' => e = .returned (.tuple #[.bool (idP t t'), .int .i64 0]) ∧ Below w.heap.size w w' := by
  have CK := hidb (fun (W : World) (hW : Below w.heap.size w W) => checkPair t t' W 27 (in_below hW h1) (in_below hW h2) s1 s2 e1 e2)
  have CM := hidb (fun (W : World) (hW : Below w.heap.size w W) => identical_any t t' W (in_below hW h1) (in_below hW h2))
  obtain ⟨R, hR⟩ : ∃ R, idP t t' = R := ⟨_, rfl⟩
  rw [hR] at CM ⊢
  obtain ⟨k, n, f, s, a, c, ks⟩ := t
  obtain ⟨k', n', f', s', a', c', ks'⟩ := t'
  simp only [Tr.val, Tr.cells, List.flatMap_cons, List.flatMap_nil, List.append_nil, List.cons_append, List.nil_append] at CK CM ⊢
  clear h1 h2 s1 s2 e1 e2 hR
  generalize ks.length = l at *
  generalize ks'.length = l' at *
  obtain ⟨V, hV⟩ : ∃ V, (w.alloc (.cells #[.int .i64 k, .int .i64 n, .float .f64 f, .string s, .slice a l c] 27)).alloc (.cells #[.int .i64 k', .int .i64 n', .float .f64 f', .string s', .slice a' l' c'] 27) = V := ⟨_, rfl⟩
  have HBV : Hid (Below w.heap.size w V ∧ V.heap.size = w.heap.size + 1 + 1) := hidb (by rw [← hV]; exact ⟨(below_new w _).alloc (by simp) _, by simp⟩)
  have HB1 : Hid (Box V w.heap.size (.int .i64 k) (.int .i64 n) (.float .f64 f) (.string s) (.slice a l c)) := hidb (by rw [← hV]; exact (Box.new w _ _ _ _ _ _).keep (below_new _ _))
  have HB2 : Hid (Box V (w.heap.size + 1) (.int .i64 k') (.int .i64 n') (.float .f64 f') (.string s') (.slice a' l' c')) := hidb (by
    rw [← hV]
    have := Box.new (w.alloc (.cells #[.int .i64 k, .int .i64 n, .float .f64 f, .string s, .slice a l c] 27)) 27 (.int .i64 k') (.int .i64 n') (.float .f64 f') (.string s') (.slice a' l' c')
    simpa using this)
  have HV := hidb hV
  clear hV
  go_enter Tryz.func149, Tryz.ntmps149
  go_wp2_with fail
  rw [HV.out, ← HBV.out.2]
  refine (CK.out V HBV.out.1).mono ?_
  rintro e w2 ⟨rfl, hb2⟩
  have HB3 := hidb hb2
  have HX1 := hidb (HB1.out.keep HB3.out)
  have HX2 := hidb (HB2.out.keep HB3.out)
  obtain ⟨⟨x0, x1, x2, x3, x4⟩, -, xl⟩ := Box.six HX1.out
  obtain ⟨⟨y0, y1, y2, y3, y4⟩, -, yl⟩ := Box.six HX2.out
  clear hb2
  go_wp2_with fail
  refine (CM.out _ (HBV.out.1.trans (HB3.out.mono HBV.out.1.size))).mono ?_
  rintro e w4 ⟨rfl, hb4⟩
  have HB4 := hidb (HBV.out.1.trans ((HB3.out.trans (hb4.mono HB3.out.size)).mono HBV.out.1.size))
  clear hb4
  go_wp2_with fail
  go_ret2
  exact ⟨rfl, HB4.out⟩
end Go.Proofs.YtgljglindgbjaaaGreatDoor


/- Plain facts on binary floats of 64 bits: floors and ceilings of a number by its quotient and rest. -/
namespace Go.Proofs.YtgljglindgbjaaaGreatDoor.Flt
open Ieee

/-- past its digits a number is all rest -/
theorem gap_parts (n d : Nat) : n / 2 ^ min d (n.log2 + 2) = n / 2 ^ d ∧ n % 2 ^ min d (n.log2 + 2) = n % 2 ^ d := by
  rcases Nat.le_total d (n.log2 + 2) with h | h
  · rw [Nat.min_eq_left h]; exact ⟨rfl, rfl⟩
  · rw [Nat.min_eq_right h]
    have hlt : n < 2 ^ (n.log2 + 2) := by
      by_cases h0 : n = 0
      · subst h0; exact Nat.two_pow_pos _
      · exact Nat.lt_trans (log2_bounds h0).2 (Nat.pow_lt_pow_right (by decide) (by omega))
    have hlt2 : n < 2 ^ d := Nat.lt_of_lt_of_le hlt (Nat.pow_le_pow_right (by decide) h)
    rw [Nat.div_eq_of_lt hlt, Nat.div_eq_of_lt hlt2, Nat.mod_eq_of_lt hlt, Nat.mod_eq_of_lt hlt2]
    exact ⟨rfl, rfl⟩

theorem cut_down (s : Bool) (n d : Nat) : Toward.down.cut s n d = n / 2 ^ d + (s && n % 2 ^ d != 0).toNat := by
  unfold Toward.cut
  simp only [Nat.one_shiftLeft]
  rw [(gap_parts n d).1, (gap_parts n d).2]

theorem cut_up (s : Bool) (n d : Nat) : Toward.up.cut s n d = n / 2 ^ d + (!s && n % 2 ^ d != 0).toNat := by
  unfold Toward.cut
  simp only [Nat.one_shiftLeft]
  rw [(gap_parts n d).1, (gap_parts n d).2]

/-- a quotient of a canonical magnitude, and one more, are whole floats -/
theorem whole_round {x : Nat} (hx : x < 18446744073709551616) (fx : fin x = true) : ∃ s m p, double.read x = .number s m p ∧ -1074 ≤ p ∧ ∀ b : Bool, (b = true → p < 0) → Whole s (m * 2 ^ p.toNat / 2 ^ (-p).toNat + b.toNat) (double.nearest s (m * 2 ^ p.toNat / 2 ^ (-p).toNat + b.toNat) 0) := by
  obtain ⟨m, p, hr, hc, hp, he⟩ := read_canon hx fx
  have hi := hc.hi
  refine ⟨_, m, p, hr, hc.lo, fun b hb => ?_⟩
  rcases Int.lt_or_le p 0 with h | h
  · rw [show p.toNat = 0 by omega, Nat.pow_zero, Nat.mul_one]
    have : m / 2 ^ (-p).toNat ≤ m := Nat.div_le_self _ _
    have hb1 : b.toNat ≤ 1 := by cases b <;> simp
    exact whole_small _ (by omega)
  · have hbf : b = false := by
      cases b
      · rfl
      · exact absurd (hb rfl) (by omega)
    subst hbf
    rw [show (-p).toNat = 0 by omega, Nat.pow_zero, Nat.div_one, Bool.toNat_false, Nat.add_zero]
    have hw := whole_self hx fx hr hc he h
    rw [hw.near]; exact hw

end Go.Proofs.YtgljglindgbjaaaGreatDoor.Flt


/- Plain facts on binary floats of 64 bits: what a canonical form's rung is worth; exact differences. -/
namespace Go.Proofs.YtgljglindgbjaaaGreatDoor.Flt
open Ieee

theorem read_of_canon (s : Bool) {m : Nat} {p : Int} (hc : Canon m p) (hp : p ≤ 971) :
    double.read (double.word s ((p + 1074).toNat * 4503599627370496 + m)) = .number s m p ∧ fin (double.word s ((p + 1074).toNat * 4503599627370496 + m)) = true ∧ double.word s ((p + 1074).toNat * 4503599627370496 + m) < 18446744073709551616 := by
  have hw := word_val s ((p + 1074).toNat * 4503599627370496 + m)
  have l1 := hc.lo
  have l2 := hc.hi
  have l3 := hc.norm
  generalize hr : (p + 1074).toNat * 4503599627370496 + m = r at *
  have hrl : r < 9218868437227405312 := by omega
  generalize double.word s r = x at *
  have hx : x < 18446744073709551616 := by cases s <;> simp at hw <;> omega
  have hm : x % 9223372036854775808 = r := by cases s <;> simp at hw <;> omega
  have hf : fin x = true := by simp only [fin, hm, decide_eq_true_eq]; omega
  have hs : decide (9223372036854775808 ≤ x) = s := by cases s <;> simp at hw ⊢ <;> omega
  refine ⟨?_, hf, hx⟩
  obtain ⟨m2, p2, h2, c2, u2, e2⟩ := read_canon hx hf
  have k1 := c2.lo
  have k2 := c2.hi
  have k3 := c2.norm
  have em : m2 = m := by omega
  have ep : p2 = p := by omega
  rw [h2, hs, em, ep]

theorem U_canon (s : Bool) {m : Nat} {p : Int} (hc : Canon m p) (hp : p ≤ 971) : U (double.word s ((p + 1074).toNat * 4503599627370496 + m)) = signed s m (p + 1074).toNat :=
  U_of (read_of_canon s hc hp).1

/-- what a rung of 53 bits is worth -/
theorem U_rung (s : Bool) {a m : Nat} (ha : a ≤ 2000) (h1 : 4503599627370496 ≤ m) (h2 : m ≤ 9007199254740992) :
    U (double.word s (a * 4503599627370496 + m)) = signed s m a ∧ fin (double.word s (a * 4503599627370496 + m)) = true ∧ double.word s (a * 4503599627370496 + m) < 18446744073709551616 := by
  rcases Nat.lt_or_ge m 9007199254740992 with h | h
  · have hc : Canon m ((a : Int) - 1074) := ⟨by omega, h, Or.inl h1⟩
    have k := read_of_canon s hc (by omega)
    have u := U_canon s hc (by omega)
    rw [show ((a : Int) - 1074 + 1074).toNat = a by omega] at k u
    exact ⟨u, k.2⟩
  · obtain rfl : m = 9007199254740992 := by omega
    have hc : Canon 4503599627370496 ((a : Int) + 1 - 1074) := ⟨by omega, by omega, Or.inl (by omega)⟩
    have k := read_of_canon s hc (by omega)
    have u := U_canon s hc (by omega)
    rw [show ((a : Int) + 1 - 1074 + 1074).toNat = a + 1 by omega, show (a + 1) * 4503599627370496 + 4503599627370496 = a * 4503599627370496 + 9007199254740992 by omega] at k u
    refine ⟨?_, k.2⟩
    rw [u]
    unfold signed
    have : 4503599627370496 <<< (a + 1) = 9007199254740992 <<< a := by rw [Nat.shiftLeft_eq, Nat.shiftLeft_eq, Nat.pow_succ]; omega
    rw [this]

theorem Whole.U {s : Bool} {M z : Nat} (h : Whole s M z) : U z = signed s M 0 * P := by
  obtain ⟨m, p, hr, lo, he⟩ := h.read
  rw [U_of hr, unit_whole he, signed_P]

/-- a float that is worth a small whole number is it -/
theorem whole_of_U {z N : Nat} {s : Bool} (hz : z < 18446744073709551616) (fz : fin z = true) (h0 : 0 < N) (hN : N ≤ 9007199254740992) (hU : Flt.U z = signed s N 0 * P) : Whole s N z := by
  have hw := whole_small s hN
  by_cases e : z = double.nearest s N 0
  · rw [e]; exact hw
  · exfalso
    have := U_inj hz hw.lt fz hw.fin (by rw [hU, hw.U]) e
    rw [hU] at this
    have hP := P_pos
    rcases Int.mul_eq_zero.1 this with h | h
    · cases s
      · simp only [signed, Nat.shiftLeft_zero, Bool.false_eq_true, if_false] at h; omega
      · simp only [signed, Nat.shiftLeft_zero, if_true] at h; omega
    · omega

/-- a number of at most 53 places is written as it is -/
theorem nearest_value (s : Bool) {n m a : Nat} {e : Int} (he : -1074 ≤ e) (hm : m < 9007199254740992) (ha : a ≤ 2045) (h : n * 2 ^ (e + 1074).toNat = m * 2 ^ a) :
    U (double.nearest s n e) = signed s n (e + 1074).toNat ∧ fin (double.nearest s n e) = true ∧ double.nearest s n e < 18446744073709551616 := by
  by_cases h0 : n = 0
  · subst h0
    have e1 : double.nearest s 0 e = double.word s (((-1074 : Int) + 1074).toNat * 4503599627370496 + 0) := by
      unfold Format.nearest; simp
    have hc : Canon 0 (-1074) := ⟨by omega, by omega, Or.inr rfl⟩
    rw [e1]
    refine ⟨?_, (read_of_canon s hc (by omega)).2⟩
    rw [U_canon s hc (by omega)]
    cases s <;> simp [signed]
  · have m0 : m ≠ 0 := by
      intro hh
      subst hh
      rw [Nat.zero_mul] at h
      have := Nat.mul_pos (Nat.pos_of_ne_zero h0) (Nat.two_pow_pos (e + 1074).toNat)
      omega
    have lg : n.log2 + (e + 1074).toNat = m.log2 + a := by rw [← log2_mul_pow h0, ← log2_mul_pow m0, h]
    have lm : m.log2 ≤ 52 := by
      have b := (log2_bounds m0).1
      rcases Nat.lt_or_ge 52 m.log2 with hh | hh
      · have : 2 ^ 53 ≤ 2 ^ m.log2 := Nat.pow_le_pow_right (by decide) hh
        omega
      · exact hh
    have key : ∃ m' last, Canon m' last ∧ last ≤ 971 ∧ n * 2 ^ (e + 1074).toNat = m' * 2 ^ (last + 1074).toNat ∧ double.nearest s n e = double.word s (min ((last + 1074).toNat * 4503599627370496 + m') 9218868437227405312) := by
      unfold Format.nearest
      simp only [bn, ir, lp]
      rw [if_neg h0]
      have hfb : (double.fractionBits : Int) = 52 := by decide
      rw [hfb]
      generalize hl : max (e + (n.log2 : Int) - 52) (-1074) = last
      rcases Int.lt_or_le e last with hlt | hle
      · have hlast : last = e + (n.log2 : Int) - 52 := by omega
        have hn : n = m * 2 ^ (a - (last + 1074).toNat) * 2 ^ (last - e).toNat := by
          refine Nat.eq_of_mul_eq_mul_right (Nat.two_pow_pos (e + 1074).toNat) ?_
          rw [h, Nat.mul_assoc, Nat.mul_assoc, ← Nat.pow_add, ← Nat.pow_add]
          congr 2
          omega
        have e2 : (e - last).toNat = 0 := by omega
        generalize hm' : m * 2 ^ (a - (last + 1074).toNat) = m' at hn
        have hl2 : m'.log2 = 52 := by rw [← hm', log2_mul_pow m0]; omega
        have m'0 : m' ≠ 0 := by rw [← hm']; exact Nat.mul_ne_zero m0 (by have := Nat.two_pow_pos (a - (last + 1074).toNat); omega)
        have hb := log2_bounds m'0
        rw [hl2] at hb
        refine ⟨m', last, ⟨by omega, by omega, Or.inl (by omega)⟩, by omega, ?_, ?_⟩
        · rw [hn, Nat.mul_assoc, ← Nat.pow_add]
          congr 2
          omega
        · rw [e2, Nat.shiftLeft_zero]
          have := cut_even_exact s m' (last - e).toNat
          rw [← hn] at this
          rw [this, show (last - -1074).toNat = (last + 1074).toNat by omega]
      · have e2 : (last - e).toNat = 0 := by omega
        have hc := cut_even_exact s (n <<< (e - last).toNat) 0
        rw [Nat.pow_zero, Nat.mul_one] at hc
        have hl2 : (n <<< (e - last).toNat).log2 = n.log2 + (e - last).toNat := by rw [Nat.shiftLeft_eq, log2_mul_pow h0]
        have m'0 : n <<< (e - last).toNat ≠ 0 := by rw [Nat.shiftLeft_eq]; exact Nat.mul_ne_zero h0 (by have := Nat.two_pow_pos (e - last).toNat; omega)
        have hb := log2_bounds m'0
        rw [hl2] at hb
        have hup : n.log2 + (e - last).toNat ≤ 52 := by omega
        have h53 : 2 ^ (n.log2 + (e - last).toNat + 1) ≤ 2 ^ 53 := Nat.pow_le_pow_right (by decide) (by omega)
        refine ⟨n <<< (e - last).toNat, last, ⟨by omega, by omega, ?_⟩, by omega, ?_, ?_⟩
        · rcases Int.lt_or_le (-1074) last with hh | hh
          · left
            have : n.log2 + (e - last).toNat = 52 := by omega
            rw [this] at hb
            omega
          · right; omega
        · rw [Nat.shiftLeft_eq, Nat.mul_assoc, ← Nat.pow_add]
          congr 2
          omega
        · rw [e2, hc, show (last - -1074).toNat = (last + 1074).toNat by omega]
    obtain ⟨m', last, hc, hlast, hv, hw⟩ := key
    have l1 := hc.lo
    have l2 := hc.hi
    rw [Nat.min_eq_left (by omega)] at hw
    rw [hw]
    refine ⟨?_, (read_of_canon s hc hlast).2⟩
    rw [U_canon s hc hlast]
    unfold signed
    rw [Nat.shiftLeft_eq, Nat.shiftLeft_eq, hv]

/-- a difference of at most 53 places is told as it is -/
theorem sub_exact {x y m a : Nat} (hx : x < 18446744073709551616) (hy : y < 18446744073709551616) (fx : fin x = true) (fy : fin y = true) (hm : m < 9007199254740992) (ha : a ≤ 2045) (hD : (U x - U y).natAbs = m * 2 ^ a) :
    ∃ z, double.sub x y = some z ∧ z < 18446744073709551616 ∧ fin z = true ∧ U z = U x - U y := by
  obtain ⟨m1, p, hr, hc, hp, he⟩ := read_canon hx fx
  obtain ⟨n1, q, hr', hc', hp', he'⟩ := read_canon hy fy
  generalize decide (9223372036854775808 ≤ x) = s at hr
  generalize decide (9223372036854775808 ≤ y) = t at hr'
  have l1 := hc.lo
  have l2 := hc'.lo
  rw [U_of hr, U_of hr'] at hD ⊢
  unfold unit at hD ⊢
  have e1 : (p + 1074).toNat = (p - min p q).toNat + (min p q + 1074).toNat := by omega
  have e2 : (q + 1074).toNat = (q - min p q).toNat + (min p q + 1074).toNat := by omega
  rw [e1, e2, signed_up, signed_up, ← Int.sub_mul] at hD ⊢
  unfold Format.sub
  rw [hr, hr']
  simp only [Datum.opposite, Datum.sum, Option.map_some, Format.write]
  rw [signed_not]
  generalize signed s m1 (p - min p q).toNat = A at hD ⊢
  generalize signed t n1 (q - min p q).toNat = B at hD ⊢
  have hb : -1074 ≤ min p q := by omega
  generalize min p q = base at hb hD ⊢
  refine ⟨_, rfl, ?_⟩
  rw [Int.natAbs_mul, Int.natAbs_natCast] at hD
  have hab : A + -B = A - B := by omega
  rw [hab]
  have nv := nearest_value (if A - B = 0 then s && !t else decide (A - B < 0)) (n := (A - B).natAbs) hb hm ha hD
  refine ⟨nv.2.2, nv.2.1, ?_⟩
  rw [nv.1]
  unfold signed
  rw [Nat.shiftLeft_eq]
  rcases Int.lt_trichotomy (A - B) 0 with h | h | h
  · have hs : (if A - B = 0 then s && !t else decide (A - B < 0)) = true := by rw [if_neg (by omega)]; exact decide_eq_true h
    rw [hs, if_pos rfl, Int.natCast_mul, show ((A - B).natAbs : Int) = -(A - B) by omega, Int.neg_mul, Int.neg_neg]
  · rw [h]; simp
  · have hs : (if A - B = 0 then s && !t else decide (A - B < 0)) = false := by rw [if_neg (by omega)]; exact decide_eq_false (by omega)
    rw [hs, if_neg (by simp), Int.natCast_mul, show ((A - B).natAbs : Int) = (A - B) by omega]
end Go.Proofs.YtgljglindgbjaaaGreatDoor.Flt


