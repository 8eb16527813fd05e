import Derived.Test.YtgljglindgbjaaaGreatDoorG13
import Derived.Lib.Bytealg
/- The order of terms: what it is, the small functions of it walked. -/
namespace Go.Proofs.YtgljglindgbjaaaGreatDoor
open Go.RowKit Go.Lib Go.Deep
attribute [local go_sem] store_float f64bits
attribute [local go_sem ↓] Go.wp_at_zero Go.wp_at_succ

def cmpI (x y : Int) : Int := if x < y then -1 else if y < x then 1 else 0
def rk (k : Int) : Int := if k = 1 then 0 else if k = 2 then 0 else if k = 3 then 1 else if k = 4 then 2 else if k = 5 then 3 else if k = 6 then 4 else if k = 7 then 5 else if k = 8 then 6 else 5
mutual
/-- How two terms stand in the order. -/
def cmpT : Tr → Tr → Int
  | .mk k n f s _ _ ks, .mk k' n' f' s' _ _ ks' =>
    if cmpI (rk k) (rk k') ≠ 0 then cmpI (rk k) (rk k')
    else if k = 1 ∨ k = 2 then Flt.ordI (compare (valU k n f) (valU k' n' f'))
    else if k = 3 then compareBytes s.data.toList s'.data.toList
    else if k = 4 ∨ k = 6 then cmpI n n'
    else if k = 5 then (if cmpI n n' ≠ 0 then cmpI n n' else cmpA ks ks')
    else if k = 8 then cmpA ks ks'
    else (if cmpI ks.length ks'.length ≠ 0 then cmpI ks.length ks'.length else cmpA ks ks')
def cmpA : List Tr → List Tr → Int
  | [], [] => 0
  | [], _ :: _ => -1
  | _ :: _, [] => 1
  | t :: r, t' :: r' => if cmpT t t' ≠ 0 then cmpT t t' else cmpA r r'
end

theorem isNaNCi (x : Int) (w : World) : Calls Tryz.prog 238 #[.int .i64 x] w fun e w' => e = .returned (.bool false) ∧ w' = w := by
  go_enter Tryz.func238, Tryz.ntmps238
  go_wp2_with fail
  go_ret
  exact ⟨by simp, rfl⟩
theorem compCi (x y : Int) (w : World) : Calls Tryz.prog 210 #[.int .i64 x, .int .i64 y] w fun e w' => e = .returned (.int .i64 (cmpI x y)) ∧ w' = w := by
  unfold cmpI
  by_cases h1 : x < y
  · rw [if_pos h1]
    go_enter Tryz.func210, Tryz.ntmps210
    go_wp2_with (go_at_call 238; refine (isNaNCi _ _).mono ?_; rintro e w' ⟨rfl, rfl⟩)
    go_ret
    exact ⟨rfl, rfl⟩
  · rw [if_neg h1]
    by_cases h2 : y < x
    · rw [if_pos h2]
      go_enter Tryz.func210, Tryz.ntmps210
      go_wp2_with (go_at_call 238; refine (isNaNCi _ _).mono ?_; rintro e w' ⟨rfl, rfl⟩)
      go_ret
      exact ⟨rfl, rfl⟩
    · rw [if_neg h2]
      go_enter Tryz.func210, Tryz.ntmps210
      go_wp2_with (go_at_call 238; refine (isNaNCi _ _).mono ?_; rintro e w' ⟨rfl, rfl⟩)
      go_ret
      exact ⟨rfl, rfl⟩
theorem isNaNCl (x : Int) (w : World) : Calls Tryz.prog 220 #[.int .i64 x] w fun e w' => e = .returned (.bool false) ∧ w' = w := by
  go_enter Tryz.func220, Tryz.ntmps220
  go_wp2_with fail
  go_ret
  exact ⟨by simp, rfl⟩
theorem compCl (x y : Int) (w : World) : Calls Tryz.prog 183 #[.int .i64 x, .int .i64 y] w fun e w' => e = .returned (.int .i64 (cmpI x y)) ∧ w' = w := by
  unfold cmpI
  by_cases h1 : x < y
  · rw [if_pos h1]
    go_enter Tryz.func183, Tryz.ntmps183
    go_wp2_with (go_at_call 220; refine (isNaNCl _ _).mono ?_; rintro e w' ⟨rfl, rfl⟩)
    go_ret
    exact ⟨rfl, rfl⟩
  · rw [if_neg h1]
    by_cases h2 : y < x
    · rw [if_pos h2]
      go_enter Tryz.func183, Tryz.ntmps183
      go_wp2_with (go_at_call 220; refine (isNaNCl _ _).mono ?_; rintro e w' ⟨rfl, rfl⟩)
      go_ret
      exact ⟨rfl, rfl⟩
    · rw [if_neg h2]
      go_enter Tryz.func183, Tryz.ntmps183
      go_wp2_with (go_at_call 220; refine (isNaNCl _ _).mono ?_; rintro e w' ⟨rfl, rfl⟩)
      go_ret
      exact ⟨rfl, rfl⟩
set_option maxHeartbeats 1000000 in
set_option maxRecDepth 100000 in
theorem compS (a b : ByteArray) (w : World) : Calls Tryz.prog 294 #[.string a, .string b] w fun e w' => e = .returned (.int .i64 (compareBytes a.data.toList b.data.toList)) ∧ w' = w := by
  have CS : ∀ w, Calls Tryz.prog 296 #[.string a, .string b] w fun e w' => e = .returned (.int .i64 (compareBytes a.data.toList b.data.toList)) ∧ w' = w := fun w => by
    go_enter Tryz.func296, Tryz.ntmps296
    go_wp2
    rw [run_callFunc_extern Tryz.func297 (by kernel_rfl) (by kernel_rfl) (by kernel_rfl) (e := Extern.BytealgCompare.compare) (by kernel_rfl), run_compareString]
    simp only [Result.andThen]
    rw [Oper.upon_value]
    go_wp2
    go_ret
    exact ⟨rfl, rfl⟩
  go_enter Tryz.func294, Tryz.ntmps294
  go_wp2_with (go_at_call 296; refine (CS _).mono ?_; rintro e w' ⟨rfl, rfl⟩)
  go_ret
  exact ⟨rfl, rfl⟩
def frank (k : Int) : FuncId := if k = 1 then 283 else if k = 2 then 283 else if k = 3 then 290 else if k = 4 then 300 else if k = 5 then 304 else if k = 6 then 310 else if k = 7 then 314 else if k = 8 then 319 else 314
def fcmp (k : Int) : FuncId := if k = 1 then 282 else if k = 2 then 282 else if k = 3 then 289 else if k = 4 then 298 else if k = 5 then 303 else if k = 6 then 298 else if k = 7 then 313 else if k = 8 then 318 else 313
theorem method_rank (k : Int) (w : World) : (method 354 (kt k) (.agg #[]) "exitwave/term.rank").run Tryz.prog w = .ok (frank k, .agg #[]) w := by
  refine by_kind (Q := fun k => (method 354 (kt k) (.agg #[]) "exitwave/term.rank").run Tryz.prog w = .ok (frank k, .agg #[]) w) k ?_ ?_ ?_ ?_ ?_ ?_ ?_ ?_ ?_
  · kernel_rfl
  · kernel_rfl
  · kernel_rfl
  · kernel_rfl
  · kernel_rfl
  · kernel_rfl
  · kernel_rfl
  · kernel_rfl
  · intro k h1 h2 h3 h4 h5 h6 h7 h8
    simp only [kt, frank, h1, h2, h3, h4, h5, h6, h7, h8, if_false]
    kernel_rfl
theorem call_rank (k : Int) (args : Array Value) (w : World) : (callFunc (frank k) args).run Tryz.prog w = .ok (.enter (frank k) args) w := by
  refine by_kind (Q := fun k => (callFunc (frank k) args).run Tryz.prog w = .ok (.enter (frank k) args) w) k ?_ ?_ ?_ ?_ ?_ ?_ ?_ ?_ ?_
  · exact Tryz.call283 args w
  · exact Tryz.call283 args w
  · exact Tryz.call290 args w
  · exact Tryz.call300 args w
  · exact Tryz.call304 args w
  · exact Tryz.call310 args w
  · exact Tryz.call314 args w
  · exact Tryz.call319 args w
  · intro k h1 h2 h3 h4 h5 h6 h7 h8
    simp only [frank, h1, h2, h3, h4, h5, h6, h7, h8, if_false]
    exact Tryz.call314 args w
theorem method_compare (k : Int) (w : World) : (method 354 (kt k) (.agg #[]) "exitwave/term.compare").run Tryz.prog w = .ok (fcmp k, .agg #[]) w := by
  refine by_kind (Q := fun k => (method 354 (kt k) (.agg #[]) "exitwave/term.compare").run Tryz.prog w = .ok (fcmp k, .agg #[]) w) k ?_ ?_ ?_ ?_ ?_ ?_ ?_ ?_ ?_
  · kernel_rfl
  · kernel_rfl
  · kernel_rfl
  · kernel_rfl
  · kernel_rfl
  · kernel_rfl
  · kernel_rfl
  · kernel_rfl
  · intro k h1 h2 h3 h4 h5 h6 h7 h8
    simp only [kt, fcmp, h1, h2, h3, h4, h5, h6, h7, h8, if_false]
    kernel_rfl
theorem call_compare (k : Int) (args : Array Value) (w : World) : (callFunc (fcmp k) args).run Tryz.prog w = .ok (.enter (fcmp k) args) w := by
  refine by_kind (Q := fun k => (callFunc (fcmp k) args).run Tryz.prog w = .ok (.enter (fcmp k) args) w) k ?_ ?_ ?_ ?_ ?_ ?_ ?_ ?_ ?_
  · exact Tryz.call282 args w
  · exact Tryz.call282 args w
  · exact Tryz.call289 args w
  · exact Tryz.call298 args w
  · exact Tryz.call303 args w
  · exact Tryz.call298 args w
  · exact Tryz.call313 args w
  · exact Tryz.call318 args w
  · intro k h1 h2 h3 h4 h5 h6 h7 h8
    simp only [fcmp, h1, h2, h3, h4, h5, h6, h7, h8, if_false]
    exact Tryz.call313 args w
set_option maxRecDepth 100000 in
theorem rank_any (k : Int) (w : World) : Calls Tryz.prog (frank k) #[.agg #[]] w fun e w' => e = .returned (.int .i64 (rk k)) ∧ Below w.heap.size w w' := by
  refine by_kind (Q := fun k => Calls Tryz.prog (frank k) #[.agg #[]] w fun e w' => e = .returned (.int .i64 (rk k)) ∧ Below w.heap.size w w') k ?_ ?_ ?_ ?_ ?_ ?_ ?_ ?_ ?_
  · show Calls Tryz.prog 283 _ _ _
    go_enter Tryz.func283, Tryz.ntmps283; go_wp2; go_ret; exact ⟨rfl, by first | exact Below.refl _ _ | exact below_new _ _⟩
  · show Calls Tryz.prog 283 _ _ _
    go_enter Tryz.func283, Tryz.ntmps283; go_wp2; go_ret; exact ⟨rfl, by first | exact Below.refl _ _ | exact below_new _ _⟩
  · show Calls Tryz.prog 290 _ _ _
    go_enter Tryz.func290, Tryz.ntmps290; go_wp2; go_ret; exact ⟨rfl, by first | exact Below.refl _ _ | exact below_new _ _⟩
  · show Calls Tryz.prog 300 _ _ _
    go_enter Tryz.func300, Tryz.ntmps300; go_wp2; go_ret; exact ⟨rfl, by first | exact Below.refl _ _ | exact below_new _ _⟩
  · show Calls Tryz.prog 304 _ _ _
    go_enter Tryz.func304, Tryz.ntmps304; go_wp2; go_ret; exact ⟨rfl, by first | exact Below.refl _ _ | exact below_new _ _⟩
  · show Calls Tryz.prog 310 _ _ _
    go_enter Tryz.func310, Tryz.ntmps310; go_wp2; go_ret; exact ⟨rfl, by first | exact Below.refl _ _ | exact below_new _ _⟩
  · show Calls Tryz.prog 314 _ _ _
    go_enter Tryz.func314, Tryz.ntmps314; go_wp2; go_ret; exact ⟨rfl, by first | exact Below.refl _ _ | exact below_new _ _⟩
  · show Calls Tryz.prog 319 _ _ _
    go_enter Tryz.func319, Tryz.ntmps319; go_wp2; go_ret; exact ⟨rfl, by first | exact Below.refl _ _ | exact below_new _ _⟩
  · intro k h1 h2 h3 h4 h5 h6 h7 h8
    simp only [frank, h1, h2, h3, h4, h5, h6, h7, h8, if_false]
    go_enter Tryz.func314, Tryz.ntmps314; go_wp2; go_ret; exact ⟨by simp [rk, h1, h2, h3, h4, h5, h6, h7, h8], by first | exact Below.refl _ _ | exact below_new _ _⟩
end Go.Proofs.YtgljglindgbjaaaGreatDoor


/- The order of terms, walked: slices.CompareFunc over what is known of the elements. -/
namespace Go.Proofs.YtgljglindgbjaaaGreatDoor
open Go.RowKit Go.Lib Go.Deep
attribute [local go_sem] store_float f64bits
attribute [local go_sem ↓] Go.wp_at_zero Go.wp_at_succ

/-- term.compare of a term and any right one. -/
def CmpOk (t : Tr) : Prop := ∀ t' : Tr, allT goodT t' = true → ∀ w : World, t.In w 0 → t'.In w 0 →
  Calls Tryz.prog 170 #[t.val, t'.val] w fun e w' => e = .returned (.int .i64 (cmpT t t')) ∧ Below w.heap.size w w'

theorem cmpA_step {kids kids' : List Tr} {m : Nat} {t t' : Tr} (h : kids[m]? = some t) (h' : kids'[m]? = some t') : cmpA (kids.drop m) (kids'.drop m) = if cmpT t t' ≠ 0 then cmpT t t' else cmpA (kids.drop (m + 1)) (kids'.drop (m + 1)) := by
  have e1 : kids.drop m = t :: kids.drop (m + 1) := by
    have := (List.getElem?_eq_some_iff.1 h)
    obtain ⟨hl, hv⟩ := this
    rw [List.drop_eq_getElem_cons hl, hv]
  have e2 : kids'.drop m = t' :: kids'.drop (m + 1) := by
    obtain ⟨hl, hv⟩ := (List.getElem?_eq_some_iff.1 h')
    rw [List.drop_eq_getElem_cons hl, hv]
  rw [e1, e2]
  simp only [cmpA]

set_option maxHeartbeats 2000000 in
set_option maxRecDepth 100000 in
theorem cmpFunc_any (kids kids' : List Tr) (hk : ∀ t, t ∈ kids → CmpOk t) (hg : ∀ t, t ∈ kids' → allT goodT t = true) (k n : Int) (f : Nat) (s : ByteArray) (a : Option Addr) (c : Nat) (k' n' : Int) (f' : Nat) (s' : ByteArray) (a' : Option Addr) (c' : Nat) (w : World) (hin : (Tr.mk k n f s a c kids).In w 0) (hin' : (Tr.mk k' n' f' s' a' c' kids').In w 0) :
    Calls Tryz.prog 309 #[.slice a kids.length c, .slice a' kids'.length c', .func (.func 170) #[] #[]] w fun e w' => e = .returned (.int .i64 (cmpA kids kids')) ∧ Below w.heap.size w w' := by
  have hlen := len_small hin
  have hlen' := len_small hin'
  have HIN := hidb hin
  have HIN' := hidb hin'
  have HK := hidb hk
  have HG := hidb hg
  obtain ⟨M, hM⟩ : ∃ M, kids.length = M := ⟨_, rfl⟩
  obtain ⟨M', hM'⟩ : ∃ M', kids'.length = M' := ⟨_, rfl⟩
  have HM := hidb hM
  have HM' := hidb hM'
  rw [hM] at hlen ⊢
  rw [hM'] at hlen' ⊢
  clear hin hin' hk hg hM hM'
  go_enter Tryz.func309, Tryz.ntmps309
  go_wp2_with fail
  go_loopw [13] (fun iv wr => ∃ (m : Nat), m ≤ M ∧ iv = .int .i64 m ∧ cmpA kids kids' = cmpA (kids.drop m) (kids'.drop m) ∧ m ≤ M' ∧ Below w.heap.size w wr) (fun iv _ => M - (RowKit.intOf iv).toNat)
  case atStart => exact ⟨0, by omega, rfl, rfl, by omega, Below.refl _ _⟩
  case round =>
  obtain ⟨m, hm, rfl, hcm, hmm, hby⟩ := hrel
  have HBY := hidb hby
  have HCM := hidb hcm
  clear hcm
  by_cases hml : m < M
  · have hmb : (m : Int) < (M : Int) := by omega
    have hmz : (0 : Int) ≤ (m : Int) := by omega
    obtain ⟨b, o, rfl, hat⟩ := kid_at (in_below hby HIN.out) (by have := HM.out; omega)
    obtain ⟨k1, n1, f1, s1, a1, c1, ks1, hu, hin1, p0, p1, p2, p3, p4⟩ := hat m (by have := HM.out; omega)
    have hbl := World.block_lt_of_cell? _ _ p0
    by_cases hml' : m < M'
    · have hmb' : ¬ (M' : Int) ≤ (m : Int) := by omega
      have hmc' : (m : Int) < (M' : Int) := by omega
      obtain ⟨b', o', rfl, hat'⟩ := kid_at (in_below hby HIN'.out) (by have := HM'.out; omega)
      obtain ⟨k2, n2, f2, s2, a2, c2, ks2, hu', hin2, q0, q1, q2, q3, q4⟩ := hat' m (by have := HM'.out; omega)
      have hbl' := World.block_lt_of_cell? _ _ q0
      have HST := hidb (cmpA_step hu hu')
      have CK := hidb (fun (w' : World) (hb : Below wr.heap.size wr w') => HK.out _ (List.mem_of_getElem? hu) (.mk k2 n2 f2 s2 a2 c2 ks2) (HG.out _ (List.mem_of_getElem? hu')) w' (in_below hb hin1) (in_below hb hin2))
      obtain ⟨R, hR⟩ : ∃ R, cmpT (.mk k1 n1 f1 s1 a1 c1 ks1) (.mk k2 n2 f2 s2 a2 c2 ks2) = R := ⟨_, rfl⟩
      rw [hR] at CK HST
      simp only [Tr.val, Tr.cells] at CK
      generalize ks1.length = l1 at *
      generalize ks2.length = l2 at *
      clear hat hat' hu hu' hin1 hin2 hR hby
      go_wp2_with fail
      refine (CK.out _ ((below_new wr _).alloc (by simp) _)).mono ?_
      rintro e w1 ⟨rfl, hb1⟩
      have HB1 := hidb (HBY.out.trans ((((below_new wr _).alloc (by simp) _).trans (hb1.mono (by simp; omega))).mono HBY.out.size))
      clear hb1
      by_cases hR0 : R = 0
      · have hRb : (R != 0) = false := by simp [hR0]
        have HST' : Hid (cmpA kids kids' = cmpA (kids.drop (m + 1)) (kids'.drop (m + 1))) := hidb (by rw [HCM.out, HST.out, if_neg (by simpa using hR0)])
        clear hR0
        go_wp2_with fail
        go_roundw
        case rel => exact ⟨m + 1, by omega, by go_num, HST'.out, by omega, HB1.out⟩
        case measure => simp [RowKit.intOf]; omega
      · have hRb : (R != 0) = true := by simp [hR0]
        have HR : Hid (cmpA kids kids' = R) := hidb (by rw [HCM.out, HST.out, if_pos hR0])
        clear hR0
        go_wp2_with fail
        go_ret
        exact ⟨by rw [HR.out]; rfl, HB1.out⟩
    · have hmb' : (M' : Int) ≤ (m : Int) := by omega
      have hR : cmpA kids kids' = 1 := by
        rw [HCM.out]
        have e1 : kids'.drop m = [] := List.drop_eq_nil_of_le (by have := HM'.out; omega)
        have hl := (List.getElem?_eq_some_iff.1 hu).1
        rw [e1, List.drop_eq_getElem_cons hl]
        simp only [cmpA]
      have HR := hidb hR
      generalize ks1.length = l1 at *
      clear hat hu hin1 hR hby
      go_wp2_with fail
      go_ret
      exact ⟨by rw [HR.out]; rfl, HBY.out.alloc HBY.out.size _⟩
  · have hmn : ¬ (m : Int) < (M : Int) := by omega
    clear hby
    obtain rfl : m = M := by omega
    by_cases hlt : m < M'
    · have hlb : (m : Int) < (M' : Int) := by omega
      have HR : Hid (cmpA kids kids' = -1) := hidb (by
        rw [HCM.out]
        have e1 : kids.drop m = [] := List.drop_eq_nil_of_le (by have := HM.out; omega)
        have hl : m < kids'.length := by have := HM'.out; omega
        rw [e1, List.drop_eq_getElem_cons hl]
        simp only [cmpA])
      go_wp2_with fail
      go_ret
      exact ⟨by rw [HR.out]; rfl, HBY.out⟩
    · have hlb : ¬ (m : Int) < (M' : Int) := by omega
      have HR : Hid (cmpA kids kids' = 0) := hidb (by
        rw [HCM.out]
        have e1 : kids.drop m = [] := List.drop_eq_nil_of_le (by have := HM.out; omega)
        have e2 : kids'.drop m = [] := List.drop_eq_nil_of_le (by have := HM'.out; omega)
        rw [e1, e2]
        simp only [cmpA])
      go_wp2_with fail
      go_ret
      exact ⟨by rw [HR.out]; rfl, HBY.out⟩
end Go.Proofs.YtgljglindgbjaaaGreatDoor


/- The kinds' compare; term.compare of any two right terms. -/
namespace Go.Proofs.YtgljglindgbjaaaGreatDoor
open Go.RowKit Go.Lib Go.Deep
attribute [local go_sem] store_float f64bits
attribute [local go_sem ↓] Go.wp_at_zero Go.wp_at_succ

theorem below3 (w : World) (o1 o2 o3 : Obj) : Below w.heap.size w (((w.alloc o1).alloc o2).alloc o3) := (((Below.refl _ w).alloc (Nat.le_refl _) _).alloc (by simp) _).alloc (by simp; omega) _
set_option maxRecDepth 100000 in
theorem cmpAll_any (a : Option Addr) (l c : Nat) (a' : Option Addr) (l' c' : Nat) (w : World) (R : Int) (hC : ∀ W, Below w.heap.size w W → Calls Tryz.prog 309 #[.slice a l c, .slice a' l' c', .func (.func 170) #[] #[]] W fun e w' => e = .returned (.int .i64 R) ∧ Below W.heap.size W w') :
    Calls Tryz.prog 308 #[.slice a l c, .slice a' l' c'] w fun e w' => e = .returned (.int .i64 R) ∧ Below w.heap.size w w' := by
  have HC := hidb hC
  clear hC
  go_enter Tryz.func308, Tryz.ntmps308
  go_wp2_with fail
  refine (HC.out _ (Below.refl _ _)).mono ?_
  rintro e w1 ⟨rfl, hb1⟩
  have HB1 := hidb hb1
  clear hb1
  go_wp2_with fail
  go_ret
  exact ⟨rfl, HB1.out⟩
set_option maxHeartbeats 1000000 in
set_option maxRecDepth 100000 in
theorem cmp_number (k n : Int) (f : Nat) (s : ByteArray) (a : Option Addr) (l c : Nat) (k' n' : Int) (f' : Nat) (s' : ByteArray) (a' : Option Addr) (l' c' : Nat) (w : World) (hf : f < 18446744073709551616) (hf' : f' < 18446744073709551616) (h : rightB k n f s l = true) (h' : rightB k' n' f' s' l' = true) : Calls Tryz.prog 282 #[.agg #[], .agg #[.int .i64 k, .int .i64 n, .float .f64 f, .string s, .slice a l c], .agg #[.int .i64 k', .int .i64 n', .float .f64 f', .string s', .slice a' l' c']] w fun e w' => e = .returned (.int .i64 (Flt.ordI (compare (valU k n f) (valU k' n' f')))) ∧ Below w.heap.size w w' := by
  have NC := hidb (cmp_any k n k' n' f f' s s' a a' l c l' c' hf hf' h h')
  clear hf hf' h h'
  obtain ⟨V, hV⟩ : ∃ V, ((w.alloc (.cells #[] 201)).alloc (.cells #[.int .i64 k, .int .i64 n, .float .f64 f, .string s, .slice a l c] 27)).alloc (.cells #[.int .i64 k', .int .i64 n', .float .f64 f', .string s', .slice a' l' c'] 27) = V := ⟨_, rfl⟩
  have HBV : Hid (Below w.heap.size w V) := hidb (by rw [← hV]; exact below3 _ _ _ _)
  have HX1 : Hid (Box V (w.heap.size + 1) (.int .i64 k) (.int .i64 n) (.float .f64 f) (.string s) (.slice a l c)) := hidb (by
    rw [← hV]
    have := (Box.new (w.alloc (.cells #[] 201)) 27 (.int .i64 k) (.int .i64 n) (.float .f64 f) (.string s) (.slice a l c)).keep (below_new _ (.cells #[.int .i64 k', .int .i64 n', .float .f64 f', .string s', .slice a' l' c'] 27))
    simpa using this)
  have HX2 : Hid (Box V (w.heap.size + 1 + 1) (.int .i64 k') (.int .i64 n') (.float .f64 f') (.string s') (.slice a' l' c')) := hidb (by
    rw [← hV]
    have := Box.new ((w.alloc (.cells #[] 201)).alloc (.cells #[.int .i64 k, .int .i64 n, .float .f64 f, .string s, .slice a l c] 27)) 27 (.int .i64 k') (.int .i64 n') (.float .f64 f') (.string s') (.slice a' l' c')
    simpa using this)
  obtain ⟨x0, x1, x2, x3, x4, -, -, -, -, -, xl⟩ := HX1.out
  obtain ⟨y0, y1, y2, y3, y4, -, -, -, -, -, yl⟩ := HX2.out
  have HV := hidb hV
  clear hV
  go_enter Tryz.func282, Tryz.ntmps282
  go_wp2_with fail
  rw [HV.out]
  refine (NC.out _).mono ?_
  rintro e w1 ⟨rfl, hb1⟩
  have HB1 := hidb (HBV.out.trans (hb1.mono HBV.out.size))
  clear hb1
  go_wp2_with fail
  go_ret
  exact ⟨rfl, HB1.out⟩
set_option maxHeartbeats 1000000 in
set_option maxRecDepth 100000 in
theorem cmp_atom (k n : Int) (f : Nat) (s : ByteArray) (a : Option Addr) (l c : Nat) (k' n' : Int) (f' : Nat) (s' : ByteArray) (a' : Option Addr) (l' c' : Nat) (w : World)  : Calls Tryz.prog 289 #[.agg #[], .agg #[.int .i64 k, .int .i64 n, .float .f64 f, .string s, .slice a l c], .agg #[.int .i64 k', .int .i64 n', .float .f64 f', .string s', .slice a' l' c']] w fun e w' => e = .returned (.int .i64 (compareBytes s.data.toList s'.data.toList)) ∧ Below w.heap.size w w' := by
  obtain ⟨V, hV⟩ : ∃ V, ((w.alloc (.cells #[] 205)).alloc (.cells #[.int .i64 k, .int .i64 n, .float .f64 f, .string s, .slice a l c] 27)).alloc (.cells #[.int .i64 k', .int .i64 n', .float .f64 f', .string s', .slice a' l' c'] 27) = V := ⟨_, rfl⟩
  have HBV : Hid (Below w.heap.size w V) := hidb (by rw [← hV]; exact below3 _ _ _ _)
  have HX1 : Hid (Box V (w.heap.size + 1) (.int .i64 k) (.int .i64 n) (.float .f64 f) (.string s) (.slice a l c)) := hidb (by
    rw [← hV]
    have := (Box.new (w.alloc (.cells #[] 205)) 27 (.int .i64 k) (.int .i64 n) (.float .f64 f) (.string s) (.slice a l c)).keep (below_new _ (.cells #[.int .i64 k', .int .i64 n', .float .f64 f', .string s', .slice a' l' c'] 27))
    simpa using this)
  have HX2 : Hid (Box V (w.heap.size + 1 + 1) (.int .i64 k') (.int .i64 n') (.float .f64 f') (.string s') (.slice a' l' c')) := hidb (by
    rw [← hV]
    have := Box.new ((w.alloc (.cells #[] 205)).alloc (.cells #[.int .i64 k, .int .i64 n, .float .f64 f, .string s, .slice a l c] 27)) 27 (.int .i64 k') (.int .i64 n') (.float .f64 f') (.string s') (.slice a' l' c')
    simpa using this)
  obtain ⟨x0, x1, x2, x3, x4, -, -, -, -, -, xl⟩ := HX1.out
  obtain ⟨y0, y1, y2, y3, y4, -, -, -, -, -, yl⟩ := HX2.out
  have HV := hidb hV
  clear hV
  go_enter Tryz.func289, Tryz.ntmps289
  go_wp2_with fail
  rw [HV.out]
  refine (compS s s' _).mono ?_
  rintro e w1 ⟨rfl, rfl⟩
  go_wp2_with fail
  go_ret
  exact ⟨rfl, HBV.out⟩
set_option maxHeartbeats 1000000 in
set_option maxRecDepth 100000 in
theorem cmp_serial (k n : Int) (f : Nat) (s : ByteArray) (a : Option Addr) (l c : Nat) (k' n' : Int) (f' : Nat) (s' : ByteArray) (a' : Option Addr) (l' c' : Nat) (w : World)  : Calls Tryz.prog 298 #[.agg #[], .agg #[.int .i64 k, .int .i64 n, .float .f64 f, .string s, .slice a l c], .agg #[.int .i64 k', .int .i64 n', .float .f64 f', .string s', .slice a' l' c']] w fun e w' => e = .returned (.int .i64 (cmpI n n')) ∧ Below w.heap.size w w' := by
  obtain ⟨V, hV⟩ : ∃ V, ((w.alloc (.cells #[] 206)).alloc (.cells #[.int .i64 k, .int .i64 n, .float .f64 f, .string s, .slice a l c] 27)).alloc (.cells #[.int .i64 k', .int .i64 n', .float .f64 f', .string s', .slice a' l' c'] 27) = V := ⟨_, rfl⟩
  have HBV : Hid (Below w.heap.size w V) := hidb (by rw [← hV]; exact below3 _ _ _ _)
  have HX1 : Hid (Box V (w.heap.size + 1) (.int .i64 k) (.int .i64 n) (.float .f64 f) (.string s) (.slice a l c)) := hidb (by
    rw [← hV]
    have := (Box.new (w.alloc (.cells #[] 206)) 27 (.int .i64 k) (.int .i64 n) (.float .f64 f) (.string s) (.slice a l c)).keep (below_new _ (.cells #[.int .i64 k', .int .i64 n', .float .f64 f', .string s', .slice a' l' c'] 27))
    simpa using this)
  have HX2 : Hid (Box V (w.heap.size + 1 + 1) (.int .i64 k') (.int .i64 n') (.float .f64 f') (.string s') (.slice a' l' c')) := hidb (by
    rw [← hV]
    have := Box.new ((w.alloc (.cells #[] 206)).alloc (.cells #[.int .i64 k, .int .i64 n, .float .f64 f, .string s, .slice a l c] 27)) 27 (.int .i64 k') (.int .i64 n') (.float .f64 f') (.string s') (.slice a' l' c')
    simpa using this)
  obtain ⟨x0, x1, x2, x3, x4, -, -, -, -, -, xl⟩ := HX1.out
  obtain ⟨y0, y1, y2, y3, y4, -, -, -, -, -, yl⟩ := HX2.out
  have HV := hidb hV
  clear hV
  go_enter Tryz.func298, Tryz.ntmps298
  go_wp2_with fail
  rw [HV.out]
  refine (compCl n n' _).mono ?_
  rintro e w1 ⟨rfl, rfl⟩
  go_wp2_with fail
  go_ret
  exact ⟨rfl, HBV.out⟩
set_option maxHeartbeats 1000000 in
set_option maxRecDepth 100000 in
theorem cmp_list (k n : Int) (f : Nat) (s : ByteArray) (a : Option Addr) (l c : Nat) (k' n' : Int) (f' : Nat) (s' : ByteArray) (a' : Option Addr) (l' c' : Nat) (w : World) (R : Int) (hC : ∀ W, Below w.heap.size w W → Calls Tryz.prog 309 #[.slice a l c, .slice a' l' c', .func (.func 170) #[] #[]] W fun e w' => e = .returned (.int .i64 R) ∧ Below W.heap.size W w') : Calls Tryz.prog 318 #[.agg #[], .agg #[.int .i64 k, .int .i64 n, .float .f64 f, .string s, .slice a l c], .agg #[.int .i64 k', .int .i64 n', .float .f64 f', .string s', .slice a' l' c']] w fun e w' => e = .returned (.int .i64 (R)) ∧ Below w.heap.size w w' := by
  have HC := hidb hC
  clear hC
  obtain ⟨V, hV⟩ : ∃ V, ((w.alloc (.cells #[] 212)).alloc (.cells #[.int .i64 k, .int .i64 n, .float .f64 f, .string s, .slice a l c] 27)).alloc (.cells #[.int .i64 k', .int .i64 n', .float .f64 f', .string s', .slice a' l' c'] 27) = V := ⟨_, rfl⟩
  have HBV : Hid (Below w.heap.size w V) := hidb (by rw [← hV]; exact below3 _ _ _ _)
  have HX1 : Hid (Box V (w.heap.size + 1) (.int .i64 k) (.int .i64 n) (.float .f64 f) (.string s) (.slice a l c)) := hidb (by
    rw [← hV]
    have := (Box.new (w.alloc (.cells #[] 212)) 27 (.int .i64 k) (.int .i64 n) (.float .f64 f) (.string s) (.slice a l c)).keep (below_new _ (.cells #[.int .i64 k', .int .i64 n', .float .f64 f', .string s', .slice a' l' c'] 27))
    simpa using this)
  have HX2 : Hid (Box V (w.heap.size + 1 + 1) (.int .i64 k') (.int .i64 n') (.float .f64 f') (.string s') (.slice a' l' c')) := hidb (by
    rw [← hV]
    have := Box.new ((w.alloc (.cells #[] 212)).alloc (.cells #[.int .i64 k, .int .i64 n, .float .f64 f, .string s, .slice a l c] 27)) 27 (.int .i64 k') (.int .i64 n') (.float .f64 f') (.string s') (.slice a' l' c')
    simpa using this)
  obtain ⟨x0, x1, x2, x3, x4, -, -, -, -, -, xl⟩ := HX1.out
  obtain ⟨y0, y1, y2, y3, y4, -, -, -, -, -, yl⟩ := HX2.out
  have HV := hidb hV
  clear hV
  go_enter Tryz.func318, Tryz.ntmps318
  go_wp2_with fail
  rw [HV.out]
  refine (cmpAll_any a l c a' l' c' _ R (fun W2 hb2 => HC.out W2 (HBV.out.trans (hb2.mono HBV.out.size)))).mono ?_
  rintro e w1 ⟨rfl, hb1⟩
  have HB1 := hidb (HBV.out.trans (hb1.mono HBV.out.size))
  clear hb1
  go_wp2_with fail
  go_ret
  exact ⟨rfl, HB1.out⟩
set_option maxHeartbeats 1000000 in
set_option maxRecDepth 100000 in
theorem cmp_function (k n : Int) (f : Nat) (s : ByteArray) (a : Option Addr) (l c : Nat) (k' n' : Int) (f' : Nat) (s' : ByteArray) (a' : Option Addr) (l' c' : Nat) (w : World) (R : Int) (hC : ∀ W, Below w.heap.size w W → Calls Tryz.prog 309 #[.slice a l c, .slice a' l' c', .func (.func 170) #[] #[]] W fun e w' => e = .returned (.int .i64 R) ∧ Below W.heap.size W w') : Calls Tryz.prog 303 #[.agg #[], .agg #[.int .i64 k, .int .i64 n, .float .f64 f, .string s, .slice a l c], .agg #[.int .i64 k', .int .i64 n', .float .f64 f', .string s', .slice a' l' c']] w fun e w' => e = .returned (.int .i64 (if cmpI n n' ≠ 0 then cmpI n n' else R)) ∧ Below w.heap.size w w' := by
  have HC := hidb hC
  clear hC
  obtain ⟨RR, hRR⟩ : ∃ RR, (if cmpI n n' ≠ 0 then cmpI n n' else R) = RR := ⟨_, rfl⟩
  have HRR := hidb hRR
  rw [hRR]
  clear hRR
  obtain ⟨V, hV⟩ : ∃ V, ((w.alloc (.cells #[] 209)).alloc (.cells #[.int .i64 k, .int .i64 n, .float .f64 f, .string s, .slice a l c] 27)).alloc (.cells #[.int .i64 k', .int .i64 n', .float .f64 f', .string s', .slice a' l' c'] 27) = V := ⟨_, rfl⟩
  have HBV : Hid (Below w.heap.size w V) := hidb (by rw [← hV]; exact below3 _ _ _ _)
  have HX1 : Hid (Box V (w.heap.size + 1) (.int .i64 k) (.int .i64 n) (.float .f64 f) (.string s) (.slice a l c)) := hidb (by
    rw [← hV]
    have := (Box.new (w.alloc (.cells #[] 209)) 27 (.int .i64 k) (.int .i64 n) (.float .f64 f) (.string s) (.slice a l c)).keep (below_new _ (.cells #[.int .i64 k', .int .i64 n', .float .f64 f', .string s', .slice a' l' c'] 27))
    simpa using this)
  have HX2 : Hid (Box V (w.heap.size + 1 + 1) (.int .i64 k') (.int .i64 n') (.float .f64 f') (.string s') (.slice a' l' c')) := hidb (by
    rw [← hV]
    have := Box.new ((w.alloc (.cells #[] 209)).alloc (.cells #[.int .i64 k, .int .i64 n, .float .f64 f, .string s, .slice a l c] 27)) 27 (.int .i64 k') (.int .i64 n') (.float .f64 f') (.string s') (.slice a' l' c')
    simpa using this)
  obtain ⟨x0, x1, x2, x3, x4, -, -, -, -, -, xl⟩ := HX1.out
  obtain ⟨y0, y1, y2, y3, y4, -, -, -, -, -, yl⟩ := HX2.out
  have HV := hidb hV
  clear hV
  go_enter Tryz.func303, Tryz.ntmps303
  go_wp2_with fail
  rw [HV.out]
  have CA := hidb (fun W (hb : Below V.heap.size V W) => cmpAll_any a l c a' l' c' W R (fun W2 hb2 => HC.out W2 (HBV.out.trans ((hb.trans (hb2.mono hb.size)).mono HBV.out.size))))
  refine (compCl n n' _).mono ?_
  rintro e w1 ⟨rfl, rfl⟩
  by_cases h0 : cmpI n n' = 0
  · have hb0 : (cmpI n n' != 0) = false := by simp [h0]
    obtain rfl : R = RR := by have := HRR.out; rw [if_neg (by simpa using h0)] at this; exact this
    clear h0 HRR
    generalize cmpI n n' = C0 at *
    go_wp2_with fail
    refine (CA.out _ (Below.refl _ _)).mono ?_
    rintro e w2 ⟨rfl, hb2⟩
    have HB2 := hidb (HBV.out.trans (hb2.mono HBV.out.size))
    clear hb2
    go_wp2_with fail
    go_ret
    exact ⟨rfl, HB2.out⟩
  · have hb0 : (cmpI n n' != 0) = true := by simp [h0]
    have HQ : Hid (cmpI n n' = RR) := hidb (by have := HRR.out; rw [if_pos h0] at this; exact this)
    clear h0 HRR
    generalize cmpI n n' = C0 at *
    go_wp2_with fail
    go_ret
    exact ⟨by rw [← HQ.out]; rfl, HBV.out⟩
set_option maxHeartbeats 1000000 in
set_option maxRecDepth 100000 in
theorem cmp_tuple (k n : Int) (f : Nat) (s : ByteArray) (a : Option Addr) (l c : Nat) (k' n' : Int) (f' : Nat) (s' : ByteArray) (a' : Option Addr) (l' c' : Nat) (w : World) (R : Int) (hC : ∀ W, Below w.heap.size w W → Calls Tryz.prog 309 #[.slice a l c, .slice a' l' c', .func (.func 170) #[] #[]] W fun e w' => e = .returned (.int .i64 R) ∧ Below W.heap.size W w') : Calls Tryz.prog 313 #[.agg #[], .agg #[.int .i64 k, .int .i64 n, .float .f64 f, .string s, .slice a l c], .agg #[.int .i64 k', .int .i64 n', .float .f64 f', .string s', .slice a' l' c']] w fun e w' => e = .returned (.int .i64 (if cmpI l l' ≠ 0 then cmpI l l' else R)) ∧ Below w.heap.size w w' := by
  have HC := hidb hC
  clear hC
  obtain ⟨RR, hRR⟩ : ∃ RR, (if cmpI l l' ≠ 0 then cmpI l l' else R) = RR := ⟨_, rfl⟩
  have HRR := hidb hRR
  rw [hRR]
  clear hRR
  obtain ⟨V, hV⟩ : ∃ V, ((w.alloc (.cells #[] 211)).alloc (.cells #[.int .i64 k, .int .i64 n, .float .f64 f, .string s, .slice a l c] 27)).alloc (.cells #[.int .i64 k', .int .i64 n', .float .f64 f', .string s', .slice a' l' c'] 27) = V := ⟨_, rfl⟩
  have HBV : Hid (Below w.heap.size w V) := hidb (by rw [← hV]; exact below3 _ _ _ _)
  have HX1 : Hid (Box V (w.heap.size + 1) (.int .i64 k) (.int .i64 n) (.float .f64 f) (.string s) (.slice a l c)) := hidb (by
    rw [← hV]
    have := (Box.new (w.alloc (.cells #[] 211)) 27 (.int .i64 k) (.int .i64 n) (.float .f64 f) (.string s) (.slice a l c)).keep (below_new _ (.cells #[.int .i64 k', .int .i64 n', .float .f64 f', .string s', .slice a' l' c'] 27))
    simpa using this)
  have HX2 : Hid (Box V (w.heap.size + 1 + 1) (.int .i64 k') (.int .i64 n') (.float .f64 f') (.string s') (.slice a' l' c')) := hidb (by
    rw [← hV]
    have := Box.new ((w.alloc (.cells #[] 211)).alloc (.cells #[.int .i64 k, .int .i64 n, .float .f64 f, .string s, .slice a l c] 27)) 27 (.int .i64 k') (.int .i64 n') (.float .f64 f') (.string s') (.slice a' l' c')
    simpa using this)
  obtain ⟨x0, x1, x2, x3, x4, -, -, -, -, -, xl⟩ := HX1.out
  obtain ⟨y0, y1, y2, y3, y4, -, -, -, -, -, yl⟩ := HX2.out
  have HV := hidb hV
  clear hV
  go_enter Tryz.func313, Tryz.ntmps313
  go_wp2_with fail
  rw [HV.out]
  have CA := hidb (fun W (hb : Below V.heap.size V W) => cmpAll_any a l c a' l' c' W R (fun W2 hb2 => HC.out W2 (HBV.out.trans ((hb.trans (hb2.mono hb.size)).mono HBV.out.size))))
  refine (compCi l l' _).mono ?_
  rintro e w1 ⟨rfl, rfl⟩
  by_cases h0 : cmpI l l' = 0
  · have hb0 : (cmpI l l' != 0) = false := by simp [h0]
    obtain rfl : R = RR := by have := HRR.out; rw [if_neg (by simpa using h0)] at this; exact this
    clear h0 HRR
    generalize cmpI l l' = C0 at *
    go_wp2_with fail
    refine (CA.out _ (Below.refl _ _)).mono ?_
    rintro e w2 ⟨rfl, hb2⟩
    have HB2 := hidb (HBV.out.trans (hb2.mono HBV.out.size))
    clear hb2
    go_wp2_with fail
    go_ret
    exact ⟨rfl, HB2.out⟩
  · have hb0 : (cmpI l l' != 0) = true := by simp [h0]
    have HQ : Hid (cmpI l l' = RR) := hidb (by have := HRR.out; rw [if_pos h0] at this; exact this)
    clear h0 HRR
    generalize cmpI l l' = C0 at *
    go_wp2_with fail
    go_ret
    exact ⟨by rw [← HQ.out]; rfl, HBV.out⟩

theorem good_kind {k n : Int} {f : Nat} {s : ByteArray} {a : Option Addr} {c : Nat} {ks : List Tr} (h : goodT (.mk k n f s a c ks) = true) : k = 1 ∨ k = 2 ∨ k = 3 ∨ k = 4 ∨ k = 5 ∨ k = 6 ∨ k = 7 ∨ k = 8 := by
  unfold goodT at h
  by_cases e1 : k = 1
  · exact .inl e1
  by_cases e2 : k = 2
  · exact .inr (.inl e2)
  by_cases e3 : k = 3
  · exact .inr (.inr (.inl e3))
  by_cases e4 : k = 4
  · exact .inr (.inr (.inr (.inl e4)))
  by_cases e5 : k = 5
  · exact .inr (.inr (.inr (.inr (.inl e5))))
  by_cases e6 : k = 6
  · exact .inr (.inr (.inr (.inr (.inr (.inl e6)))))
  by_cases e7 : k = 7
  · exact .inr (.inr (.inr (.inr (.inr (.inr (.inl e7))))))
  by_cases e8 : k = 8
  · exact .inr (.inr (.inr (.inr (.inr (.inr (.inr e8))))))
  simp [e1, e2, e3, e4, e5, e6, e7, e8] at h
theorem cmpI_zero {x y : Int} : cmpI x y = 0 ↔ x = y := by
  unfold cmpI
  constructor
  · intro h
    split at h
    · omega
    · split at h <;> omega
  · intro h
    rw [if_neg (by omega), if_neg (by omega)]

/-- A kind's compare of two of its rank. -/
theorem fcmp_ok (k n : Int) (f : Nat) (s : ByteArray) (a : Option Addr) (c : Nat) (ks : List Tr) (k' n' : Int) (f' : Nat) (s' : ByteArray) (a' : Option Addr) (c' : Nat) (ks' : List Tr) (w : World) (hf : f < 18446744073709551616) (hf' : f' < 18446744073709551616) (hg : goodT (.mk k n f s a c ks) = true) (hg' : goodT (.mk k' n' f' s' a' c' ks') = true) (hr : cmpI (rk k) (rk k') = 0)
    (hC : ∀ W, Below w.heap.size w W → Calls Tryz.prog 309 #[.slice a ks.length c, .slice a' ks'.length c', .func (.func 170) #[] #[]] W fun e w' => e = .returned (.int .i64 (cmpA ks ks')) ∧ Below W.heap.size W w') :
    Calls Tryz.prog (fcmp k) #[.agg #[], .agg #[.int .i64 k, .int .i64 n, .float .f64 f, .string s, .slice a ks.length c], .agg #[.int .i64 k', .int .i64 n', .float .f64 f', .string s', .slice a' ks'.length c']] w fun e w' => e = .returned (.int .i64 (cmpT (.mk k n f s a c ks) (.mk k' n' f' s' a' c' ks'))) ∧ Below w.heap.size w w' := by
  have hrk := cmpI_zero.1 hr
  have hgn : ∀ k n f s a c ks, (k = 1 ∨ k = 2) → goodT (.mk k n f s a c ks) = true → rightB k n f s ks.length = true := fun k n f s a c ks h hg => by
    rcases h with rfl | rfl <;> simpa [goodT] using hg
  have num : (k = 1 ∨ k = 2) → (k' = 1 ∨ k' = 2) → Calls Tryz.prog 282 #[.agg #[], .agg #[.int .i64 k, .int .i64 n, .float .f64 f, .string s, .slice a ks.length c], .agg #[.int .i64 k', .int .i64 n', .float .f64 f', .string s', .slice a' ks'.length c']] w fun e w' => e = .returned (.int .i64 (cmpT (.mk k n f s a c ks) (.mk k' n' f' s' a' c' ks'))) ∧ Below w.heap.size w w' := fun h h' => by
    have := cmp_number k n f s a ks.length c k' n' f' s' a' ks'.length c' w hf hf' (hgn _ _ _ _ _ _ _ h hg) (hgn _ _ _ _ _ _ _ h' hg')
    unfold cmpT
    rw [if_neg (by simpa using hr), if_pos h]
    exact this
  rcases good_kind hg with rfl | rfl | rfl | rfl | rfl | rfl | rfl | rfl
  · rcases good_kind hg' with rfl | rfl | rfl | rfl | rfl | rfl | rfl | rfl <;> first | exact num (Or.inl rfl) (Or.inl rfl) | exact num (Or.inl rfl) (Or.inr rfl) | exact num (Or.inr rfl) (Or.inl rfl) | exact num (Or.inr rfl) (Or.inr rfl) | exact absurd hrk (by decide)
  · rcases good_kind hg' with rfl | rfl | rfl | rfl | rfl | rfl | rfl | rfl <;> first | exact num (Or.inl rfl) (Or.inl rfl) | exact num (Or.inl rfl) (Or.inr rfl) | exact num (Or.inr rfl) (Or.inl rfl) | exact num (Or.inr rfl) (Or.inr rfl) | exact absurd hrk (by decide)
  · have := cmp_atom 3 n f s a ks.length c k' n' f' s' a' ks'.length c' w
    unfold cmpT
    rw [if_neg (by simpa using hr)]
    simpa [fcmp] using this
  · have := cmp_serial 4 n f s a ks.length c k' n' f' s' a' ks'.length c' w
    unfold cmpT
    rw [if_neg (by simpa using hr)]
    simpa [fcmp] using this
  · have := cmp_function 5 n f s a ks.length c k' n' f' s' a' ks'.length c' w _ hC
    unfold cmpT
    rw [if_neg (by simpa using hr)]
    simpa [fcmp] using this
  · have := cmp_serial 6 n f s a ks.length c k' n' f' s' a' ks'.length c' w
    unfold cmpT
    rw [if_neg (by simpa using hr)]
    simpa [fcmp] using this
  · have := cmp_tuple 7 n f s a ks.length c k' n' f' s' a' ks'.length c' w _ hC
    unfold cmpT
    rw [if_neg (by simpa using hr)]
    simpa [fcmp] using this
  · have := cmp_list 8 n f s a ks.length c k' n' f' s' a' ks'.length c' w _ hC
    unfold cmpT
    rw [if_neg (by simpa using hr)]
    simpa [fcmp] using this
end Go.Proofs.YtgljglindgbjaaaGreatDoor


