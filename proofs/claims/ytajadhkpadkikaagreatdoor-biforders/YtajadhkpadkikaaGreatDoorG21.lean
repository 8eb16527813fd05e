import Derived.Test.YtajadhkpadkikaaGreatDoorG19
import Derived.Test.YtajadhkpadkikaaGreatDoorG20
import Derived.Lib.Bytealg
/- The order of terms: what it is, the small functions of it walked. -/
namespace Go.Proofs.YtajadhkpadkikaaGreatDoor
open Go.RowKit Go.Lib Go.Deep
attribute [local go_sem] store_float f64bits
attribute [local go_sem ↓] Go.wp_at_zero Go.wp_at_succ

def cmpI (x y : Int) : Int := if x < y then -1 else if y < x then 1 else 0
def rk (k : Int) : Int := if k = 1 then 0 else if k = 2 then 0 else if k = 3 then 1 else if k = 4 then 2 else if k = 5 then 3 else if k = 6 then 4 else if k = 7 then 5 else if k = 8 then 6 else 5
mutual
/-- How two terms stand in the order. -/
def cmpT : Tr → Tr → Int
  | .mk k n f s _ _ ks, .mk k' n' f' s' _ _ ks' =>
    if cmpI (rk k) (rk k') ≠ 0 then cmpI (rk k) (rk k')
    else if k = 1 ∨ k = 2 then Flt.ordI (compare (valU k n f) (valU k' n' f'))
    else if k = 3 then compareBytes s.data.toList s'.data.toList
    else if k = 4 ∨ k = 6 then cmpI n n'
    else if k = 5 then (if cmpI n n' ≠ 0 then cmpI n n' else cmpA ks ks')
    else if k = 8 then cmpA ks ks'
    else (if cmpI ks.length ks'.length ≠ 0 then cmpI ks.length ks'.length else cmpA ks ks')
def cmpA : List Tr → List Tr → Int
  | [], [] => 0
  | [], _ :: _ => -1
  | _ :: _, [] => 1
  | t :: r, t' :: r' => if cmpT t t' ≠ 0 then cmpT t t' else cmpA r r'
end

theorem isNaNCi (x : Int) (w : World) : Calls Tryz.prog 85 #[.int .i64 x] w fun e w' => e = .returned (.bool false) ∧ w' = w := by
  go_enter Tryz.func85, Tryz.ntmps85
  go_wp2_with fail
  go_ret
  exact ⟨by simp, rfl⟩
theorem compCi (x y : Int) (w : World) : Calls Tryz.prog 32 #[.int .i64 x, .int .i64 y] w fun e w' => e = .returned (.int .i64 (cmpI x y)) ∧ w' = w := by
  unfold cmpI
  by_cases h1 : x < y
  · rw [if_pos h1]
    go_enter Tryz.func32, Tryz.ntmps32
    go_wp2_with (go_at_call 85; refine (isNaNCi _ _).mono ?_; rintro e w' ⟨rfl, rfl⟩)
    go_ret
    exact ⟨rfl, rfl⟩
  · rw [if_neg h1]
    by_cases h2 : y < x
    · rw [if_pos h2]
      go_enter Tryz.func32, Tryz.ntmps32
      go_wp2_with (go_at_call 85; refine (isNaNCi _ _).mono ?_; rintro e w' ⟨rfl, rfl⟩)
      go_ret
      exact ⟨rfl, rfl⟩
    · rw [if_neg h2]
      go_enter Tryz.func32, Tryz.ntmps32
      go_wp2_with (go_at_call 85; refine (isNaNCi _ _).mono ?_; rintro e w' ⟨rfl, rfl⟩)
      go_ret
      exact ⟨rfl, rfl⟩
theorem isNaNCl (x : Int) (w : World) : Calls Tryz.prog 202 #[.int .i64 x] w fun e w' => e = .returned (.bool false) ∧ w' = w := by
  go_enter Tryz.func202, Tryz.ntmps202
  go_wp2_with fail
  go_ret
  exact ⟨by simp, rfl⟩
theorem compCl (x y : Int) (w : World) : Calls Tryz.prog 166 #[.int .i64 x, .int .i64 y] w fun e w' => e = .returned (.int .i64 (cmpI x y)) ∧ w' = w := by
  unfold cmpI
  by_cases h1 : x < y
  · rw [if_pos h1]
    go_enter Tryz.func166, Tryz.ntmps166
    go_wp2_with (go_at_call 202; refine (isNaNCl _ _).mono ?_; rintro e w' ⟨rfl, rfl⟩)
    go_ret
    exact ⟨rfl, rfl⟩
  · rw [if_neg h1]
    by_cases h2 : y < x
    · rw [if_pos h2]
      go_enter Tryz.func166, Tryz.ntmps166
      go_wp2_with (go_at_call 202; refine (isNaNCl _ _).mono ?_; rintro e w' ⟨rfl, rfl⟩)
      go_ret
      exact ⟨rfl, rfl⟩
    · rw [if_neg h2]
      go_enter Tryz.func166, Tryz.ntmps166
      go_wp2_with (go_at_call 202; refine (isNaNCl _ _).mono ?_; rintro e w' ⟨rfl, rfl⟩)
      go_ret
      exact ⟨rfl, rfl⟩
set_option maxHeartbeats 1000000 in
set_option maxRecDepth 100000 in
theorem compS (a b : ByteArray) (w : World) : Calls Tryz.prog 272 #[.string a, .string b] w fun e w' => e = .returned (.int .i64 (compareBytes a.data.toList b.data.toList)) ∧ w' = w := by
  have CS : ∀ w, Calls Tryz.prog 274 #[.string a, .string b] w fun e w' => e = .returned (.int .i64 (compareBytes a.data.toList b.data.toList)) ∧ w' = w := fun w => by
    go_enter Tryz.func274, Tryz.ntmps274
    go_wp2
    rw [run_callFunc_extern Tryz.func275 (by kernel_rfl) (by kernel_rfl) (by kernel_rfl) (e := Extern.BytealgCompare.compare) (by kernel_rfl), run_compareString]
    simp only [Result.andThen]
    rw [Oper.upon_value]
    go_wp2
    go_ret
    exact ⟨rfl, rfl⟩
  go_enter Tryz.func272, Tryz.ntmps272
  go_wp2_with (go_at_call 274; refine (CS _).mono ?_; rintro e w' ⟨rfl, rfl⟩)
  go_ret
  exact ⟨rfl, rfl⟩
def frank (k : Int) : FuncId := if k = 1 then 261 else if k = 2 then 261 else if k = 3 then 268 else if k = 4 then 278 else if k = 5 then 282 else if k = 6 then 288 else if k = 7 then 292 else if k = 8 then 297 else 292
def fcmp (k : Int) : FuncId := if k = 1 then 260 else if k = 2 then 260 else if k = 3 then 267 else if k = 4 then 276 else if k = 5 then 281 else if k = 6 then 276 else if k = 7 then 291 else if k = 8 then 296 else 291
theorem method_rank (k : Int) (w : World) : (method 348 (kt k) (.agg #[]) "exitwave/term.rank").run Tryz.prog w = .ok (frank k, .agg #[]) w := by
  refine by_kind (Q := fun k => (method 348 (kt k) (.agg #[]) "exitwave/term.rank").run Tryz.prog w = .ok (frank k, .agg #[]) w) k ?_ ?_ ?_ ?_ ?_ ?_ ?_ ?_ ?_
  · kernel_rfl
  · kernel_rfl
  · kernel_rfl
  · kernel_rfl
  · kernel_rfl
  · kernel_rfl
  · kernel_rfl
  · kernel_rfl
  · intro k h1 h2 h3 h4 h5 h6 h7 h8
    simp only [kt, frank, h1, h2, h3, h4, h5, h6, h7, h8, if_false]
    kernel_rfl
theorem call_rank (k : Int) (args : Array Value) (w : World) : (callFunc (frank k) args).run Tryz.prog w = .ok (.enter (frank k) args) w := by
  refine by_kind (Q := fun k => (callFunc (frank k) args).run Tryz.prog w = .ok (.enter (frank k) args) w) k ?_ ?_ ?_ ?_ ?_ ?_ ?_ ?_ ?_
  · exact Tryz.call261 args w
  · exact Tryz.call261 args w
  · exact Tryz.call268 args w
  · exact Tryz.call278 args w
  · exact Tryz.call282 args w
  · exact Tryz.call288 args w
  · exact Tryz.call292 args w
  · exact Tryz.call297 args w
  · intro k h1 h2 h3 h4 h5 h6 h7 h8
    simp only [frank, h1, h2, h3, h4, h5, h6, h7, h8, if_false]
    exact Tryz.call292 args w
theorem method_compare (k : Int) (w : World) : (method 348 (kt k) (.agg #[]) "exitwave/term.compare").run Tryz.prog w = .ok (fcmp k, .agg #[]) w := by
  refine by_kind (Q := fun k => (method 348 (kt k) (.agg #[]) "exitwave/term.compare").run Tryz.prog w = .ok (fcmp k, .agg #[]) w) k ?_ ?_ ?_ ?_ ?_ ?_ ?_ ?_ ?_
  · kernel_rfl
  · kernel_rfl
  · kernel_rfl
  · kernel_rfl
  · kernel_rfl
  · kernel_rfl
  · kernel_rfl
  · kernel_rfl
  · intro k h1 h2 h3 h4 h5 h6 h7 h8
    simp only [kt, fcmp, h1, h2, h3, h4, h5, h6, h7, h8, if_false]
    kernel_rfl
theorem call_compare (k : Int) (args : Array Value) (w : World) : (callFunc (fcmp k) args).run Tryz.prog w = .ok (.enter (fcmp k) args) w := by
  refine by_kind (Q := fun k => (callFunc (fcmp k) args).run Tryz.prog w = .ok (.enter (fcmp k) args) w) k ?_ ?_ ?_ ?_ ?_ ?_ ?_ ?_ ?_
  · exact Tryz.call260 args w
  · exact Tryz.call260 args w
  · exact Tryz.call267 args w
  · exact Tryz.call276 args w
  · exact Tryz.call281 args w
  · exact Tryz.call276 args w
  · exact Tryz.call291 args w
  · exact Tryz.call296 args w
  · intro k h1 h2 h3 h4 h5 h6 h7 h8
    simp only [fcmp, h1, h2, h3, h4, h5, h6, h7, h8, if_false]
    exact Tryz.call291 args w
set_option maxRecDepth 100000 in
theorem rank_any (k : Int) (w : World) : Calls Tryz.prog (frank k) #[.agg #[]] w fun e w' => e = .returned (.int .i64 (rk k)) ∧ Below w.heap.size w w' := by
  refine by_kind (Q := fun k => Calls Tryz.prog (frank k) #[.agg #[]] w fun e w' => e = .returned (.int .i64 (rk k)) ∧ Below w.heap.size w w') k ?_ ?_ ?_ ?_ ?_ ?_ ?_ ?_ ?_
  · show Calls Tryz.prog 261 _ _ _
    go_enter Tryz.func261, Tryz.ntmps261; go_wp2; go_ret; exact ⟨rfl, by first | exact Below.refl _ _ | exact below_new _ _⟩
  · show Calls Tryz.prog 261 _ _ _
    go_enter Tryz.func261, Tryz.ntmps261; go_wp2; go_ret; exact ⟨rfl, by first | exact Below.refl _ _ | exact below_new _ _⟩
  · show Calls Tryz.prog 268 _ _ _
    go_enter Tryz.func268, Tryz.ntmps268; go_wp2; go_ret; exact ⟨rfl, by first | exact Below.refl _ _ | exact below_new _ _⟩
  · show Calls Tryz.prog 278 _ _ _
    go_enter Tryz.func278, Tryz.ntmps278; go_wp2; go_ret; exact ⟨rfl, by first | exact Below.refl _ _ | exact below_new _ _⟩
  · show Calls Tryz.prog 282 _ _ _
    go_enter Tryz.func282, Tryz.ntmps282; go_wp2; go_ret; exact ⟨rfl, by first | exact Below.refl _ _ | exact below_new _ _⟩
  · show Calls Tryz.prog 288 _ _ _
    go_enter Tryz.func288, Tryz.ntmps288; go_wp2; go_ret; exact ⟨rfl, by first | exact Below.refl _ _ | exact below_new _ _⟩
  · show Calls Tryz.prog 292 _ _ _
    go_enter Tryz.func292, Tryz.ntmps292; go_wp2; go_ret; exact ⟨rfl, by first | exact Below.refl _ _ | exact below_new _ _⟩
  · show Calls Tryz.prog 297 _ _ _
    go_enter Tryz.func297, Tryz.ntmps297; go_wp2; go_ret; exact ⟨rfl, by first | exact Below.refl _ _ | exact below_new _ _⟩
  · intro k h1 h2 h3 h4 h5 h6 h7 h8
    simp only [frank, h1, h2, h3, h4, h5, h6, h7, h8, if_false]
    go_enter Tryz.func292, Tryz.ntmps292; go_wp2; go_ret; exact ⟨by simp [rk, h1, h2, h3, h4, h5, h6, h7, h8], by first | exact Below.refl _ _ | exact below_new _ _⟩
end Go.Proofs.YtajadhkpadkikaaGreatDoor


/- The order of terms, walked: slices.CompareFunc over what is known of the elements. -/
namespace Go.Proofs.YtajadhkpadkikaaGreatDoor
open Go.RowKit Go.Lib Go.Deep
attribute [local go_sem] store_float f64bits
attribute [local go_sem ↓] Go.wp_at_zero Go.wp_at_succ

/-- term.compare of a term and any right one. -/
def CmpOk (t : Tr) : Prop := ∀ t' : Tr, allT goodT t' = true → ∀ w : World, t.In w 0 → t'.In w 0 →
  Calls Tryz.prog 24 #[t.val, t'.val] w fun e w' => e = .returned (.int .i64 (cmpT t t')) ∧ Below w.heap.size w w'

theorem cmpA_step {kids kids' : List Tr} {m : Nat} {t t' : Tr} (h : kids[m]? = some t) (h' : kids'[m]? = some t') : cmpA (kids.drop m) (kids'.drop m) = if cmpT t t' ≠ 0 then cmpT t t' else cmpA (kids.drop (m + 1)) (kids'.drop (m + 1)) := by
  have e1 : kids.drop m = t :: kids.drop (m + 1) := by
    have := (List.getElem?_eq_some_iff.1 h)
    obtain ⟨hl, hv⟩ := this
    rw [List.drop_eq_getElem_cons hl, hv]
  have e2 : kids'.drop m = t' :: kids'.drop (m + 1) := by
    obtain ⟨hl, hv⟩ := (List.getElem?_eq_some_iff.1 h')
    rw [List.drop_eq_getElem_cons hl, hv]
  rw [e1, e2]
  simp only [cmpA]

set_option maxHeartbeats 2000000 in
set_option maxRecDepth 100000 in
theorem cmpFunc_any (kids kids' : List Tr) (hk : ∀ t, t ∈ kids → CmpOk t) (hg : ∀ t, t ∈ kids' → allT goodT t = true) (k n : Int) (f : Nat) (s : ByteArray) (a : Option Addr) (c : Nat) (k' n' : Int) (f' : Nat) (s' : ByteArray) (a' : Option Addr) (c' : Nat) (w : World) (hin : (Tr.mk k n f s a c kids).In w 0) (hin' : (Tr.mk k' n' f' s' a' c' kids').In w 0) :
    Calls Tryz.prog 287 #[.slice a kids.length c, .slice a' kids'.length c', .func (.func 24) #[] #[]] w fun e w' => e = .returned (.int .i64 (cmpA kids kids')) ∧ Below w.heap.size w w' := by
  have hlen := len_small hin
  have hlen' := len_small hin'
  have HIN := hidb hin
  have HIN' := hidb hin'
  have HK := hidb hk
  have HG := hidb hg
  obtain ⟨M, hM⟩ : ∃ M, kids.length = M := ⟨_, rfl⟩
  obtain ⟨M', hM'⟩ : ∃ M', kids'.length = M' := ⟨_, rfl⟩
  have HM := hidb hM
  have HM' := hidb hM'
  rw [hM] at hlen ⊢
  rw [hM'] at hlen' ⊢
  clear hin hin' hk hg hM hM'
  go_enter Tryz.func287, Tryz.ntmps287
  go_wp2_with fail
  go_loopw [13] (fun iv wr => ∃ (m : Nat), m ≤ M ∧ iv = .int .i64 m ∧ cmpA kids kids' = cmpA (kids.drop m) (kids'.drop m) ∧ m ≤ M' ∧ Below w.heap.size w wr) (fun iv _ => M - (RowKit.intOf iv).toNat)
  case atStart => exact ⟨0, by omega, rfl, rfl, by omega, Below.refl _ _⟩
  case round =>
  obtain ⟨m, hm, rfl, hcm, hmm, hby⟩ := hrel
  have HBY := hidb hby
  have HCM := hidb hcm
  clear hcm
  by_cases hml : m < M
  · have hmb : (m : Int) < (M : Int) := by omega
    have hmz : (0 : Int) ≤ (m : Int) := by omega
    obtain ⟨b, o, rfl, hat⟩ := kid_at (in_below hby HIN.out) (by have := HM.out; omega)
    obtain ⟨k1, n1, f1, s1, a1, c1, ks1, hu, hin1, p0, p1, p2, p3, p4⟩ := hat m (by have := HM.out; omega)
    have hbl := World.block_lt_of_cell? _ _ p0
    by_cases hml' : m < M'
    · have hmb' : ¬ (M' : Int) ≤ (m : Int) := by omega
      have hmc' : (m : Int) < (M' : Int) := by omega
      obtain ⟨b', o', rfl, hat'⟩ := kid_at (in_below hby HIN'.out) (by have := HM'.out; omega)
      obtain ⟨k2, n2, f2, s2, a2, c2, ks2, hu', hin2, q0, q1, q2, q3, q4⟩ := hat' m (by have := HM'.out; omega)
      have hbl' := World.block_lt_of_cell? _ _ q0
      have HST := hidb (cmpA_step hu hu')
      have CK := hidb (fun (w' : World) (hb : Below wr.heap.size wr w') => HK.out _ (List.mem_of_getElem? hu) (.mk k2 n2 f2 s2 a2 c2 ks2) (HG.out _ (List.mem_of_getElem? hu')) w' (in_below hb hin1) (in_below hb hin2))
      obtain ⟨R, hR⟩ : ∃ R, cmpT (.mk k1 n1 f1 s1 a1 c1 ks1) (.mk k2 n2 f2 s2 a2 c2 ks2) = R := ⟨_, rfl⟩
      rw [hR] at CK HST
      simp only [Tr.val, Tr.cells] at CK
      generalize ks1.length = l1 at *
      generalize ks2.length = l2 at *
      clear hat hat' hu hu' hin1 hin2 hR hby
      go_wp2_with fail
      refine (CK.out _ ((below_new wr _).alloc (by simp) _)).mono ?_
      rintro e w1 ⟨rfl, hb1⟩
      have HB1 := hidb (HBY.out.trans ((((below_new wr _).alloc (by simp) _).trans (hb1.mono (by simp; omega))).mono HBY.out.size))
      clear hb1
      by_cases hR0 : R = 0
      · have hRb : (R != 0) = false := by simp [hR0]
        have HST' : Hid (cmpA kids kids' = cmpA (kids.drop (m + 1)) (kids'.drop (m + 1))) := hidb (by rw [HCM.out, HST.out, if_neg (by simpa using hR0)])
        clear hR0
        go_wp2_with fail
        go_roundw
        case rel => exact ⟨m + 1, by omega, by go_num, HST'.out, by omega, HB1.out⟩
        case measure => simp [RowKit.intOf]; omega
      · have hRb : (R != 0) = true := by simp [hR0]
        have HR : Hid (cmpA kids kids' = R) := hidb (by rw [HCM.out, HST.out, if_pos hR0])
        clear hR0
        go_wp2_with fail
        go_ret
        exact ⟨by rw [HR.out]; rfl, HB1.out⟩
    · have hmb' : (M' : Int) ≤ (m : Int) := by omega
      have hR : cmpA kids kids' = 1 := by
        rw [HCM.out]
        have e1 : kids'.drop m = [] := List.drop_eq_nil_of_le (by have := HM'.out; omega)
        have hl := (List.getElem?_eq_some_iff.1 hu).1
        rw [e1, List.drop_eq_getElem_cons hl]
        simp only [cmpA]
      have HR := hidb hR
      generalize ks1.length = l1 at *
      clear hat hu hin1 hR hby
      go_wp2_with fail
      go_ret
      exact ⟨by rw [HR.out]; rfl, HBY.out.alloc HBY.out.size _⟩
  · have hmn : ¬ (m : Int) < (M : Int) := by omega
    clear hby
    obtain rfl : m = M := by omega
    by_cases hlt : m < M'
    · have hlb : (m : Int) < (M' : Int) := by omega
      have HR : Hid (cmpA kids kids' = -1) := hidb (by
        rw [HCM.out]
        have e1 : kids.drop m = [] := List.drop_eq_nil_of_le (by have := HM.out; omega)
        have hl : m < kids'.length := by have := HM'.out; omega
        rw [e1, List.drop_eq_getElem_cons hl]
        simp only [cmpA])
      go_wp2_with fail
      go_ret
      exact ⟨by rw [HR.out]; rfl, HBY.out⟩
    · have hlb : ¬ (m : Int) < (M' : Int) := by omega
      have HR : Hid (cmpA kids kids' = 0) := hidb (by
        rw [HCM.out]
        have e1 : kids.drop m = [] := List.drop_eq_nil_of_le (by have := HM.out; omega)
        have e2 : kids'.drop m = [] := List.drop_eq_nil_of_le (by have := HM'.out; omega)
        rw [e1, e2]
        simp only [cmpA])
      go_wp2_with fail
      go_ret
      exact ⟨by rw [HR.out]; rfl, HBY.out⟩
end Go.Proofs.YtajadhkpadkikaaGreatDoor


