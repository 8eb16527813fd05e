import Derived.Test.YtgljglindgbjaaaGreatDoorG14
import Derived.BigQuiet
import Derived.Test.YtgljglindgbjaaaGreatDoorG03
import Derived.WalkSmall
import Derived.Deep.DrawnRows
import Derived.ProofKit
/- term.compare of any two right terms. -/
namespace Go.Proofs.YtgljglindgbjaaaGreatDoor
open Go.RowKit Go.Lib Go.Deep
attribute [local go_sem] store_float f64bits
attribute [local go_sem ↓] Go.wp_at_zero Go.wp_at_succ

theorem fit_f {k n : Int} {f : Nat} {s : ByteArray} {a : Option Addr} {c : Nat} {ks : List Tr} {w : World} (h : (Tr.mk k n f s a c ks).In w 0) : f < 18446744073709551616 := by
  unfold Tr.In at h
  have := h.1.2.2.1
  simpa [Lit.wf] using this
theorem all_self {k n : Int} {f : Nat} {s : ByteArray} {a : Option Addr} {c : Nat} {ks : List Tr} {g : Tr → Bool} (h : allT g (.mk k n f s a c ks) = true) : g (.mk k n f s a c ks) = true ∧ ∀ t, t ∈ ks → allT g t = true := by
  unfold allT at h
  simp only [Bool.and_eq_true] at h
  refine ⟨h.1, ?_⟩
  have hall : ∀ l : List Tr, allAll g l = true → ∀ t, t ∈ l → allT g t = true := by
    intro l
    induction l with
    | nil => intro _ t ht; cases ht
    | cons u r ih =>
      intro h t ht
      unfold allAll at h
      simp only [Bool.and_eq_true] at h
      rcases List.mem_cons.1 ht with rfl | ht
      · exact h.1
      · exact ih h.2 t ht
  exact hall ks h.2

set_option maxHeartbeats 8000000 in
set_option maxRecDepth 100000 in
theorem compare_any : ∀ t : Tr, allT goodT t = true → CmpOk t := by
  refine Tr.ind fun k n f s a c ks hk => ?_
  intro hg0
  obtain ⟨hg, hgk⟩ := all_self hg0
  rintro ⟨k', n', f', s', a', c', ks'⟩ hg1 w hin hin'
  obtain ⟨hg', hgk'⟩ := all_self hg1
  have FC : Hid (cmpI (rk k) (rk k') = 0 → ∀ W, Below w.heap.size w W → Calls Tryz.prog (fcmp k) #[.agg #[], .agg #[.int .i64 k, .int .i64 n, .float .f64 f, .string s, .slice a ks.length c], .agg #[.int .i64 k', .int .i64 n', .float .f64 f', .string s', .slice a' ks'.length c']] W fun e w' => e = .returned (.int .i64 (cmpT (.mk k n f s a c ks) (.mk k' n' f' s' a' c' ks'))) ∧ Below W.heap.size W w') := hidb (fun hr W hW => fcmp_ok k n f s a c ks k' n' f' s' a' c' ks' W (fit_f hin) (fit_f hin') hg hg' hr (fun W2 hW2 => cmpFunc_any ks ks' (fun t ht => hk t ht (hgk t ht)) hgk' k n f s a c k' n' f' s' a' c' W2 (in_below (hW.trans (hW2.mono hW.size)) hin) (in_below (hW.trans (hW2.mono hW.size)) hin')))
  have HN : Hid (cmpI (rk k) (rk k') ≠ 0 → cmpT (.mk k n f s a c ks) (.mk k' n' f' s' a' c' ks') = cmpI (rk k) (rk k')) := hidb (fun h => by unfold cmpT; rw [if_pos h])
  obtain ⟨R, hR⟩ : ∃ R, cmpT (.mk k n f s a c ks) (.mk k' n' f' s' a' c' ks') = R := ⟨_, rfl⟩
  rw [hR] at FC HN ⊢
  simp only [Tr.val, Tr.cells]
  clear hk hg0 hg1 hg hg' hgk hgk' hin hin' hR
  obtain ⟨l, hl⟩ : ∃ l, ks.length = l := ⟨_, rfl⟩
  obtain ⟨l', hl'⟩ : ∃ l', ks'.length = l' := ⟨_, rfl⟩
  rw [hl, hl'] at FC
  rw [hl, hl']
  clear hl hl'
  have K1 := hidb (kindOf_any k n f s a l c)
  have K2 := hidb (kindOf_any k' n' f' s' a' l' c')
  have e1 := method_rank k
  have e2 := method_rank k'
  have e3 := method_compare k
  have e4 := call_rank k
  have e5 := call_rank k'
  have e6 := call_compare k
  have RK1 := hidb (rank_any k)
  have RK2 := hidb (rank_any k')
  obtain ⟨V, hV⟩ : ∃ V, (w.alloc (.cells #[.int .i64 k, .int .i64 n, .float .f64 f, .string s, .slice a l c] 27)).alloc (.cells #[.int .i64 k', .int .i64 n', .float .f64 f', .string s', .slice a' l' c'] 27) = V := ⟨_, rfl⟩
  have HBV : Hid (Below w.heap.size w V) := hidb (by rw [← hV]; exact (below_new w _).alloc (by simp) _)
  have HB1 : Hid (Box V w.heap.size (.int .i64 k) (.int .i64 n) (.float .f64 f) (.string s) (.slice a l c)) := hidb (by rw [← hV]; exact (Box.new w _ _ _ _ _ _).keep (below_new _ _))
  have HB2 : Hid (Box V (w.heap.size + 1) (.int .i64 k') (.int .i64 n') (.float .f64 f') (.string s') (.slice a' l' c')) := hidb (by
    rw [← hV]
    have := Box.new (w.alloc (.cells #[.int .i64 k, .int .i64 n, .float .f64 f, .string s, .slice a l c] 27)) 27 (.int .i64 k') (.int .i64 n') (.float .f64 f') (.string s') (.slice a' l' c')
    simpa using this)
  have HV := hidb hV
  clear hV
  have HS : Hid (∀ W, Below V.heap.size V W → W.cell? ⟨w.heap.size, 0, none⟩ = some (.int .i64 k) ∧ W.cell? ⟨w.heap.size, 1, none⟩ = some (.int .i64 n) ∧ W.cell? ⟨w.heap.size, 2, none⟩ = some (.float .f64 f) ∧ W.cell? ⟨w.heap.size, 3, none⟩ = some (.string s) ∧ W.cell? ⟨w.heap.size, 4, none⟩ = some (.slice a l c) ∧ W.cell? ⟨w.heap.size + 1, 0, none⟩ = some (.int .i64 k') ∧ W.cell? ⟨w.heap.size + 1, 1, none⟩ = some (.int .i64 n') ∧ W.cell? ⟨w.heap.size + 1, 2, none⟩ = some (.float .f64 f') ∧ W.cell? ⟨w.heap.size + 1, 3, none⟩ = some (.string s') ∧ W.cell? ⟨w.heap.size + 1, 4, none⟩ = some (.slice a' l' c')) := hidb (fun W hb => ⟨(HB1.out.keep hb).c0, (HB1.out.keep hb).c1, (HB1.out.keep hb).c2, (HB1.out.keep hb).c3, (HB1.out.keep hb).c4, (HB2.out.keep hb).c0, (HB2.out.keep hb).c1, (HB2.out.keep hb).c2, (HB2.out.keep hb).c3, (HB2.out.keep hb).c4⟩)
  have HS0 := hidb (HS.out V.drew (Below.refl _ _).drew)
  have C1 : Hid (Calls Tryz.prog 209 #[.agg #[.int .i64 k, .int .i64 n, .float .f64 f, .string s, .slice a l c]] V.drew fun e w1 => e = .returned (.iface (kt k) (.agg #[])) ∧ Hid (w1.cell? ⟨w.heap.size, 0, none⟩ = some (.int .i64 k) ∧ w1.cell? ⟨w.heap.size, 1, none⟩ = some (.int .i64 n) ∧ w1.cell? ⟨w.heap.size, 2, none⟩ = some (.float .f64 f) ∧ w1.cell? ⟨w.heap.size, 3, none⟩ = some (.string s) ∧ w1.cell? ⟨w.heap.size, 4, none⟩ = some (.slice a l c) ∧ w1.cell? ⟨w.heap.size + 1, 0, none⟩ = some (.int .i64 k') ∧ w1.cell? ⟨w.heap.size + 1, 1, none⟩ = some (.int .i64 n') ∧ w1.cell? ⟨w.heap.size + 1, 2, none⟩ = some (.float .f64 f') ∧ w1.cell? ⟨w.heap.size + 1, 3, none⟩ = some (.string s') ∧ w1.cell? ⟨w.heap.size + 1, 4, none⟩ = some (.slice a' l' c')) ∧ Hid (Calls Tryz.prog 209 #[.agg #[.int .i64 k', .int .i64 n', .float .f64 f', .string s', .slice a' l' c']] w1 fun e w2 => e = .returned (.iface (kt k') (.agg #[])) ∧ Hid (w2.cell? ⟨w.heap.size, 0, none⟩ = some (.int .i64 k) ∧ w2.cell? ⟨w.heap.size, 1, none⟩ = some (.int .i64 n) ∧ w2.cell? ⟨w.heap.size, 2, none⟩ = some (.float .f64 f) ∧ w2.cell? ⟨w.heap.size, 3, none⟩ = some (.string s) ∧ w2.cell? ⟨w.heap.size, 4, none⟩ = some (.slice a l c) ∧ w2.cell? ⟨w.heap.size + 1, 0, none⟩ = some (.int .i64 k') ∧ w2.cell? ⟨w.heap.size + 1, 1, none⟩ = some (.int .i64 n') ∧ w2.cell? ⟨w.heap.size + 1, 2, none⟩ = some (.float .f64 f') ∧ w2.cell? ⟨w.heap.size + 1, 3, none⟩ = some (.string s') ∧ w2.cell? ⟨w.heap.size + 1, 4, none⟩ = some (.slice a' l' c')) ∧ Hid (Below V.heap.size V w2))) := hidb (by
    refine (K1.out _).mono ?_
    rintro e w1 ⟨rfl, hb1⟩
    have q1 := undrew hb1
    refine ⟨rfl, hidb (HS.out w1 q1), hidb ((K2.out _).mono ?_)⟩
    rintro e w2 ⟨rfl, hb2⟩
    have q2 := q1.trans (hb2.mono q1.size)
    exact ⟨rfl, hidb (HS.out w2 q2), hidb q2⟩)
  clear K1 K2
  go_enter Tryz.func170, Tryz.ntmps170
  go_wp2_with fail
  rw [HV.out]
  go_region_held3 (fun w' => w'.cell? ⟨w.heap.size, 0, none⟩ = some (.int .i64 k) ∧ w'.cell? ⟨w.heap.size, 1, none⟩ = some (.int .i64 n) ∧ w'.cell? ⟨w.heap.size, 2, none⟩ = some (.float .f64 f) ∧ w'.cell? ⟨w.heap.size, 3, none⟩ = some (.string s) ∧ w'.cell? ⟨w.heap.size, 4, none⟩ = some (.slice a l c) ∧ w'.cell? ⟨w.heap.size + 1, 0, none⟩ = some (.int .i64 k') ∧ w'.cell? ⟨w.heap.size + 1, 1, none⟩ = some (.int .i64 n') ∧ w'.cell? ⟨w.heap.size + 1, 2, none⟩ = some (.float .f64 f') ∧ w'.cell? ⟨w.heap.size + 1, 3, none⟩ = some (.string s') ∧ w'.cell? ⟨w.heap.size + 1, 4, none⟩ = some (.slice a' l' c')) (first | with_reducible exact HS0.out | with_reducible exact HS1.out | with_reducible exact HS2.out) (first
    | (go_at_call 209; refine C1.out.mono ?_; clear C1; rintro e w1 ⟨rfl, HS1, C2⟩)
    | (go_at_call 209; refine C2.out.mono ?_; clear C2; rintro e w2 ⟨rfl, HS2, HB⟩))
  go_wp2_with fail
  refine (RK1.out _).mono ?_
  rintro e w3 ⟨rfl, hb3⟩
  have HB3 := hidb (HB.out.trans (hb3.mono HB.out.size))
  clear hb3
  go_wp2_with fail
  refine (RK2.out _).mono ?_
  rintro e w4 ⟨rfl, hb4⟩
  have HB4 := hidb (HB3.out.trans (hb4.mono HB3.out.size))
  clear hb4
  go_wp2_with fail
  refine (compCi (rk k) (rk k') _).mono ?_
  rintro e w5 ⟨rfl, rfl⟩
  have HB5 := hidb (HBV.out.trans (HB4.out.mono HBV.out.size))
  obtain ⟨z0, z1, z2, z3, z4, z5, z6, z7, z8, z9⟩ := HS.out _ HB4.out
  by_cases h0 : cmpI (rk k) (rk k') = 0
  · have hb0 : (cmpI (rk k) (rk k') != 0) = false := by simp [h0]
    have FC2 := hidb (FC.out h0)
    clear h0 HN FC
    generalize cmpI (rk k) (rk k') = C0 at *
    go_wp2_with fail
    refine (FC2.out _ HB5.out).mono ?_
    rintro e w6 ⟨rfl, hb6⟩
    have HB6 := hidb (HB5.out.trans (hb6.mono HB5.out.size))
    clear hb6
    go_wp2_with fail
    go_ret
    exact ⟨rfl, HB6.out⟩
  · have hb0 : (cmpI (rk k) (rk k') != 0) = true := by simp [h0]
    have HQ := hidb (HN.out h0)
    clear h0 HN FC
    generalize cmpI (rk k) (rk k') = C0 at *
    go_wp2_with fail
    go_ret
    exact ⟨by rw [HQ.out]; rfl, HB5.out⟩
end Go.Proofs.YtgljglindgbjaaaGreatDoor


/- Are two terms identical? The program's own look, walked. -/
namespace Go.Proofs.YtgljglindgbjaaaGreatDoor
open Go.RowKit Go.Lib Go.Deep
attribute [local go_sem] store_float f64bits
attribute [local go_sem ↓] Go.wp_at_zero Go.wp_at_succ

mutual
def idP : Tr → Tr → Bool
  | .mk k n f s _ _ ks, .mk k' n' f' s' _ _ ks' => (k == k') && ((n == n') && ((s.toList == s'.toList) && (((f : Int) == (f' : Int)) && (((ks.length : Int) == (ks'.length : Int)) && idL ks ks'))))
def idL : List Tr → List Tr → Bool
  | [], _ => true
  | _ :: _, [] => true
  | t :: r, t' :: r' => idP t t' && idL r r'
end
def IdOk (t : Tr) : Prop := ∀ t' : Tr, ∀ w : World, t.In w 0 → t'.In w 0 →
  Calls Tryz.prog 177 #[t.val, t'.val] w fun e w' => e = .returned (.bool (idP t t')) ∧ Below w.heap.size w w'
theorem idL_step {kids kids' : List Tr} {m : Nat} {t t' : Tr} (h : kids[m]? = some t) (h' : kids'[m]? = some t') : idL (kids.drop m) (kids'.drop m) = (idP t t' && idL (kids.drop (m + 1)) (kids'.drop (m + 1))) := by
  obtain ⟨hl, hv⟩ := (List.getElem?_eq_some_iff.1 h)
  obtain ⟨hl', hv'⟩ := (List.getElem?_eq_some_iff.1 h')
  rw [List.drop_eq_getElem_cons hl, hv, List.drop_eq_getElem_cons hl', hv']
  simp only [idL]

set_option maxHeartbeats 2000000 in
set_option maxRecDepth 100000 in
theorem eqFunc_any (kids kids' : List Tr) (hk : ∀ t, t ∈ kids → IdOk t) (k n : Int) (f : Nat) (s : ByteArray) (a : Option Addr) (c : Nat) (k' n' : Int) (f' : Nat) (s' : ByteArray) (a' : Option Addr) (c' : Nat) (w : World) (hin : (Tr.mk k n f s a c kids).In w 0) (hin' : (Tr.mk k' n' f' s' a' c' kids').In w 0) :
    Calls Tryz.prog 213 #[.slice a kids.length c, .slice a' kids'.length c', .func (.func 177) #[] #[]] w fun e w' => e = .returned (.bool (((kids.length : Int) == (kids'.length : Int)) && idL kids kids')) ∧ Below w.heap.size w w' := by
  have hlen := len_small hin
  have hlen' := len_small hin'
  have HIN := hidb hin
  have HIN' := hidb hin'
  have HK := hidb hk
  obtain ⟨M, hM⟩ : ∃ M, kids.length = M := ⟨_, rfl⟩
  obtain ⟨M', hM'⟩ : ∃ M', kids'.length = M' := ⟨_, rfl⟩
  have HM := hidb hM
  have HM' := hidb hM'
  rw [hM] at hlen ⊢
  rw [hM'] at hlen' ⊢
  clear hin hin' hk hM hM'
  by_cases hmm : M = M'
  · subst hmm
    have hq : ((M : Int) != (M : Int)) = false := by simp
    have HRR : Hid ((((M : Int) == (M : Int)) && idL kids kids') = idL kids kids') := hidb (by simp)
    rw [HRR.out]
    clear HRR
    go_enter Tryz.func213, Tryz.ntmps213
    go_wp2_with fail
    go_loopw [17] (fun iv wr => ∃ (m : Nat), m ≤ M ∧ iv = .int .i64 m ∧ idL kids kids' = idL (kids.drop m) (kids'.drop m) ∧ Below w.heap.size w wr) (fun iv _ => M - (RowKit.intOf iv).toNat)
    case atStart => exact ⟨0, by omega, rfl, rfl, Below.refl _ _⟩
    case round =>
    obtain ⟨m, hm, rfl, hcm, hby⟩ := hrel
    have HBY := hidb hby
    have HCM := hidb hcm
    clear hcm
    by_cases hml : m < M
    · have hmb : (m : Int) < (M : Int) := by omega
      have hmz : (0 : Int) ≤ (m : Int) := by omega
      obtain ⟨b, o, rfl, hat⟩ := kid_at (in_below hby HIN.out) (by have := HM.out; omega)
      obtain ⟨k1, n1, f1, s1, a1, c1, ks1, hu, hin1, p0, p1, p2, p3, p4⟩ := hat m (by have := HM.out; omega)
      have hbl := World.block_lt_of_cell? _ _ p0
      obtain ⟨b', o', rfl, hat'⟩ := kid_at (in_below hby HIN'.out) (by have := HM'.out; omega)
      obtain ⟨k2, n2, f2, s2, a2, c2, ks2, hu', hin2, q0, q1, q2, q3, q4⟩ := hat' m (by have := HM'.out; omega)
      have hbl' := World.block_lt_of_cell? _ _ q0
      have HST := hidb (idL_step hu hu')
      have CK := hidb (fun (w' : World) (hb : Below wr.heap.size wr w') => HK.out _ (List.mem_of_getElem? hu) (.mk k2 n2 f2 s2 a2 c2 ks2) w' (in_below hb hin1) (in_below hb hin2))
      obtain ⟨R, hR⟩ : ∃ R, idP (.mk k1 n1 f1 s1 a1 c1 ks1) (.mk k2 n2 f2 s2 a2 c2 ks2) = R := ⟨_, rfl⟩
      rw [hR] at CK HST
      simp only [Tr.val, Tr.cells] at CK
      generalize ks1.length = l1 at *
      generalize ks2.length = l2 at *
      clear hat hat' hu hu' hin1 hin2 hR hby
      go_wp2_with fail
      refine (CK.out _ ((below_new wr _).alloc (by simp) _)).mono ?_
      rintro e w1 ⟨rfl, hb1⟩
      have HB1 := hidb (HBY.out.trans ((((below_new wr _).alloc (by simp) _).trans (hb1.mono (by simp; omega))).mono HBY.out.size))
      clear hb1
      cases R
      · have HR : Hid (idL kids kids' = false) := hidb (by rw [HCM.out, HST.out]; rfl)
        go_wp2_with fail
        go_ret
        exact ⟨by rw [HR.out]; rfl, HB1.out⟩
      · have HST' : Hid (idL kids kids' = idL (kids.drop (m + 1)) (kids'.drop (m + 1))) := hidb (by rw [HCM.out, HST.out, Bool.true_and])
        go_wp2_with fail
        go_roundw
        case rel => exact ⟨m + 1, by omega, by go_num, HST'.out, HB1.out⟩
        case measure => simp [RowKit.intOf]; omega
    · have hmn : ¬ (m : Int) < (M : Int) := by omega
      clear hby
      obtain rfl : m = M := by omega
      have HR : Hid (idL kids kids' = true) := hidb (by
        rw [HCM.out]
        have e1 : kids.drop m = [] := List.drop_eq_nil_of_le (by have := HM.out; omega)
        rw [e1]
        simp only [idL])
      go_wp2_with fail
      go_ret
      exact ⟨by rw [HR.out]; rfl, HBY.out⟩
  · have hq : ((M : Int) != (M' : Int)) = true := by simp; omega
    have HRR : Hid ((((M : Int) == (M' : Int)) && idL kids kids') = false) := hidb (by simp; intro h; omega)
    rw [HRR.out]
    go_enter Tryz.func213, Tryz.ntmps213
    go_wp2_with fail
    go_ret
    exact ⟨rfl, Below.refl _ _⟩

set_option maxHeartbeats 8000000 in
set_option maxRecDepth 100000 in
theorem identical_any : ∀ t : Tr, IdOk t := by
  refine Tr.ind fun k n f s a c ks hk => ?_
  rintro ⟨k', n', f', s', a', c', ks'⟩ w hin hin'
  have EQ := hidb (fun W (hW : Below w.heap.size w W) => eqFunc_any ks ks' hk k n f s a c k' n' f' s' a' c' W (in_below hW hin) (in_below hW hin'))
  obtain ⟨R, hR⟩ : ∃ R, (((ks.length : Int) == (ks'.length : Int)) && idL ks ks') = R := ⟨_, rfl⟩
  have hQ : idP (.mk k n f s a c ks) (.mk k' n' f' s' a' c' ks') = ((k == k') && ((n == n') && ((s.toList == s'.toList) && (((f : Int) == (f' : Int)) && R)))) := by unfold idP; rw [hR]
  rw [hR] at EQ
  rw [hQ]
  simp only [Tr.val, Tr.cells]
  clear hk hin hin' hR hQ
  obtain ⟨l, hl⟩ : ∃ l, ks.length = l := ⟨_, rfl⟩
  obtain ⟨l', hl'⟩ : ∃ l', ks'.length = l' := ⟨_, rfl⟩
  rw [hl, hl'] at EQ
  rw [hl, hl']
  clear hl hl'
  obtain ⟨V, hV⟩ : ∃ V, (w.alloc (.cells #[.int .i64 k, .int .i64 n, .float .f64 f, .string s, .slice a l c] 27)).alloc (.cells #[.int .i64 k', .int .i64 n', .float .f64 f', .string s', .slice a' l' c'] 27) = V := ⟨_, rfl⟩
  have HBV : Hid (Below w.heap.size w V) := hidb (by rw [← hV]; exact (below_new w _).alloc (by simp) _)
  have HB1 : Hid (Box V w.heap.size (.int .i64 k) (.int .i64 n) (.float .f64 f) (.string s) (.slice a l c)) := hidb (by rw [← hV]; exact (Box.new w _ _ _ _ _ _).keep (below_new _ _))
  have HB2 : Hid (Box V (w.heap.size + 1) (.int .i64 k') (.int .i64 n') (.float .f64 f') (.string s') (.slice a' l' c')) := hidb (by
    rw [← hV]
    have := Box.new (w.alloc (.cells #[.int .i64 k, .int .i64 n, .float .f64 f, .string s, .slice a l c] 27)) 27 (.int .i64 k') (.int .i64 n') (.float .f64 f') (.string s') (.slice a' l' c')
    simpa using this)
  have HV := hidb hV
  clear hV
  have HS : Hid (∀ W, Below V.heap.size V W → W.cell? ⟨w.heap.size, 0, none⟩ = some (.int .i64 k) ∧ W.cell? ⟨w.heap.size, 1, none⟩ = some (.int .i64 n) ∧ W.cell? ⟨w.heap.size, 2, none⟩ = some (.float .f64 f) ∧ W.cell? ⟨w.heap.size, 3, none⟩ = some (.string s) ∧ W.cell? ⟨w.heap.size, 4, none⟩ = some (.slice a l c) ∧ W.cell? ⟨w.heap.size + 1, 0, none⟩ = some (.int .i64 k') ∧ W.cell? ⟨w.heap.size + 1, 1, none⟩ = some (.int .i64 n') ∧ W.cell? ⟨w.heap.size + 1, 2, none⟩ = some (.float .f64 f') ∧ W.cell? ⟨w.heap.size + 1, 3, none⟩ = some (.string s') ∧ W.cell? ⟨w.heap.size + 1, 4, none⟩ = some (.slice a' l' c')) := hidb (fun W hb => ⟨(HB1.out.keep hb).c0, (HB1.out.keep hb).c1, (HB1.out.keep hb).c2, (HB1.out.keep hb).c3, (HB1.out.keep hb).c4, (HB2.out.keep hb).c0, (HB2.out.keep hb).c1, (HB2.out.keep hb).c2, (HB2.out.keep hb).c3, (HB2.out.keep hb).c4⟩)
  have HS0 := hidb (HS.out V.drew (Below.refl _ _).drew)
  have E0 := hidb (EQ.out V.drew HBV.out.drew)
  obtain ⟨z0, z1, z2, z3, z4, z5, z6, z7, z8, z9⟩ := HS.out V (Below.refl _ _)
  cases h1 : (k == k')
  · go_enter Tryz.func177, Tryz.ntmps177
    go_wp2_with fail
    rw [HV.out]
    go_big_quiet (fail)
    go_wp2_with fail
    go_ret
    exact ⟨rfl, below_drewN HBV.out _⟩
  · cases h2 : (n == n')
    · go_enter Tryz.func177, Tryz.ntmps177
      go_wp2_with fail
      rw [HV.out]
      go_big_quiet (fail)
      go_wp2_with fail
      go_ret
      exact ⟨rfl, below_drewN HBV.out _⟩
    · cases h3 : (s.toList == s'.toList)
      · go_enter Tryz.func177, Tryz.ntmps177
        go_wp2_with fail
        rw [HV.out]
        go_big_quiet (fail)
        go_wp2_with fail
        go_ret
        exact ⟨rfl, below_drewN HBV.out _⟩
      · cases h4 : ((f : Int) == (f' : Int))
        · go_enter Tryz.func177, Tryz.ntmps177
          go_wp2_with fail
          rw [HV.out]
          go_big_quiet (fail)
          go_wp2_with fail
          go_ret
          exact ⟨rfl, below_drewN HBV.out _⟩
        · clear z0 z1 z2 z3 z4 z5 z6 z7 z8 z9
          go_enter Tryz.func177, Tryz.ntmps177
          go_wp2_with fail
          rw [HV.out]
          go_region_held3 (fun w' => w'.cell? ⟨w.heap.size, 0, none⟩ = some (.int .i64 k) ∧ w'.cell? ⟨w.heap.size, 1, none⟩ = some (.int .i64 n) ∧ w'.cell? ⟨w.heap.size, 2, none⟩ = some (.float .f64 f) ∧ w'.cell? ⟨w.heap.size, 3, none⟩ = some (.string s) ∧ w'.cell? ⟨w.heap.size, 4, none⟩ = some (.slice a l c) ∧ w'.cell? ⟨w.heap.size + 1, 0, none⟩ = some (.int .i64 k') ∧ w'.cell? ⟨w.heap.size + 1, 1, none⟩ = some (.int .i64 n') ∧ w'.cell? ⟨w.heap.size + 1, 2, none⟩ = some (.float .f64 f') ∧ w'.cell? ⟨w.heap.size + 1, 3, none⟩ = some (.string s') ∧ w'.cell? ⟨w.heap.size + 1, 4, none⟩ = some (.slice a' l' c')) (first | with_reducible exact HS0.out | with_reducible exact HS1.out) (first
            | (go_at_call 213; refine E0.out.mono ?_; clear E0; rintro e w1 ⟨rfl, hb1⟩; have HS1 := hidb (HS.out w1 (undrew hb1)); have HB1 := hidb (HBV.out.trans ((undrew hb1).mono HBV.out.size)); clear hb1))
          go_wp2_with fail
          go_ret
          exact ⟨rfl, HB1.out⟩
end Go.Proofs.YtgljglindgbjaaaGreatDoor


/- The tables of builtins and operators: a row in memory; find. -/
namespace Go.Proofs.YtgljglindgbjaaaGreatDoor
open Go.RowKit Go.Lib
attribute [local go_sem] store_float f64bits
attribute [local go_sem ↓] Go.wp_at_zero Go.wp_at_succ

theorem store_func (a : Addr) (f : Fn) (x y : Array Value) (m : Mode) (w : World) : (store a (.func f x y) m).run Tryz.prog w = stored Tryz.prog w a (.func f x y) m := run_store Tryz.prog w a _ m rfl
theorem store_nilFunc (a : Addr) (m : Mode) (w : World) : (store a .nilFunc m).run Tryz.prog w = stored Tryz.prog w a .nilFunc m := run_store Tryz.prog w a _ m rfl
attribute [local go_sem] store_func store_nilFunc

/-- A row of a table: its name, how many arguments, which function. -/
abbrev Brw : Type := ByteArray × Int × Nat
abbrev Brw.val (r : Brw) : Value := .agg #[.string r.1, .int .i64 r.2.1, .func (.func r.2.2) #[] #[]]
abbrev zrow : Value := .agg #[.string ⟨#[]⟩, .int .i64 0, .nilFunc]
theorem btl_inj {a b : ByteArray} (h : a.toList = b.toList) : a = b := by
  rw [ByteArray.toList_eq, ByteArray.toList_eq] at h
  exact ByteArray.ext (Array.toList_inj.1 h)
def TBl (w : World) (b : Nat) (l : List Brw) : Prop := ∀ (i : Nat) (r : Brw), l[i]? = some r → w.cell? ⟨b, i * 3, none⟩ = some (.string r.1) ∧ w.cell? ⟨b, i * 3 + 1, none⟩ = some (.int .i64 r.2.1) ∧ w.cell? ⟨b, i * 3 + 2, none⟩ = some (.func (.func r.2.2) #[] #[])
def bhit (nm : ByteArray) (n : Int) (r : Brw) : Bool := decide (r.2.1 = n) && decide (r.1 = nm)
def bfnd (l : List Brw) (nm : ByteArray) (n : Int) : Option Brw := l.find? (bhit nm n)

theorem bfnd_at {l : List Brw} {nm : ByteArray} {n : Int} {i : Nat} {r : Brw} (hb : ∀ (j : Nat) (q : Brw), j < i → l[j]? = some q → bhit nm n q = false) (hi : l[i]? = some r) (hh : bhit nm n r = true) : bfnd l nm n = some r := by
  induction l generalizing i with
  | nil => simp at hi
  | cons x t ih =>
    cases i with
    | zero => obtain rfl : x = r := by simpa using hi
              simp [bfnd, List.find?, hh]
    | succ i =>
      have h0 := hb 0 x (by omega) rfl
      have := ih (i := i) (fun j q hj hq => hb (j + 1) q (by omega) (by simpa using hq)) (by simpa using hi)
      simpa [bfnd, List.find?, h0] using this
theorem bfnd_no {l : List Brw} {nm : ByteArray} {n : Int} (hb : ∀ (j : Nat) (q : Brw), l[j]? = some q → bhit nm n q = false) : bfnd l nm n = none := by
  unfold bfnd
  rw [List.find?_eq_none]
  intro x hx
  obtain ⟨j, hj⟩ := List.getElem?_of_mem hx
  simp [hb j x hj]

set_option maxRecDepth 100000 in
set_option maxHeartbeats 4000000 in
theorem find_any {w : World} {b cap : Nat} {l : List Brw} (hT : TBl w b l) (nm : ByteArray) (n : Int) (hl : l.length ≤ 1000) :
    Calls Tryz.prog 28 #[.slice (some ⟨b, 0, none⟩) l.length cap, .string nm, .int .i64 n] w fun e w' => ((∃ r, bfnd l nm n = some r ∧ e = .returned (.tuple #[r.val, .bool true])) ∨ bfnd l nm n = none ∧ e = .returned (.tuple #[zrow, .bool false])) ∧ Below w.heap.size w w' := by
  have HT := hidb hT
  have HL := hidb hl
  obtain ⟨N, hN⟩ : ∃ N, l.length = N := ⟨_, rfl⟩
  have HN := hidb hN
  rw [hN]
  clear hT hl hN
  go_enter Tryz.func28, Tryz.ntmps28
  go_wp2_with fail
  go_loopw [12] (fun iv wr => ∃ i : Nat, i ≤ N ∧ iv = .int .i64 (i : Int) ∧ Below w.heap.size w wr ∧ Tri wr w.heap.size (.string ⟨#[]⟩) (.int .i64 0) .nilFunc ∧ ∀ (j : Nat) (q : Brw), j < i → l[j]? = some q → bhit nm n q = false) (fun iv _ => N - (RowKit.intOf iv).toNat)
  case atStart => exact ⟨0, by omega, rfl, (Below.refl _ _).alloc (Nat.le_refl _) _, Tri.new _ _ _ _ _, fun j q hj => by omega⟩
  case round =>
  obtain ⟨i, hi, rfl, hb, ht, hno⟩ := hrel
  have r0 := ht.c0
  have r1 := ht.c1
  have r2 := ht.c2
  have g0 := ht.f0
  have g1 := ht.f1
  have g2 := ht.f2
  have HTR := hidb ht
  have hlt := ht.lt
  have HB := hidb hb
  have HO := hidb hno
  have HI := hidb hi
  clear hb hno hi ht
  by_cases hil : i < N
  · obtain ⟨⟨rn, ra, rf⟩, hr⟩ : ∃ r, l[i]? = some r := ⟨_, List.getElem?_eq_getElem (by have := HN.out; omega)⟩
    obtain ⟨y0, y1, y2⟩ := HT.out i _ hr
    have hbl : b < w.heap.size := World.block_lt_of_cell? _ _ y0
    have z0 := (HB.out.cell (p := ⟨b, i * 3, none⟩) hbl).trans y0
    have z1 := (HB.out.cell (p := ⟨b, i * 3 + 1, none⟩) hbl).trans y1
    have z2 := (HB.out.cell (p := ⟨b, i * 3 + 2, none⟩) hbl).trans y2
    simp only at z0 z1 z2
    have e1 : (i : Int) < (N : Int) := by omega
    have e2 : (0 : Int) ≤ (i : Int) := by omega
    have HE : Hid (wrap64 ((i : Int) + 1) = ((i + 1 : Nat) : Int)) := hidb (by have := HL.out; have := HN.out; unfold wrap64; omega)
    have HR := hidb hr
    clear y0 y1 y2 hr
    by_cases hq : ra = n
    · subst hq
      by_cases hs : rn = nm
      · subst hs
        go_wp2_with fail
        have tr := (((HTR.out.set0 (.string rn)).set1 (.int .i64 ra)).set2 (.func (.func rf) #[] #[])).keep (below_new _ (.cells #[.string rn, .int .i64 ra, .func (.func rf) #[] #[]] 55))
        have q0 := tr.c0
        have q1 := tr.c1
        have q2 := tr.c2
        refine bodyPost_ret (v := .tuple #[Brw.val (rn, ra, rf), .bool true]) (by simp [results, Tryz.results28, go_sem, q0, q1, q2]) rfl ⟨.inl ⟨_, bfnd_at HO.out HR.out (by simp [bhit]), rfl⟩, ?_⟩
        exact (((HB.out.setCell (Nat.le_refl _) _).setCell (Nat.le_refl _) _).setCell (Nat.le_refl _) _).alloc (by have := HB.out.size; simpa using this) _
      · have hs' : (rn.toList == nm.toList) = false := by simpa using fun h => hs (btl_inj h)
        have hs2 : ¬ rn.toList = nm.toList := by simpa using hs'
        have HQ := hidb hs
        clear hs
        go_wp2_with fail
        go_roundw
        case rel => exact ⟨i + 1, by omega, by rw [HE.out], HB.out.alloc HB.out.size _, HTR.out.keep (below_new _ _), fun j q hj hjq => by
          by_cases e : j < i
          · exact HO.out j q e hjq
          · obtain rfl : j = i := by omega
            obtain rfl := Option.some.inj (HR.out.symm.trans hjq)
            simp [bhit, HQ.out]⟩
        case measure => rw [HE.out]; simp only [RowKit.intOf, Int.toNat_natCast]; omega
    · have hq' : (ra == n) = false := by simpa using hq
      have HQ := hidb hq
      clear hq
      go_wp2_with fail
      go_roundw
      case rel => exact ⟨i + 1, by omega, by rw [HE.out], HB.out.alloc HB.out.size _, HTR.out.keep (below_new _ _), fun j q hj hjq => by
        by_cases e : j < i
        · exact HO.out j q e hjq
        · obtain rfl : j = i := by omega
          obtain rfl := Option.some.inj (HR.out.symm.trans hjq)
          simp [bhit, HQ.out]⟩
      case measure => rw [HE.out]; simp only [RowKit.intOf, Int.toNat_natCast]; omega
  · have e1 : ¬ (i : Int) < (N : Int) := by omega
    go_wp2_with fail
    have tr := ((HTR.out.set0 (.string ⟨#[]⟩)).set1 (.int .i64 0)).set2 .nilFunc
    have q0 := tr.c0
    have q1 := tr.c1
    have q2 := tr.c2
    refine bodyPost_ret (v := .tuple #[zrow, .bool false]) (by simp [results, Tryz.results28, go_sem, q0, q1, q2]) rfl ⟨.inr ⟨bfnd_no (fun j q hq => HO.out j q (by have := (List.getElem?_eq_some_iff.1 hq).1; have := HN.out; omega) hq), rfl⟩, ?_⟩
    exact (((HB.out.setCell (Nat.le_refl _) _).setCell (Nat.le_refl _) _).setCell (Nat.le_refl _) _)
end Go.Proofs.YtgljglindgbjaaaGreatDoor


