import Derived.Test.YtgljglindgbjaaaGreatDoorG20
import Derived.Test.YtgljglindgbjaaaGreatDoorG26
import Derived.Test.YtgljglindgbjaaaGreatDoorG25
/- The reference's order of terms. -/
namespace Go.Proofs.YtgljglindgbjaaaGreatDoor
open Go.RowKit Go.Lib Go.Deep
attribute [local go_sem] store_float f64bits
attribute [local go_sem ↓] Go.wp_at_zero Go.wp_at_succ

def rkR (k : Int) : Int := if k = 1 then 1 else if k = 2 then 1 else if k = 3 then 2 else if k = 4 then 3 else if k = 5 then 4 else if k = 6 then 5 else if k = 7 then 6 else 7
theorem rorder1_any (x y : Int) (w : World) : Calls Tryz.prog 50 #[.int .i64 x, .int .i64 y] w fun e w' => e = .returned (.int .i64 (cmpI x y)) ∧ w' = w := by
  unfold cmpI
  by_cases h1 : x < y
  · rw [if_pos h1]
    go_enter Tryz.func50, Tryz.ntmps50
    go_wp2_with fail
    go_ret
    exact ⟨rfl, rfl⟩
  · rw [if_neg h1]
    by_cases h2 : y < x
    · rw [if_pos h2]
      go_enter Tryz.func50, Tryz.ntmps50
      go_wp2_with fail
      go_ret
      exact ⟨rfl, rfl⟩
    · rw [if_neg h2]
      go_enter Tryz.func50, Tryz.ntmps50
      go_wp2_with fail
      go_ret
      exact ⟨rfl, rfl⟩
theorem rrank_any (k n : Int) (f : Nat) (s : ByteArray) (a : Option Addr) (l c : Nat) (w : World) : Calls Tryz.prog 51 #[.agg #[.int .i64 k, .int .i64 n, .float .f64 f, .string s, .slice a l c]] w fun e w' => e = .returned (.int .i64 (rkR k)) ∧ Below w.heap.size w w' := by
  by_cases h : k = 1 ∨ k = 2 ∨ k = 3 ∨ k = 4 ∨ k = 5 ∨ k = 6 ∨ k = 7
  · rcases h with rfl | rfl | rfl | rfl | rfl | rfl | rfl
    all_goals
      go_enter Tryz.func51, Tryz.ntmps51
      go_wp2_with fail
      go_ret
      exact ⟨rfl, below_new _ _⟩
  · simp only [not_or] at h
    obtain ⟨h1, h2, h3, h4, h5, h6, h7⟩ := h
    have hr : rkR k = 7 := by unfold rkR; simp [*]
    rw [hr]
    have e1 : (k == 1) = false := by simpa using h1
    have e2 : (k == 2) = false := by simpa using h2
    have e3 : (k == 3) = false := by simpa using h3
    have e4 : (k == 4) = false := by simpa using h4
    have e5 : (k == 5) = false := by simpa using h5
    have e6 : (k == 6) = false := by simpa using h6
    have e7 : (k == 7) = false := by simpa using h7
    clear hr h1 h2 h3 h4 h5 h6 h7
    go_enter Tryz.func51, Tryz.ntmps51
    go_wp2_with fail
    go_ret
    exact ⟨rfl, below_new _ _⟩
/-- The order of a term, as the document says it. -/
def OrdOk (t : Tr) : Prop := ∀ t', allT goodT t' = true → ∀ w : World, t.In w 0 → t'.In w 0 → Calls Tryz.prog 21 #[t.val, t'.val] w fun e w' => e = .returned (.int .i64 (cmpT t t')) ∧ Below w.heap.size w w'
theorem cmpA_end : ∀ (l l' : List Tr), (l = [] ∨ l' = []) → cmpA l l' = cmpI l.length l'.length
  | [], [], _ => rfl
  | [], _ :: r, _ => by simp only [cmpA, List.length_nil, List.length_cons]; unfold cmpI; rw [if_pos (by omega)]
  | _ :: r, [], _ => by simp only [cmpA, List.length_nil, List.length_cons]; unfold cmpI; rw [if_neg (by omega), if_pos (by omega)]
  | _ :: _, _ :: _, h => by rcases h with h | h <;> cases h
theorem cmpI_drop (l l' : List Tr) (m : Nat) (h : m ≤ l.length) (h' : m ≤ l'.length) : cmpI ((l.drop m).length : Int) ((l'.drop m).length : Int) = cmpI (l.length : Int) (l'.length : Int) := by
  rw [List.length_drop, List.length_drop]
  unfold cmpI
  split <;> split <;> (try split) <;> (try split) <;> first | rfl | omega
set_option maxHeartbeats 3000000 in
set_option maxRecDepth 100000 in
theorem relements_of (kids kids' : List Tr) (a a' : Option Addr) (c c' : Nat) (hk : ∀ t ∈ kids, OrdOk t) (hg : ∀ t ∈ kids', allT goodT t = true) (w : World) (hin : ArgsIn w a c kids) (hin' : ArgsIn w a' c' kids') :
    Calls Tryz.prog 53 #[.slice a kids.length c, .slice a' kids'.length c'] w fun e w' => e = .returned (.int .i64 (cmpA kids kids')) ∧ Below w.heap.size w w' := by
  have HK := hidb hk
  have HG := hidb hg
  have HI := hidb hin
  have HI' := hidb hin'
  have hlen := len_small hin
  have hlen' := len_small hin'
  have OR := hidb (fun (x y : Int) W => rorder1_any x y W)
  clear hk hg hin hin'
  go_enter Tryz.func53, Tryz.ntmps53
  go_wp2_with fail
  go_loopw [5] (fun iv wr => ∃ (m : Nat), m ≤ kids.length ∧ m ≤ kids'.length ∧ iv = .int .i64 m ∧ cmpA kids kids' = cmpA (kids.drop m) (kids'.drop m) ∧ Below w.heap.size w wr) (fun iv _ => kids.length - (RowKit.intOf iv).toNat)
  case atStart => exact ⟨0, by omega, by omega, rfl, rfl, Below.refl _ _⟩
  case round =>
  obtain ⟨m, hm, hm', rfl, hid, hbw⟩ := hrel
  have HD := hidb hid
  have HBW := hidb hbw
  have HM := hidb (And.intro hm hm')
  clear hid hbw hm hm'
  by_cases hml : m < kids.length
  · have hmb : (m : Int) < (kids.length : Int) := by omega
    by_cases hml' : m < kids'.length
    · have hmb' : (m : Int) < (kids'.length : Int) := by omega
      have hmz : (0 : Int) ≤ (m : Int) := by omega
      have hmw : IntKind.i64.wrap ((m : Int) + 1) = (m : Int) + 1 := by rw [IntKind.wrap_i64]; omega
      obtain ⟨b, o, rfl, hat⟩ := kid_at (in_below HBW.out HI.out) (by omega)
      obtain ⟨k1, n1, f1, s1, a1, c1, ks1, hu1, hin1, p0, p1, p2, p3, p4⟩ := hat m hml
      obtain ⟨b', o', rfl, hat'⟩ := kid_at (in_below HBW.out HI'.out) (by omega)
      obtain ⟨k2, n2, f2, s2, a2, c2, ks2, hu2, hin2, q0, q1, q2, q3, q4⟩ := hat' m hml'
      have hbl := World.block_lt_of_cell? _ _ p0
      have hbl2 := World.block_lt_of_cell? _ _ q0
      have HSX : Hid (wr.drew.cell? ⟨b, o + m * 5, none⟩ = some (.int .i64 k1) ∧ wr.drew.cell? ⟨b, o + m * 5 + 1, none⟩ = some (.int .i64 n1) ∧ wr.drew.cell? ⟨b, o + m * 5 + 2, none⟩ = some (.float .f64 f1) ∧ wr.drew.cell? ⟨b, o + m * 5 + 3, none⟩ = some (.string s1) ∧ wr.drew.cell? ⟨b, o + m * 5 + 4, none⟩ = some (.slice a1 ks1.length c1) ∧ wr.drew.cell? ⟨b', o' + m * 5, none⟩ = some (.int .i64 k2) ∧ wr.drew.cell? ⟨b', o' + m * 5 + 1, none⟩ = some (.int .i64 n2) ∧ wr.drew.cell? ⟨b', o' + m * 5 + 2, none⟩ = some (.float .f64 f2) ∧ wr.drew.cell? ⟨b', o' + m * 5 + 3, none⟩ = some (.string s2) ∧ wr.drew.cell? ⟨b', o' + m * 5 + 4, none⟩ = some (.slice a2 ks2.length c2)) := hidb ⟨p0, p1, p2, p3, p4, q0, q1, q2, q3, q4⟩
      have IH := hidb (HK.out _ (List.mem_of_getElem? hu1) (.mk k2 n2 f2 s2 a2 c2 ks2) (HG.out _ (List.mem_of_getElem? hu2)) wr.drew (in_below ((Below.refl _ _).drew) hin1) (in_below ((Below.refl _ _).drew) hin2))
      simp only [Tr.val, Tr.cells] at IH
      have HDD : Hid (cmpA (kids.drop m) (kids'.drop m) = if cmpT (.mk k1 n1 f1 s1 a1 c1 ks1) (.mk k2 n2 f2 s2 a2 c2 ks2) ≠ 0 then cmpT (.mk k1 n1 f1 s1 a1 c1 ks1) (.mk k2 n2 f2 s2 a2 c2 ks2) else cmpA (kids.drop (m + 1)) (kids'.drop (m + 1))) := hidb (by rw [drop_one hu1, drop_one hu2]; simp only [cmpA])
      generalize cmpT (.mk k1 n1 f1 s1 a1 c1 ks1) (.mk k2 n2 f2 s2 a2 c2 ks2) = r at *
      clear hat hat' hu1 hu2 hin1 hin2 p0 p1 p2 p3 p4 q0 q1 q2 q3 q4
      go_wp2_with fail
      go_region_held3 (fun w' => w'.cell? ⟨b, o + m * 5, none⟩ = some (.int .i64 k1) ∧ w'.cell? ⟨b, o + m * 5 + 1, none⟩ = some (.int .i64 n1) ∧ w'.cell? ⟨b, o + m * 5 + 2, none⟩ = some (.float .f64 f1) ∧ w'.cell? ⟨b, o + m * 5 + 3, none⟩ = some (.string s1) ∧ w'.cell? ⟨b, o + m * 5 + 4, none⟩ = some (.slice a1 ks1.length c1) ∧ w'.cell? ⟨b', o' + m * 5, none⟩ = some (.int .i64 k2) ∧ w'.cell? ⟨b', o' + m * 5 + 1, none⟩ = some (.int .i64 n2) ∧ w'.cell? ⟨b', o' + m * 5 + 2, none⟩ = some (.float .f64 f2) ∧ w'.cell? ⟨b', o' + m * 5 + 3, none⟩ = some (.string s2) ∧ w'.cell? ⟨b', o' + m * 5 + 4, none⟩ = some (.slice a2 ks2.length c2))
        (first | with_reducible exact HSX.out | with_reducible exact HS6.out) (first
        | (go_at_call 21; refine IH.out.mono ?_; rintro e w6 ⟨rfl, hb6⟩; have HS6 : Hid (w6.cell? ⟨b, o + m * 5, none⟩ = some (.int .i64 k1) ∧ w6.cell? ⟨b, o + m * 5 + 1, none⟩ = some (.int .i64 n1) ∧ w6.cell? ⟨b, o + m * 5 + 2, none⟩ = some (.float .f64 f1) ∧ w6.cell? ⟨b, o + m * 5 + 3, none⟩ = some (.string s1) ∧ w6.cell? ⟨b, o + m * 5 + 4, none⟩ = some (.slice a1 ks1.length c1) ∧ w6.cell? ⟨b', o' + m * 5, none⟩ = some (.int .i64 k2) ∧ w6.cell? ⟨b', o' + m * 5 + 1, none⟩ = some (.int .i64 n2) ∧ w6.cell? ⟨b', o' + m * 5 + 2, none⟩ = some (.float .f64 f2) ∧ w6.cell? ⟨b', o' + m * 5 + 3, none⟩ = some (.string s2) ∧ w6.cell? ⟨b', o' + m * 5 + 4, none⟩ = some (.slice a2 ks2.length c2)) := hidb ⟨(hb6.cell hbl).trans HSX.out.1, (hb6.cell hbl).trans HSX.out.2.1, (hb6.cell hbl).trans HSX.out.2.2.1, (hb6.cell hbl).trans HSX.out.2.2.2.1, (hb6.cell hbl).trans HSX.out.2.2.2.2.1, (hb6.cell hbl2).trans HSX.out.2.2.2.2.2.1, (hb6.cell hbl2).trans HSX.out.2.2.2.2.2.2.1, (hb6.cell hbl2).trans HSX.out.2.2.2.2.2.2.2.1, (hb6.cell hbl2).trans HSX.out.2.2.2.2.2.2.2.2.1, (hb6.cell hbl2).trans HSX.out.2.2.2.2.2.2.2.2.2⟩; have HB6 := hidb (HBW.out.trans ((undrew hb6).mono HBW.out.size)); clear hb6))
      by_cases hr : r = 0
      · have hrb : (r != 0) = false := by simp [hr]
        have HR := hidb hr
        clear hr
        go_wp2_with fail
        go_roundw
        case rel => exact ⟨m + 1, by omega, by omega, by go_num, by rw [HD.out, HDD.out, if_neg (by simp [HR.out])], HB6.out⟩
        case measure => simp [RowKit.intOf]; omega
      · have hrb : (r != 0) = true := by simp [hr]
        have HR := hidb hr
        clear hr
        go_wp2_with fail
        go_ret
        exact ⟨by rw [HD.out, HDD.out, if_pos HR.out]; rfl, HB6.out⟩
    · have hmn : ¬ (m : Int) < (kids'.length : Int) := by omega
      have HE : Hid (cmpA kids kids' = cmpI (kids.length : Int) (kids'.length : Int)) := hidb (by rw [HD.out, cmpA_end _ _ (.inr (List.drop_eq_nil_of_le (by omega))), cmpI_drop _ _ _ HM.out.1 HM.out.2])
      go_wp2_with (go_at_call 50; refine (OR.out _ _ _).mono ?_; rintro e w6 ⟨rfl, rfl⟩)
      go_ret
      exact ⟨by rw [HE.out]; rfl, HBW.out⟩
  · have hmn : ¬ (m : Int) < (kids.length : Int) := by omega
    have HE : Hid (cmpA kids kids' = cmpI (kids.length : Int) (kids'.length : Int)) := hidb (by rw [HD.out, cmpA_end _ _ (.inl (List.drop_eq_nil_of_le (by omega))), cmpI_drop _ _ _ HM.out.1 HM.out.2])
    go_wp2_with (go_at_call 50; refine (OR.out _ _ _).mono ?_; rintro e w6 ⟨rfl, rfl⟩)
    go_ret
    exact ⟨by rw [HE.out]; rfl, HBW.out⟩
end Go.Proofs.YtgljglindgbjaaaGreatDoor


/- The reference's order of any two right terms. -/
namespace Go.Proofs.YtgljglindgbjaaaGreatDoor
open Go.RowKit Go.Lib Go.Deep
attribute [local go_sem] store_float f64bits
attribute [local go_sem ↓] Go.wp_at_zero Go.wp_at_succ

theorem good_kinds {k n : Int} {f : Nat} {s : ByteArray} {a : Option Addr} {c : Nat} {ks : List Tr} (h : goodT (.mk k n f s a c ks) = true) : (k = 1 ∨ k = 2) ∨ k = 3 ∨ (k = 4 ∨ k = 6) ∨ k = 5 ∨ k = 7 ∨ k = 8 := by
  by_cases h1 : k = 1 ∨ k = 2
  · exact .inl h1
  by_cases h3 : k = 3
  · exact .inr (.inl h3)
  by_cases h4 : k = 4 ∨ k = 6
  · exact .inr (.inr (.inl h4))
  by_cases h5 : k = 5
  · exact .inr (.inr (.inr (.inl h5)))
  by_cases h7 : k = 7 ∨ k = 8
  · exact .inr (.inr (.inr (.inr h7)))
  simp only [goodT, if_neg h1, if_neg h3, if_neg h4, if_neg h5, if_neg h7] at h
  cases h
theorem args_of {w : World} {k n : Int} {f : Nat} {s : ByteArray} {a : Option Addr} {c : Nat} {ks : List Tr} (h : (Tr.mk k n f s a c ks).In w 0) : ArgsIn w a c ks := by
  unfold Tr.In at h ⊢
  exact ⟨⟨by decide, by decide, by decide, by show 0 ≤ maxLen; omega, h.1.2.2.2.2⟩, h.2⟩
theorem rkR_rk {k : Int} (h : (k = 1 ∨ k = 2) ∨ k = 3 ∨ (k = 4 ∨ k = 6) ∨ k = 5 ∨ k = 7 ∨ k = 8) : rkR k = rk k + 1 := by
  rcases h with (rfl | rfl) | rfl | (rfl | rfl) | rfl | rfl | rfl <;> rfl
theorem rk_num {k k' : Int} (h : k = 1 ∨ k = 2) (h' : (k' = 1 ∨ k' = 2) ∨ k' = 3 ∨ (k' = 4 ∨ k' = 6) ∨ k' = 5 ∨ k' = 7 ∨ k' = 8) (hc : cmpI (rk k) (rk k') = 0) : k' = 1 ∨ k' = 2 := by
  rcases h with rfl | rfl <;> rcases h' with h' | rfl | (rfl | rfl) | rfl | rfl | rfl <;> first | exact h' | exact absurd hc (by decide)
theorem cmpB_less : ∀ a b : List UInt8, compareBytes a b = if Op.bytesLess a b then -1 else if a == b then 0 else 1
  | [], [] => rfl
  | [], _ :: _ => rfl
  | _ :: _, [] => rfl
  | x :: a, y :: b => by
    simp only [compareBytes, Op.bytesLess]
    rw [cmpB_less a b]
    by_cases h1 : x < y
    · simp [h1]
    · by_cases h2 : y < x
      · have h3 : ¬ x = y := fun e => by subst e; exact h1 h2
        simp [h1, h2, h3]
      · have h3 : x = y := UInt8.le_antisymm (UInt8.not_lt.1 h2) (UInt8.not_lt.1 h1)
        subst h3
        simp [h1]
theorem cmpI_up (x y : Int) : cmpI (x + 1) (y + 1) = cmpI x y := by
  unfold cmpI
  split <;> split <;> (try split) <;> (try split) <;> first | rfl | omega
theorem ent_rrank : Ent 51 := by
  intro args w
  kernel_rfl
theorem ent_rorder1 : Ent 50 := by
  intro args w
  kernel_rfl
set_option maxHeartbeats 8000000 in
set_option maxRecDepth 100000 in
theorem ord_any : ∀ t : Tr, allT goodT t = true → OrdOk t := by
  refine Tr.ind fun k n f s a c ks hk => ?_
  intro hg0
  obtain ⟨hg, hgk⟩ := all_self hg0
  rintro ⟨k', n', f', s', a', c', ks'⟩ hg1 w hin hin'
  obtain ⟨hg', hgk'⟩ := all_self hg1
  have hkk := good_kinds hg
  have hkk' := good_kinds hg'
  have hf := fit_f hin
  have hf' := fit_f hin'
  have EL := hidb (fun W (hW : Below w.heap.size w W) => relements_of ks ks' a a' c c' (fun t ht => hk t ht (hgk t ht)) hgk' W (args_of (in_below hW hin)) (args_of (in_below hW hin')))
  have NC : Hid ((k = 1 ∨ k = 2) → (k' = 1 ∨ k' = 2) → ∀ W, Calls Tryz.prog 52 #[.agg #[.int .i64 k, .int .i64 n, .float .f64 f, .string s, .slice a ks.length c], .agg #[.int .i64 k', .int .i64 n', .float .f64 f', .string s', .slice a' ks'.length c']] W fun e w' => e = .returned (.int .i64 (Flt.ordI (compare (valU k n f) (valU k' n' f')))) ∧ Below W.heap.size W w') := hidb (fun h1 h2 W => rcmp_any k k' n n' f f' s s' a a' ks.length c ks'.length c' hf hf' (by simp only [goodT, if_pos h1] at hg; exact hg) (by simp only [goodT, if_pos h2] at hg'; exact hg') W)
  have RK1 := hidb (rrank_any k n f s a ks.length c)
  have RK2 := hidb (rrank_any k' n' f' s' a' ks'.length c')
  have OR := hidb (fun (x y : Int) W => rorder1_any x y W)
  have HQ : Hid (cmpI (rkR k) (rkR k') = cmpI (rk k) (rk k')) := hidb (by rw [rkR_rk hkk, rkR_rk hkk', cmpI_up])
  have HKK := hidb (And.intro hkk hkk')
  simp only [Tr.val, Tr.cells]
  have hlen := len_small hin
  have hlen' := len_small hin'
  clear hk hg0 hg1 hg hg' hgk hgk' hin hin' hkk hkk' hf hf'
  have X1 := (Box.new w 27 (.int .i64 k) (.int .i64 n) (.float .f64 f) (.string s) (.slice a ks.length c)).keep (below_new _ (Obj.cells #[.int .i64 k', .int .i64 n', .float .f64 f', .string s', .slice a' ks'.length c'] 27))
  have X2 := Box.new (w.alloc (Obj.cells #[.int .i64 k, .int .i64 n, .float .f64 f, .string s, .slice a ks.length c] 27)) 27 (.int .i64 k') (.int .i64 n') (.float .f64 f') (.string s') (.slice a' ks'.length c')
  rw [show (w.alloc (Obj.cells #[.int .i64 k, .int .i64 n, .float .f64 f, .string s, .slice a ks.length c] 27)).heap.size = w.heap.size + 1 by simp] at X2
  have HX1 := hidb X1
  have HX2 := hidb X2
  have HB2 : Hid (Below w.heap.size w ((w.alloc (Obj.cells #[.int .i64 k, .int .i64 n, .float .f64 f, .string s, .slice a ks.length c] 27)).alloc (Obj.cells #[.int .i64 k', .int .i64 n', .float .f64 f', .string s', .slice a' ks'.length c'] 27))) := hidb ((below_new w _).alloc (by simp) _)
  clear X1 X2
  go_enter Tryz.func21, Tryz.ntmps21
  go_wp2_with fail
  obtain ⟨W0, hW0⟩ : ∃ W0, ((w.alloc (.cells #[.int .i64 k, .int .i64 n, .float .f64 f, .string s, .slice a ks.length c] 27)).alloc (.cells #[.int .i64 k', .int .i64 n', .float .f64 f', .string s', .slice a' ks'.length c'] 27)) = W0 := ⟨_, rfl⟩
  rw [hW0] at HX1 HX2 HB2 ⊢
  clear hW0
  have HSA : Hid (∀ W9, Below W0.heap.size W0 W9 → W9.cell? ⟨w.heap.size, 0, none⟩ = some (.int .i64 k) ∧ W9.cell? ⟨w.heap.size, 1, none⟩ = some (.int .i64 n) ∧ W9.cell? ⟨w.heap.size, 2, none⟩ = some (.float .f64 f) ∧ W9.cell? ⟨w.heap.size, 3, none⟩ = some (.string s) ∧ W9.cell? ⟨w.heap.size, 4, none⟩ = some (.slice a ks.length c) ∧ W9.cell? ⟨w.heap.size + 1, 0, none⟩ = some (.int .i64 k') ∧ W9.cell? ⟨w.heap.size + 1, 1, none⟩ = some (.int .i64 n') ∧ W9.cell? ⟨w.heap.size + 1, 2, none⟩ = some (.float .f64 f') ∧ W9.cell? ⟨w.heap.size + 1, 3, none⟩ = some (.string s') ∧ W9.cell? ⟨w.heap.size + 1, 4, none⟩ = some (.slice a' ks'.length c')) := hidb (fun W9 hb => by
    have h1 := HX1.out.keep hb
    have h2 := HX2.out.keep hb
    obtain ⟨x0, x1, x2, x3, x4, -, -, -, -, -, -⟩ := h1
    obtain ⟨y0, y1, y2, y3, y4, -, -, -, -, -, -⟩ := h2
    exact ⟨x0, x1, x2, x3, x4, y0, y1, y2, y3, y4⟩)
  have HS0 := hidb (HSA.out W0.drew (Below.refl _ _).drew)
  refine wp_region_D (fun W9 => W9.cell? ⟨w.heap.size, 0, none⟩ = some (.int .i64 k) ∧ W9.cell? ⟨w.heap.size, 1, none⟩ = some (.int .i64 n) ∧ W9.cell? ⟨w.heap.size, 2, none⟩ = some (.float .f64 f) ∧ W9.cell? ⟨w.heap.size, 3, none⟩ = some (.string s) ∧ W9.cell? ⟨w.heap.size, 4, none⟩ = some (.slice a ks.length c) ∧ W9.cell? ⟨w.heap.size + 1, 0, none⟩ = some (.int .i64 k') ∧ W9.cell? ⟨w.heap.size + 1, 1, none⟩ = some (.int .i64 n') ∧ W9.cell? ⟨w.heap.size + 1, 2, none⟩ = some (.float .f64 f') ∧ W9.cell? ⟨w.heap.size + 1, 3, none⟩ = some (.string s') ∧ W9.cell? ⟨w.heap.size + 1, 4, none⟩ = some (.slice a' ks'.length c')) [] (by kernel_rfl) ?_
  refine wpAnyD_takeL (i := 0) (v := ?vv0o) rfl (by kernel_rfl) (by kernel_rfl) (by kernel_rfl) (by kernel_rfl) (fun _ _ _ h => h) HS0.out rfl ?hy0o ?_
  case hy0o => intro wy hSw; obtain ⟨q0, q1, q2, q3, q4, q5, q6, q7, q8, q9⟩ := hSw; go_simp; try with_reducible rfl
  simp only [Act.put, List.setIfInBounds_toArray, List.set_cons_zero, List.set_cons_succ]
  refine wpAnyD_takeL (i := 2) (v := ?vv2o) rfl (by kernel_rfl) (by kernel_rfl) (by kernel_rfl) (by kernel_rfl) (fun _ _ _ h => h) HS0.out rfl ?hy2o ?_
  case hy2o => intro wy hSw; obtain ⟨q0, q1, q2, q3, q4, q5, q6, q7, q8, q9⟩ := hSw; go_simp; try with_reducible rfl
  simp only [Act.put, List.setIfInBounds_toArray, List.set_cons_zero, List.set_cons_succ]
  refine wpAnyD_stepL (i := 1) (by kernel_rfl) rfl (fun K hK => ?_)
  refine step_callB (by simp [Region.wanted]) (run_call ent_rrank #[.tmp 6] _ rfl #[.agg #[.int .i64 k, .int .i64 n, .float .f64 f, .string s, .slice a ks.length c]] rfl) (RK1.out W0.drew) ?_
  rintro e w2 ⟨rfl, hb2⟩
  have HV2 := hidb (undrew hb2)
  have HS0 := hidb (HSA.out w2 HV2.out)
  refine hK _ _ (fun _ => HS0.out) ?_
  clear hb2
  clear hK K
  simp only [Act.put, List.setIfInBounds_toArray, List.set_cons_zero, List.set_cons_succ]
  refine wpAnyD_stepL (i := 3) (by kernel_rfl) rfl (fun K hK => ?_)
  refine step_callB (by simp [Region.wanted]) (run_call ent_rrank #[.tmp 8] _ rfl #[.agg #[.int .i64 k', .int .i64 n', .float .f64 f', .string s', .slice a' ks'.length c']] rfl) (RK2.out w2) ?_
  rintro e w3 ⟨rfl, hb3⟩
  have HV3 := hidb (HV2.out.trans (hb3.mono HV2.out.size))
  have HS0 := hidb (HSA.out w3 HV3.out)
  refine hK _ _ (fun _ => HS0.out) ?_
  clear hb3
  clear hK K
  simp only [Act.put, List.setIfInBounds_toArray, List.set_cons_zero, List.set_cons_succ]
  refine wpAnyD_stepL (i := 4) (by kernel_rfl) rfl (fun K hK => ?_)
  refine step_callB (by simp [Region.wanted]) (run_call ent_rorder1 #[.tmp 7, .tmp 9] _ rfl #[.int .i64 (rkR k), .int .i64 (rkR k')] rfl) (OR.out _ _ w3) ?_
  rintro e w4 ⟨rfl, rfl⟩
  refine hK _ _ (fun _ => HS0.out) ?_
  clear hK K
  simp only [Act.put, List.setIfInBounds_toArray, List.set_cons_zero, List.set_cons_succ]
  refine wpAnyD_takeL (i := 5) (v := ?vv5o) rfl (by kernel_rfl) (by kernel_rfl) (by kernel_rfl) (by kernel_rfl) (fun _ _ _ h => h) HS0.out rfl ?hy5o ?_
  case hy5o => intro wy hSw; obtain ⟨q0, q1, q2, q3, q4, q5, q6, q7, q8, q9⟩ := hSw; go_simp; try with_reducible rfl
  simp only [Act.put, List.setIfInBounds_toArray, List.set_cons_zero, List.set_cons_succ]
  refine wpAnyD_done (by kernel_rfl) ?_ _
  have HW4 := hidb (HB2.out.trans (HV3.out.mono HB2.out.size))
  rw [HQ.out]
  have hS4 := HSA.out w4 HV3.out
  obtain ⟨x0, x1, x2, x3, x4, y0, y1, y2, y3, y4⟩ := hS4
  by_cases hR : cmpI (rk k) (rk k') = 0
  · have hRb : (cmpI (rk k) (rk k') != 0) = false := by simp [hR]
    have HRR := hidb hR
    have hk8 := HKK.out.1
    rw [hR]
    clear hR hRb
    rcases hk8 with (rfl | rfl) | rfl | (rfl | rfl) | rfl | rfl | rfl
    · rw [show rkR 1 = 1 from rfl] at RK1 ⊢
      have CT : Hid (cmpT (.mk 1 n f s a c ks) (.mk k' n' f' s' a' c' ks') = Flt.ordI (compare (valU 1 n f) (valU k' n' f'))) := hidb (by simp only [cmpT, HRR.out]; simp)
      have NC2 := hidb (NC.out (by simp) (rk_num (by simp) HKK.out.2 HRR.out))
      go_wp2_with (first
        | (go_at_call 51; refine (RK1.out _).mono ?_; rintro e w5 ⟨rfl, hb5⟩; have HV5 := hidb (HV3.out.trans (hb5.mono HV3.out.size)); have hS5 := HSA.out w5 HV5.out; have HW5 := hidb (HB2.out.trans (HV5.out.mono HB2.out.size)); clear x0 x1 x2 x3 x4 y0 y1 y2 y3 y4; obtain ⟨x0, x1, x2, x3, x4, y0, y1, y2, y3, y4⟩ := hS5; clear hb5)
        | (go_at_call 52; refine (NC2.out _).mono ?_; rintro e w6 ⟨rfl, hb6⟩; have HW6 := hidb (HW5.out.trans (hb6.mono HW5.out.size)); clear hb6))
      go_ret
      exact ⟨by rw [CT.out]; rfl, HW6.out⟩
    · rw [show rkR 2 = 1 from rfl] at RK1 ⊢
      have CT : Hid (cmpT (.mk 2 n f s a c ks) (.mk k' n' f' s' a' c' ks') = Flt.ordI (compare (valU 2 n f) (valU k' n' f'))) := hidb (by simp only [cmpT, HRR.out]; simp)
      have NC2 := hidb (NC.out (by simp) (rk_num (by simp) HKK.out.2 HRR.out))
      go_wp2_with (first
        | (go_at_call 51; refine (RK1.out _).mono ?_; rintro e w5 ⟨rfl, hb5⟩; have HV5 := hidb (HV3.out.trans (hb5.mono HV3.out.size)); have hS5 := HSA.out w5 HV5.out; have HW5 := hidb (HB2.out.trans (HV5.out.mono HB2.out.size)); clear x0 x1 x2 x3 x4 y0 y1 y2 y3 y4; obtain ⟨x0, x1, x2, x3, x4, y0, y1, y2, y3, y4⟩ := hS5; clear hb5)
        | (go_at_call 52; refine (NC2.out _).mono ?_; rintro e w6 ⟨rfl, hb6⟩; have HW6 := hidb (HW5.out.trans (hb6.mono HW5.out.size)); clear hb6))
      go_ret
      exact ⟨by rw [CT.out]; rfl, HW6.out⟩
    · rw [show rkR 3 = 2 from rfl] at RK1 ⊢
      have CT : Hid (cmpT (.mk 3 n f s a c ks) (.mk k' n' f' s' a' c' ks') = compareBytes s.data.toList s'.data.toList) := hidb (by simp only [cmpT, HRR.out]; simp)
      have CB : Hid (compareBytes s.data.toList s'.data.toList = if Op.bytesLess s.toList s'.toList then -1 else if s.toList == s'.toList then 0 else 1) := hidb (by rw [cmpB_less, ByteArray.toList_eq, ByteArray.toList_eq])
      cases hL : Op.bytesLess s.toList s'.toList
      · cases hE : (s.toList == s'.toList)
        · have HLE := hidb (And.intro hL hE)
          go_wp2_with (go_at_call 51; refine (RK1.out _).mono ?_; rintro e w5 ⟨rfl, hb5⟩; have HV5 := hidb (HV3.out.trans (hb5.mono HV3.out.size)); have hS5 := HSA.out w5 HV5.out; have HW5 := hidb (HB2.out.trans (HV5.out.mono HB2.out.size)); clear x0 x1 x2 x3 x4 y0 y1 y2 y3 y4; obtain ⟨x0, x1, x2, x3, x4, y0, y1, y2, y3, y4⟩ := hS5; clear hb5)
          go_ret
          exact ⟨by rw [CT.out, CB.out, HLE.out.1, HLE.out.2]; rfl, HW5.out⟩
        · have HLE := hidb (And.intro hL hE)
          go_wp2_with (go_at_call 51; refine (RK1.out _).mono ?_; rintro e w5 ⟨rfl, hb5⟩; have HV5 := hidb (HV3.out.trans (hb5.mono HV3.out.size)); have hS5 := HSA.out w5 HV5.out; have HW5 := hidb (HB2.out.trans (HV5.out.mono HB2.out.size)); clear x0 x1 x2 x3 x4 y0 y1 y2 y3 y4; obtain ⟨x0, x1, x2, x3, x4, y0, y1, y2, y3, y4⟩ := hS5; clear hb5)
          go_ret
          exact ⟨by rw [CT.out, CB.out, HLE.out.1, HLE.out.2]; rfl, HW5.out⟩
      · have HLE := hidb hL
        go_wp2_with (go_at_call 51; refine (RK1.out _).mono ?_; rintro e w5 ⟨rfl, hb5⟩; have HV5 := hidb (HV3.out.trans (hb5.mono HV3.out.size)); have hS5 := HSA.out w5 HV5.out; have HW5 := hidb (HB2.out.trans (HV5.out.mono HB2.out.size)); clear x0 x1 x2 x3 x4 y0 y1 y2 y3 y4; obtain ⟨x0, x1, x2, x3, x4, y0, y1, y2, y3, y4⟩ := hS5; clear hb5)
        go_ret
        exact ⟨by rw [CT.out, CB.out, HLE.out]; rfl, HW5.out⟩
    · rw [show rkR 4 = 3 from rfl] at RK1 ⊢
      have CT : Hid (cmpT (.mk 4 n f s a c ks) (.mk k' n' f' s' a' c' ks') = cmpI n n') := hidb (by simp only [cmpT, HRR.out]; simp)
      go_wp2_with (first
        | (go_at_call 51; refine (RK1.out _).mono ?_; rintro e w5 ⟨rfl, hb5⟩; have HV5 := hidb (HV3.out.trans (hb5.mono HV3.out.size)); have hS5 := HSA.out w5 HV5.out; have HW5 := hidb (HB2.out.trans (HV5.out.mono HB2.out.size)); clear x0 x1 x2 x3 x4 y0 y1 y2 y3 y4; obtain ⟨x0, x1, x2, x3, x4, y0, y1, y2, y3, y4⟩ := hS5; clear hb5)
        | (go_at_call 50; refine (OR.out _ _ _).mono ?_; rintro e w6 ⟨rfl, rfl⟩))
      go_ret
      exact ⟨by rw [CT.out]; rfl, HW5.out⟩
    · rw [show rkR 6 = 5 from rfl] at RK1 ⊢
      have CT : Hid (cmpT (.mk 6 n f s a c ks) (.mk k' n' f' s' a' c' ks') = cmpI n n') := hidb (by simp only [cmpT, HRR.out]; simp)
      go_wp2_with (first
        | (go_at_call 51; refine (RK1.out _).mono ?_; rintro e w5 ⟨rfl, hb5⟩; have HV5 := hidb (HV3.out.trans (hb5.mono HV3.out.size)); have hS5 := HSA.out w5 HV5.out; have HW5 := hidb (HB2.out.trans (HV5.out.mono HB2.out.size)); clear x0 x1 x2 x3 x4 y0 y1 y2 y3 y4; obtain ⟨x0, x1, x2, x3, x4, y0, y1, y2, y3, y4⟩ := hS5; clear hb5)
        | (go_at_call 50; refine (OR.out _ _ _).mono ?_; rintro e w6 ⟨rfl, rfl⟩))
      go_ret
      exact ⟨by rw [CT.out]; rfl, HW5.out⟩
    · rw [show rkR 5 = 4 from rfl] at RK1 ⊢
      have CT : Hid (cmpT (.mk 5 n f s a c ks) (.mk k' n' f' s' a' c' ks') = if cmpI n n' ≠ 0 then cmpI n n' else cmpA ks ks') := hidb (by simp only [cmpT, HRR.out]; simp)
      by_cases hN : cmpI n n' = 0
      · have hNb : (cmpI n n' != 0) = false := by simp [hN]
        have HN := hidb hN
        obtain ⟨Z, hZ⟩ : ∃ Z, cmpI n n' = Z := ⟨_, rfl⟩
        have hZ0 : (Z != 0) = false := by rw [← hZ]; exact hNb
        have OR2 := hidb (fun W => OR.out n n' W)
        rw [hZ] at OR2
        clear hN hNb hZ
        go_wp2_with (first
          | (go_at_call 51; refine (RK1.out _).mono ?_; rintro e w5 ⟨rfl, hb5⟩; have HV5 := hidb (HV3.out.trans (hb5.mono HV3.out.size)); have hS5 := HSA.out w5 HV5.out; have HW5 := hidb (HB2.out.trans (HV5.out.mono HB2.out.size)); clear x0 x1 x2 x3 x4 y0 y1 y2 y3 y4; obtain ⟨x0, x1, x2, x3, x4, y0, y1, y2, y3, y4⟩ := hS5; clear hb5)
          | (go_at_call 50; refine (OR2.out _).mono ?_; rintro e w6 ⟨rfl, rfl⟩)
          | (go_at_call 53; refine (EL.out _ HW5.out).mono ?_; rintro e w6 ⟨rfl, hb6⟩; have HW6 := hidb (HW5.out.trans (hb6.mono HW5.out.size)); clear hb6))
        go_ret
        exact ⟨by rw [CT.out, if_neg (by simp [HN.out])]; rfl, HW6.out⟩
      · have hNb : (cmpI n n' != 0) = true := by simp [hN]
        have HN := hidb hN
        obtain ⟨Z, hZ⟩ : ∃ Z, cmpI n n' = Z := ⟨_, rfl⟩
        have hZ0 : (Z != 0) = true := by rw [← hZ]; exact hNb
        have OR2 := hidb (fun W => OR.out n n' W)
        rw [hZ] at OR2
        have HZ := hidb hZ
        clear hN hNb hZ
        go_wp2_with (first
          | (go_at_call 51; refine (RK1.out _).mono ?_; rintro e w5 ⟨rfl, hb5⟩; have HV5 := hidb (HV3.out.trans (hb5.mono HV3.out.size)); have hS5 := HSA.out w5 HV5.out; have HW5 := hidb (HB2.out.trans (HV5.out.mono HB2.out.size)); clear x0 x1 x2 x3 x4 y0 y1 y2 y3 y4; obtain ⟨x0, x1, x2, x3, x4, y0, y1, y2, y3, y4⟩ := hS5; clear hb5)
          | (go_at_call 50; refine (OR2.out _).mono ?_; rintro e w6 ⟨rfl, rfl⟩))
        go_ret
        exact ⟨by rw [CT.out, if_pos HN.out, HZ.out]; rfl, HW5.out⟩
    · rw [show rkR 7 = 6 from rfl] at RK1 ⊢
      have CT : Hid (cmpT (.mk 7 n f s a c ks) (.mk k' n' f' s' a' c' ks') = if cmpI (ks.length : Int) (ks'.length : Int) ≠ 0 then cmpI (ks.length : Int) (ks'.length : Int) else cmpA ks ks') := hidb (by simp only [cmpT, HRR.out]; simp)
      by_cases hN : cmpI (ks.length : Int) (ks'.length : Int) = 0
      · have hNb : (cmpI (ks.length : Int) (ks'.length : Int) != 0) = false := by simp [hN]
        have HN := hidb hN
        obtain ⟨Z, hZ⟩ : ∃ Z, cmpI (ks.length : Int) (ks'.length : Int) = Z := ⟨_, rfl⟩
        have hZ0 : (Z != 0) = false := by rw [← hZ]; exact hNb
        have OR2 := hidb (fun W => OR.out (ks.length : Int) (ks'.length : Int) W)
        rw [hZ] at OR2
        clear hN hNb hZ
        go_wp2_with (first
          | (go_at_call 51; refine (RK1.out _).mono ?_; rintro e w5 ⟨rfl, hb5⟩; have HV5 := hidb (HV3.out.trans (hb5.mono HV3.out.size)); have hS5 := HSA.out w5 HV5.out; have HW5 := hidb (HB2.out.trans (HV5.out.mono HB2.out.size)); clear x0 x1 x2 x3 x4 y0 y1 y2 y3 y4; obtain ⟨x0, x1, x2, x3, x4, y0, y1, y2, y3, y4⟩ := hS5; clear hb5)
          | (go_at_call 50; refine (OR2.out _).mono ?_; rintro e w6 ⟨rfl, rfl⟩)
          | (go_at_call 53; refine (EL.out _ HW5.out).mono ?_; rintro e w6 ⟨rfl, hb6⟩; have HW6 := hidb (HW5.out.trans (hb6.mono HW5.out.size)); clear hb6))
        go_ret
        exact ⟨by rw [CT.out, if_neg (by simp [HN.out])]; rfl, HW6.out⟩
      · have hNb : (cmpI (ks.length : Int) (ks'.length : Int) != 0) = true := by simp [hN]
        have HN := hidb hN
        obtain ⟨Z, hZ⟩ : ∃ Z, cmpI (ks.length : Int) (ks'.length : Int) = Z := ⟨_, rfl⟩
        have hZ0 : (Z != 0) = true := by rw [← hZ]; exact hNb
        have OR2 := hidb (fun W => OR.out (ks.length : Int) (ks'.length : Int) W)
        rw [hZ] at OR2
        have HZ := hidb hZ
        clear hN hNb hZ
        go_wp2_with (first
          | (go_at_call 51; refine (RK1.out _).mono ?_; rintro e w5 ⟨rfl, hb5⟩; have HV5 := hidb (HV3.out.trans (hb5.mono HV3.out.size)); have hS5 := HSA.out w5 HV5.out; have HW5 := hidb (HB2.out.trans (HV5.out.mono HB2.out.size)); clear x0 x1 x2 x3 x4 y0 y1 y2 y3 y4; obtain ⟨x0, x1, x2, x3, x4, y0, y1, y2, y3, y4⟩ := hS5; clear hb5)
          | (go_at_call 50; refine (OR2.out _).mono ?_; rintro e w6 ⟨rfl, rfl⟩))
        go_ret
        exact ⟨by rw [CT.out, if_pos HN.out, HZ.out]; rfl, HW5.out⟩
    · rw [show rkR 8 = 7 from rfl] at RK1 ⊢
      have CT : Hid (cmpT (.mk 8 n f s a c ks) (.mk k' n' f' s' a' c' ks') = cmpA ks ks') := hidb (by simp only [cmpT, HRR.out]; simp)
      go_wp2_with (first
        | (go_at_call 51; refine (RK1.out _).mono ?_; rintro e w5 ⟨rfl, hb5⟩; have HV5 := hidb (HV3.out.trans (hb5.mono HV3.out.size)); have hS5 := HSA.out w5 HV5.out; have HW5 := hidb (HB2.out.trans (HV5.out.mono HB2.out.size)); clear x0 x1 x2 x3 x4 y0 y1 y2 y3 y4; obtain ⟨x0, x1, x2, x3, x4, y0, y1, y2, y3, y4⟩ := hS5; clear hb5)
        | (go_at_call 53; refine (EL.out _ HW5.out).mono ?_; rintro e w6 ⟨rfl, hb6⟩; have HW6 := hidb (HW5.out.trans (hb6.mono HW5.out.size)); clear hb6))
      go_ret
      exact ⟨by rw [CT.out]; rfl, HW6.out⟩
  · have hRb : (cmpI (rk k) (rk k') != 0) = true := by simp [hR]
    have HRR := hidb hR
    clear hR
    go_wp2_with fail
    go_ret
    exact ⟨by simp only [cmpT]; rw [if_pos HRR.out]; rfl, HW4.out⟩
end Go.Proofs.YtgljglindgbjaaaGreatDoor


/- Contracts of the document's Neg, Abs, Real on any term. -/
namespace Go.Proofs.YtgljglindgbjaaaGreatDoor
open Go.RowKit
attribute [local go_sem] store_float
attribute [local go_sem ↓] Go.wp_at_zero Go.wp_at_succ

theorem afterAB {w w1 : World} {t1 t2 : TypeId} {a0 a1 a2 a3 a4 b0 b1 b2 b3 b4 : Value}
    (hb : Below ((w.alloc (.cells #[a0, a1, a2, a3, a4] t1)).alloc (.cells #[b0, b1, b2, b3, b4] t2)).heap.size ((w.alloc (.cells #[a0, a1, a2, a3, a4] t1)).alloc (.cells #[b0, b1, b2, b3, b4] t2)) w1) :
    Box w1 w.heap.size a0 a1 a2 a3 a4 ∧ Box w1 (w.heap.size + 1) b0 b1 b2 b3 b4 ∧ Below w.heap.size w w1 := by
  have e1 : (w.alloc (.cells #[a0, a1, a2, a3, a4] t1)).heap.size = w.heap.size + 1 := by simp
  refine ⟨((Box.new w t1 a0 a1 a2 a3 a4).alloc _).keep hb, ?_, ((below_new w _).alloc (by simp) _).trans (hb.mono (by simp; omega))⟩
  rw [← e1]; exact (Box.new _ _ _ _ _ _ _).keep hb

theorem refTurned_any (u v : Nat) (hv : u ^^^ 9223372036854775808 = v) (hu : u < 18446744073709551616) (w : World) : Calls Tryz.prog 45 #[.float .f64 u] w fun e w' => e = .returned (.float .f64 v) ∧ w' = w := by
  have hb := f64bits
  have hf := f64frombits
  have hx : bits .xor .u64 (u : Int) 9223372036854775808 = (v : Int) := by rw [← hv]; exact xor_top u hu
  clear hv hu
  go_enter Tryz.func45, Tryz.ntmps45
  go_wp2
  go_ret
  exact ⟨rfl, rfl⟩

set_option maxHeartbeats 1000000 in
theorem rneg_no (k n : Int) (f : Nat) (s : ByteArray) (a : Option Addr) (l c : Nat) (h : rightB k n f s l = false) (w : World) :
    Calls Tryz.prog 16 #[.agg #[.int .i64 k, .int .i64 n, .float .f64 f, .string s, .slice a l c]] w fun e w' =>
      e = .returned (.tuple #[.agg #[.int .i64 0, .int .i64 0, .float .f64 0, .string ⟨#[]⟩, .slice none 0 0], .int .i64 11]) ∧ Below w.heap.size w w' := by
  have HR := hid h
  clear h
  go_enter Tryz.func16, Tryz.ntmps16
  go_wp2_with fail
  refine (refRight_any k n f s a l c _).mono ?_
  rintro e w1 ⟨rfl, hb1⟩
  rw [HR.out]
  obtain ⟨BA, RB, hW⟩ := afterAB hb1
  have HRB := hid RB
  obtain ⟨A0, A1, A2, A3, A4, _, _, _, _, _, Al⟩ := BA
  clear hb1 RB
  obtain ⟨d0, d1, d2, d3, d4, g0, g1, g2, g3, g4, ltr⟩ := HRB.out
  go_wp2
  exact bodyPost_ret (v := .tuple #[.agg #[.int .i64 (0), .int .i64 (0), .float .f64 (0), .string ⟨#[]⟩, .slice none 0 0], .int .i64 11]) (by simp [results, Tryz.results16, go_sem, d0, d1, d2, d3, d4]) rfl ⟨rfl, below_set5 hW (by omega) _ _ _ _ _⟩

set_option maxHeartbeats 1000000 in
theorem rneg_1 (n : Int) (f : Nat) (s : ByteArray) (a : Option Addr) (l c : Nat) (h : rightB 1 n f s l = true) (b1 : -576460752303423488 ≤ n) (b2 : n ≤ 576460752303423487) (w : World) :
    Calls Tryz.prog 16 #[.agg #[.int .i64 1, .int .i64 n, .float .f64 f, .string s, .slice a l c]] w fun e w' =>
      e = .returned (.tuple #[.agg #[.int .i64 (numInt (-n)).k, .int .i64 (numInt (-n)).n, .float .f64 (numInt (-n)).f, .string ⟨#[]⟩, .slice none 0 0], .int .i64 (numInt (-n)).e]) ∧ Below w.heap.size w w' := by
  have z0 : 0 - n = -n := by omega
  have HR := hid h
  clear h
  go_enter Tryz.func16, Tryz.ntmps16
  go_wp2_with fail
  refine (refRight_any 1 n f s a l c _).mono ?_
  rintro e w1 ⟨rfl, hb1⟩
  rw [HR.out]
  obtain ⟨BA, RB, hW⟩ := afterAB hb1
  have HRB := hid RB
  obtain ⟨A0, A1, A2, A3, A4, _, _, _, _, _, Al⟩ := BA
  clear hb1 RB
  go_wp2_with fail
  refine (refInt_any _ _).mono ?_
  rintro e w2 ⟨rfl, hb2⟩
  clear A0 A1 A2 A3 A4 Al
  have RB2 := HRB.out.keep hb2
  have hW2 := bthen hW hb2
  obtain ⟨d0, d1, d2, d3, d4, g0, g1, g2, g3, g4, ltr⟩ := RB2
  clear hb2 HRB
  go_wp2
  exact bodyPost_ret (v := .tuple #[.agg #[.int .i64 ((numInt (-n)).k), .int .i64 ((numInt (-n)).n), .float .f64 ((numInt (-n)).f), .string ⟨#[]⟩, .slice none 0 0], .int .i64 (numInt (-n)).e]) (by simp [results, Tryz.results16, go_sem, d0, d1, d2, d3, d4]) rfl ⟨rfl, below_set5 hW2 (by omega) _ _ _ _ _⟩

set_option maxHeartbeats 1000000 in
theorem rneg_2 (n : Int) (f : Nat) (s : ByteArray) (a : Option Addr) (l c : Nat) (h : rightB 2 n f s l = true) (v : Nat) (hv : f ^^^ 9223372036854775808 = v) (hu : f < 18446744073709551616) (w : World) :
    Calls Tryz.prog 16 #[.agg #[.int .i64 2, .int .i64 n, .float .f64 f, .string s, .slice a l c]] w fun e w' =>
      e = .returned (.tuple #[.agg #[.int .i64 2, .int .i64 0, .float .f64 v, .string ⟨#[]⟩, .slice none 0 0], .int .i64 0]) ∧ Below w.heap.size w w' := by
  have HR := hid h
  clear h
  go_enter Tryz.func16, Tryz.ntmps16
  go_wp2_with fail
  refine (refRight_any 2 n f s a l c _).mono ?_
  rintro e w1 ⟨rfl, hb1⟩
  rw [HR.out]
  obtain ⟨BA, RB, hW⟩ := afterAB hb1
  have HRB := hid RB
  obtain ⟨A0, A1, A2, A3, A4, _, _, _, _, _, Al⟩ := BA
  clear hb1 RB
  go_wp2_with fail
  refine (refTurned_any f v hv hu _).mono ?_
  rintro e w' ⟨rfl, rfl⟩
  go_wp2_with fail
  refine (refF_any v _).mono ?_
  rintro e w2 ⟨rfl, hb2⟩
  clear A0 A1 A2 A3 A4 Al
  have RB2 := HRB.out.keep hb2
  have hW2 := bthen hW hb2
  obtain ⟨d0, d1, d2, d3, d4, g0, g1, g2, g3, g4, ltr⟩ := RB2
  clear hb2 HRB
  go_wp2
  exact bodyPost_ret (v := .tuple #[.agg #[.int .i64 (2), .int .i64 (0), .float .f64 (v), .string ⟨#[]⟩, .slice none 0 0], .int .i64 0]) (by simp [results, Tryz.results16, go_sem, d0, d1, d2, d3, d4]) rfl ⟨rfl, below_set5 hW2 (by omega) _ _ _ _ _⟩

theorem rreal1 (n : Int) (f : Nat) (s : ByteArray) (a : Option Addr) (l c : Nat) (b1 : -9223372036854775808 ≤ n) (b2 : n ≤ 9223372036854775807) (w : World) : Calls Tryz.prog 48 #[.agg #[.int .i64 1, .int .i64 n, .float .f64 f, .string s, .slice a l c]] w fun e w' => e = .returned (.float .f64 (floatOfInt .f64 n)) ∧ Below w.heap.size w w' := by
  go_enter Tryz.func48, Tryz.ntmps48
  go_wp2_with fail
  refine (refNear_any n b1 b2 _).mono ?_
  rintro e w' ⟨rfl, rfl⟩
  go_wp2
  go_ret
  exact ⟨rfl, below_new _ _⟩

theorem rreal2 (n : Int) (f : Nat) (s : ByteArray) (a : Option Addr) (l c : Nat) (w : World) : Calls Tryz.prog 48 #[.agg #[.int .i64 2, .int .i64 n, .float .f64 f, .string s, .slice a l c]] w fun e w' => e = .returned (.float .f64 f) ∧ Below w.heap.size w w' := by
  go_enter Tryz.func48, Tryz.ntmps48
  go_wp2
  go_ret
  exact ⟨rfl, below_new _ _⟩

end Go.Proofs.YtgljglindgbjaaaGreatDoor


