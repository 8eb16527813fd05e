import Derived.Test.YtpcpdehnppfbfaaGreatG20
import Derived.Test.YtpcpdehnppfbfaaGreatG35
import Derived.Test.YtpcpdehnppfbfaaGreatG19
/- Put of any signal. -/
namespace Go.Proofs.YtpcpdehnppfbfaaGreat
open Go.RowKit Go.Lib Go.Maps
attribute [local go_sem] store_float f64bits
attribute [local go_sem ↓] Go.wp_at_zero Go.wp_at_succ

variable {w0 w : World} {eb all N : Nat} {mv : Value} {f : Int → Int → Option Lane}

theorem put_bad {x0 x1 x2 x3 x4 : Int} {lk : Bool} {nm : ByteArray} {tk tn : Int} {tf : Nat} {ts : ByteArray} {ta : Option Addr} {L tc : Nat} (h : EO w0 w eb mv f all N) (er : Int) (hz : (er == 0) = false) (CK0 : ∀ W, Below w.heap.size w W → Calls Tryz.prog 18 #[.agg #[.int .i64 x0, .int .i64 x1, .int .i64 x2, .int .i64 x3, .int .i64 x4, .bool lk, .string nm, .int .i64 tk, .int .i64 tn, .float .f64 tf, .string ts, .slice ta L tc]] W fun e w' => e = .returned (.int .i64 er) ∧ Below W.heap.size W w') :
    Calls Tryz.prog 8 #[.pointer (some ⟨eb, 0, none⟩), .agg #[.int .i64 x0, .int .i64 x1, .int .i64 x2, .int .i64 x3, .int .i64 x4, .bool lk, .string nm, .int .i64 tk, .int .i64 tn, .float .f64 tf, .string ts, .slice ta L tc]] w fun e w' => e = .returned (.int .i64 er) ∧ EO w0 w' eb mv f all N ∧ Below w.heap.size w w' := by
  have CK := hidb CK0
  have HE := hidb h
  clear h CK0
  go_enter Tryz.func8, Tryz.ntmps8
  go_wp2_with (go_at_call 18; refine (CK.out _ (below_new w _)).mono ?_; rintro e w1 ⟨rfl, hb1⟩; have HE1 := hidb ((HE.out.keep (below_new w _)).keep hb1); have HBB := hidb ((below_new w _).trans (hb1.mono (by simp))); clear hb1)
  go_ret
  exact ⟨rfl, HE1.out, HBB.out⟩
theorem put_any {x0 x1 x2 x3 x4 : Int} {lk : Bool} {nm : ByteArray} {tk tn : Int} {tf : Nat} {ts : ByteArray} {ta : Option Addr} {tc : Nat} {tks : List Tr} (hi : wfi x0) (hj : wfi x1) (h : EO w0 w eb mv f all N) (hN : N ≤ 100000) (hA : all ≤ 100000)
    (hin : (Tr.mk tk tn tf ts ta tc tks).In w 0) (hsm : Small (.mk tk tn tf ts ta tc tks)) (hcn : cnT (.mk tk tn tf ts ta tc tks) ≤ 1000000000) (hfar : (Tr.mk tk tn tf ts ta tc tks).On (fun q => q ≠ eb ∧ mv ≠ .map (some q))) :
    Calls Tryz.prog 8 #[.pointer (some ⟨eb, 0, none⟩), .agg #[.int .i64 x0, .int .i64 x1, .int .i64 x2, .int .i64 x3, .int .i64 x4, .bool lk, .string nm, .int .i64 tk, .int .i64 tn, .float .f64 tf, .string ts, .slice ta tks.length tc]] w fun e w' => e = .returned (.int .i64 (Xk.errS x0 x1 x2 x3 x4 lk nm (.mk tk tn tf ts ta tc tks))) ∧
      (Xk.errS x0 x1 x2 x3 x4 lk nm (.mk tk tn tf ts ta tc tks) ≠ 0 → EO w0 w' eb mv f all N ∧ Below w.heap.size w w') ∧
      (Xk.errS x0 x1 x2 x3 x4 lk nm (.mk tk tn tf ts ta tc tks) = 0 → ∃ mv' l t', EO w0 w' eb mv' (updL f x0 x1 (some l)) (all + 1) (N + 2) ∧ l.xs = oldx f x0 x1 ++ sgc x0 x1 x2 x3 x4 lk nm t' ∧ l.k = oldk f x0 x1 + 1 ∧ But (putS mv f eb x0 x1) w w' ∧ (∀ k, mv' = .map (some k) → mv = .map (some k) ∨ w.heap.size ≤ k) ∧ (∀ q, foot l q → (∃ l0, f x0 x1 = some l0 ∧ foot l0 q) ∨ w.heap.size ≤ q)
        ∧ Sm (.mk tk tn tf ts ta tc tks) t' ∧ t'.In w' 0 ∧ t'.On (fun q => w.heap.size ≤ q ∧ ¬ foot l q ∧ q ≠ eb ∧ mv' ≠ .map (some q))) := by
  have CK : ∀ W, Below w.heap.size w W → Calls Tryz.prog 18 #[.agg #[.int .i64 x0, .int .i64 x1, .int .i64 x2, .int .i64 x3, .int .i64 x4, .bool lk, .string nm, .int .i64 tk, .int .i64 tn, .float .f64 tf, .string ts, .slice ta tks.length tc]] W fun e w' => e = .returned (.int .i64 (Xk.errS x0 x1 x2 x3 x4 lk nm (.mk tk tn tf ts ta tc tks))) ∧ Below W.heap.size W w' := fun W hb => Xk.check_any x0 x1 x2 x3 x4 lk nm (.mk tk tn tf ts ta tc tks) W (in_below hb hin) hsm
  by_cases h0 : Xk.errS x0 x1 x2 x3 x4 lk nm (.mk tk tn tf ts ta tc tks) = 0
  · rw [h0] at CK ⊢
    exact (put_sig hi hj h hN hA hin hsm hcn hfar CK).mono fun e w' ⟨h1, h2⟩ => ⟨h1, fun h9 => absurd rfl h9, fun _ => h2⟩
  · obtain ⟨er, her⟩ : ∃ er, Xk.errS x0 x1 x2 x3 x4 lk nm (.mk tk tn tf ts ta tc tks) = er := ⟨_, rfl⟩
    rw [her] at CK h0 ⊢
    exact (put_bad h er (by simpa using h0) CK).mono fun e w' ⟨h1, h2⟩ => ⟨h1, fun _ => h2, fun h9 => absurd h9 h0⟩
end Go.Proofs.YtpcpdehnppfbfaaGreat


/- What Check tells is the same of signals that are the same but for memory. -/
namespace Go.Proofs.YtpcpdehnppfbfaaGreat
open Go.RowKit

theorem sm_symm : ∀ t t' : Tr, Sm t t' → Sm t' t := by
  refine Tr.ind fun k n f s a c kids hk => ?_
  rintro ⟨k', n', f', s', a', c', kids'⟩ h
  unfold Sm at h ⊢
  obtain ⟨rfl, rfl, rfl, rfl, h⟩ := h
  refine ⟨rfl, rfl, rfl, rfl, ?_⟩
  have hall : ∀ (l l' : List Tr), (∀ t, t ∈ l → t ∈ kids) → SmA l l' → SmA l' l := by
    intro l
    induction l with
    | nil =>
      intro l' _ h
      cases l' with
      | nil => exact h
      | cons => unfold SmA at h; exact h.elim
    | cons t r ih =>
      intro l' hm h
      cases l' with
      | nil => unfold SmA at h; exact h.elim
      | cons t' r' =>
        unfold SmA at h ⊢
        exact ⟨hk t (hm t (by simp)) t' h.1, ih r' (fun u hu => hm u (by simp [hu])) h.2⟩
  exact hall kids kids' (fun t h => h) h

theorem meas_sm : ∀ t u : Tr, Sm t u → ∀ d m, meas u d m = meas t d m := by
  refine Tr.ind fun k n f s a c kids hk u hs => ?_
  obtain ⟨k', n', f', s', a', c', kids'⟩ := u
  unfold Sm at hs
  obtain ⟨rfl, rfl, rfl, rfl, hsa⟩ := hs
  have hl := smA_len hsa
  have hall : ∀ (l l' : List Tr), (∀ t, t ∈ l → t ∈ kids) → SmA l l' → ∀ d m n, measAll l' d m n = measAll l d m n := by
    intro l
    induction l with
    | nil => intro l' _ h d m n; cases l' with
      | nil => rfl
      | cons _ _ => unfold SmA at h; exact h.elim
    | cons t r ih => intro l' hm h d m n; cases l' with
      | nil => unfold SmA at h; exact h.elim
      | cons t' r' =>
        unfold SmA at h
        simp only [measAll]
        rw [hk t (hm t (List.mem_cons_self ..)) t' h.1]
        split
        · rfl
        · exact ih r' (fun u hu => hm u (List.mem_cons_of_mem _ hu)) h.2 _ _ _
  intro d m
  simp only [meas]
  rw [show kids'.length = kids.length by omega]
  split
  · rfl
  · exact hall kids kids' (fun _ h => h) hsa _ _ _
theorem good_sm : ∀ t u : Tr, Sm t u → allT goodT u = allT goodT t := by
  refine Tr.ind fun k n f s a c kids hk u hs => ?_
  obtain ⟨k', n', f', s', a', c', kids'⟩ := u
  unfold Sm at hs
  obtain ⟨rfl, rfl, rfl, rfl, hsa⟩ := hs
  have hl := smA_len hsa
  have hall : ∀ (l l' : List Tr), (∀ t, t ∈ l → t ∈ kids) → SmA l l' → allAll goodT l' = allAll goodT l := by
    intro l
    induction l with
    | nil => intro l' _ h; cases l' with
      | nil => rfl
      | cons _ _ => unfold SmA at h; exact h.elim
    | cons t r ih => intro l' hm h; cases l' with
      | nil => unfold SmA at h; exact h.elim
      | cons t' r' =>
        unfold SmA at h
        simp only [allAll]
        rw [hk t (hm t (List.mem_cons_self ..)) t' h.1, ih r' (fun u hu => hm u (List.mem_cons_of_mem _ hu)) h.2]
  simp only [allT, goodT]
  rw [show kids'.length = kids.length by omega, hall kids kids' (fun _ h => h) hsa]
theorem err_sm {t u : Tr} (h : Sm t u) : errT u = errT t := by
  unfold errT
  rw [meas_sm t u h, good_sm t u h]
theorem isZ_sm {t u : Tr} (h : Sm t u) : Xk.isZ u = Xk.isZ t := by
  obtain ⟨k, n, f, s, a, c, ks⟩ := t
  obtain ⟨k', n', f', s', a', c', ks'⟩ := u
  unfold Sm at h
  obtain ⟨rfl, rfl, rfl, rfl, h⟩ := h
  have := smA_len h
  simp only [Xk.isZ, this]
theorem errS_sm {t u : Tr} (h : Sm t u) (x0 x1 k x3 x4 : Int) (lk : Bool) (nm : ByteArray) : Xk.errS x0 x1 k x3 x4 lk nm u = Xk.errS x0 x1 k x3 x4 lk nm t := by
  unfold Xk.errS Xk.fitT
  rw [err_sm h, isZ_sm h]
end Go.Proofs.YtpcpdehnppfbfaaGreat


