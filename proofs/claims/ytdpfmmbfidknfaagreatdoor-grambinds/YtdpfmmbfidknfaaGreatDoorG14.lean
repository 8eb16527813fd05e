import Derived.Test.YtdpfmmbfidknfaaGreatDoorG13
/- Operators in a row: every level reads what it binds. -/
namespace Go.Proofs.YtdpfmmbfidknfaaGreatDoor
namespace Gm

theorem signs_no {s : PS} (h1 : isM (hd s) ⟨#[45]⟩ = false) (h2 : isM (hd s) ⟨#[110, 111, 116]⟩ = false) (k : Nat) (l : List Tk) : signs k l s = .ok (l, s) := by
  cases k with
  | zero => rfl
  | succ k =>
    simp only [signs]
    rw [here_b, if_neg (by rw [h1, h2]; simp)]
    rfl
theorem applied_no {E : PM Nat} {s : PS} (h : isM (hd s) ⟨#[40]⟩ = false) (p k x : Nat) : applied E p k x s = .ok (x, s) := by
  cases k with
  | zero => rfl
  | succ k =>
    simp only [applied]
    rw [here_b, if_neg (by rw [h]; simp)]
    rfl
theorem unary_of {E : PM Nat} {e : Ex} {t : Tk} {rest : List Tk} {ns ns' : List Nd} {o x : Nat} (h : called E ⟨e.toks ++ t :: rest, ns, o⟩ = .ok (x, ⟨t :: rest, ns', o⟩)) (ht : isM t ⟨#[40]⟩ = false) : unary E ⟨e.toks ++ t :: rest, ns, o⟩ = .ok (x, ⟨t :: rest, ns', o⟩) := by
  obtain ⟨h0, h1, h2⟩ := first_no (e := e) (r := t :: rest) (ns := ns) (o := o)
  unfold unary
  rw [left_b, run_b (signs_no h1 h2 _ _)]
  have hc : call E ⟨e.toks ++ t :: rest, ns, o⟩ = .ok (x, ⟨t :: rest, ns', o⟩) := by
    unfold call
    rw [here_b, run_b h, left_b]
    exact applied_no (s := ⟨t :: rest, ns', o⟩) ht _ _ _
  rw [run_b hc]
  rfl
theorem run7_d (E : PM Nat) (o n : Nat) : Run (unary E) o (.d n) (NoOp 7) := by
  intro t rest ns ht hb
  refine unary_of (e := .d n) ?_ ht.b
  have e1 : (Ex.d n).toks ++ t :: rest = dT n :: t :: rest := rfl
  rw [e1]
  unfold called
  have h1 : hd ⟨dT n :: t :: rest, ns, o⟩ = dT n := rfl
  rw [here_b, ahead_b, h1, if_neg (by simp [dT])]
  unfold primary
  rw [here_b, h1, if_pos (by simp [dT])]
  unfold leaf
  rw [next_b, h1]
  have h2 : cut ⟨dT n :: t :: rest, ns, o⟩ = ⟨t :: rest, ns, o⟩ := rfl
  rw [h2, lay_ok _ _ _ _ (by simpa [Ex.sz] using hb)]
  rfl
theorem run7_br {f o : Nat} {e : Ex} (ho : o ≠ 200) (h : Run (opened (expr f)) (o + 1) e (NoOp 0)) : Run (unary (expr (f + 1))) o (.br e) (NoOp 7) := by
  intro t rest ns ht hb
  refine unary_of (e := .br e) ?_ ht.b
  have e1 : (Ex.br e).toks ++ t :: rest = lT :: (e.toks ++ rT :: (t :: rest)) := by simp only [Ex.toks, List.cons_append, List.append_assoc, List.nil_append]
  rw [e1]
  unfold called
  have h1 : hd ⟨lT :: (e.toks ++ rT :: (t :: rest)), ns, o⟩ = lT := rfl
  rw [here_b, ahead_b, h1, if_neg (by simp [lT])]
  unfold primary
  rw [here_b, h1, if_neg (by simp [lT]), if_pos (by simp [lT])]
  unfold bracketed
  rw [here_b, h1, if_pos (by rfl), next_b]
  have h2 : cut ⟨lT :: (e.toks ++ rT :: (t :: rest)), ns, o⟩ = ⟨e.toks ++ rT :: (t :: rest), ns, o⟩ := rfl
  have h3 : expr (f + 1) ⟨e.toks ++ rT :: (t :: rest), ns, o⟩ = .ok (ns.length + e.sz - 1, ⟨rT :: (t :: rest), ns ++ e.emit ns.length, o⟩) := by
    simp only [expr]
    rw [if_neg ho, h rT (t :: rest) ns (noOp_r 0) hb]
    rfl
  rw [h2, run_b h3, need_b (s := ⟨rT :: (t :: rest), _, _⟩) (by rfl)]
  rfl

theorem up {E : PM Nat} {o : Nat} {e : Ex} (v : Nat) (hv : v < 7) (h : Run (lv E (v + 1)) o e (NoOp (v + 1))) : Run (lv E v) o e (NoOp v) := by
  have hp : 0 < e.toks.length := by obtain ⟨t, l, h, _⟩ := e.toks_hd; rw [h]; simp
  have : v = 0 ∨ v = 1 ∨ v = 2 ∨ v = 3 ∨ v = 4 ∨ v = 5 ∨ v = 6 := by omega
  rcases this with rfl | rfl | rfl | rfl | rfl | rfl | rfl
  · intro t rest ns ht hb
    have h' : Run (orelse E) o e (NoOp 1) := h
    show opened E _ = _
    unfold opened
    rw [here_b, take_no first_no.1, if_neg (by simp), run_b (h' t rest ns (ht.weak (by omega)) hb), take_no (s := ⟨t :: rest, _, _⟩) (ht.e rfl).1, if_neg (by simp), take_no (s := ⟨t :: rest, _, _⟩) (ht.e rfl).2, if_neg (by simp)]
    rfl
  · exact run_right fun k hk => right_one (m := andalso E) h (fun t ht => ⟨ht.weak (by omega), ht.r (by omega)⟩) k (by omega)
  · exact run_right fun k hk => right_one (m := compare E) h (fun t ht => ⟨ht.weak (by omega), ht.n (by omega)⟩) k (by omega)
  · intro t rest ns ht hb
    have h' : Run (appends E) o e (NoOp 4) := h
    show compare E _ = _
    unfold compare
    have h1 : hd ⟨t :: rest, ns ++ e.emit ns.length, o⟩ = t := rfl
    rw [here_b, run_b (h' t rest ns (ht.weak (by omega)) hb), here_b, h1, if_neg (by rw [ht.q (by omega)]; simp)]
    rfl
  · exact run_right fun k hk => right_one (m := add E) h (fun t ht => ⟨ht.weak (by omega), ht.c (by omega)⟩) k (by omega)
  · exact run_lp (m := mul E) (lp_run h) (fun t ht => ⟨ht.weak (by omega), ht.a (by omega)⟩)
  · exact run_lp (m := unary E) (lp_run h) (fun t ht => ⟨ht.weak (by omega), ht.m (by omega)⟩)
theorem down {E : PM Nat} {o : Nat} {e : Ex} {w : Nat} (hw : w ≤ 7) (h : Run (lv E w) o e (NoOp w)) : ∀ k v, v + k = w → Run (lv E v) o e (NoOp v)
  | 0, v, hk => by obtain rfl : v = w := by omega
                   exact h
  | k + 1, v, hk => up v (by omega) (down hw h k (v + 1) (by omega))

theorem cmp_two {E : PM Nat} {o s : Nat} {l r : Ex} (hs : s < 12) (h3 : lev s = 3) (hl : Run (appends E) o l (NoOp 4)) (hr : Run (appends E) o r (NoOp 4)) : Run (compare E) o (.o s l r) (NoOp 3) := by
  intro t rest ns ht hb
  have hz := l.sz_pos
  have hzr := r.sz_pos
  have hl2 : ns.length + l.sz ≤ 16384 := by simp only [Ex.sz] at hb; omega
  have e1 : (Ex.o s l r).toks ++ t :: rest = l.toks ++ opT s :: (r.toks ++ t :: rest) := by simp only [Ex.toks, List.append_assoc, List.cons_append]
  have h1 : hd ⟨opT s :: (r.toks ++ t :: rest), ns ++ l.emit ns.length, o⟩ = opT s := rfl
  have h2 : cut ⟨opT s :: (r.toks ++ t :: rest), ns ++ l.emit ns.length, o⟩ = ⟨r.toks ++ t :: rest, ns ++ l.emit ns.length, o⟩ := rfl
  unfold compare
  rw [here_b, e1, first_p, run_b (hl (opT s) (r.toks ++ t :: rest) ns (noOp_op s hs 4 (by omega)) hl2), here_b, h1, if_pos (op_cmp s hs h3), next_b, h2,
    run_b (hr t rest (ns ++ l.emit ns.length) (ht.weak (by omega)) (by simp only [Ex.sz] at hb; rw [List.length_append, Ex.emit_len]; omega))]
  unfold op
  rw [lay_ok _ _ _ _ (by simp only [Ex.sz] at hb; simp only [List.length_append, Ex.emit_len]; omega)]
  simp only [List.length_append, Ex.emit_len, Ex.emit, Ex.sz, List.append_assoc, opT]
  rw [show ns.length + (l.sz + r.sz) = ns.length + (l.sz + r.sz + 1) - 1 by omega]

theorem right_top {m : PM Nat} {w : ByteArray} {o v s : Nat} {l r : Ex} (hs : s < 12) (he : lev s = v) (hv : v = 1 ∨ v = 2 ∨ v = 4) (hsg : ∀ s, s < 12 → lev s = v → isM (opT s) w = true ∧ opX s = w) (hk : ∀ t, NoOp v t → isM t w = false) (G : Ex → Prop) (hG : ∀ s l r, G (.o s l r) → G l ∧ G r) (N : Nat) (H : ∀ e : Ex, e.big < N → e.WF → G e → v + 1 ≤ e.lo → Run m o e (NoOp (v + 1)))
    (hN : l.big + r.big < N) (wl : l.WF) (wr : r.WF) (wS : Ex.Side v l.lo r.lo) (gl : G l) (gr : G r) : Run (right m w) o (.o s l r) (NoOp v) := by
  rw [Ex.Side, if_neg (by omega), if_neg (by omega)] at wS
  refine run_right fun k hkk => ?_
  simp only [Ex.toks, List.length_append, List.length_cons] at hkk
  obtain ⟨k, rfl⟩ : ∃ k0, k = k0 + 1 := ⟨k - 1, by omega⟩
  have hops : ∀ s, s < 12 → lev s = v → isM (opT s) w = true ∧ opX s = w ∧ NoOp (v + 1) (opT s) := fun s h1 h2 => ⟨(hsg s h1 h2).1, (hsg s h1 h2).2, noOp_op s h1 _ (by omega)⟩
  obtain ⟨a1, a2, a3⟩ := hops s hs he
  exact right_two a1 a2 a3 (H l (by omega) wl gl (by omega)) k (right_all hops hv (fun t ht => ⟨ht.weak (by omega), hk t ht⟩) G hG N (fun e h1 h2 h3 h4 => H e h1 h2 h3 (by omega)) r k (by omega) wr gr wS.2 (by omega))

/-- Every level reads what binds as tightly. -/
theorem read_all : ∀ (N : Nat) (e : Ex), e.big ≤ N → ∀ f o, e.WF → e.dep ≤ f → o + e.dep ≤ 200 → ∀ v, v ≤ 7 → v ≤ e.lo → Run (lv (expr f) v) o e (NoOp v) := by
  intro N
  induction N with
  | zero => intro e h; exfalso; cases e <;> simp [Ex.big] at h
  | succ N ih =>
    intro e hN f o hw hd ho v hv hlo
    cases e with
    | d n => exact down (Nat.le_refl _) (run7_d (expr f) o n) (7 - v) v (by omega)
    | br e =>
      simp only [Ex.big, Ex.dep] at hN hd ho
      obtain ⟨f, rfl⟩ : ∃ f0, f = f0 + 1 := ⟨f - 1, by omega⟩
      exact down (Nat.le_refl _) (run7_br (by omega) (ih e (by omega) f (o + 1) hw (by omega) (by omega) 0 (by omega) (by omega))) (7 - v) v (by omega)
    | o s l r =>
      obtain ⟨w1, w2, w3, w4⟩ := id hw
      obtain ⟨l1, l6⟩ := lev_in s w1
      simp only [Ex.lo] at hlo
      refine down (w := lev s) (by omega) ?_ (lev s - v) v (by omega)
      have G0 : ∀ (s : Nat) (l r : Ex), ((Ex.o s l r).dep ≤ f ∧ o + (Ex.o s l r).dep ≤ 200) → (l.dep ≤ f ∧ o + l.dep ≤ 200) ∧ (r.dep ≤ f ∧ o + r.dep ≤ 200) := by
        intro s l r ⟨a, b⟩
        simp only [Ex.dep] at a b
        omega
      have H : ∀ w, w ≤ 7 → ∀ e : Ex, e.big < N + 1 → e.WF → (e.dep ≤ f ∧ o + e.dep ≤ 200) → w ≤ e.lo → Run (lv (expr f) w) o e (NoOp w) := fun w hw e h1 h2 h3 h4 => ih e (by omega) f o h2 h3.1 h3.2 w hw h4
      obtain ⟨gl, gr⟩ := G0 s l r ⟨hd, ho⟩
      simp only [Ex.big] at hN
      have : lev s = 1 ∨ lev s = 2 ∨ lev s = 3 ∨ lev s = 4 ∨ lev s = 5 ∨ lev s = 6 := by omega
      rcases this with e | e | e | e | e | e
      · rw [e] at w4 ⊢
        exact right_top w1 e (by omega) (fun s hs hv => by obtain rfl := (op_right s hs).2.2 hv; exact ⟨rfl, rfl⟩) (fun t h => h.r (by omega)) _ G0 (N + 1) (H 2 (by omega)) (by omega) w2 w3 w4 gl gr
      · rw [e] at w4 ⊢
        exact right_top w1 e (by omega) (fun s hs hv => by obtain rfl := (op_right s hs).2.1 hv; exact ⟨rfl, rfl⟩) (fun t h => h.n (by omega)) _ G0 (N + 1) (H 3 (by omega)) (by omega) w2 w3 w4 gl gr
      · rw [e] at w4 ⊢
        rw [Ex.Side, if_neg (by omega), if_pos rfl] at w4
        exact cmp_two w1 e (H 4 (by omega) l (by omega) w2 gl (by omega)) (H 4 (by omega) r (by omega) w3 gr (by omega))
      · rw [e] at w4 ⊢
        exact right_top w1 e (by omega) (fun s hs hv => by obtain rfl := (op_right s hs).1 hv; exact ⟨rfl, rfl⟩) (fun t h => h.c (by omega)) _ G0 (N + 1) (H 5 (by omega)) (by omega) w2 w3 w4 gl gr
      · rw [e] at w4 ⊢
        rw [Ex.Side, if_pos (by omega)] at w4
        exact run_lp (m := mul (expr f)) (lp_step (op_add s w1 e) (noOp_op s w1 6 (by omega)) (lp_all (v := 5) (fun s hs hv => ⟨op_add s hs hv, noOp_op s hs 6 (by omega)⟩) (by omega) _ G0 (N + 1) (H 6 (by omega)) l (by omega) w2 gl w4.1) (H 6 (by omega) r (by omega) w3 gr w4.2)) (fun t ht => ⟨ht.weak (by omega), ht.a (by omega)⟩)
      · rw [e] at w4 ⊢
        rw [Ex.Side, if_pos (by omega)] at w4
        exact run_lp (m := unary (expr f)) (lp_step (op_mul s w1 e) (noOp_op s w1 7 (by omega)) (lp_all (v := 6) (fun s hs hv => ⟨op_mul s hs hv, noOp_op s hs 7 (by omega)⟩) (by omega) _ G0 (N + 1) (H 7 (by omega)) l (by omega) w2 gl w4.1) (H 7 (by omega) r (by omega) w3 gr w4.2)) (fun t ht => ⟨ht.weak (by omega), ht.m (by omega)⟩)
end Gm
end Go.Proofs.YtdpfmmbfidknfaaGreatDoor


/- A row of operators as a tree: parted at the loosest one. -/
namespace Go.Proofs.YtdpfmmbfidknfaaGreatDoor

/-- Whether a row of a level goes from the right. -/
def rgt (v : Nat) : Bool := v == 1 || v == 2 || v == 4
def lvAt (l : List Nat) (i : Nat) : Nat := lev (l.getD i 0)
/-- Whether a row is rather parted at i than at a. -/
def better (l : List Nat) (a i : Nat) : Bool := decide (lvAt l i < lvAt l a) || (decide (lvAt l i = lvAt l a) && !(rgt (lvAt l a)))
def splF (l : List Nat) : Nat → Nat → Nat → Nat
  | 0, _, a => a
  | k + 1, i, a => splF l k (i + 1) (if better l a i then i else a)
def spl (l : List Nat) : Nat := splF l (l.length - 1) 1 0

structure SplI (l : List Nat) (i a : Nat) : Prop where
  ai : a < i
  pre : ∀ j, j < a → lvAt l a ≤ lvAt l j ∧ (rgt (lvAt l a) = true → lvAt l a < lvAt l j)
  suf : ∀ j, a < j → j < i → lvAt l a ≤ lvAt l j ∧ (rgt (lvAt l a) = false → lvAt l a < lvAt l j)
theorem splI_step {l : List Nat} {i a : Nat} (h : SplI l i a) : SplI l (i + 1) (if better l a i then i else a) := by
  obtain ⟨h1, h2, h3⟩ := h
  by_cases hb : better l a i = true
  · rw [if_pos hb]
    unfold better at hb
    simp only [Bool.or_eq_true, Bool.and_eq_true, decide_eq_true_eq, Bool.not_eq_true'] at hb
    have low : ∀ j, j < i → lvAt l a ≤ lvAt l j := by
      intro j hj
      by_cases e : j < a
      · exact (h2 j e).1
      · by_cases e2 : a < j
        · exact (h3 j e2 hj).1
        · obtain rfl : j = a := by omega
          exact Nat.le_refl _
    refine ⟨by omega, fun j hj => ?_, fun j hj hj2 => by omega⟩
    have := low j hj
    rcases hb with hb | ⟨hb, hr⟩
    · exact ⟨by omega, fun _ => by omega⟩
    · rw [hb]
      exact ⟨this, fun h => by rw [hr] at h; cases h⟩
  · rw [if_neg hb]
    unfold better at hb
    simp only [Bool.or_eq_true, Bool.and_eq_true, decide_eq_true_eq, Bool.not_eq_true', not_or, not_and] at hb
    refine ⟨by omega, h2, fun j hj hj2 => ?_⟩
    by_cases e : j < i
    · exact h3 j hj e
    · obtain rfl : j = i := by omega
      refine ⟨by omega, fun h => ?_⟩
      rcases Nat.lt_or_ge (lvAt l a) (lvAt l j) with g | g
      · exact g
      · exact absurd h (hb.2 (by omega))
theorem splI_all {l : List Nat} : ∀ (k i a : Nat), SplI l i a → SplI l (i + k) (splF l k i a)
  | 0, i, a, h => h
  | k + 1, i, a, h => by
    have := splI_all k (i + 1) _ (splI_step h)
    rw [show i + (k + 1) = i + 1 + k by omega]
    exact this
theorem spl_ok {l : List Nat} (h : 0 < l.length) : spl l < l.length ∧ SplI l l.length (spl l) := by
  have h0 : SplI l 1 0 := ⟨by omega, fun j hj => by omega, fun j h1 h2 => by omega⟩
  have := splI_all (l.length - 1) 1 0 h0
  rw [show 1 + (l.length - 1) = l.length by omega] at this
  exact ⟨this.ai, this⟩

/-- The tree of a row: what lies left and right of where it is parted. -/
def tree : Nat → List Nat → List Nat → Ex
  | 0, x, _ => .d (x.headD 0)
  | k + 1, x, l => if l = [] then .d (x.headD 0) else .o (l.getD (spl l) 0) (tree k (x.take (spl l + 1)) (l.take (spl l))) (tree k (x.drop (spl l + 1)) (l.drop (spl l + 1)))
/-- All brackets. -/
def full : Ex → Ex
  | .d n => .d n
  | .o s l r => .br (.o s (full l) (full r))
  | .br e => .br (full e)
def Ok12 : Ex → Prop
  | .d n => n < 10
  | .o s l r => s < 12 ∧ Ok12 l ∧ Ok12 r
  | .br e => Ok12 e
namespace Ex
def hgt : Ex → Nat
  | d _ => 0
  | o _ l r => max (hgt l) (hgt r) + 1
  | br e => hgt e + 1
def noBr : Ex → Prop
  | d _ => True
  | o _ l r => noBr l ∧ noBr r
  | br _ => False
theorem full_sz : ∀ e : Ex, (full e).sz = e.sz
  | d _ => rfl
  | o _ l r => by simp only [full, sz, full_sz l, full_sz r]
  | br e => by simp only [full, sz, full_sz e]
theorem full_emit : ∀ (e : Ex) (b : Nat), (full e).emit b = e.emit b
  | d _, _ => rfl
  | o _ l r, b => by simp only [full, emit, full_emit l, full_emit r, full_sz]
  | br e, b => by simp only [full, emit, full_emit e]
theorem full_lo : ∀ e : Ex, (full e).lo = 7
  | d _ => rfl
  | o _ _ _ => rfl
  | br _ => rfl
theorem full_wf : ∀ e : Ex, Ok12 e → (full e).WF
  | d _, _ => trivial
  | o s l r, h => by
    have h6 := Gm.lev_in s h.1
    refine ⟨h.1, full_wf l h.2.1, full_wf r h.2.2, ?_⟩
    rw [full_lo, full_lo]
    unfold Side
    split
    · omega
    · split <;> omega
  | br e, h => full_wf e h
theorem full_dep : ∀ e : Ex, (full e).dep ≤ e.hgt
  | d _ => Nat.le_refl _
  | o _ l r => by have := full_dep l; have := full_dep r; simp only [full, dep, hgt]; omega
  | br e => by have := full_dep e; simp only [full, dep, hgt]; omega
theorem full_ok : ∀ e : Ex, Ok12 e → Ok12 (full e)
  | d _, h => h
  | o _ l r, h => ⟨h.1, full_ok l h.2.1, full_ok r h.2.2⟩
  | br e, h => full_ok e h
theorem noBr_dep : ∀ e : Ex, e.noBr → e.dep = 0
  | d _, _ => rfl
  | o _ l r, h => by simp only [dep, noBr_dep l h.1, noBr_dep r h.2, Nat.max_self]
end Ex

/-- Two that compare have something looser between them. -/
def Cmp1 (l : List Nat) : Prop := ∀ i j, i < j → j < l.length → lvAt l i = 3 → lvAt l j = 3 → ∃ k, i < k ∧ k < j ∧ lvAt l k < 3
theorem lvAt_take {l : List Nat} {n i : Nat} (h : i < n) : lvAt (l.take n) i = lvAt l i := by
  unfold lvAt
  rw [List.getD_eq_getElem?_getD, List.getD_eq_getElem?_getD, List.getElem?_take_of_lt h]
theorem lvAt_drop {l : List Nat} {n i : Nat} : lvAt (l.drop n) i = lvAt l (n + i) := by
  unfold lvAt
  rw [List.getD_eq_getElem?_getD, List.getD_eq_getElem?_getD, List.getElem?_drop]
theorem Cmp1.take {l : List Nat} (h : Cmp1 l) (n : Nat) : Cmp1 (l.take n) := by
  intro i j hij hj h1 h2
  rw [List.length_take] at hj
  rw [lvAt_take (by omega)] at h1 h2
  obtain ⟨k, a, b, c⟩ := h i j hij (by omega) h1 h2
  exact ⟨k, a, b, by rw [lvAt_take (by omega)]; exact c⟩
theorem Cmp1.drop {l : List Nat} (h : Cmp1 l) (n : Nat) : Cmp1 (l.drop n) := by
  intro i j hij hj h1 h2
  rw [List.length_drop] at hj
  rw [lvAt_drop] at h1 h2
  obtain ⟨k, a, b, c⟩ := h (n + i) (n + j) (by omega) (by omega) h1 h2
  exact ⟨k - n, by omega, by omega, by rw [lvAt_drop, show n + (k - n) = k by omega]; exact c⟩

structure TreeOk (e : Ex) (l : List Nat) : Prop where
  wf : e.WF
  ok : Ok12 e
  nb : e.noBr
  hg : e.hgt ≤ l.length
  sz : e.sz = 2 * l.length + 1
  lo : e.lo = 7 ∧ l = [] ∨ ∃ j, j < l.length ∧ e.lo = lvAt l j
theorem tree_ok : ∀ (k : Nat) (x l : List Nat), l.length ≤ k → x.length = l.length + 1 → (∀ s ∈ l, s < 12) → (∀ n ∈ x, n < 10) → Cmp1 l → TreeOk (tree k x l) l := by
  intro k
  induction k with
  | zero =>
    intro x l hl hx hs hd hc
    obtain rfl : l = [] := List.eq_nil_of_length_eq_zero (by omega)
    cases x with
    | nil => simp at hx
    | cons a x => exact ⟨trivial, hd a (by simp), trivial, by simp [tree, Ex.hgt], by simp [tree, Ex.sz], .inl ⟨rfl, rfl⟩⟩
  | succ k ih =>
    intro x l hl hx hs hd hc
    by_cases h0 : l = []
    · subst h0
      simp only [tree, if_true]
      cases x with
      | nil => simp at hx
      | cons a x => exact ⟨trivial, hd a (by simp), trivial, by simp [Ex.hgt], by simp [Ex.sz], .inl ⟨rfl, rfl⟩⟩
    · have hl0 : 0 < l.length := List.length_pos_iff.2 h0
      obtain ⟨hn, hI⟩ := spl_ok hl0
      simp only [tree, if_neg h0]
      obtain ⟨n, hnn⟩ : ∃ n, spl l = n := ⟨_, rfl⟩
      rw [hnn] at hn hI ⊢
      have A := ih (x.take (n + 1)) (l.take n) (by rw [List.length_take]; omega) (by rw [List.length_take, List.length_take]; omega) (fun s h => hs s (List.mem_of_mem_take h)) (fun s h => hd s (List.mem_of_mem_take h)) (hc.take n)
      have B := ih (x.drop (n + 1)) (l.drop (n + 1)) (by rw [List.length_drop]; omega) (by rw [List.length_drop, List.length_drop]; omega) (fun s h => hs s (List.mem_of_mem_drop h)) (fun s h => hd s (List.mem_of_mem_drop h)) (hc.drop (n + 1))
      have hsn : l.getD n 0 < 12 := by
        rw [List.getD_eq_getElem?_getD, List.getElem?_eq_getElem hn]
        exact hs _ (List.getElem_mem hn)
      obtain ⟨v, hv⟩ : ∃ v, lvAt l n = v := ⟨_, rfl⟩
      have hv2 : lev (l.getD n 0) = v := hv
      obtain ⟨v1, v6⟩ := Gm.lev_in _ hsn
      rw [hv2] at v1 v6
      have loL : v ≤ (tree k (x.take (n + 1)) (l.take n)).lo ∧ ((rgt v = true ∨ v = 3) → v < (tree k (x.take (n + 1)) (l.take n)).lo) := by
        rcases A.lo with ⟨h1, -⟩ | ⟨j, hj, he⟩
        · rw [h1]; exact ⟨by omega, fun _ => by omega⟩
        · rw [List.length_take] at hj
          rw [he, lvAt_take (by omega)]
          have hp := hI.pre j (by omega)
          rw [hv] at hp
          refine ⟨hp.1, fun hr => ?_⟩
          rcases hr with hr | rfl
          · exact hp.2 hr
          · rcases Nat.lt_or_ge 3 (lvAt l j) with g | g
            · exact g
            · exfalso
              obtain ⟨q, q1, q2, q3⟩ := hc j n (by omega) hn (by omega) hv
              have := (hI.pre q q2).1
              omega
      have loR : v ≤ (tree k (x.drop (n + 1)) (l.drop (n + 1))).lo ∧ (rgt v = false → v < (tree k (x.drop (n + 1)) (l.drop (n + 1))).lo) := by
        rcases B.lo with ⟨h1, -⟩ | ⟨j, hj, he⟩
        · rw [h1]; exact ⟨by omega, fun _ => by omega⟩
        · rw [List.length_drop] at hj
          rw [he, lvAt_drop]
          have hp := hI.suf (n + 1 + j) (by omega) (by omega)
          rw [hv] at hp
          exact hp
      have hg1 := A.hg
      have hg2 := B.hg
      have sz1 := A.sz
      have sz2 := B.sz
      rw [List.length_take] at hg1 sz1
      rw [List.length_drop] at hg2 sz2
      refine ⟨⟨hsn, A.wf, B.wf, ?_⟩, ⟨hsn, A.ok, B.ok⟩, ⟨A.nb, B.nb⟩, by simp only [Ex.hgt]; omega, by simp only [Ex.sz]; omega, .inr ⟨n, hn, rfl⟩⟩
      rw [hv2]
      have : v = 1 ∨ v = 2 ∨ v = 3 ∨ v = 4 ∨ v = 5 ∨ v = 6 := by omega
      rcases this with rfl | rfl | rfl | rfl | rfl | rfl
      · exact ⟨loL.2 (.inl rfl), loR.1⟩
      · exact ⟨loL.2 (.inl rfl), loR.1⟩
      · exact ⟨loL.2 (.inr rfl), loR.2 rfl⟩
      · exact ⟨loL.2 (.inl rfl), loR.1⟩
      · exact ⟨loL.1, loR.2 rfl⟩
      · exact ⟨loL.1, loR.2 rfl⟩

/-- The bytes of operators, of what is written. -/
def opB (s : Nat) : List UInt8 := (opX s).data.toList
def dB (n : Nat) : UInt8 := UInt8.ofNat (48 + n)
def txt : Ex → List UInt8
  | .d n => [dB n]
  | .o s l r => txt l ++ 32 :: (opB s ++ 32 :: txt r)
  | .br e => 40 :: (txt e ++ [41])
def rowB : List Nat → List Nat → List UInt8
  | [], _ => []
  | x :: _, [] => [dB x]
  | x :: xs, s :: l => dB x :: 32 :: (opB s ++ 32 :: rowB xs l)
theorem rowB_cut (s : Nat) : ∀ (l1 l2 x1 x2 : List Nat), x1.length = l1.length + 1 → rowB (x1 ++ x2) (l1 ++ s :: l2) = rowB x1 l1 ++ 32 :: (opB s ++ 32 :: rowB x2 l2)
  | [], l2, x1, x2, h => by
    obtain ⟨a, rfl⟩ : ∃ a, x1 = [a] := List.length_eq_one_iff.1 h
    rfl
  | b :: l1, l2, x1, x2, h => by
    cases x1 with
    | nil => simp at h
    | cons a x1 =>
      have ih := rowB_cut s l1 l2 x1 x2 (by simpa using h)
      show dB a :: 32 :: (opB b ++ 32 :: rowB (x1 ++ x2) (l1 ++ s :: l2)) = _
      rw [ih]
      show _ = (dB a :: 32 :: (opB b ++ 32 :: rowB x1 l1)) ++ _
      simp only [List.cons_append, List.append_assoc]
theorem tree_txt : ∀ (k : Nat) (x l : List Nat), l.length ≤ k → x.length = l.length + 1 → txt (tree k x l) = rowB x l := by
  intro k
  induction k with
  | zero =>
    intro x l hl hx
    obtain rfl : l = [] := List.eq_nil_of_length_eq_zero (by omega)
    cases x with
    | nil => simp at hx
    | cons a x => rfl
  | succ k ih =>
    intro x l hl hx
    by_cases h0 : l = []
    · subst h0
      simp only [tree, if_true]
      cases x with
      | nil => simp at hx
      | cons a x => rfl
    · obtain ⟨hn, -⟩ := spl_ok (List.length_pos_iff.2 h0)
      simp only [tree, if_neg h0]
      obtain ⟨n, hnn⟩ : ∃ n, spl l = n := ⟨_, rfl⟩
      rw [hnn] at hn ⊢
      simp only [txt]
      rw [ih _ _ (by rw [List.length_take]; omega) (by rw [List.length_take, List.length_take]; omega), ih _ _ (by rw [List.length_drop]; omega) (by rw [List.length_drop, List.length_drop]; omega)]
      rw [← rowB_cut _ _ _ _ _ (by rw [List.length_take, List.length_take]; omega), List.take_append_drop]
      congr 1
      have : l.getD n 0 :: l.drop (n + 1) = l.drop n := by
        rw [List.getD_eq_getElem?_getD, List.getElem?_eq_getElem hn, List.drop_eq_getElem_cons hn]
        rfl
      rw [this, List.take_append_drop]
end Go.Proofs.YtdpfmmbfidknfaaGreatDoor


