import Derived.Test.YtmijabhnbmmmfaaGreatG37
/- Cheney's way: what holds while words are laid anew. -/
namespace Go.Proofs.YtmijabhnbmmmfaaGreat
open Go.RowKit Go.Deep

mutual
/-- Where a term's blocks lie. -/
def blks (ws : List Int) : Tr → Int → List Nat
  | .mk k _ _ _ _ _ kids, x => if k = 8 then blksL ws kids x else if k = 1 ∨ k = 3 ∨ k = 6 then [] else (bodyI x).toNat :: blksA ws kids ((bodyI x).toNat + frN k)
def blksA (ws : List Int) : List Tr → Nat → List Nat
  | [], _ => []
  | t :: r, q => blks ws t (ws.getD q 0) ++ blksA ws r (q + 1)
def blksL (ws : List Int) : List Tr → Int → List Nat
  | [], _ => []
  | t :: r, x => (bodyI x).toNat :: (blks ws t (ws.getD (bodyI x).toNat 0) ++ blksL ws r (ws.getD ((bodyI x).toNat + 1) 0))
end

def pb (ws : List Int) (c : Cl) : List Nat := match c.2 with | some t => blks ws t c.1 | none => []
def pw (c : Cl) : Nat := match c.2 with | some t => wN t | none => 0

/-- A term's own words, as cells. -/
def ownC (ws : List Int) (p : Nat) (t : Tr) : List Cl := ((ws.drop p).take (kindsOf t).length).zip (kindsOf t)

theorem ownC_get {ws : List Int} {p i : Nat} {t : Tr} {y : Int} {kd : Option Tr} (hy : ws[p + i]? = some y) (hk : (kindsOf t)[i]? = some kd) : (ownC ws p t)[i]? = some (y, kd) := by
  unfold ownC
  have hil := get_lt hk
  have h1 : ((ws.drop p).take (kindsOf t).length)[i]? = some y := by
    rw [List.getElem?_take, if_pos hil, List.getElem?_drop]
    exact hy
  rw [List.getElem?_zip_eq_some]
  exact ⟨h1, hk⟩

theorem ownC_inv {ws : List Int} {p i : Nat} {t : Tr} {y : Int} {kd : Option Tr} (h : (ownC ws p t)[i]? = some (y, kd)) : ws[p + i]? = some y ∧ (kindsOf t)[i]? = some kd := by
  unfold ownC at h
  rw [List.getElem?_zip_eq_some] at h
  refine ⟨?_, h.2⟩
  have h1 := h.1
  rw [List.getElem?_take] at h1
  split at h1
  · rw [List.getElem?_drop] at h1; exact h1
  · cases h1

theorem ownC_len {ws : List Int} {p : Nat} {t : Tr} (h : p + (kindsOf t).length ≤ ws.length) : (ownC ws p t).length = (kindsOf t).length := by
  unfold ownC
  simp
  omega

theorem ownC_wds {ws : List Int} {p : Nat} {t : Tr} : wds (ownC ws p t) = (ws.drop p).take (kindsOf t).length := by
  unfold wds ownC
  rw [List.map_fst_zip]
  simp
  omega

theorem zip_some (ws : List Int) : ∀ (kids : List Tr) (q : Nat), q + kids.length ≤ ws.length → ((((ws.drop q).take kids.length).zip (kids.map some)).flatMap (pb ws) = blksA ws kids q) ∧ (((((ws.drop q).take kids.length).zip (kids.map some)).map pw).sum = wAll kids) := by
  intro kids
  induction kids with
  | nil => intro q _; simp [blksA, wAll]
  | cons t r ih =>
    intro q hq
    simp only [List.length_cons] at hq
    have hx : ws.drop q = ws[q]'(by omega) :: ws.drop (q + 1) := List.drop_eq_getElem_cons (by omega)
    have hg : ws.getD q 0 = ws[q]'(by omega) := by simp [List.getD, List.getElem?_eq_getElem (show q < ws.length by omega)]
    obtain ⟨i1, i2⟩ := ih (q + 1) (by omega)
    rw [hx]
    simp only [List.length_cons, List.take_succ_cons, List.map_cons, List.zip_cons_cons, List.flatMap_cons, List.sum_cons, i1, i2]
    simp only [pb, pw, blksA, wAll, hg]
    exact ⟨trivial, trivial⟩

theorem zip_none (ws : List Int) : ∀ (m q : Nat), q + m ≤ ws.length → ((((ws.drop q).take m).zip (List.replicate m (none : Option Tr))).flatMap (pb ws) = []) ∧ (((((ws.drop q).take m).zip (List.replicate m (none : Option Tr))).map pw).sum = 0) := by
  intro m
  induction m with
  | zero => intro q _; simp
  | succ m ih =>
    intro q hq
    have hx : ws.drop q = ws[q]'(by omega) :: ws.drop (q + 1) := List.drop_eq_getElem_cons (by omega)
    obtain ⟨i1, i2⟩ := ih (q + 1) (by omega)
    rw [hx]
    simp only [List.replicate_succ, List.take_succ_cons, List.zip_cons_cons, List.flatMap_cons, List.map_cons, List.sum_cons, i1, i2]
    simp [pb, pw]

/-- A kind that has a header, or a list that has some. -/
theorem not_alone {k n : Int} {f : Nat} {s : ByteArray} {a : Option Addr} {c : Nat} {kids : List Tr} (hg : goodT (.mk k n f s a c kids) = true) (h : aloneT (.mk k n f s a c kids) = false) : (k = 8 ∧ ∃ t r, kids = t :: r) ∨ (hdB k = true ∧ k ≠ 8 ∧ k ≠ 1 ∧ k ≠ 3 ∧ k ≠ 6) := by
  by_cases c8 : k = 8
  · subst c8
    left
    cases kids with
    | nil => simp [aloneT] at h
    | cons t r => exact ⟨rfl, t, r, rfl⟩
  right
  simp only [aloneT, if_neg c8, decide_eq_false_iff_not] at h
  have c1 : k ≠ 1 := fun e => h (by simp [e])
  have c3 : k ≠ 3 := fun e => h (by simp [e])
  have c6 : k ≠ 6 := fun e => h (by simp [e])
  refine ⟨?_, c8, c1, c3, c6⟩
  simp only [hdB, Bool.or_eq_true, beq_iff_eq]
  by_cases c2 : k = 2
  · simp [c2]
  by_cases c4 : k = 4
  · simp [c4]
  by_cases c5 : k = 5
  · simp [c5]
  have c7 : k = 7 := by
    simp only [goodT, c1, c2, c3, c4, c5, c6, c8, or_self, if_false] at hg
    by_cases h : k = 7
    · exact h
    · simp [h] at hg
  simp [c7]

theorem own_parts {ws : List Int} {t : Tr} {p : Nat} (hg : allT goodT t = true) (ha : aloneT t = false) (hp : p ≤ 16777216) (hl : p + (kindsOf t).length ≤ ws.length) : blks ws t (ofW (tagT t) p) = p :: (ownC ws p t).flatMap (pb ws) ∧ wN t = (ownC ws p t).length + ((ownC ws p t).map pw).sum ∧ 0 < (kindsOf t).length := by
  obtain ⟨k, n, f, s, a, c, kids⟩ := t
  simp only [allT, Bool.and_eq_true] at hg
  rw [ownC_len hl]
  rcases not_alone hg.1 ha with ⟨rfl, t, r, rfl⟩ | ⟨hB, c8, c1, c3, c6⟩
  · have hk : kindsOf (.mk 8 n f s a c (t :: r)) = [some t, some (restT r)] := by simp [kindsOf]
    rw [hk] at hl ⊢
    simp only [List.length_cons, List.length_nil] at hl
    have hb : (bodyI (ofW 6 p)).toNat = p := by rw [(cons_made hp).2.1]; simp
    have g0 : ws.getD p 0 = ws[p]'(by omega) := by simp [List.getD, List.getElem?_eq_getElem (show p < ws.length by omega)]
    have g1 : ws.getD (p + 1) 0 = ws[p + 1]'(by omega) := by simp [List.getD, List.getElem?_eq_getElem (show p + 1 < ws.length by omega)]
    have ho : ownC ws p (.mk 8 n f s a c (t :: r)) = [(ws[p]'(by omega), some t), (ws[p + 1]'(by omega), some (restT r))] := by
      unfold ownC
      rw [hk]
      have h1 : ws.drop p = ws[p]'(by omega) :: ws.drop (p + 1) := List.drop_eq_getElem_cons (by omega)
      have h2 : ws.drop (p + 1) = ws[p + 1]'(by omega) :: ws.drop (p + 1 + 1) := List.drop_eq_getElem_cons (by omega)
      rw [h1, h2]
      simp only [List.length_cons, List.length_nil, List.take_succ_cons, List.take_zero, List.zip_cons_cons, List.zip_nil_right]
    rw [ho]
    refine ⟨?_, ?_, by simp⟩
    · simp only [blks, tagT, if_true, blksL, hb, g0, g1, List.flatMap_cons, List.flatMap_nil, List.append_nil, pb, restT]
    · have e1 : wN (.mk 8 n f s a c (t :: r)) = 2 * (r.length + 1) + (wN t + wAll r) := by simp [wN, wAll]
      have e2 : wN (restT r) = 2 * r.length + wAll r := by simp [restT, wN]
      simp only [List.map_cons, List.map_nil, List.sum_cons, List.sum_nil, pw, e2, e1, List.length_cons, List.length_nil]
      omega
  · have hk : kindsOf (.mk k n f s a c kids) = List.replicate (frN k) none ++ kids.map some := by simp [kindsOf, c8, c1, c3, c6]
    rw [hk] at hl ⊢
    simp only [List.length_append, List.length_replicate, List.length_map] at hl ⊢
    have hb : (bodyI (ofW 5 p)).toNat = p := by rw [(box_made hp).2.1]; simp
    have ho : ownC ws p (.mk k n f s a c kids) = ((ws.drop p).take (frN k)).zip (List.replicate (frN k) none) ++ ((ws.drop (p + frN k)).take kids.length).zip (kids.map some) := by
      unfold ownC
      rw [hk]
      simp only [List.length_append, List.length_replicate, List.length_map]
      rw [List.take_add, List.drop_drop, List.zip_append (by simp; omega)]
    obtain ⟨z1, z2⟩ := zip_some ws kids (p + frN k) (by omega)
    obtain ⟨y1, y2⟩ := zip_none ws (frN k) p (by omega)
    have hfr : 1 ≤ frN k := by unfold frN; split <;> omega
    rw [ho, List.flatMap_append, List.map_append, List.sum_append, z1, z2, y1, y2]
    refine ⟨?_, ?_, by omega⟩
    · simp [blks, tagT, c8, c1, c3, c6, hb]
    · have hfl := front_frN (k := k) (n := n) (f := f) (len := kids.length) hB
      simp only [wN]
      rw [if_neg c1, if_neg c6, if_neg c3, if_neg c8, hfl]
      omega

/-- Words that are still to be gone over: elements, and what stands ahead of them. -/
inductive Grp : List Cl → Prop
  | nil : Grp []
  | el {x : Int} {t : Tr} {r : List Cl} : Grp r → Grp ((x, some t) :: r)
  | one {h : Int} {r : List Cl} : isB h = true → frN (hkI h) = 1 → Grp r → Grp ((h, none) :: r)
  | two {h z : Int} {r : List Cl} : isB h = true → frN (hkI h) = 2 → Grp r → Grp ((h, none) :: (z, none) :: r)

theorem Grp.app {a b : List Cl} (ha : Grp a) (hb : Grp b) : Grp (a ++ b) := by
  induction ha with
  | nil => exact hb
  | el _ ih => exact .el ih
  | one h1 h2 _ ih => exact .one h1 h2 ih
  | two h1 h2 _ ih => exact .two h1 h2 ih

theorem Grp.elems : ∀ (xs : List Int) (ts : List Tr), Grp (xs.zip (ts.map some))
  | [], _ => by simp; exact .nil
  | _ :: _, [] => by simp; exact .nil
  | x :: xs, t :: ts => by simp only [List.map_cons, List.zip_cons_cons]; exact .el (Grp.elems xs ts)

theorem own_grp {ws : List Int} {t : Tr} {p : Nat} (hf : Fine t) (ha : aloneT t = false) (hl : p + (kindsOf t).length ≤ ws.length) (hfr : ∀ (i : Nat) (y : Int), ws[p + i]? = some y → (kindsOf t)[i]? = some none → (frontT t)[i]? = some y) : Grp (ownC ws p t) := by
  obtain ⟨k, n, f, s, a, c, kids⟩ := t
  obtain ⟨hg1, hkl, _⟩ := fine_kids hf
  rcases not_alone hg1 ha with ⟨rfl, t, r, rfl⟩ | ⟨hB, c8, c1, c3, c6⟩
  · have hk : kindsOf (.mk 8 n f s a c (t :: r)) = [t, restT r].map some := by simp [kindsOf]
    unfold ownC
    rw [hk]
    exact Grp.elems _ _
  · have hk : kindsOf (.mk k n f s a c kids) = List.replicate (frN k) none ++ kids.map some := by simp [kindsOf, c8, c1, c3, c6]
    rw [hk] at hl
    simp only [List.length_append, List.length_replicate, List.length_map] at hl
    have ho : ownC ws p (.mk k n f s a c kids) = ((ws.drop p).take (frN k)).zip (List.replicate (frN k) none) ++ ((ws.drop (p + frN k)).take kids.length).zip (kids.map some) := by
      unfold ownC
      rw [hk]
      simp only [List.length_append, List.length_replicate, List.length_map]
      rw [List.take_add, List.drop_drop, List.zip_append (by simp; omega)]
    have hfr12 : frN k = 1 ∨ frN k = 2 := by unfold frN; split <;> simp
    have h1 : ws.drop p = ws[p]'(by omega) :: ws.drop (p + 1) := List.drop_eq_getElem_cons (by omega)
    have hhead : isB (ws[p]'(by omega)) = true ∧ hkI (ws[p]'(by omega)) = k := by
      have e0 := hfr 0 (ws[p]'(by omega)) (by simp) (by rw [hk, List.getElem?_append_left (by simp; omega), List.getElem?_replicate, if_pos (by omega)])
      have hc := hdB_cases hB
      have : ∃ sz : Nat, sz ≤ 65536 ∧ ws[p]'(by omega) = hdW k sz := by
        rcases hc with rfl | rfl | rfl | rfl
        · exact ⟨1, by omega, by simpa [frontT, front] using e0.symm⟩
        · exact ⟨1, by omega, by simpa [frontT, front] using e0.symm⟩
        · exact ⟨kids.length, hkl, by simpa [frontT, front] using e0.symm⟩
        · exact ⟨kids.length, hkl, by simpa [frontT, front] using e0.symm⟩
      obtain ⟨sz, hsz, e⟩ := this
      rw [e]
      obtain ⟨_, _, i1, i2, _⟩ := hd_made hB (s := (sz : Int)) (by omega) (by omega)
      exact ⟨i1, i2⟩
    rw [ho]
    refine Grp.app ?_ (Grp.elems _ _)
    rcases hfr12 with e | e
    · rw [e, h1]
      simp only [List.take_succ_cons, List.take_zero, List.replicate_succ, List.replicate_zero, List.zip_cons_cons, List.zip_nil_right]
      exact .one hhead.1 (by rw [hhead.2]; exact e) .nil
    · have h2 : ws.drop (p + 1) = ws[p + 1]'(by omega) :: ws.drop (p + 1 + 1) := List.drop_eq_getElem_cons (by omega)
      rw [e, h1, h2]
      simp only [List.take_succ_cons, List.take_zero, List.replicate_succ, List.replicate_zero, List.zip_cons_cons, List.zip_nil_right]
      exact .two hhead.1 (by rw [hhead.2]; exact e) .nil
end Go.Proofs.YtmijabhnbmmmfaaGreat


/- Cheney's way, step by step. -/
namespace Go.Proofs.YtmijabhnbmmmfaaGreat
open Go.RowKit Go.Deep

structure CI (ws : List Int) (L : List ByteArray) (cells : List Cl) (now : Nat → Int) (n T : Nat) : Prop where
  sc : ∀ (q : Nat) (x : Int) (t : Tr), q < n → cells[q]? = some (x, some t) → Pt L cells x t
  pe : ∀ (q : Nat) (x : Int) (t : Tr), n ≤ q → cells[q]? = some (x, some t) → allT smF t = true ∧ Fine t ∧ Rep ws L t x
  gr : Grp (cells.drop n)
  nd : ((cells.drop n).flatMap (pb ws)).Nodup
  un : ∀ b, b ∈ (cells.drop n).flatMap (pb ws) → now b = 0
  po : cells.length + ((cells.drop n).map pw).sum = T
  nl : n ≤ cells.length

def updN (now : Nat → Int) (p : Nat) (v : Int) : Nat → Int := fun j => if j = p then v else now j

theorem fine_rest {n : Int} {f : Nat} {s : ByteArray} {a : Option Addr} {c : Nat} {t : Tr} {r : List Tr} (h : Fine (.mk 8 n f s a c (t :: r))) (hs : allT smF (.mk 8 n f s a c (t :: r)) = true) : Fine (restT r) ∧ allT smF (restT r) = true := by
  obtain ⟨f1, f2⟩ := h
  simp only [allT, allAll, Bool.and_eq_true] at f1 hs
  have w1 : wN (.mk 8 n f s a c (t :: r)) = 2 * (t :: r).length + wAll (t :: r) := by simp [wN]
  have w2 : wN (restT r) = 2 * r.length + wAll r := by simp [restT, wN]
  refine ⟨⟨?_, by rw [w1] at f2; simp only [List.length_cons, wAll] at f2; rw [w2]; omega⟩, ?_⟩
  · have hg : goodT (restT r) = true := by simp [restT, goodT, ByteArray.toList_eq]
    unfold restT at hg ⊢
    simp only [allT, hg, f1.2.2, Bool.and_self]
  · have hg : smF (restT r) = true := by simp [restT, smF]
    unfold restT at hg ⊢
    simp only [allT, hg, hs.2.2, Bool.and_self]

/-- What a term's own words have of it. -/
theorem kind_fine {t t' : Tr} {i : Nat} (hf : Fine t) (hs : allT smF t = true) (h : (kindsOf t)[i]? = some (some t')) : Fine t' ∧ allT smF t' = true := by
  obtain ⟨k, n, f, s, a, c, kids⟩ := t
  by_cases c8 : k = 8
  · subst c8
    cases kids with
    | nil => simp [kindsOf] at h
    | cons t r =>
      match i, h with
      | 0, h =>
        obtain rfl : t = t' := by simpa [kindsOf] using h
        simp only [allT, allAll, Bool.and_eq_true] at hs
        exact ⟨(fine_kids hf).2.2 t (List.mem_cons_self ..), hs.2.1⟩
      | 1, h =>
        obtain rfl : restT r = t' := by simpa [kindsOf] using h
        exact fine_rest hf hs
      | i + 2, h => simp [kindsOf] at h
  by_cases ca : k = 1 ∨ k = 3 ∨ k = 6
  · simp [kindsOf, c8, ca] at h
  · have hk : kindsOf (.mk k n f s a c kids) = List.replicate (frN k) none ++ kids.map some := by simp only [kindsOf, if_neg c8, if_neg ca]
    rw [hk] at h
    rcases Nat.lt_or_ge i (frN k) with hi | hi
    · rw [List.getElem?_append_left (by simpa using hi), List.getElem?_replicate, if_pos hi] at h
      cases h
    · rw [List.getElem?_append_right (by simpa using hi)] at h
      simp only [List.length_replicate, List.getElem?_map] at h
      cases hj : kids[i - frN k]? with
      | none => rw [hj] at h; simp at h
      | some v =>
        rw [hj] at h
        obtain rfl : v = t' := by simpa using h
        have hm := List.mem_of_getElem? hj
        simp only [allT, Bool.and_eq_true] at hs
        exact ⟨(fine_kids hf).2.2 v hm, good_kids hs.2 hm⟩

structure NewB (ws : List Int) (L : List ByteArray) (t : Tr) (x : Int) (p : Nat) : Prop where
  x_ : x = ofW (tagT t) p
  p_ : p ≤ 16777216
  l_ : p + (kindsOf t).length ≤ ws.length
  e_ : ∀ (i : Nat) (y : Int) (t' : Tr), (ownC ws p t)[i]? = some (y, some t') → allT smF t' = true ∧ Fine t' ∧ Rep ws L t' y
  g_ : Grp (ownC ws p t)
  b_ : blks ws t x = p :: (ownC ws p t).flatMap (pb ws)
  w_ : wN t = (ownC ws p t).length + ((ownC ws p t).map pw).sum
  a_ : ∀ cells : List Cl, BlkAt (cells ++ ownC ws p t) cells.length t
  n_ : 0 < (kindsOf t).length

theorem new_blk {ws : List Int} {L : List ByteArray} {t : Tr} {x : Int} (hs : allT smF t = true) (hf : Fine t) (hr : Rep ws L t x) (ha : aloneT t = false) : ∃ p, NewB ws L t x p := by
  rcases rep_own hf.1 hr with ⟨h, _⟩ | ⟨_, p, hx, hp, hk⟩
  · rw [ha] at h; cases h
  have hl : p + (kindsOf t).length ≤ ws.length := by
    rcases Nat.eq_zero_or_pos (kindsOf t).length with e | e
    · obtain ⟨k, n, f, s, a, c, kids⟩ := t
      have hg := hf.1
      simp only [allT, Bool.and_eq_true] at hg
      rcases not_alone hg.1 ha with ⟨rfl, t, r, rfl⟩ | ⟨hB, c8, c1, c3, c6⟩
      · simp [kindsOf] at e
      · have h2 : kindsOf (.mk k n f s a c kids) = List.replicate (frN k) none ++ kids.map some := by simp [kindsOf, c8, c1, c3, c6]
        rw [h2] at e
        have hfr : 1 ≤ frN k := by unfold frN; split <;> omega
        simp at e
        omega
    · obtain ⟨y, hy, _⟩ := hk ((kindsOf t).length - 1) _ (List.getElem?_eq_getElem (by omega))
      have := get_lt hy
      omega
  obtain ⟨o1, o2, o3⟩ := own_parts (ws := ws) (p := p) hf.1 ha hp hl
  refine ⟨p, hx, hp, hl, fun i y t' h => ?_, own_grp hf ha hl (fun i y hy hk' => ?_), by rw [hx]; exact o1, o2, fun cells i kd hi => ?_, o3⟩
  · obtain ⟨h1, h2⟩ := ownC_inv h
    obtain ⟨y', hy', _, e⟩ := hk i _ h2
    obtain rfl : y = y' := Option.some.inj (h1.symm.trans hy')
    obtain ⟨f1, f2⟩ := kind_fine hf hs h2
    exact ⟨f2, f1, e t' rfl⟩
  · obtain ⟨y', hy', e, _⟩ := hk i none hk'
    obtain rfl : y = y' := Option.some.inj (hy.symm.trans hy')
    exact e rfl
  · obtain ⟨y, hy, e, _⟩ := hk i kd hi
    refine ⟨y, ?_, e⟩
    rw [List.getElem?_append_right (by omega)]
    have e2 : cells.length + i - cells.length = i := by omega
    rw [e2]
    exact ownC_get hy hi

theorem app_mono {cells more : List Cl} : ∀ (q : Nat) (x : Int) (kd : Option Tr), cells[q]? = some (x, kd) → ∃ x', (cells ++ more)[q]? = some (x', kd) ∧ (kd = none → x' = x) := fun q x kd h => ⟨x, by rw [List.getElem?_append_left (get_lt h)]; exact h, fun _ => rfl⟩

theorem set_mono {cells : List Cl} {n : Nat} {v : Int} {t : Tr} {x0 : Int} (hn : cells[n]? = some (x0, some t)) : ∀ (q : Nat) (x : Int) (kd : Option Tr), cells[q]? = some (x, kd) → ∃ x', (cells.set n (v, some t))[q]? = some (x', kd) ∧ (kd = none → x' = x) := by
  intro q x kd h
  by_cases e : n = q
  · subst e
    obtain ⟨rfl, rfl⟩ := Prod.mk.inj (Option.some.inj (hn.symm.trans h))
    exact ⟨v, by rw [List.getElem?_set_self (get_lt h)], fun h => by cases h⟩
  · exact ⟨x, by rw [List.getElem?_set_ne e]; exact h, fun _ => rfl⟩

/-- A root is laid. -/
theorem CI.root {ws : List Int} {L : List ByteArray} {cells : List Cl} {now : Nat → Int} {n T p : Nat} {t : Tr} {x : Int} (h : CI ws L cells now n T) (hN : NewB ws L t x p) (ha : aloneT t = false) (hc : cells.length ≤ 16777216) (hnd : (blks ws t x ++ (cells.drop n).flatMap (pb ws)).Nodup) (hun : ∀ b, b ∈ blks ws t x → now b = 0) :
    CI ws L (cells ++ ownC ws p t) (updN now p (ofW (tagT t) cells.length)) n (T + wN t) ∧ Pt L (cells ++ ownC ws p t) (ofW (tagT t) cells.length) t := by
  have hd : (cells ++ ownC ws p t).drop n = cells.drop n ++ ownC ws p t := by rw [List.drop_append_of_le_length h.nl]
  refine ⟨⟨fun q y t' hq hy => ?_, fun q y t' hq hy => ?_, by rw [hd]; exact h.gr.app hN.g_, ?_, ?_, ?_, by simp; have := h.nl; omega⟩, Or.inr ⟨ha, cells.length, rfl, hc, hN.a_ cells⟩⟩
  · have hl := h.nl
    rw [List.getElem?_append_left (by omega)] at hy
    exact (h.sc q y t' hq hy).mono app_mono
  · rcases Nat.lt_or_ge q cells.length with hl | hl
    · rw [List.getElem?_append_left hl] at hy
      exact h.pe q y t' hq hy
    · rw [List.getElem?_append_right hl] at hy
      exact hN.e_ _ y t' hy
  · rw [hd, List.flatMap_append]
    rw [hN.b_] at hnd
    have h1 := List.nodup_append.1 hnd
    have h2 := List.nodup_cons.1 h1.1
    refine List.nodup_append.2 ⟨h.nd, h2.2, fun a ha b hb e => ?_⟩
    exact h1.2.2 b (List.mem_cons_of_mem _ hb) a ha e.symm
  · intro b hb
    rw [hd, List.flatMap_append] at hb
    rw [hN.b_] at hnd hun
    have h1 := List.nodup_append.1 hnd
    have h2 := List.nodup_cons.1 h1.1
    unfold updN
    rcases List.mem_append.1 hb with hb | hb
    · rw [if_neg (fun e : b = p => h1.2.2 p (List.mem_cons_self ..) b hb e.symm)]
      exact h.un b hb
    · rw [if_neg (fun e : b = p => h2.1 (e ▸ hb))]
      exact hun b (List.mem_cons_of_mem _ hb)
  · rw [hd, List.map_append, List.sum_append, List.length_append, hN.w_]
    have := h.po
    omega

theorem drop_at {cells : List Cl} {n : Nat} {c : Cl} (h : cells[n]? = some c) : cells.drop n = c :: cells.drop (n + 1) := by
  obtain ⟨hm, rfl⟩ := List.getElem?_eq_some_iff.1 h
  exact List.drop_eq_getElem_cons hm

/-- An element that stands alone. -/
theorem CI.elA {ws : List Int} {L : List ByteArray} {cells : List Cl} {now : Nat → Int} {n T : Nat} {t : Tr} {x : Int} (h : CI ws L cells now n T) (hx : cells[n]? = some (x, some t)) (ha : aloneT t = true) : CI ws L cells now (n + 1) T := by
  obtain ⟨p1, p2, p3⟩ := h.pe n x t (Nat.le_refl _) hx
  have hd := drop_at hx
  have hg := h.gr
  have hnd := h.nd
  have hun := h.un
  have hpo := h.po
  rw [hd] at hg hnd hun hpo
  rw [List.flatMap_cons] at hnd hun
  have hpt : Pt L cells x t := by
    rcases rep_own p2.1 p3 with h' | ⟨h', _⟩
    · exact Or.inl h'
    · rw [ha] at h'; cases h'
  have hw : wN t = 0 := by
    obtain ⟨k, n, f, s, a, c, kids⟩ := t
    simp only [aloneT] at ha
    by_cases c8 : k = 8
    · rw [if_pos c8] at ha
      have : kids = [] := by simpa using ha
      subst this c8
      simp [wN, wAll]
    · rw [if_neg c8] at ha
      have ha' : k = 1 ∨ k = 3 ∨ k = 6 := by simpa using ha
      rcases ha' with rfl | rfl | rfl <;> simp [wN]
  refine ⟨fun q y t' hq hy => ?_, fun q y t' hq hy => h.pe q y t' (by omega) hy, ?_, (List.nodup_append.1 hnd).2.1, fun b hb => hun b (List.mem_append_right _ hb), ?_, get_lt hx⟩
  · rcases Nat.lt_or_ge q n with hl | hl
    · exact h.sc q y t' hl hy
    · obtain rfl : q = n := by omega
      obtain ⟨rfl, e⟩ := Prod.mk.inj (Option.some.inj (hx.symm.trans hy))
      obtain rfl := Option.some.inj e
      exact hpt
  · cases hg with
    | el hr => exact hr
  · simp only [List.map_cons, List.sum_cons] at hpo
    have : pw (x, some t) = wN t := rfl
    omega

/-- What stands ahead of elements. -/
theorem CI.fr {ws : List Int} {L : List ByteArray} {cells : List Cl} {now : Nat → Int} {n T : Nat} {x : Int} (h : CI ws L cells now n T) (hx : cells[n]? = some (x, none)) : isB x = true ∧ CI ws L cells now (n + frN (hkI x)) T := by
  have hd := drop_at hx
  have hg := h.gr
  have hnd := h.nd
  have hun := h.un
  have hpo := h.po
  rw [hd] at hg hnd hun hpo
  rw [List.flatMap_cons] at hnd hun
  have hl := get_lt hx
  obtain ⟨D, hD⟩ : ∃ D, cells.drop (n + 1) = D := ⟨_, rfl⟩
  rw [hD] at hg
  cases hg with
  | one h1 h2 hr =>
    refine ⟨h1, ?_⟩
    rw [h2]
    refine ⟨fun q y t' hq hy => ?_, fun q y t' hq hy => h.pe q y t' (by omega) hy, by rw [hD]; exact hr, (List.nodup_append.1 hnd).2.1, fun b hb => hun b (List.mem_append_right _ hb), ?_, hl⟩
    · rcases Nat.lt_or_ge q n with hl | hl
      · exact h.sc q y t' hl hy
      · obtain rfl : q = n := by omega
        have := Option.some.inj (hx.symm.trans hy)
        cases this
    · simp only [List.map_cons, List.sum_cons] at hpo
      have : pw (x, none) = 0 := rfl
      omega
  | @two _ z r h1 h2 hr =>
    refine ⟨h1, ?_⟩
    have hz : cells[n + 1]? = some (z, none) := by
      have : (cells.drop (n + 1))[0]? = some (z, none) := by rw [hD]; rfl
      rwa [List.getElem?_drop] at this
    have hd2 := drop_at hz
    have hl2 := get_lt hz
    rw [h2]
    rw [hd2] at hnd hun hpo
    rw [List.flatMap_cons] at hnd hun
    have er : r = cells.drop (n + 1 + 1) := by
      rw [hd2] at hD
      exact (List.cons.inj hD).2.symm
    rw [er] at hr
    refine ⟨fun q y t' hq hy => ?_, fun q y t' hq hy => h.pe q y t' (by omega) hy, hr, (List.nodup_append.1 (List.nodup_append.1 hnd).2.1).2.1, fun b hb => hun b (List.mem_append_right _ (List.mem_append_right _ hb)), ?_, by omega⟩
    · rcases Nat.lt_or_ge q n with hl | hl
      · exact h.sc q y t' hl hy
      · rcases Nat.lt_or_ge q (n + 1) with hl' | hl'
        · obtain rfl : q = n := by omega
          have := Option.some.inj (hx.symm.trans hy)
          cases this
        · obtain rfl : q = n + 1 := by omega
          have := Option.some.inj (hz.symm.trans hy)
          cases this
    · simp only [List.map_cons, List.sum_cons] at hpo
      have e1 : pw (x, none) = 0 := rfl
      have e2 : pw (z, none) = 0 := rfl
      have e3 : n + 1 + 1 = n + 2 := rfl
      rw [e3] at hpo
      omega

/-- An element that points. -/
theorem CI.elP {ws : List Int} {L : List ByteArray} {cells : List Cl} {now : Nat → Int} {n T p : Nat} {t : Tr} {x : Int} (h : CI ws L cells now n T) (hx : cells[n]? = some (x, some t)) (ha : aloneT t = false) (hN : NewB ws L t x p) (hc : cells.length ≤ 16777216) :
    now p = 0 ∧ CI ws L ((cells ++ ownC ws p t).set n (ofW (tagT t) cells.length, some t)) (updN now p (ofW (tagT t) cells.length)) (n + 1) T ∧ ∀ v t', Pt L cells v t' → Pt L ((cells ++ ownC ws p t).set n (ofW (tagT t) cells.length, some t)) v t' := by
  have hl := get_lt hx
  have hd := drop_at hx
  have hg := h.gr
  have hnd := h.nd
  have hun := h.un
  have hpo := h.po
  rw [hd] at hg hnd hun hpo
  rw [List.flatMap_cons] at hnd hun
  have hpbx : pb ws (x, some t) = p :: (ownC ws p t).flatMap (pb ws) := hN.b_
  rw [hpbx] at hnd hun
  have h1 := List.nodup_append.1 hnd
  have h2 := List.nodup_cons.1 h1.1
  have hx' : (cells ++ ownC ws p t)[n]? = some (x, some t) := by rw [List.getElem?_append_left hl]; exact hx
  have hmono : ∀ v t', Pt L cells v t' → Pt L ((cells ++ ownC ws p t).set n (ofW (tagT t) cells.length, some t)) v t' := fun v t' hp => (hp.mono app_mono).mono (set_mono hx')
  have hds : ((cells ++ ownC ws p t).set n (ofW (tagT t) cells.length, some t)).drop (n + 1) = cells.drop (n + 1) ++ ownC ws p t := by
    rw [List.drop_set_of_lt (by omega), List.drop_append_of_le_length (by omega)]
  refine ⟨hun p (List.mem_append_left _ (List.mem_cons_self ..)), ⟨fun q y t' hq hy => ?_, fun q y t' hq hy => ?_, ?_, ?_, ?_, ?_, by simp; omega⟩, hmono⟩
  · rcases Nat.lt_or_ge q n with hq' | hq'
    · rw [List.getElem?_set_ne (by omega), List.getElem?_append_left (by omega)] at hy
      exact hmono _ _ (h.sc q y t' hq' hy)
    · obtain rfl : q = n := by omega
      rw [List.getElem?_set_self (by simp; omega)] at hy
      obtain ⟨rfl, e⟩ := Prod.mk.inj (Option.some.inj hy)
      obtain rfl := Option.some.inj e
      have hp : Pt L (cells ++ ownC ws p t) (ofW (tagT t) cells.length) t := Or.inr ⟨ha, cells.length, rfl, hc, hN.a_ cells⟩
      exact hp.mono (set_mono hx')
  · rw [List.getElem?_set_ne (by omega)] at hy
    rcases Nat.lt_or_ge q cells.length with hq' | hq'
    · rw [List.getElem?_append_left hq'] at hy
      exact h.pe q y t' (by omega) hy
    · rw [List.getElem?_append_right hq'] at hy
      exact hN.e_ _ y t' hy
  · rw [hds]
    cases hg with
    | el hr => exact hr.app hN.g_
  · rw [hds, List.flatMap_append]
    refine List.nodup_append.2 ⟨h1.2.1, h2.2, fun a ha' b hb e => ?_⟩
    exact h1.2.2 b (List.mem_cons_of_mem _ hb) a ha' e.symm
  · intro b hb
    rw [hds, List.flatMap_append] at hb
    unfold updN
    rcases List.mem_append.1 hb with hb | hb
    · rw [if_neg (fun e : b = p => h1.2.2 p (List.mem_cons_self ..) b hb e.symm)]
      exact hun b (List.mem_append_right _ hb)
    · rw [if_neg (fun e : b = p => h2.1 (e ▸ hb))]
      exact hun b (List.mem_append_left _ (List.mem_cons_of_mem _ hb))
  · rw [hds, List.map_append, List.sum_append, List.length_set, List.length_append]
    simp only [List.map_cons, List.sum_cons] at hpo
    have e1 : pw (x, some t) = wN t := rfl
    have := hN.w_
    omega

theorem CI.done {ws : List Int} {L : List ByteArray} {cells : List Cl} {now : Nat → Int} {T : Nat} (h : CI ws L cells now cells.length T) : cells.length = T ∧ ∀ t v, allT goodT t = true → Pt L cells v t → Rep (wds cells) L t v := by
  refine ⟨by have := h.po; simpa using this, fun t v hg hp => rep_pt (fun q x t' hq => h.sc q x t' (get_lt hq) hq) t hg v hp⟩
end Go.Proofs.YtmijabhnbmmmfaaGreat


