import Derived.Test.YtdpfmmbfidknfaaGreatDoorG15
/- A row of operators as a tree: parted at the loosest one. -/
namespace Go.Proofs.YtdpfmmbfidknfaaGreatDoor

/-- Whether a row of a level goes from the right. -/
def rgt (v : Nat) : Bool := v == 1 || v == 2 || v == 4
def lvAt (l : List Nat) (i : Nat) : Nat := lev (l.getD i 0)
/-- Whether a row is rather parted at i than at a. -/
def better (l : List Nat) (a i : Nat) : Bool := decide (lvAt l i < lvAt l a) || (decide (lvAt l i = lvAt l a) && !(rgt (lvAt l a)))
def splF (l : List Nat) : Nat → Nat → Nat → Nat
  | 0, _, a => a
  | k + 1, i, a => splF l k (i + 1) (if better l a i then i else a)
def spl (l : List Nat) : Nat := splF l (l.length - 1) 1 0

structure SplI (l : List Nat) (i a : Nat) : Prop where
  ai : a < i
  pre : ∀ j, j < a → lvAt l a ≤ lvAt l j ∧ (rgt (lvAt l a) = true → lvAt l a < lvAt l j)
  suf : ∀ j, a < j → j < i → lvAt l a ≤ lvAt l j ∧ (rgt (lvAt l a) = false → lvAt l a < lvAt l j)
theorem splI_step {l : List Nat} {i a : Nat} (h : SplI l i a) : SplI l (i + 1) (if better l a i then i else a) := by
  obtain ⟨h1, h2, h3⟩ := h
  by_cases hb : better l a i = true
  · rw [if_pos hb]
    unfold better at hb
    simp only [Bool.or_eq_true, Bool.and_eq_true, decide_eq_true_eq, Bool.not_eq_true'] at hb
    have low : ∀ j, j < i → lvAt l a ≤ lvAt l j := by
      intro j hj
      by_cases e : j < a
      · exact (h2 j e).1
      · by_cases e2 : a < j
        · exact (h3 j e2 hj).1
        · obtain rfl : j = a := by omega
          exact Nat.le_refl _
    refine ⟨by omega, fun j hj => ?_, fun j hj hj2 => by omega⟩
    have := low j hj
    rcases hb with hb | ⟨hb, hr⟩
    · exact ⟨by omega, fun _ => by omega⟩
    · rw [hb]
      exact ⟨this, fun h => by rw [hr] at h; cases h⟩
  · rw [if_neg hb]
    unfold better at hb
    simp only [Bool.or_eq_true, Bool.and_eq_true, decide_eq_true_eq, Bool.not_eq_true', not_or, not_and] at hb
    refine ⟨by omega, h2, fun j hj hj2 => ?_⟩
    by_cases e : j < i
    · exact h3 j hj e
    · obtain rfl : j = i := by omega
      refine ⟨by omega, fun h => ?_⟩
      rcases Nat.lt_or_ge (lvAt l a) (lvAt l j) with g | g
      · exact g
      · exact absurd h (hb.2 (by omega))
theorem splI_all {l : List Nat} : ∀ (k i a : Nat), SplI l i a → SplI l (i + k) (splF l k i a)
  | 0, i, a, h => h
  | k + 1, i, a, h => by
    have := splI_all k (i + 1) _ (splI_step h)
    rw [show i + (k + 1) = i + 1 + k by omega]
    exact this
theorem spl_ok {l : List Nat} (h : 0 < l.length) : spl l < l.length ∧ SplI l l.length (spl l) := by
  have h0 : SplI l 1 0 := ⟨by omega, fun j hj => by omega, fun j h1 h2 => by omega⟩
  have := splI_all (l.length - 1) 1 0 h0
  rw [show 1 + (l.length - 1) = l.length by omega] at this
  exact ⟨this.ai, this⟩

/-- The tree of a row: what lies left and right of where it is parted. -/
def tree : Nat → List Nat → List Nat → Ex
  | 0, x, _ => .d (x.headD 0)
  | k + 1, x, l => if l = [] then .d (x.headD 0) else .o (l.getD (spl l) 0) (tree k (x.take (spl l + 1)) (l.take (spl l))) (tree k (x.drop (spl l + 1)) (l.drop (spl l + 1)))
/-- All brackets. -/
def full : Ex → Ex
  | .d n => .d n
  | .o s l r => .br (.o s (full l) (full r))
  | .br e => .br (full e)
def Ok12 : Ex → Prop
  | .d n => n < 10
  | .o s l r => s < 12 ∧ Ok12 l ∧ Ok12 r
  | .br e => Ok12 e
namespace Ex
def hgt : Ex → Nat
  | d _ => 0
  | o _ l r => max (hgt l) (hgt r) + 1
  | br e => hgt e + 1
def noBr : Ex → Prop
  | d _ => True
  | o _ l r => noBr l ∧ noBr r
  | br _ => False
theorem full_sz : ∀ e : Ex, (full e).sz = e.sz
  | d _ => rfl
  | o _ l r => by simp only [full, sz, full_sz l, full_sz r]
  | br e => by simp only [full, sz, full_sz e]
theorem full_emit : ∀ (e : Ex) (b : Nat), (full e).emit b = e.emit b
  | d _, _ => rfl
  | o _ l r, b => by simp only [full, emit, full_emit l, full_emit r, full_sz]
  | br e, b => by simp only [full, emit, full_emit e]
theorem full_lo : ∀ e : Ex, (full e).lo = 7
  | d _ => rfl
  | o _ _ _ => rfl
  | br _ => rfl
theorem full_wf : ∀ e : Ex, Ok12 e → (full e).WF
  | d _, _ => trivial
  | o s l r, h => by
    have h6 := Gm.lev_in s h.1
    refine ⟨h.1, full_wf l h.2.1, full_wf r h.2.2, ?_⟩
    rw [full_lo, full_lo]
    unfold Side
    split
    · omega
    · split <;> omega
  | br e, h => full_wf e h
theorem full_dep : ∀ e : Ex, (full e).dep ≤ e.hgt
  | d _ => Nat.le_refl _
  | o _ l r => by have := full_dep l; have := full_dep r; simp only [full, dep, hgt]; omega
  | br e => by have := full_dep e; simp only [full, dep, hgt]; omega
theorem full_ok : ∀ e : Ex, Ok12 e → Ok12 (full e)
  | d _, h => h
  | o _ l r, h => ⟨h.1, full_ok l h.2.1, full_ok r h.2.2⟩
  | br e, h => full_ok e h
theorem noBr_dep : ∀ e : Ex, e.noBr → e.dep = 0
  | d _, _ => rfl
  | o _ l r, h => by simp only [dep, noBr_dep l h.1, noBr_dep r h.2, Nat.max_self]
end Ex

/-- Two that compare have something looser between them. -/
def Cmp1 (l : List Nat) : Prop := ∀ i j, i < j → j < l.length → lvAt l i = 3 → lvAt l j = 3 → ∃ k, i < k ∧ k < j ∧ lvAt l k < 3
theorem lvAt_take {l : List Nat} {n i : Nat} (h : i < n) : lvAt (l.take n) i = lvAt l i := by
  unfold lvAt
  rw [List.getD_eq_getElem?_getD, List.getD_eq_getElem?_getD, List.getElem?_take_of_lt h]
theorem lvAt_drop {l : List Nat} {n i : Nat} : lvAt (l.drop n) i = lvAt l (n + i) := by
  unfold lvAt
  rw [List.getD_eq_getElem?_getD, List.getD_eq_getElem?_getD, List.getElem?_drop]
theorem Cmp1.take {l : List Nat} (h : Cmp1 l) (n : Nat) : Cmp1 (l.take n) := by
  intro i j hij hj h1 h2
  rw [List.length_take] at hj
  rw [lvAt_take (by omega)] at h1 h2
  obtain ⟨k, a, b, c⟩ := h i j hij (by omega) h1 h2
  exact ⟨k, a, b, by rw [lvAt_take (by omega)]; exact c⟩
theorem Cmp1.drop {l : List Nat} (h : Cmp1 l) (n : Nat) : Cmp1 (l.drop n) := by
  intro i j hij hj h1 h2
  rw [List.length_drop] at hj
  rw [lvAt_drop] at h1 h2
  obtain ⟨k, a, b, c⟩ := h (n + i) (n + j) (by omega) (by omega) h1 h2
  exact ⟨k - n, by omega, by omega, by rw [lvAt_drop, show n + (k - n) = k by omega]; exact c⟩

structure TreeOk (e : Ex) (l : List Nat) : Prop where
  wf : e.WF
  ok : Ok12 e
  nb : e.noBr
  hg : e.hgt ≤ l.length
  sz : e.sz = 2 * l.length + 1
  lo : e.lo = 7 ∧ l = [] ∨ ∃ j, j < l.length ∧ e.lo = lvAt l j
theorem tree_ok : ∀ (k : Nat) (x l : List Nat), l.length ≤ k → x.length = l.length + 1 → (∀ s ∈ l, s < 12) → (∀ n ∈ x, n < 10) → Cmp1 l → TreeOk (tree k x l) l := by
  intro k
  induction k with
  | zero =>
    intro x l hl hx hs hd hc
    obtain rfl : l = [] := List.eq_nil_of_length_eq_zero (by omega)
    cases x with
    | nil => simp at hx
    | cons a x => exact ⟨trivial, hd a (by simp), trivial, by simp [tree, Ex.hgt], by simp [tree, Ex.sz], .inl ⟨rfl, rfl⟩⟩
  | succ k ih =>
    intro x l hl hx hs hd hc
    by_cases h0 : l = []
    · subst h0
      simp only [tree, if_true]
      cases x with
      | nil => simp at hx
      | cons a x => exact ⟨trivial, hd a (by simp), trivial, by simp [Ex.hgt], by simp [Ex.sz], .inl ⟨rfl, rfl⟩⟩
    · have hl0 : 0 < l.length := List.length_pos_iff.2 h0
      obtain ⟨hn, hI⟩ := spl_ok hl0
      simp only [tree, if_neg h0]
      obtain ⟨n, hnn⟩ : ∃ n, spl l = n := ⟨_, rfl⟩
      rw [hnn] at hn hI ⊢
      have A := ih (x.take (n + 1)) (l.take n) (by rw [List.length_take]; omega) (by rw [List.length_take, List.length_take]; omega) (fun s h => hs s (List.mem_of_mem_take h)) (fun s h => hd s (List.mem_of_mem_take h)) (hc.take n)
      have B := ih (x.drop (n + 1)) (l.drop (n + 1)) (by rw [List.length_drop]; omega) (by rw [List.length_drop, List.length_drop]; omega) (fun s h => hs s (List.mem_of_mem_drop h)) (fun s h => hd s (List.mem_of_mem_drop h)) (hc.drop (n + 1))
      have hsn : l.getD n 0 < 12 := by
        rw [List.getD_eq_getElem?_getD, List.getElem?_eq_getElem hn]
        exact hs _ (List.getElem_mem hn)
      obtain ⟨v, hv⟩ : ∃ v, lvAt l n = v := ⟨_, rfl⟩
      have hv2 : lev (l.getD n 0) = v := hv
      obtain ⟨v1, v6⟩ := Gm.lev_in _ hsn
      rw [hv2] at v1 v6
      have loL : v ≤ (tree k (x.take (n + 1)) (l.take n)).lo ∧ ((rgt v = true ∨ v = 3) → v < (tree k (x.take (n + 1)) (l.take n)).lo) := by
        rcases A.lo with ⟨h1, -⟩ | ⟨j, hj, he⟩
        · rw [h1]; exact ⟨by omega, fun _ => by omega⟩
        · rw [List.length_take] at hj
          rw [he, lvAt_take (by omega)]
          have hp := hI.pre j (by omega)
          rw [hv] at hp
          refine ⟨hp.1, fun hr => ?_⟩
          rcases hr with hr | rfl
          · exact hp.2 hr
          · rcases Nat.lt_or_ge 3 (lvAt l j) with g | g
            · exact g
            · exfalso
              obtain ⟨q, q1, q2, q3⟩ := hc j n (by omega) hn (by omega) hv
              have := (hI.pre q q2).1
              omega
      have loR : v ≤ (tree k (x.drop (n + 1)) (l.drop (n + 1))).lo ∧ (rgt v = false → v < (tree k (x.drop (n + 1)) (l.drop (n + 1))).lo) := by
        rcases B.lo with ⟨h1, -⟩ | ⟨j, hj, he⟩
        · rw [h1]; exact ⟨by omega, fun _ => by omega⟩
        · rw [List.length_drop] at hj
          rw [he, lvAt_drop]
          have hp := hI.suf (n + 1 + j) (by omega) (by omega)
          rw [hv] at hp
          exact hp
      have hg1 := A.hg
      have hg2 := B.hg
      have sz1 := A.sz
      have sz2 := B.sz
      rw [List.length_take] at hg1 sz1
      rw [List.length_drop] at hg2 sz2
      refine ⟨⟨hsn, A.wf, B.wf, ?_⟩, ⟨hsn, A.ok, B.ok⟩, ⟨A.nb, B.nb⟩, by simp only [Ex.hgt]; omega, by simp only [Ex.sz]; omega, .inr ⟨n, hn, rfl⟩⟩
      rw [hv2]
      have : v = 1 ∨ v = 2 ∨ v = 3 ∨ v = 4 ∨ v = 5 ∨ v = 6 := by omega
      rcases this with rfl | rfl | rfl | rfl | rfl | rfl
      · exact ⟨loL.2 (.inl rfl), loR.1⟩
      · exact ⟨loL.2 (.inl rfl), loR.1⟩
      · exact ⟨loL.2 (.inr rfl), loR.2 rfl⟩
      · exact ⟨loL.2 (.inl rfl), loR.1⟩
      · exact ⟨loL.1, loR.2 rfl⟩
      · exact ⟨loL.1, loR.2 rfl⟩

/-- The bytes of operators, of what is written. -/
def opB (s : Nat) : List UInt8 := (opX s).data.toList
def dB (n : Nat) : UInt8 := UInt8.ofNat (48 + n)
def txt : Ex → List UInt8
  | .d n => [dB n]
  | .o s l r => txt l ++ 32 :: (opB s ++ 32 :: txt r)
  | .br e => 40 :: (txt e ++ [41])
def rowB : List Nat → List Nat → List UInt8
  | [], _ => []
  | x :: _, [] => [dB x]
  | x :: xs, s :: l => dB x :: 32 :: (opB s ++ 32 :: rowB xs l)
theorem rowB_cut (s : Nat) : ∀ (l1 l2 x1 x2 : List Nat), x1.length = l1.length + 1 → rowB (x1 ++ x2) (l1 ++ s :: l2) = rowB x1 l1 ++ 32 :: (opB s ++ 32 :: rowB x2 l2)
  | [], l2, x1, x2, h => by
    obtain ⟨a, rfl⟩ : ∃ a, x1 = [a] := List.length_eq_one_iff.1 h
    rfl
  | b :: l1, l2, x1, x2, h => by
    cases x1 with
    | nil => simp at h
    | cons a x1 =>
      have ih := rowB_cut s l1 l2 x1 x2 (by simpa using h)
      show dB a :: 32 :: (opB b ++ 32 :: rowB (x1 ++ x2) (l1 ++ s :: l2)) = _
      rw [ih]
      show _ = (dB a :: 32 :: (opB b ++ 32 :: rowB x1 l1)) ++ _
      simp only [List.cons_append, List.append_assoc]
theorem tree_txt : ∀ (k : Nat) (x l : List Nat), l.length ≤ k → x.length = l.length + 1 → txt (tree k x l) = rowB x l := by
  intro k
  induction k with
  | zero =>
    intro x l hl hx
    obtain rfl : l = [] := List.eq_nil_of_length_eq_zero (by omega)
    cases x with
    | nil => simp at hx
    | cons a x => rfl
  | succ k ih =>
    intro x l hl hx
    by_cases h0 : l = []
    · subst h0
      simp only [tree, if_true]
      cases x with
      | nil => simp at hx
      | cons a x => rfl
    · obtain ⟨hn, -⟩ := spl_ok (List.length_pos_iff.2 h0)
      simp only [tree, if_neg h0]
      obtain ⟨n, hnn⟩ : ∃ n, spl l = n := ⟨_, rfl⟩
      rw [hnn] at hn ⊢
      simp only [txt]
      rw [ih _ _ (by rw [List.length_take]; omega) (by rw [List.length_take, List.length_take]; omega), ih _ _ (by rw [List.length_drop]; omega) (by rw [List.length_drop, List.length_drop]; omega)]
      rw [← rowB_cut _ _ _ _ _ (by rw [List.length_take, List.length_take]; omega), List.take_append_drop]
      congr 1
      have : l.getD n 0 :: l.drop (n + 1) = l.drop n := by
        rw [List.getD_eq_getElem?_getD, List.getElem?_eq_getElem hn, List.drop_eq_getElem_cons hn]
        rfl
      rw [this, List.take_append_drop]
end Go.Proofs.YtdpfmmbfidknfaaGreatDoor


/- A module of one function whose body is one expression. -/
namespace Go.Proofs.YtdpfmmbfidknfaaGreatDoor
open Gm

def headT : List Tk := [⟨6, ⟨#[45]⟩, 0, 0, 0⟩, ⟨1, ⟨#[109, 111, 100, 117, 108, 101]⟩, 0, 0, 0⟩, ⟨6, ⟨#[40]⟩, 0, 0, 0⟩, ⟨1, ⟨#[109]⟩, 0, 0, 0⟩, ⟨6, ⟨#[41]⟩, 0, 0, 0⟩, ⟨6, ⟨#[46]⟩, 0, 0, 0⟩, ⟨1, ⟨#[102]⟩, 0, 0, 0⟩, ⟨6, ⟨#[40]⟩, 0, 0, 0⟩, ⟨6, ⟨#[41]⟩, 0, 0, 0⟩, ⟨6, ⟨#[45, 62]⟩, 0, 0, 0⟩]
def dotT : Tk := ⟨6, ⟨#[46]⟩, 0, 0, 0⟩
def endT : Tk := ⟨8, ⟨#[]⟩, 0, 0, 0⟩
def srcT (e : Ex) : List Tk := headT ++ (e.toks ++ [dotT, endT])
def ndOf (e : Ex) : List Nd :=
  [⟨22, ⟨#[]⟩, 0, 0, [], 0⟩] ++ e.emit 1 ++ [⟨19, ⟨#[]⟩, 0, 0, [e.sz], 0⟩] ++ [⟨21, ⟨#[102]⟩, 0, 0, [0, e.sz + 1], 0⟩] ++ [⟨20, ⟨#[]⟩, 0, 0, [e.sz + 2], 0⟩] ++ [⟨23, ⟨#[102]⟩, 0, 0, [e.sz + 3], 0⟩] ++ [⟨24, ⟨#[109]⟩, 0, 0, [e.sz + 4], 0⟩]
theorem noOp_dot : NoOp 0 dotT := ⟨rfl, fun _ => rfl, fun _ => rfl, fun _ => rfl, fun _ => rfl, fun _ => rfl, fun _ => rfl, fun _ => ⟨rfl, rfl⟩⟩

theorem needK_b {β : Type} {k : Int} {f : Tk → PM β} {s : PS} (h : (hd s).k = k) : (needK k >>= f) s = f (hd s) (cut s) := by
  rw [bind_at]; unfold needK; rw [if_pos h]
theorem expr_at (k : Nat) (s : PS) : expr (k + 1) s = (if s.o = 200 then .error (25, (hd s).p) else match opened (expr k) { s with o := s.o + 1 } with
      | .error e => .error e
      | .ok (x, s') => .ok (x, { s' with o := s'.o - 1 })) := rfl
theorem functionOf_at (e : PM Nat) (s : PS) : functionOf e s = match clauses (fclause e) s with
    | .error x => .error x
    | .ok (c, s1) => match need ⟨#[46]⟩ s1 with
      | .error x => .error x
      | .ok (_, s2) => lay ⟨23, (s2.ns.getD ((s2.ns.getD c ⟨0, ⟨#[]⟩, 0, 0, [], 0⟩).l.headD 0) ⟨0, ⟨#[]⟩, 0, 0, [], 0⟩).x, (s2.ns.getD ((s2.ns.getD c ⟨0, ⟨#[]⟩, 0, 0, [], 0⟩).l.headD 0) ⟨0, ⟨#[]⟩, 0, 0, [], 0⟩).n, 0, [c], (hd s).p⟩ s2 := by
  unfold functionOf
  rw [here_b]
  cases h1 : clauses (fclause e) s with
  | error x => rw [bind_at, h1]
  | ok p =>
    obtain ⟨c, s1⟩ := p
    rw [bind_at, h1]
    simp only
    cases h2 : need ⟨#[46]⟩ s1 with
    | error x =>
      refine (bind_at (need ⟨#[46]⟩) _ s1).trans ?_
      rw [h2]
    | ok q =>
      refine (bind_at (need ⟨#[46]⟩) _ s1).trans ?_
      rw [h2]
theorem body_ok (e : Ex) (hw : e.WF) (hd' : e.dep ≤ 199) (hz : e.sz ≤ 16000) (ns : List Nd) (hn : ns.length ≤ 10) : body (expr 201) ⟨e.toks ++ [dotT, endT], ns, 0⟩ = .ok (ns.length + e.sz, ⟨[dotT, endT], ns ++ e.emit ns.length ++ [⟨19, ⟨#[]⟩, 0, 0, [ns.length + e.sz - 1], 0⟩], 0⟩) := by
  have hE : expr 201 ⟨e.toks ++ [dotT, endT], ns, 0⟩ = .ok (ns.length + e.sz - 1, ⟨[dotT, endT], ns ++ e.emit ns.length, 0⟩) := by
    have h := read_all e.big e (Nat.le_refl _) 200 1 hw (by omega) (by omega) 0 (by omega) (by omega) dotT [endT] ns noOp_dot (by omega)
    have h' : opened (expr 200) ⟨e.toks ++ [dotT, endT], ns, 0 + 1⟩ = .ok (ns.length + e.sz - 1, ⟨[dotT, endT], ns ++ e.emit ns.length, 0 + 1⟩) := h
    have he := expr_at 200 ⟨e.toks ++ [dotT, endT], ns, 0⟩
    rw [if_neg (by simp), h'] at he
    exact he
  unfold body group exprs
  rw [here_b, first_p, bind_at, run_b hE, left_b]
  have hm : more (expr 201) noBound ([dotT, endT] : List Tk).length [ns.length + e.sz - 1] ⟨[dotT, endT], ns ++ e.emit ns.length, 0⟩ = .ok ([ns.length + e.sz - 1], ⟨[dotT, endT], ns ++ e.emit ns.length, 0⟩) := by
    show more (expr 201) noBound (1 + 1) _ _ = _
    simp only [more]
    rw [take_no (by rfl), if_neg (by simp)]
    rfl
  rw [hm]
  show lay _ _ = _
  rw [lay_ok _ _ _ _ (by rw [List.length_append, Ex.emit_len]; omega)]
  simp only [List.length_append, Ex.emit_len]

theorem whole (e : Ex) (hw : e.WF) (hd' : e.dep ≤ 199) (hz : e.sz ≤ 16000) : module (expr 201) ⟨srcT e, [], 0⟩ = .ok (e.sz + 5, ⟨[endT], ndOf e, 0⟩) := by
  have hb := body_ok e hw hd' hz [⟨22, ⟨#[]⟩, 0, 0, [], 0⟩] (by simp)
  simp only [List.length_singleton] at hb
  have hc : fclause (expr 201) ⟨(⟨1, ⟨#[102]⟩, 0, 0, 0⟩ : Tk) :: ⟨6, ⟨#[40]⟩, 0, 0, 0⟩ :: ⟨6, ⟨#[41]⟩, 0, 0, 0⟩ :: ⟨6, ⟨#[45, 62]⟩, 0, 0, 0⟩ :: (e.toks ++ [dotT, endT]), [], 0⟩ = .ok (e.sz + 2, ⟨[dotT, endT], [⟨22, ⟨#[]⟩, 0, 0, [], 0⟩] ++ e.emit 1 ++ [⟨19, ⟨#[]⟩, 0, 0, [e.sz], 0⟩] ++ [⟨21, ⟨#[102]⟩, 0, 0, [0, e.sz + 1], 0⟩], 0⟩) := by
    unfold fclause
    rw [needK_b (by rfl)]
    have ha : args (expr 201) (cut ⟨(⟨1, ⟨#[102]⟩, 0, 0, 0⟩ : Tk) :: ⟨6, ⟨#[40]⟩, 0, 0, 0⟩ :: ⟨6, ⟨#[41]⟩, 0, 0, 0⟩ :: ⟨6, ⟨#[45, 62]⟩, 0, 0, 0⟩ :: (e.toks ++ [dotT, endT]), [], 0⟩) = .ok ([], ⟨⟨6, ⟨#[45, 62]⟩, 0, 0, 0⟩ :: (e.toks ++ [dotT, endT]), [], 0⟩) := by
      unfold args
      rw [need_b (by rfl), take_yes (by rfl)]
      rfl
    rw [run_b ha]
    unfold tail
    have hg : Gm.guard (expr 201) ⟨(⟨6, ⟨#[45, 62]⟩, 0, 0, 0⟩ : Tk) :: (e.toks ++ [dotT, endT]), [], 0⟩ = .ok (0, ⟨⟨6, ⟨#[45, 62]⟩, 0, 0, 0⟩ :: (e.toks ++ [dotT, endT]), [⟨22, ⟨#[]⟩, 0, 0, [], 0⟩], 0⟩) := by
      unfold Gm.guard
      rw [take_no (by rfl), if_neg (by simp)]
      rfl
    rw [run_b hg, need_b (by rfl)]
    have hcut : cut ⟨(⟨6, ⟨#[45, 62]⟩, 0, 0, 0⟩ : Tk) :: (e.toks ++ [dotT, endT]), [⟨22, ⟨#[]⟩, 0, 0, [], 0⟩], 0⟩ = ⟨e.toks ++ [dotT, endT], [⟨22, ⟨#[]⟩, 0, 0, [], 0⟩], 0⟩ := rfl
    rw [hcut, run_b hb, lay_ok _ _ _ _ (by simp only [List.length_append, Ex.emit_len, List.length_singleton]; omega)]
    simp only [List.length_append, Ex.emit_len, List.length_singleton, List.length_nil]
    rw [show 1 + e.sz - 1 = e.sz by omega, show 1 + e.sz + 1 = e.sz + 2 by omega, show 1 + e.sz = e.sz + 1 by omega]
    rfl
  have hf : functionOf (expr 201) ⟨(⟨1, ⟨#[102]⟩, 0, 0, 0⟩ : Tk) :: ⟨6, ⟨#[40]⟩, 0, 0, 0⟩ :: ⟨6, ⟨#[41]⟩, 0, 0, 0⟩ :: ⟨6, ⟨#[45, 62]⟩, 0, 0, 0⟩ :: (e.toks ++ [dotT, endT]), [], 0⟩ = .ok (e.sz + 4, ⟨[endT], [⟨22, ⟨#[]⟩, 0, 0, [], 0⟩] ++ e.emit 1 ++ [⟨19, ⟨#[]⟩, 0, 0, [e.sz], 0⟩] ++ [⟨21, ⟨#[102]⟩, 0, 0, [0, e.sz + 1], 0⟩] ++ [⟨20, ⟨#[]⟩, 0, 0, [e.sz + 2], 0⟩] ++ [⟨23, ⟨#[102]⟩, 0, 0, [e.sz + 3], 0⟩], 0⟩) := by
    have hcl : clauses (fclause (expr 201)) ⟨(⟨1, ⟨#[102]⟩, 0, 0, 0⟩ : Tk) :: ⟨6, ⟨#[40]⟩, 0, 0, 0⟩ :: ⟨6, ⟨#[41]⟩, 0, 0, 0⟩ :: ⟨6, ⟨#[45, 62]⟩, 0, 0, 0⟩ :: (e.toks ++ [dotT, endT]), [], 0⟩ = .ok (e.sz + 3, ⟨[dotT, endT], [⟨22, ⟨#[]⟩, 0, 0, [], 0⟩] ++ e.emit 1 ++ [⟨19, ⟨#[]⟩, 0, 0, [e.sz], 0⟩] ++ [⟨21, ⟨#[102]⟩, 0, 0, [0, e.sz + 1], 0⟩] ++ [⟨20, ⟨#[]⟩, 0, 0, [e.sz + 2], 0⟩], 0⟩) := by
      unfold clauses
      rw [here_b, run_b hc, left_b]
      have hm : moreC (fclause (expr 201)) ([dotT, endT] : List Tk).length [e.sz + 2] ⟨[dotT, endT], [⟨22, ⟨#[]⟩, 0, 0, [], 0⟩] ++ e.emit 1 ++ [⟨19, ⟨#[]⟩, 0, 0, [e.sz], 0⟩] ++ [⟨21, ⟨#[102]⟩, 0, 0, [0, e.sz + 1], 0⟩], 0⟩ = .ok ([e.sz + 2], ⟨[dotT, endT], [⟨22, ⟨#[]⟩, 0, 0, [], 0⟩] ++ e.emit 1 ++ [⟨19, ⟨#[]⟩, 0, 0, [e.sz], 0⟩] ++ [⟨21, ⟨#[102]⟩, 0, 0, [0, e.sz + 1], 0⟩], 0⟩) := by
        show moreC _ (1 + 1) _ _ = _
        simp only [moreC]
        rw [take_no (by rfl), if_neg (by simp)]
        rfl
      rw [run_b hm, lay_ok _ _ _ _ (by simp only [List.length_append, Ex.emit_len, List.length_singleton]; omega)]
      simp only [List.length_append, Ex.emit_len, List.length_singleton]
      rw [show 1 + e.sz + 1 + 1 = e.sz + 3 by omega]
      rfl
    have hne : ∀ ns : List Nd, need ⟨#[46]⟩ ⟨[dotT, endT], ns, 0⟩ = .ok ((), ⟨[endT], ns, 0⟩) := fun ns => rfl
    rw [functionOf_at, hcl]
    simp only [hne]
    have g1 : ([⟨22, ⟨#[]⟩, 0, 0, [], 0⟩] ++ e.emit 1 ++ [⟨19, ⟨#[]⟩, 0, 0, [e.sz], 0⟩] ++ [⟨21, ⟨#[102]⟩, 0, 0, [0, e.sz + 1], 0⟩] ++ [⟨20, ⟨#[]⟩, 0, 0, [e.sz + 2], 0⟩] : List Nd).getD (e.sz + 3) ⟨0, ⟨#[]⟩, 0, 0, [], 0⟩ = ⟨20, ⟨#[]⟩, 0, 0, [e.sz + 2], 0⟩ := by
      rw [List.getD_eq_getElem?_getD, List.getElem?_append_right (by simp only [List.length_append, Ex.emit_len, List.length_singleton]; omega)]
      simp only [List.length_append, Ex.emit_len, List.length_singleton]
      rw [show e.sz + 3 - (1 + e.sz + 1 + 1) = 0 by omega]
      rfl
    have g2 : ([⟨22, ⟨#[]⟩, 0, 0, [], 0⟩] ++ e.emit 1 ++ [⟨19, ⟨#[]⟩, 0, 0, [e.sz], 0⟩] ++ [⟨21, ⟨#[102]⟩, 0, 0, [0, e.sz + 1], 0⟩] ++ [⟨20, ⟨#[]⟩, 0, 0, [e.sz + 2], 0⟩] : List Nd).getD (e.sz + 2) ⟨0, ⟨#[]⟩, 0, 0, [], 0⟩ = ⟨21, ⟨#[102]⟩, 0, 0, [0, e.sz + 1], 0⟩ := by
      rw [List.getD_eq_getElem?_getD, List.getElem?_append_left (by simp only [List.length_append, Ex.emit_len, List.length_singleton]; omega), List.getElem?_append_right (by simp only [List.length_append, Ex.emit_len, List.length_singleton]; omega)]
      simp only [List.length_append, Ex.emit_len, List.length_singleton]
      rw [show e.sz + 2 - (1 + e.sz + 1) = 0 by omega]
      rfl
    simp only [g1, List.headD_cons, g2]
    rw [lay_ok _ _ _ _ (by simp only [List.length_append, Ex.emit_len, List.length_singleton]; omega)]
    simp only [List.length_append, Ex.emit_len, List.length_singleton]
    rw [show 1 + e.sz + 1 + 1 + 1 = e.sz + 4 by omega]
    rfl
  have hfs : functions (expr 201) (4 + (e.toks ++ [dotT, endT]).length) [] ⟨(⟨1, ⟨#[102]⟩, 0, 0, 0⟩ : Tk) :: ⟨6, ⟨#[40]⟩, 0, 0, 0⟩ :: ⟨6, ⟨#[41]⟩, 0, 0, 0⟩ :: ⟨6, ⟨#[45, 62]⟩, 0, 0, 0⟩ :: (e.toks ++ [dotT, endT]), [], 0⟩ = .ok ([e.sz + 4], ⟨[endT], [⟨22, ⟨#[]⟩, 0, 0, [], 0⟩] ++ e.emit 1 ++ [⟨19, ⟨#[]⟩, 0, 0, [e.sz], 0⟩] ++ [⟨21, ⟨#[102]⟩, 0, 0, [0, e.sz + 1], 0⟩] ++ [⟨20, ⟨#[]⟩, 0, 0, [e.sz + 2], 0⟩] ++ [⟨23, ⟨#[102]⟩, 0, 0, [e.sz + 3], 0⟩], 0⟩) := by
    obtain ⟨k, hk⟩ : ∃ k, 4 + (e.toks ++ [dotT, endT]).length = k + 1 + 1 := ⟨2 + (e.toks ++ [dotT, endT]).length, by omega⟩
    rw [hk]
    simp only [functions]
    rw [here_b, if_neg (by show ¬ (1 : Int) = 8; omega), run_b hf]
    rw [here_b, if_pos (by rfl)]
    rfl
  unfold module
  have e1 : srcT e = (⟨6, ⟨#[45]⟩, 0, 0, 0⟩ : Tk) :: ⟨1, ⟨#[109, 111, 100, 117, 108, 101]⟩, 0, 0, 0⟩ :: ⟨6, ⟨#[40]⟩, 0, 0, 0⟩ :: ⟨1, ⟨#[109]⟩, 0, 0, 0⟩ :: ⟨6, ⟨#[41]⟩, 0, 0, 0⟩ :: ⟨6, ⟨#[46]⟩, 0, 0, 0⟩ :: ⟨1, ⟨#[102]⟩, 0, 0, 0⟩ :: ⟨6, ⟨#[40]⟩, 0, 0, 0⟩ :: ⟨6, ⟨#[41]⟩, 0, 0, 0⟩ :: ⟨6, ⟨#[45, 62]⟩, 0, 0, 0⟩ :: (e.toks ++ [dotT, endT]) := rfl
  rw [e1, here_b, need_b (by rfl), here_b, if_pos (by rfl), next_b, need_b (by rfl), needK_b (by rfl), need_b (by rfl), need_b (by rfl), left_b]
  have e2 : cut (cut (cut (cut (cut (cut ⟨(⟨6, ⟨#[45]⟩, 0, 0, 0⟩ : Tk) :: ⟨1, ⟨#[109, 111, 100, 117, 108, 101]⟩, 0, 0, 0⟩ :: ⟨6, ⟨#[40]⟩, 0, 0, 0⟩ :: ⟨1, ⟨#[109]⟩, 0, 0, 0⟩ :: ⟨6, ⟨#[41]⟩, 0, 0, 0⟩ :: ⟨6, ⟨#[46]⟩, 0, 0, 0⟩ :: ⟨1, ⟨#[102]⟩, 0, 0, 0⟩ :: ⟨6, ⟨#[40]⟩, 0, 0, 0⟩ :: ⟨6, ⟨#[41]⟩, 0, 0, 0⟩ :: ⟨6, ⟨#[45, 62]⟩, 0, 0, 0⟩ :: (e.toks ++ [dotT, endT]), [], 0⟩))))) = ⟨(⟨1, ⟨#[102]⟩, 0, 0, 0⟩ : Tk) :: ⟨6, ⟨#[40]⟩, 0, 0, 0⟩ :: ⟨6, ⟨#[41]⟩, 0, 0, 0⟩ :: ⟨6, ⟨#[45, 62]⟩, 0, 0, 0⟩ :: (e.toks ++ [dotT, endT]), [], 0⟩ := rfl
  rw [e2]
  have e3 : ((⟨1, ⟨#[102]⟩, 0, 0, 0⟩ : Tk) :: ⟨6, ⟨#[40]⟩, 0, 0, 0⟩ :: ⟨6, ⟨#[41]⟩, 0, 0, 0⟩ :: ⟨6, ⟨#[45, 62]⟩, 0, 0, 0⟩ :: (e.toks ++ [dotT, endT])).length = 4 + (e.toks ++ [dotT, endT]).length := by simp only [List.length_cons]; omega
  simp only [e3]
  rw [run_b hfs, lay_ok _ _ _ _ (by simp only [List.length_append, Ex.emit_len, List.length_singleton]; omega)]
  simp only [List.length_append, Ex.emit_len, List.length_singleton, ndOf]
  rw [show 1 + e.sz + 1 + 1 + 1 + 1 = e.sz + 5 by omega]
  rfl
end Go.Proofs.YtdpfmmbfidknfaaGreatDoor


