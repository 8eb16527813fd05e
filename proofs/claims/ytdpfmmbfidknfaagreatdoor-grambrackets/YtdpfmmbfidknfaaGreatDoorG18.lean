import Derived.Test.YtdpfmmbfidknfaaGreatDoorG17
/- A module of our kind, taken apart; and put together. -/
namespace Go.Proofs.YtdpfmmbfidknfaaGreatDoor
namespace Gm

def gN : Nd := ⟨22, ⟨#[]⟩, 0, 0, [], 0⟩
/-- The tokens of a function f without arguments, and a body. -/
def fT (B : List Tk) : List Tk := (⟨1, ⟨#[102]⟩, 0, 0, 0⟩ : Tk) :: ⟨6, ⟨#[40]⟩, 0, 0, 0⟩ :: ⟨6, ⟨#[41]⟩, 0, 0, 0⟩ :: ⟨6, ⟨#[45, 62]⟩, 0, 0, 0⟩ :: B
theorem fclause_at (E : PM Nat) (B : List Tk) : fclause E ⟨fT B, [], 0⟩ = (body E >>= fun b => lay ⟨21, ⟨#[102]⟩, 0, 0, [0, b], 0⟩ : PM Nat) ⟨B, [gN], 0⟩ := by
  unfold fclause
  rw [needK_b (by rfl)]
  have ha : args E (cut ⟨fT B, [], 0⟩) = .ok ([], ⟨⟨6, ⟨#[45, 62]⟩, 0, 0, 0⟩ :: B, [], 0⟩) := by
    unfold args
    rw [need_b (by rfl), take_yes (by rfl)]
    rfl
  rw [run_b ha]
  unfold tail
  have hg : Gm.guard E ⟨(⟨6, ⟨#[45, 62]⟩, 0, 0, 0⟩ : Tk) :: B, [], 0⟩ = .ok (0, ⟨⟨6, ⟨#[45, 62]⟩, 0, 0, 0⟩ :: B, [gN], 0⟩) := by
    unfold Gm.guard
    rw [take_no (by rfl), if_neg (by simp)]
    rfl
  rw [run_b hg, need_b (by rfl)]
  rfl
theorem module_at (E : PM Nat) (B : List Tk) : module E ⟨headT ++ B, [], 0⟩ = (functions E (4 + B.length) [] >>= fun l => lay ⟨24, ⟨#[109]⟩, 0, 0, l, 0⟩ : PM Nat) ⟨fT B, [], 0⟩ := by
  unfold module
  have e1 : headT ++ B = (⟨6, ⟨#[45]⟩, 0, 0, 0⟩ : Tk) :: ⟨1, ⟨#[109, 111, 100, 117, 108, 101]⟩, 0, 0, 0⟩ :: ⟨6, ⟨#[40]⟩, 0, 0, 0⟩ :: ⟨1, ⟨#[109]⟩, 0, 0, 0⟩ :: ⟨6, ⟨#[41]⟩, 0, 0, 0⟩ :: ⟨6, ⟨#[46]⟩, 0, 0, 0⟩ :: fT B := rfl
  rw [e1, here_b, need_b (by rfl), here_b, if_pos (by rfl), next_b, need_b (by rfl), needK_b (by rfl), need_b (by rfl), need_b (by rfl), left_b]
  have e2 : cut (cut (cut (cut (cut (cut ⟨(⟨6, ⟨#[45]⟩, 0, 0, 0⟩ : Tk) :: ⟨1, ⟨#[109, 111, 100, 117, 108, 101]⟩, 0, 0, 0⟩ :: ⟨6, ⟨#[40]⟩, 0, 0, 0⟩ :: ⟨1, ⟨#[109]⟩, 0, 0, 0⟩ :: ⟨6, ⟨#[41]⟩, 0, 0, 0⟩ :: ⟨6, ⟨#[46]⟩, 0, 0, 0⟩ :: fT B, [], 0⟩))))) = ⟨fT B, [], 0⟩ := rfl
  rw [e2]
  have e3 : (fT B).length = 4 + B.length := by simp only [fT, List.length_cons]; omega
  simp only [e3]
  rfl

theorem all_functionOf {e : PM Nat} (he : All e) : All (functionOf e) := by
  intro s hn b t hb
  rw [functionOf_at] at hb
  cases hcl : clauses (fclause e) s with
  | error er => rw [hcl] at hb; cases hb
  | ok q =>
    obtain ⟨ic, v1⟩ := q
    rw [hcl] at hb
    simp only at hb
    obtain ⟨f1, n1⟩ := all_clauses (all_fclause he) s hn _ _ hcl
    cases hnd : need ⟨#[46]⟩ v1 with
    | error er => rw [hnd] at hb; cases hb
    | ok q2 =>
      obtain ⟨un, v2⟩ := q2
      rw [hnd] at hb
      simp only at hb
      obtain ⟨f2, n2⟩ := all_need _ v1 n1 _ _ hnd
      obtain ⟨f3, n3⟩ := all_lay _ v2 n2 _ _ hb
      exact ⟨(f1.trans f2).trans f3, n3⟩
theorem all_functions {e : PM Nat} (he : All e) : ∀ k l, All (functions e k l)
  | 0, _ => all_pure _
  | k + 1, _ => all_on fun s => good_ite (fun _ => all_pure _ s) fun _ => all_bind (all_functionOf he) (fun _ => all_functions he k _) s

/-- What stands in a tree that is told. -/
structure Inv (B : List Tk) (r : Nat) (s : PS) (l0 lc lf : List Nat) (t0 : PS) (z1 z2 : List Nd) : Prop where
  ex : exprs (expr 201) noBound ⟨B, [gN], 0⟩ = .ok (l0, t0)
  ns : ∃ (p1 p2 : Nat) (x : ByteArray) (n : Int) (p3 : Nat), s.ns = t0.ns ++ (⟨19, ⟨#[]⟩, 0, 0, l0, p1⟩ :: ⟨21, ⟨#[102]⟩, 0, 0, [0, t0.ns.length], 0⟩ :: (z1 ++ (⟨20, ⟨#[]⟩, 0, 0, lc, p2⟩ :: ⟨23, x, n, 0, [t0.ns.length + 2 + z1.length], p3⟩ :: (z2 ++ [⟨24, ⟨#[109]⟩, 0, 0, lf, 0⟩]))))
  rt : r + 1 = s.ns.length
  c0 : ∃ l, lc = (t0.ns.length + 1) :: l
  f0 : ∃ l, lf = (t0.ns.length + 3 + z1.length) :: l
  one : lf.length = 1 → lc.length = 1 → ∃ d e, t0.ts = [d, e] ∧ isM d ⟨#[46]⟩ = true ∧ e.k = 8

theorem ne_one {s : PS} (h : Ne s) (h8 : (hd s).k = 8) : ∃ e, s.ts = [e] ∧ e.k = 8 := by
  obtain ⟨a, t, hs, h1, h2⟩ := h
  cases a with
  | nil => exact ⟨t, hs, h1⟩
  | cons u a =>
    exfalso
    have : hd s = u := by unfold hd; rw [hs]; rfl
    rw [this] at h8
    exact h2 u (by simp) h8
theorem module_inv {B : List Tk} {r : Nat} {s : PS} (hne : Ne ⟨B, [gN], 0⟩) (h : module (expr 201) ⟨headT ++ B, [], 0⟩ = .ok (r, s)) : ∃ l0 lc lf t0 z1 z2, Inv B r s l0 lc lf t0 z1 z2 := by
  rw [module_at] at h
  obtain ⟨lf, t2, h1, h2⟩ := bind_inv h
  obtain ⟨rfl, rfl⟩ := lay_eq h2
  obtain ⟨K, hK, hK0⟩ : ∃ K, 4 + B.length = K + 1 ∧ 0 < K := ⟨3 + B.length, by omega, by omega⟩
  rw [hK] at h1
  simp only [functions] at h1
  rw [here_b, if_neg (by show ¬ (1 : Int) = 8; omega)] at h1
  obtain ⟨x, u, h3, h4⟩ := bind_inv h1
  rw [functionOf_at] at h3
  cases hcl : clauses (fclause (expr 201)) ⟨fT B, [], 0⟩ with
  | error er => rw [hcl] at h3; cases h3
  | ok q =>
  obtain ⟨ic, v1⟩ := q
  rw [hcl] at h3
  simp only at h3
  cases hnd : need ⟨#[46]⟩ v1 with
  | error er => rw [hnd] at h3; cases h3
  | ok q2 =>
  obtain ⟨un, v2⟩ := q2
  rw [hnd] at h3
  simp only at h3
  have hnd2 : isM (hd v1) ⟨#[46]⟩ = true ∧ v2 = cut v1 := by
    unfold need at hnd
    split at hnd
    · rename_i hm; exact ⟨hm, (congrArg Prod.snd (Except.ok.inj hnd)).symm⟩
    · cases hnd
  obtain ⟨hdot, rfl⟩ := hnd2
  obtain ⟨rfl, rfl⟩ := lay_eq h3
  unfold clauses at hcl
  rw [here_b] at hcl
  obtain ⟨cx, v, h5, h6⟩ := bind_inv hcl
  rw [left_b] at h6
  obtain ⟨lc, t1, h7, h8⟩ := bind_inv h6
  obtain ⟨rfl, rfl⟩ := lay_eq h8
  rw [fclause_at] at h5
  obtain ⟨bx, v0, h9, h10⟩ := bind_inv h5
  obtain ⟨rfl, rfl⟩ := lay_eq h10
  unfold body group at h9
  rw [here_b] at h9
  obtain ⟨l0, t0, h11, h12⟩ := bind_inv h9
  obtain ⟨rfl, rfl⟩ := lay_eq h12
  have hE := all_expr 201
  have hne0 : Ne t0 := (all_exprs hE noBound _ hne _ _ h11).2
  have hne0' : ∀ N o, Ne ⟨t0.ts, N, o⟩ := fun _ _ => hne0
  simp only at h7
  obtain ⟨⟨_, ⟨z1, hz1⟩, _⟩, hne1⟩ := all_moreC (all_fclause hE) _ _ _ (hne0' _ _) _ _ h7
  obtain ⟨zc, hzc⟩ := moreC_pre _ _ _ _ _ h7
  have hml := moreC_len _ _ _ _ _ h7
  have hneC : Ne (cut t1) := (ne_cut hne1 (isM_k hdot)).1
  have hneC' : ∀ N o, Ne ⟨t1.ts.tail, N, o⟩ := fun _ _ => hneC
  simp only [cut, List.nil_append] at h4
  have hfn := functions_len K _ _ _ _ h4
  obtain ⟨zf, hzf⟩ := functions_pre K _ _ _ _ h4
  obtain ⟨⟨_, ⟨z2, hz2⟩, _⟩, -⟩ := all_functions hE K _ _ (hneC' _ _) _ _ h4
  simp only at hz1 hz2 hzf hzc hml hfn
  have hlen1 : t1.ns.length = t0.ns.length + 2 + z1.length := by rw [hz1]; simp only [List.length_append, List.length_singleton]
  refine ⟨l0, lc, lf, t0, z1, z2, h11, ?_, ?_, ⟨zc, ?_⟩, ⟨zf, ?_⟩, ?_⟩
  · obtain ⟨pc, X, N, P, hz3⟩ : ∃ (pc : Nat) (X : ByteArray) (N : Int) (P : Nat), t2.ns = t1.ns ++ [⟨20, ⟨#[]⟩, 0, 0, lc, pc⟩] ++ [⟨23, X, N, 0, [t1.ns.length], P⟩] ++ z2 := ⟨_, _, _, _, hz2⟩
    obtain ⟨pb, hz4⟩ : ∃ pb : Nat, t1.ns = t0.ns ++ [⟨19, ⟨#[]⟩, 0, 0, l0, pb⟩] ++ [⟨21, ⟨#[102]⟩, 0, 0, [0, t0.ns.length], 0⟩] ++ z1 := ⟨_, hz1⟩
    refine ⟨pb, pc, X, N, P, ?_⟩
    show t2.ns ++ _ = _
    rw [hz3, hlen1, hz4]
    simp only [List.append_assoc, List.cons_append, List.nil_append]
  · show t2.ns.length + 1 = (t2.ns ++ _).length
    simp
  · rw [hzc]
    simp only [List.length_append, List.length_singleton, List.cons_append, List.nil_append]
  · rw [hzf]
    simp only [List.length_append, List.length_singleton, List.cons_append, List.nil_append, hlen1]
    rw [show t0.ns.length + 2 + z1.length + 1 = t0.ns.length + 3 + z1.length by omega]
  · intro hf1 hc1
    rcases hml with ⟨-, ht1⟩ | hlt
    · rcases hfn with ⟨-, -, hk8⟩ | hlt
      · rcases hk8 with hk8 | hk8
        · omega
        · obtain ⟨e, he, h8⟩ := ne_one (hneC' _ _) hk8
          have hts : t1.ts = t0.ts := by rw [ht1]
          simp only at he
          rw [hts] at he
          have hd1 : hd t1 = t0.ts.headD ⟨8, ⟨#[]⟩, 0, 0, 0⟩ := by unfold hd; rw [hts]
          cases hh : t0.ts with
          | nil => rw [hh] at he; cases he
          | cons d r =>
            rw [hh] at he hd1
            simp only [List.tail_cons] at he
            subst he
            have hdot2 : isM (hd t1) ⟨#[46]⟩ = true := hdot
            rw [hd1] at hdot2
            exact ⟨d, e, rfl, hdot2, h8⟩
      · simp only [List.length_singleton] at hlt; omega
    · simp only [List.length_singleton] at hlt; omega
end Gm
end Go.Proofs.YtdpfmmbfidknfaaGreatDoor


/- An expression in brackets, within braces: the same tree, or it is too deep. -/
namespace Go.Proofs.YtdpfmmbfidknfaaGreatDoor
namespace Gm

def lbT : Tk := ⟨6, ⟨#[123]⟩, 0, 0, 0⟩
def rbT : Tk := ⟨6, ⟨#[125]⟩, 0, 0, 0⟩

/-- An expression alone, and then the end. -/
theorem expr_er {i : Nat} {s : PS} {er : Int × Nat} (ho : s.o ≠ 200) (h : opened (expr i) { s with o := s.o + 1 } = .error er) : expr (i + 1) s = .error er := by
  rw [expr_at, if_neg ho, h]
theorem expr_of {i a : Nat} {s t : PS} (ho : s.o ≠ 200) (h : opened (expr i) { s with o := s.o + 1 } = .ok (a, t)) : expr (i + 1) s = .ok (a, { t with o := t.o - 1 }) := by
  rw [expr_at, if_neg ho, h]
theorem expr_inv {i a : Nat} {s t : PS} (h : expr (i + 1) s = .ok (a, t)) : s.o ≠ 200 ∧ ∃ t', opened (expr i) { s with o := s.o + 1 } = .ok (a, t') ∧ t = { t' with o := t'.o - 1 } := by
  rw [expr_at] at h
  split at h
  · cases h
  · rename_i ho
    cases hm : opened (expr i) { s with o := s.o + 1 } with
    | error er => rw [hm] at h; cases h
    | ok q =>
      obtain ⟨a0, t0⟩ := q
      rw [hm] at h
      simp only at h
      have := Except.ok.inj h
      obtain rfl : a0 = a := congrArg Prod.fst this
      exact ⟨ho, t0, rfl, (congrArg Prod.snd this).symm⟩
theorem exprs_er {e : PM Nat} {most : Nat} {s : PS} {er : Int × Nat} (h : e s = .error er) : exprs e most s = .error er := bind_er h
/-- One expression alone. -/
theorem exprs_one {e : PM Nat} {most a : Nat} {s t : PS} (h : e s = .ok (a, t)) (ht : isM (hd t) ⟨#[44]⟩ = false) : exprs e most s = .ok ([a], t) := by
  unfold exprs
  rw [run_b h, left_b]
  cases t.ts.length with
  | zero => rfl
  | succ k =>
    simp only [more]
    rw [take_n ht, if_neg (by simp)]
    rfl
theorem exprs_inv1 {e : PM Nat} {most : Nat} {l : List Nat} {s t : PS} (h : exprs e most s = .ok (l, t)) (hl : l.length = 1) : ∃ a, l = [a] ∧ e s = .ok (a, t) := by
  unfold exprs at h
  obtain ⟨a, u, h1, h2⟩ := bind_inv h
  rw [left_b] at h2
  rcases more_len _ _ _ _ _ h2 with ⟨rfl, rfl⟩ | h3
  · exact ⟨a, rfl, h1⟩
  · simp only [List.length_singleton] at h3; omega
theorem exprs_pos {e : PM Nat} {most : Nat} {l : List Nat} {s t : PS} (h : exprs e most s = .ok (l, t)) : ∃ a r, l = a :: r := by
  unfold exprs at h
  obtain ⟨a, u, h1, h2⟩ := bind_inv h
  rw [left_b] at h2
  rcases more_len _ _ _ _ _ h2 with ⟨rfl, rfl⟩ | h3
  · exact ⟨a, [], rfl⟩
  · cases l with
    | nil => simp at h3
    | cons b r => exact ⟨b, r, rfl⟩

/-- Two bodies whose expressions are told alike: the same function. -/
theorem function_same {B B' : List Tk} (hp : (hd ⟨B, [gN], 0⟩).p = (hd ⟨B', [gN], 0⟩).p) (hR : expr 201 ⟨B, [gN], 0⟩ = expr 201 ⟨B', [gN], 0⟩) : functionOf (expr 201) ⟨fT B, [], 0⟩ = functionOf (expr 201) ⟨fT B', [], 0⟩ := by
  have h1 : exprs (expr 201) noBound ⟨B, [gN], 0⟩ = exprs (expr 201) noBound ⟨B', [gN], 0⟩ := by
    unfold exprs
    rw [bind_at, bind_at, hR]
  have h2 : body (expr 201) ⟨B, [gN], 0⟩ = body (expr 201) ⟨B', [gN], 0⟩ := by
    unfold body group
    rw [here_b, here_b, bind_at, bind_at, h1, hp]
  have h3 : fclause (expr 201) ⟨fT B, [], 0⟩ = fclause (expr 201) ⟨fT B', [], 0⟩ := by
    rw [fclause_at, fclause_at, bind_at, bind_at, h2]
  have h4 : clauses (fclause (expr 201)) ⟨fT B, [], 0⟩ = clauses (fclause (expr 201)) ⟨fT B', [], 0⟩ := by
    unfold clauses
    rw [here_b, here_b, bind_at, bind_at, h3]
    rfl
  rw [functionOf_at, functionOf_at, h4]
  rfl
theorem module_same {B B' : List Tk} {r : Nat} {s : PS} {n : Nd} (hp : (hd ⟨B, [gN], 0⟩).p = (hd ⟨B', [gN], 0⟩).p) (hR : expr 201 ⟨B, [gN], 0⟩ = expr 201 ⟨B', [gN], 0⟩) (h : module (expr 201) ⟨headT ++ B, [], 0⟩ = .ok (r, s)) (hr : s.ns[r]? = some n) (hl : n.l.length = 1) : module (expr 201) ⟨headT ++ B', [], 0⟩ = .ok (r, s) := by
  rw [module_at] at h ⊢
  obtain ⟨lf, t2, h1, h2⟩ := bind_inv h
  obtain ⟨rfl, rfl⟩ := lay_eq h2
  obtain rfl : n = ⟨24, ⟨#[109]⟩, 0, 0, lf, 0⟩ := by simpa using hr.symm
  simp only at hl
  obtain ⟨K, hK, hK0⟩ : ∃ K, 4 + B.length = K + 1 ∧ 0 < K := ⟨3 + B.length, by omega, by omega⟩
  obtain ⟨K', hK', hK0'⟩ : ∃ K, 4 + B'.length = K + 1 + 1 ∧ 0 < K := ⟨2 + B'.length, by omega, by omega⟩
  rw [hK] at h1
  rw [hK']
  simp only [functions] at h1
  rw [here_b, if_neg (by show ¬ (1 : Int) = 8; omega)] at h1
  obtain ⟨x, u, h3, h4⟩ := bind_inv h1
  have hf : functions (expr 201) (K' + 1 + 1) [] ⟨fT B', [], 0⟩ = .ok (lf, t2) := by
    rw [functions]
    rw [here_b, if_neg (by show ¬ (1 : Int) = 8; omega), run_b (by rw [← function_same hp hR]; exact h3)]
    rcases functions_len K _ _ _ _ h4 with ⟨h5, h6, h7⟩ | h5
    · rcases h7 with h7 | h7
      · omega
      · rw [functions, here_b, if_pos h7, h5, h6]
        rfl
    · simp only [List.nil_append, List.length_singleton] at h5
      omega
  rw [run_b hf]
  exact h2
theorem module_er {B : List Tk} {er : Int × Nat} (h : expr 201 ⟨B, [gN], 0⟩ = .error er) : module (expr 201) ⟨headT ++ B, [], 0⟩ = .error er := by
  have h2 : body (expr 201) ⟨B, [gN], 0⟩ = .error er := by
    unfold body group
    rw [here_b]
    exact bind_er (exprs_er h)
  have h4 : clauses (fclause (expr 201)) ⟨fT B, [], 0⟩ = .error er := by
    unfold clauses
    rw [here_b]
    refine bind_er ?_
    rw [fclause_at]
    exact bind_er h2
  rw [module_at]
  refine bind_er ?_
  obtain ⟨K, hK⟩ : ∃ K, 4 + B.length = K + 1 := ⟨3 + B.length, by omega⟩
  rw [hK]
  simp only [functions]
  rw [here_b, if_neg (by show ¬ (1 : Int) = 8; omega)]
  refine bind_er ?_
  rw [functionOf_at, h4]

theorem x_isM {t : Tk} {v w : ByteArray} (h : t.x = v) (hw : v ≠ w) : isM t w = false := isM_x (by rw [h]; exact hw)
theorem noOp_x {t : Tk} {v : ByteArray} (h : t.x = v) (hv : v.data.toList = [125] ∨ v.data.toList = [46]) : NoOp 0 t := by
  have f : ∀ w : ByteArray, w.data.toList ≠ [125] → w.data.toList ≠ [46] → isM t w = false := fun w h1 h2 => x_isM h (fun e => by rcases hv with hv | hv <;> (rw [e] at hv; first | exact h1 hv | exact h2 hv))
  have g : ∀ w : ByteArray, w.data.toList ≠ [125] ∧ w.data.toList ≠ [46] → isM t w = false := fun w h => f w h.1 h.2
  refine ⟨g _ (by decide), fun _ => ?_, fun _ => ?_, fun _ => g _ (by decide), fun _ => ?_, fun _ => g _ (by decide), fun _ => g _ (by decide), fun _ => ⟨g _ (by decide), g _ (by decide)⟩⟩
  · unfold isMul; rw [g _ (by decide), g _ (by decide), g _ (by decide), g _ (by decide)]; rfl
  · unfold isAdd; rw [g _ (by decide), g _ (by decide)]; rfl
  · unfold isCmp; rw [g _ (by decide), g _ (by decide), g _ (by decide), g _ (by decide), g _ (by decide), g _ (by decide), g _ (by decide), g _ (by decide)]; rfl
theorem isM_xe {t : Tk} {w : ByteArray} (h : isM t w = true) : t.x = w := by
  unfold isM at h
  simp only [Bool.and_eq_true, decide_eq_true_eq] at h
  exact h.2

/-- What was within the braces. -/
theorem brace_inv {W : List Tk} {a : Nat} {t : PS} {d e : Tk} (hk : ∀ t ∈ W, isM t ⟨#[125]⟩ = true → t.k = 6 ∧ t.p = 0) (hne : Ne ⟨lbT :: W, [gN], 0⟩) (h : expr 201 ⟨lbT :: W, [gN], 0⟩ = .ok (a, t)) (ht : t.ts = [d, e]) (hn : ∀ m, t.ns[a]? = some m → m.k = 6 ∧ m.l.length = 1) :
    ∃ (X1 : List Tk) (c1 : Tk) (x0 : Nat) (N0 : List Nd), W = X1 ++ [c1, d, e] ∧ c1.x = ⟨#[125]⟩ ∧ c1.k = 6 ∧ c1.p = 0 ∧ a = N0.length ∧ N0.length ≠ 16384 ∧ t = ⟨[d, e], N0 ++ [⟨6, ⟨#[]⟩, 0, 0, [x0], 0⟩], 0⟩ ∧
      ∀ (c2 : Tk) (R2 : List Tk), c2.k = 6 → c2.p = 0 → (c2.x = ⟨#[41]⟩ ∨ c2.x = ⟨#[125]⟩) → 2 ≤ R2.length →
        (∃ p, expr 199 ⟨X1 ++ c2 :: R2, [gN], 2⟩ = .error (25, p)) ∨ expr 199 ⟨X1 ++ c2 :: R2, [gN], 2⟩ = .ok (x0, ⟨c2 :: R2, N0, 2⟩) := by
  obtain ⟨-, t', hop, rfl⟩ := expr_inv (i := 200) h
  have hne1 : Ne ⟨lbT :: W, [gN], 0 + 1⟩ := hne
  obtain ⟨⟨_, _, ho⟩, hnet⟩ := all_opened (all_expr 200) _ hne1 _ _ hop
  simp only at ho ht hn
  rcases top_opened (expr 200) _ _ _ (by rfl) (by rfl) hop with htu | ⟨m, hm, hm6⟩
  case inr =>
    exact absurd (hn m hm).1 hm6
  unfold tuple at htu
  rw [next_b, here_b] at htu
  have hcut : cut ⟨lbT :: W, [gN], 0 + 1⟩ = ⟨W, [gN], 1⟩ := rfl
  rw [hcut] at htu
  split at htu
  · obtain ⟨u, v, h1, h2⟩ := bind_inv htu
    obtain ⟨rfl, rfl⟩ := lay_eq h2
    have := (hn _ (lay_at _ _)).2
    simp at this
  · obtain ⟨l, v, h1, h2⟩ := bind_inv htu
    obtain ⟨u, v2, h3, h4⟩ := bind_inv h2
    have h3' : isM (hd v) ⟨#[125]⟩ = true ∧ v2 = cut v := by
      unfold need at h3
      split at h3
      · rename_i hm; exact ⟨hm, (congrArg Prod.snd (Except.ok.inj h3)).symm⟩
      · cases h3
    obtain ⟨hbr, rfl⟩ := h3'
    have hfit : (cut v).ns.length ≠ 16384 := (lay_inv h4).elim (fun h => by omega) (fun h => by omega)
    obtain ⟨rfl, rfl⟩ := lay_eq h4
    have hl := (hn _ (lay_at _ _)).2
    simp only at hl
    obtain ⟨x0, rfl, hx⟩ := exprs_inv1 h1 hl
    have hneW : Ne ⟨W, [gN], 1⟩ := by have := (ne_cut hne1 (by show (6 : Int) ≠ 8; decide)).1; exact this
    obtain ⟨⟨⟨X1, hX1⟩, _, hov⟩, hnev⟩ := all_expr 200 _ hneW _ _ hx
    simp only at hX1 hov
    have hvt : v.ts.tail = [d, e] := ht
    obtain ⟨c1, hc1, hv⟩ : ∃ c1, hd v = c1 ∧ v.ts = [c1, d, e] := by
      cases hh : v.ts with
      | nil => rw [hh] at hvt; cases hvt
      | cons c r => rw [hh] at hvt; exact ⟨c, by unfold hd; rw [hh]; rfl, by simp only [List.tail_cons] at hvt; rw [hvt]⟩
    rw [hc1] at hbr
    have hcx := isM_xe hbr
    rw [hv] at hX1
    have hmem : c1 ∈ W := by rw [hX1]; simp
    obtain ⟨hck, hcp⟩ := hk c1 hmem hbr
    refine ⟨X1, c1, x0, v.ns, hX1, hcx, hck, hcp, rfl, ?_, ?_, ?_⟩
    · exact hfit
    · simp only [cut, hv, List.tail_cons, hov]
      rfl
    · intro c2 R2 hk2 hp2 hx2 hR2
      have tw : Twn c1 c2 := ⟨hck, hcx, hk2, by rw [hcp, hp2], hx2⟩
      have hexp := exp_expr (c1 := c1) (c2 := c2) (R1 := [d, e]) (R2 := R2) tw (by simpa using hR2) 199 1 (by omega)
      have hrel : Rel c1 c2 [d, e] R2 1 X1 ⟨W, [gN], 1⟩ ⟨X1 ++ c2 :: R2, [gN], 2⟩ := ⟨hX1, rfl, rfl, rfl, rfl, hneW⟩
      rcases hexp.rl X1 _ _ hrel x0 v hx with ⟨_, Z, hZ⟩ | ⟨Y, _, hY, _, _, hd2⟩
      · have := congrArg List.length hZ
        rw [hv] at this
        simp at this
      · rcases hd2 with hd2 | ⟨b, t', hm', hab, hr'⟩
        · exact .inl hd2
        · subst hab
          right
          have hY0 : Y = [] := by
            have := congrArg List.length hY
            rw [hv, List.length_append] at this
            simp only [List.length_cons, List.length_nil] at this
            exact List.eq_nil_of_length_eq_zero (by omega)
          subst hY0
          rw [hm']
          obtain ⟨ts', ns', o'⟩ := t'
          have e1 : ts' = c2 :: R2 := hr'.ts'
          have e2 : ns' = v.ns := hr'.ns
          have e3 : o' = 2 := hr'.o'
          rw [e1, e2, e3]

theorem lay_ne {n : Nd} {ts : List Tk} {N : List Nd} {o : Nat} (h : N.length ≠ 16384) : lay n ⟨ts, N, o⟩ = .ok (N.length, ⟨ts, N ++ [n], o⟩) := by
  unfold lay
  rw [if_neg h]
theorem called_round {e : PM Nat} {ts : List Tk} {N : List Nd} {o : Nat} : called e ⟨lT :: ts, N, o⟩ = (e >>= fun x => need ⟨#[41]⟩ >>= fun _ => pure x : PM Nat) ⟨ts, N, o⟩ := by
  unfold called
  show (if _ then _ else _ : PM Nat) _ = _
  rw [if_neg (by show ¬ ((6 : Int) = 1 ∧ _); omega)]
  unfold primary
  show (if _ then _ else _ : PM Nat) _ = _
  rw [if_neg (by show ¬ ((6 : Int) = 1 ∨ (6 : Int) = 2 ∨ (6 : Int) = 3 ∨ (6 : Int) = 4 ∨ (6 : Int) = 5); omega), if_pos (by rfl)]
  unfold bracketed
  show (if _ then _ else _ : PM Nat) _ = _
  rw [if_pos (by rfl), next_b]
  rfl
theorem tuple_round {e : PM Nat} {ts : List Tk} {N : List Nd} {o : Nat} : tuple e ⟨lbT :: lT :: ts, N, o⟩ = (exprs e noBound >>= fun l => need ⟨#[125]⟩ >>= fun _ => lay ⟨6, ⟨#[]⟩, 0, 0, l, 0⟩ : PM Nat) ⟨lT :: ts, N, o⟩ := by
  unfold tuple
  rw [next_b, here_b]
  rw [if_neg (by show ¬ isM lT ⟨#[125]⟩ = true; decide)]
  rfl
theorem brace_er {W : List Tk} {er : Int × Nat} (h : expr 199 ⟨W, [gN], 2⟩ = .error er) : expr 201 ⟨lbT :: lT :: W, [gN], 0⟩ = .error er := by
  have h1 : called (expr 199) ⟨lT :: W, [gN], 2⟩ = .error er := by rw [called_round]; exact bind_er h
  have h2 : expr 200 ⟨lT :: W, [gN], 1⟩ = .error er := expr_er (i := 199) (by simp) (opened_er h1 (by rfl) (by rfl) (by rfl))
  have h3 : called (expr 200) ⟨lbT :: lT :: W, [gN], 1⟩ = .error er := by
    rw [called_brace (by rfl) (by rfl), tuple_round]
    exact bind_er (exprs_er h2)
  exact expr_er (i := 200) (by simp) (opened_er h3 (by rfl) (by rfl) (by rfl))
/-- In brackets that do not shut there: a fault. -/
theorem brace_no {X1 R2 : List Tk} {c2 : Tk} {x0 : Nat} {N0 : List Nd} (hx : c2.x = ⟨#[125]⟩) (h : expr 199 ⟨X1 ++ c2 :: R2, [gN], 2⟩ = .ok (x0, ⟨c2 :: R2, N0, 2⟩)) : ∃ er, expr 201 ⟨lbT :: lT :: (X1 ++ c2 :: R2), [gN], 0⟩ = .error er := by
  refine ⟨(24, c2.p), ?_⟩
  have hn : need ⟨#[41]⟩ ⟨c2 :: R2, N0, 2⟩ = .error (24, c2.p) := by
    unfold need
    rw [if_neg (by rw [x_isM (t := hd ⟨c2 :: R2, N0, 2⟩) hx (by decide)]; simp)]
    rfl
  have h1 : called (expr 199) ⟨lT :: (X1 ++ c2 :: R2), [gN], 2⟩ = .error (24, c2.p) := by rw [called_round, run_b h]; exact bind_er hn
  have h2 : expr 200 ⟨lT :: (X1 ++ c2 :: R2), [gN], 1⟩ = .error (24, c2.p) := expr_er (i := 199) (by simp) (opened_er h1 (by rfl) (by rfl) (by rfl))
  have h3 : called (expr 200) ⟨lbT :: lT :: (X1 ++ c2 :: R2), [gN], 1⟩ = .error (24, c2.p) := by
    rw [called_brace (by rfl) (by rfl), tuple_round]
    exact bind_er (exprs_er h2)
  exact expr_er (i := 200) (by simp) (opened_er h3 (by rfl) (by rfl) (by rfl))
/-- In brackets that shut there: the same. -/
theorem brace_yes {X1 : List Tk} {c1 d e : Tk} {x0 : Nat} {N0 : List Nd} (hx : c1.x = ⟨#[125]⟩) (hk : c1.k = 6) (hd0 : d.x = ⟨#[46]⟩) (hf : N0.length ≠ 16384) (h : expr 199 ⟨X1 ++ rT :: [c1, d, e], [gN], 2⟩ = .ok (x0, ⟨rT :: [c1, d, e], N0, 2⟩)) :
    expr 201 ⟨lbT :: lT :: (X1 ++ rT :: [c1, d, e]), [gN], 0⟩ = .ok (N0.length, ⟨[d, e], N0 ++ [⟨6, ⟨#[]⟩, 0, 0, [x0], 0⟩], 0⟩) := by
  have h1 : called (expr 199) ⟨lT :: (X1 ++ rT :: [c1, d, e]), [gN], 2⟩ = .ok (x0, ⟨[c1, d, e], N0, 2⟩) := by rw [called_round, run_b h, need_b (by rfl)]; rfl
  have h2 : expr 200 ⟨lT :: (X1 ++ rT :: [c1, d, e]), [gN], 1⟩ = .ok (x0, ⟨[c1, d, e], N0, 1⟩) :=
    expr_of (i := 199) (s := ⟨lT :: (X1 ++ rT :: [c1, d, e]), [gN], 1⟩) (by simp) (opened_of h1 (by rfl) (by rfl) (by rfl) (noOp_x (t := hd ⟨[c1, d, e], N0, 2⟩) hx (by decide)) (by simp))
  have hbr : isM c1 ⟨#[125]⟩ = true := by unfold isM; rw [hk, hx]; rfl
  have h3 : called (expr 200) ⟨lbT :: lT :: (X1 ++ rT :: [c1, d, e]), [gN], 1⟩ = .ok (N0.length, ⟨[d, e], N0 ++ [⟨6, ⟨#[]⟩, 0, 0, [x0], 0⟩], 1⟩) := by
    rw [called_brace (by rfl) (by rfl), tuple_round, run_b (exprs_one h2 (x_isM (t := hd ⟨[c1, d, e], N0, 1⟩) hx (by decide))), need_b (s := ⟨[c1, d, e], N0, 1⟩) hbr]
    exact lay_ne hf
  exact expr_of (i := 200) (s := ⟨lbT :: lT :: (X1 ++ rT :: [c1, d, e]), [gN], 0⟩) (by simp) (opened_of h3 (by rfl) (by rfl) (by rfl) (noOp_x (t := hd ⟨[d, e], N0 ++ [⟨6, ⟨#[]⟩, 0, 0, [x0], 0⟩], 1⟩) hd0 (by decide)) (by simp))
end Gm
end Go.Proofs.YtdpfmmbfidknfaaGreatDoor


