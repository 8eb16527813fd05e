import Derived.Test.YtdpfmmbfidknfaaGreatDoorG48
import Derived.Test.YtdpfmmbfidknfaaGreatDoorG46
import Derived.Deep.RegionHeld
/- GramBrackets: what stands where in the tree. -/
namespace Go.Proofs.YtdpfmmbfidknfaaGreatDoor
open Go.RowKit Go.Lib

/-- The way down to the one expression. -/
structure BR (N : List Nd) (r iF iC b0 a0 : Nat) (lf lc l0 : List Nat) : Prop where
  nR : ∃ m, N[r]? = some m ∧ m.l = lf
  fF : ∃ t, lf = iF :: t
  nF : ∃ m, N[iF]? = some m ∧ m.l = [iC]
  nC : ∃ m, N[iC]? = some m ∧ m.l = lc
  fC : ∃ t, lc = (b0 + 1) :: t
  n1 : ∃ m, N[b0 + 1]? = some m ∧ m.l = [0, b0]
  nB : ∃ m, N[b0]? = some m ∧ m.l = l0
  fB : ∃ t, l0 = a0 :: t
  nA : ∃ m, N[a0]? = some m

theorem brackets_tree {s1 s2 : ByteArray} {x : List UInt8} (h : Srcs s1 s2 x) {r : Nat} {st : PS} (hp : parseP s1 = .ok (r, st)) :
    ∃ (iF iC b0 a0 : Nat) (lf lc l0 : List Nat), BR st.ns r iF iC b0 a0 lf lc l0 ∧
      (lf.length = 1 → lc.length = 1 → l0.length = 1 → (∀ m, st.ns[a0]? = some m → m.k = 6 ∧ m.l.length = 1) →
        (∃ st', parseP s2 = .ok (r, st') ∧ st.ns.map bareN = st'.ns.map bareN) ∨ ∃ er p, parseP s2 = .error (er, p) ∧ (er = 25 ∨ ∃ c ∈ x, c = 37)) := by
  obtain ⟨s0, l0, lc, lf, t0, z1, z2, W, hb, hI, hC⟩ := brackets_src h hp
  have hT := tree_facts s1 hp
  obtain ⟨p1, p2, y, n, p3, hns⟩ := hI.ns
  have hrt := hI.rt
  have back : ∀ (i : Nat) (m : Nd), s0.ns[i]? = some m → ∃ m', st.ns[i]? = some m' ∧ m'.l = m.l ∧ m'.k = m.k := by
    intro i m hm
    obtain ⟨m', h1, h2⟩ := bare_at hb.symm hm
    exact ⟨m', h1, Gm.bareN_l h2 |>.symm ▸ rfl, bareN_k h2 |>.symm ▸ rfl⟩
  have g : ∀ (A : List Nd) (i : Nat) (B : List Nd), s0.ns = A ++ B → A.length ≤ i → s0.ns[i]? = B[i - A.length]? := by
    intro A i B hAB hi
    rw [hAB, List.getElem?_append_right hi]
  obtain ⟨a0, l0r, hl0⟩ := Gm.exprs_pos hI.ex
  have e0 := hns
  have nB : s0.ns[t0.ns.length]? = some ⟨19, ⟨#[]⟩, 0, 0, l0, p1⟩ := by
    rw [g _ _ _ e0 (Nat.le_refl _), Nat.sub_self]; rfl
  have n1 : s0.ns[t0.ns.length + 1]? = some ⟨21, ⟨#[102]⟩, 0, 0, [0, t0.ns.length], 0⟩ := by
    rw [g _ _ _ e0 (by omega), show t0.ns.length + 1 - t0.ns.length = 1 by omega]; rfl
  have e1 : s0.ns = (t0.ns ++ ([⟨19, ⟨#[]⟩, 0, 0, l0, p1⟩, ⟨21, ⟨#[102]⟩, 0, 0, [0, t0.ns.length], 0⟩] ++ z1)) ++ (⟨20, ⟨#[]⟩, 0, 0, lc, p2⟩ :: ⟨23, y, n, 0, [t0.ns.length + 2 + z1.length], p3⟩ :: (z2 ++ [⟨24, ⟨#[109]⟩, 0, 0, lf, 0⟩])) := by
    rw [hns]; simp
  have lA : (t0.ns ++ (([⟨19, ⟨#[]⟩, 0, 0, l0, p1⟩, ⟨21, ⟨#[102]⟩, 0, 0, [0, t0.ns.length], 0⟩] : List Nd) ++ z1)).length = t0.ns.length + 2 + z1.length := by
    simp only [List.length_append, List.length_cons, List.length_nil]; omega
  have nC : s0.ns[t0.ns.length + 2 + z1.length]? = some ⟨20, ⟨#[]⟩, 0, 0, lc, p2⟩ := by
    rw [g _ _ _ e1 (by rw [lA]; omega), lA, Nat.sub_self]; rfl
  have nF : s0.ns[t0.ns.length + 3 + z1.length]? = some ⟨23, y, n, 0, [t0.ns.length + 2 + z1.length], p3⟩ := by
    rw [g _ _ _ e1 (by rw [lA]; omega), lA, show t0.ns.length + 3 + z1.length - (t0.ns.length + 2 + z1.length) = 1 by omega]; rfl
  have e2 : s0.ns = (t0.ns ++ ([⟨19, ⟨#[]⟩, 0, 0, l0, p1⟩, ⟨21, ⟨#[102]⟩, 0, 0, [0, t0.ns.length], 0⟩] ++ z1) ++ (⟨20, ⟨#[]⟩, 0, 0, lc, p2⟩ :: ⟨23, y, n, 0, [t0.ns.length + 2 + z1.length], p3⟩ :: z2)) ++ [⟨24, ⟨#[109]⟩, 0, 0, lf, 0⟩] := by
    rw [hns]; simp
  have nR : s0.ns[r]? = some ⟨24, ⟨#[109]⟩, 0, 0, lf, 0⟩ := by
    have hlen := congrArg List.length e2
    rw [List.length_append, List.length_singleton] at hlen
    rw [g _ _ _ e2 (by omega), show r - _ = 0 by omega]
    rfl
  obtain ⟨mR, r1, r2, -⟩ := back _ _ nR
  obtain ⟨mF, f1, f2, -⟩ := back _ _ nF
  obtain ⟨mC, c1, c2, -⟩ := back _ _ nC
  obtain ⟨m1, d1, d2, -⟩ := back _ _ n1
  obtain ⟨mB, b1, b2, -⟩ := back _ _ nB
  have hlow : a0 < t0.ns.length := hT.low _ _ b1 0 a0 (by rw [b2]; show l0[0]? = some a0; rw [hl0]; rfl)
  have hbl := (List.getElem?_eq_some_iff.1 b1).1
  refine ⟨t0.ns.length + 3 + z1.length, t0.ns.length + 2 + z1.length, t0.ns.length, a0, lf, lc, l0, ⟨⟨mR, r1, r2⟩, hI.f0, ⟨mF, f1, f2⟩, ⟨mC, c1, c2⟩, hI.c0, ⟨m1, d1, d2⟩, ⟨mB, b1, b2⟩, ⟨l0r, hl0⟩, ⟨_, List.getElem?_eq_getElem (by omega)⟩⟩, fun hf hc h0 hn => ?_⟩
  refine hC hf hc h0 fun m hm => ?_
  have hh : l0.headD 0 = a0 := by rw [hl0]; rfl
  rw [hh] at hm
  obtain ⟨m', g1, g2, g3⟩ := back _ _ hm
  have := hn m' g1
  rw [g2, g3] at this
  exact this
end Go.Proofs.YtdpfmmbfidknfaaGreatDoor


/- A region that draws its order, where a condition on memory holds until its last operation, which waits for all others. -/
namespace Go.Proofs.YtdpfmmbfidknfaaGreatDoor

section
variable {P : Program} {ops : Array Oper} {md : Region.Mode} {Q : Exit → Act → World → Prop} {S : World → Prop} {D : List Nat}

/-- Whatever order is picked from here on, and S holds behind every operation that is carried out and is not one of D. -/
def wpAnyD (P : Program) (md : Region.Mode) (ops : Array Oper) (Q : Exit → Act → World → Prop) (S : World → Prop) (D : List Nat) : Nat → Array Bool → Act → World → Prop
  | 0, listed, a, w => Region.ready md ops listed = [] ∧ Q .normal a w
  | fuel + 1, listed, a, w =>
    (Region.ready md ops listed = [] → Q .normal a w) ∧
    ∀ i ∈ Region.ready md ops listed, wpOp P ops Q i (fun a' w' => (i ∉ D → S w') ∧ wpAnyD P md ops Q S D fuel (listed.setIfInBounds i true) a' w') a w

theorem wpAny_of_D : ∀ (fuel : Nat) (listed : Array Bool) (a : Act) (w : World), wpAnyD P md ops Q S D fuel listed a w → wpAny P md ops Q fuel listed a w
  | 0, _, _, _, h => h
  | fuel + 1, _, _, _, h => ⟨h.1, fun i hi => wpOp_mono (fun a' w' h' => wpAny_of_D fuel _ a' w' h'.2) (h.2 i hi)⟩

/-- Does operation d wait for i? -/
def waitsB (md : Region.Mode) (ops : Array Oper) (i d : Nat) : Bool := ((ops[d]?).map fun o => o.after.any fun e => Region.binds md e && e.on == i).getD false

theorem waitsB_ready {i d : Nat} {listed : Array Bool} (h : waitsB md ops i d = true) (hr : d ∈ Region.ready md ops listed) : listed.getD i false = true := by
  obtain ⟨_, o, ho, hall⟩ := mem_ready.1 hr
  unfold waitsB at h
  rw [ho] at h
  simp only [Option.map_some, Option.getD_some] at h
  obtain ⟨e, he, hb⟩ := Array.any_eq_true'.1 h
  simp only [Bool.and_eq_true, beq_iff_eq] at hb
  have := hall e he hb.1
  rwa [hb.2] at this

theorem wpAnyD_first {i : Nat} {oi : Oper} {v : Value} (hi : ops[i]? = some oi) (hsel : ∀ (j : Nat) (o : Oper) cs b, ops[j]? = some o → o.op ≠ .select cs b)
    (hQ : ∀ c a w, Q (.panic c) (a.put oi.dst v) w → Q (.panic c) a w) (hD : ∀ d, d ∈ D → waitsB md ops i d = true) :
    ∀ (fuel : Nat) (listed : Array Bool) (a : Act) (w : World),
      (∀ j oj, ops[j]? = some oj → j ≠ i → listed.getD j true = false → (∀ e ∈ oj.after, Region.binds md e = true → e.on ≠ i) → oi.apart ops oj = true) →
      i ∈ Region.ready md ops listed → YieldsIf P ops S oi v a → S w →
      wpAnyD P md ops Q S D fuel (listed.setIfInBounds i true) (a.put oi.dst v) w → wpAnyD P md ops Q S D (fuel + 1) listed a w := by
  intro fuel
  induction fuel with
  | zero =>
    intro listed a w _ hr hy hS H
    refine ⟨fun h => (by rw [h] at hr; cases hr), fun j hj => ?_⟩
    by_cases hji : j = i
    · subst hji; exact hy.wpOp hi hS ⟨fun _ => hS, H⟩
    · have := ready_mono hj hji
      rw [H.1] at this
      cases this
  | succ fuel ih =>
    intro listed a w hfree hr hy hS H
    refine ⟨fun h => (by rw [h] at hr; cases hr), fun j hj => ?_⟩
    by_cases hji : j = i
    · subst hji; exact hy.wpOp hi hS ⟨fun _ => hS, H⟩
    · have h1 := H.2 j (ready_mono hj hji)
      obtain ⟨hjun, oj, hoj, hall⟩ := mem_ready.1 hj
      have hun : ∀ (x : Bool), listed.getD i x = false := fun x => by
        have h0 := (mem_ready.1 hr).1
        rcases Nat.lt_or_ge i listed.size with h' | h'
        · simp [h'] at h0 ⊢; exact h0
        · simp [Array.getElem?_eq_none h'] at h0
      have hjD : j ∉ D := fun hd => by
        have := waitsB_ready (hD j hd) hj
        rw [hun] at this
        cases this
      have hnot : ∀ e ∈ oj.after, Region.binds md e = true → e.on ≠ i := fun e he hb heq => by
        have h1 := hall e he hb
        rw [heq, hun] at h1
        cases h1
      have h2 := wpOp_putIf hoj (hfree j oj hoj hji hjun hnot) (fun cs b => hsel i oi cs b hi) (fun cs b => hsel j oj cs b hoj) hQ hy h1
      have hfree' : ∀ k ok, ops[k]? = some ok → k ≠ i → (listed.setIfInBounds j true).getD k true = false →
          (∀ e ∈ ok.after, Region.binds md e = true → e.on ≠ i) → oi.apart ops ok = true := fun k ok hk hki hun hno => by
        refine hfree k ok hk hki ?_ hno
        by_cases hjk : j = k
        · subst hjk; exact hjun
        · rw [getD_set_ne true hjk] at hun; exact hun
      refine wpOp_mono (fun a' w' h3 => ⟨h3.2.1, ih (listed.setIfInBounds j true) a' w' hfree' (ready_mono hr (Ne.symm hji)) h3.1 (h3.2.1 hjD) ?_⟩) h2
      rw [Array.setIfInBounds_comm _ _ hji]
      exact h3.2.2

/-- Operation i is taken first: it yields v wherever S holds. -/
theorem wpAnyD_take {i : Nat} {oi : Oper} {v : Value} {fuel : Nat} {listed : Array Bool} {a : Act} {w : World} (hi : ops[i]? = some oi)
    (hs : Region.noSelect ops = true) (hf : Region.free md ops listed i = true) (hr : (Region.ready md ops listed).contains i = true) (hD : D.all (waitsB md ops i) = true)
    (hQ : ∀ c a w, Q (.panic c) (a.put oi.dst v) w → Q (.panic c) a w) (hS : S w) (hy : YieldsIf P ops S oi v a)
    (h : wpAnyD P md ops Q S D fuel (listed.setIfInBounds i true) (a.put oi.dst v) w) : wpAnyD P md ops Q S D (fuel + 1) listed a w :=
  wpAnyD_first hi (Region.noSelect_spec hs) hQ (fun d hd => List.all_eq_true.1 hD d hd) fuel listed a w (Region.free_spec hi hf) (by simpa using hr) hy hS h

/-- Operation i alone may come up. -/
theorem wpAnyD_step {i : Nat} {oi : Oper} {fuel : Nat} {listed : Array Bool} {a : Act} {w : World} (hr : Region.ready md ops listed = [i]) (hi : ops[i]? = some oi)
    (h : if Region.wanted oi (yielded ops a.tmps) = true then Oper.wp P oi a w (fun a' w' => (i ∉ D → S w') ∧ wpAnyD P md ops Q S D fuel (listed.setIfInBounds i true) a' w') Q else (i ∉ D → S w) ∧ wpAnyD P md ops Q S D fuel (listed.setIfInBounds i true) (a.put oi.dst undef) w) : wpAnyD P md ops Q S D (fuel + 1) listed a w := by
  refine ⟨fun h0 => (by rw [hr] at h0; cases h0), fun j hj => ?_⟩
  rw [hr] at hj
  obtain rfl : j = i := by simpa using hj
  unfold wpOp
  simp only [hi]
  split
  · rename_i hw; rw [if_pos hw] at h; exact .inl h
  · rename_i hw; rw [if_neg hw] at h; exact h

theorem wpAnyD_done {listed : Array Bool} {a : Act} {w : World} (hr : Region.ready md ops listed = []) (h : Q .normal a w) :
    ∀ fuel, wpAnyD P md ops Q S D fuel listed a w
  | 0 => ⟨hr, h⟩
  | _ + 1 => ⟨fun _ => h, by rw [hr]; simp⟩

/-- The same, over a list. -/
theorem wpAnyD_takeL {l : List Oper} {i : Nat} {oi : Oper} {v : Value} {fuel : Nat} {listed : Array Bool} {a : Act} {w : World} (hi : l[i]? = some oi)
    (hs : Region.noSelect l.toArray = true) (hf : Region.free md l.toArray listed i = true) (hr : (Region.ready md l.toArray listed).contains i = true) (hD : D.all (waitsB md l.toArray i) = true)
    (hQ : ∀ c a w, Q (.panic c) (a.put oi.dst v) w → Q (.panic c) a w) (hS : S w) (hg : oi.guard = none) (hy : ∀ w, S w → (execOp a.eval oi).run P w = .ok (.value v) w)
    (h : wpAnyD P md l.toArray Q S D fuel (listed.setIfInBounds i true) (a.put oi.dst v) w) : wpAnyD P md l.toArray Q S D (fuel + 1) listed a w :=
  wpAnyD_take (by simpa using hi) hs hf hr hD hQ hS (.inl ⟨by simp [Region.wanted, hg], hy⟩) h
theorem wpAnyD_stepL {l : List Oper} {i : Nat} {oi : Oper} {fuel : Nat} {listed : Array Bool} {a : Act} {w : World} (hr : Region.ready md l.toArray listed = [i]) (hi : l[i]? = some oi)
    (h : ∀ K : Act → World → Prop, (∀ a' w', (i ∉ D → S w') → wpAnyD P md l.toArray Q S D fuel (listed.setIfInBounds i true) a' w' → K a' w') → if Region.wanted oi (yielded l.toArray a.tmps) = true then Oper.wp P oi a w K Q else K (a.put oi.dst undef) w) : wpAnyD P md l.toArray Q S D (fuel + 1) listed a w := by
  refine wpAnyD_step hr (by simpa using hi) ?_
  have := h (fun a' w' => (i ∉ D → S w') ∧ wpAnyD P md l.toArray Q S D fuel (listed.setIfInBounds i true) a' w') (fun a' w' h1 h2 => ⟨h1, h2⟩)
  exact this

theorem wp_region_D {id : Nat} {a : Act} {w : World} (S : World → Prop) (D : List Nat) (hm : P.follows .mixedOrders = true)
    (h : wpAnyD P .any ops Q S D ops.size (Array.replicate ops.size false) a w.drew) : (Code.region id ops true).wp P Q a w :=
  wp_region_any hm (wpAny_of_D _ _ _ _ h)
end
end Go.Proofs.YtdpfmmbfidknfaaGreatDoor


