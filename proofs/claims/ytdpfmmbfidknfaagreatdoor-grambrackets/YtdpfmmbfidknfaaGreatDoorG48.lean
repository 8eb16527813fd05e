import Derived.Test.YtdpfmmbfidknfaaGreatDoorG28
import Derived.Test.YtdpfmmbfidknfaaGreatDoorG47
/- GramBrackets, of two sources. -/
namespace Go.Proofs.YtdpfmmbfidknfaaGreatDoor
open Go.RowKit Go.Lib

theorem occ_at (t : ByteArray) (A B : List UInt8) (h : t.data.toList = A ++ B) : Occ t A.length B := by
  have hs : t.size = (A ++ B).length := by rw [← h]; rfl
  rw [List.length_append] at hs
  refine ⟨by omega, fun j hj => ?_⟩
  have hj2 : A.length + j < (dl t).length := by show A.length + j < t.size; omega
  rw [bt_dl t _ hj2]
  congr 1
  have : dl t = A ++ B := h
  simp only [this]
  rw [List.getElem_append_right (by omega)]
  congr 1
  omega

/-- The two sources. -/
structure Srcs (s1 s2 : ByteArray) (x : List UInt8) : Prop where
  d1 : s1.data.toList = headB ++ (123 :: (x ++ [125, 46]))
  d2 : s2.data.toList = headB ++ (123 :: 40 :: (x ++ [10, 41, 125, 46]))
  few : x.length ≤ 2000
theorem Srcs.two {s1 s2 : ByteArray} {x : List UInt8} (h : Srcs s1 s2 x) : Two s1 s2 x.length := by
  have o1 := occ_at s1 (headB ++ [123]) (x ++ [125, 46]) (by rw [h.d1]; simp)
  have o2 := occ_at s2 (headB ++ [123, 40]) (x ++ [10, 41, 125, 46]) (by rw [h.d2]; simp)
  have l1 : (headB ++ [123]).length = 20 := rfl
  have l2 : (headB ++ [123, 40]).length = 21 := rfl
  rw [l1] at o1
  rw [l2] at o2
  have z1 : s1.size = (headB ++ (123 :: (x ++ [125, 46]))).length := by rw [← h.d1]; rfl
  have z2 : s2.size = (headB ++ (123 :: 40 :: (x ++ [10, 41, 125, 46]))).length := by rw [← h.d2]; rfl
  have lh : headB.length = 19 := rfl
  simp only [List.length_append, List.length_cons, List.length_nil, lh] at z1 z2
  refine ⟨fun j hj => ?_, by omega, by omega, ?_, ?_, ?_⟩
  · rw [o1.left.2 j hj, o2.left.2 j hj]
  · exact o1.right.2 0 (by simp)
  · exact o1.right.2 1 (by simp)
  · exact o2.right.2 0 (by simp)

/-- The tokens of both. -/
theorem srcs_toks {s1 s2 : ByteArray} {x : List UInt8} (h : Srcs s1 s2 x) {l : List Tk} (hl : allT s1 = .inl l) :
    ∃ (X : List Tk) (l2 : List Tk), allT s2 = .inl l2 ∧ l2.map bareT = headT ++ Gm.lbT :: lT :: (X ++ [rT, Gm.rbT, dotT, endT]) ∧ (∀ u ∈ X, Wd u ∧ u.p = 0) ∧
      (l.map bareT = headT ++ Gm.lbT :: (X ++ [Gm.rbT, dotT, endT]) ∨ ((∃ c ∈ x, c = 37) ∧ l.map bareT = headT ++ Gm.lbT :: (X ++ [endT]))) := by
  have hw := h.two
  have hs := hw.hs
  have z2 : s2.size = 21 + x.length + 4 := by
    have : s2.size = (headB ++ (123 :: 40 :: (x ++ [10, 41, 125, 46]))).length := by rw [← h.d2]; rfl
    have lh : headB.length = 19 := rfl
    simp only [List.length_append, List.length_cons, List.length_nil, lh] at this
    omega
  have hfew := h.few
  have oh1 := occ_at s1 [] (headB ++ (123 :: (x ++ [125, 46]))) (by rw [h.d1]; rfl)
  have oh2 := occ_at s2 [] (headB ++ (123 :: 40 :: (x ++ [10, 41, 125, 46]))) (by rw [h.d2]; rfl)
  have ob1 := occ_at s1 headB (123 :: (x ++ [125, 46])) h.d1
  have ob2 := occ_at s2 headB (123 :: 40 :: (x ++ [10, 41, 125, 46])) h.d2
  have oe1 := occ_at s1 (headB ++ 123 :: x) [125, 46] (by rw [h.d1]; simp)
  have oe2 := occ_at s2 (headB ++ 123 :: 40 :: (x ++ [10])) [41, 125, 46] (by rw [h.d2]; simp)
  have le1 : (headB ++ 123 :: x).length = 20 + x.length := by
    have lh : headB.length = 19 := rfl
    simp only [List.length_append, List.length_cons, lh]; omega
  have le2 : (headB ++ 123 :: 40 :: (x ++ [10])).length = 22 + x.length := by
    have lh : headB.length = 19 := rfl
    simp only [List.length_append, List.length_cons, List.length_nil, lh]; omega
  rw [le1] at oe1
  rw [le2] at oe2
  have a1 := steps_head s1 oh1.left
  have a2 := steps_head s2 oh2.left
  have b1 : Steps s1 19 20 [Gm.lbT] := steps_sg s1 19 123 [123] [] (Occ.left (a := [123]) ob1) (by decide) (fun R => by rfl)
  have b2 : Steps s2 19 20 [Gm.lbT] := steps_sg s2 19 123 [123] [] (Occ.left (a := [123]) ob2) (by decide) (fun R => by rfl)
  have c2 : Steps s2 20 21 [lT] := steps_sg s2 20 40 [40] [] (Occ.left (a := [40]) (Occ.right (a := [123]) ob2)) (by decide) (fun R => by rfl)
  have d1 : Steps s1 (20 + x.length) (20 + x.length + 1) [Gm.rbT] := steps_sg s1 _ 125 [125] [] (Occ.left (a := [125]) oe1) (by decide) (fun R => by rfl)
  have e1 : Steps s1 (20 + x.length + 1) (20 + x.length + 1 + 1) [dotT] := steps_sg s1 _ 46 [46] [] (Occ.right (a := [125]) oe1) (by decide) (fun R => by rfl)
  have d2 : Steps s2 (22 + x.length) (22 + x.length + 1) [rT] := steps_sg s2 _ 41 [41] [] (Occ.left (a := [41]) oe2) (by decide) (fun R => by rfl)
  have e2 : Steps s2 (22 + x.length + 1) (22 + x.length + 1 + 1) [Gm.rbT] := steps_sg s2 _ 125 [125] [] (Occ.left (a := [125]) (Occ.right (a := [41]) oe2)) (by decide) (fun R => by rfl)
  have f2 : Steps s2 (22 + x.length + 1 + 1) (22 + x.length + 1 + 1 + 1) [dotT] := steps_sg s2 _ 46 [46] [] (Occ.right (a := [41, 125]) oe2) (by decide) (fun R => by rfl)
  have all2 : ∀ X, Steps s2 21 (22 + x.length) X → ∃ l2, allT s2 = .inl l2 ∧ l2.map bareT = headT ++ Gm.lbT :: lT :: (X ++ [rT, Gm.rbT, dotT, endT]) := by
    intro X hX
    have g := a2.trans (b2.trans (c2.trans (hX.trans (d2.trans (e2.trans f2)))))
    rw [show 22 + x.length + 1 + 1 + 1 = s2.size by omega] at g
    obtain ⟨k', ds, hk', he, hds⟩ := g.2.2 (s2.size + 1) [] (by omega)
    obtain ⟨k, rfl⟩ : ∃ k, k' = k + 1 := ⟨k' - 1, by omega⟩
    refine ⟨[] ++ ds ++ [⟨8, ⟨#[]⟩, 0, 0, s2.size⟩], ?_, ?_⟩
    · unfold allT
      rw [if_neg (by omega), he, toks_end s2 k s2.size _ (Nat.le_refl _)]
    · rw [List.nil_append, List.map_append]
      have : ds.map bareT = headT ++ ([Gm.lbT] ++ ([lT] ++ (X ++ ([rT] ++ ([Gm.rbT] ++ [dotT]))))) := hds
      rw [this]
      simp only [List.append_assoc, List.cons_append, List.nil_append, List.map_cons, List.map_nil]
      rfl
  unfold allT at hl
  rw [if_neg (by omega)] at hl
  obtain ⟨k1, ds1, hk1, he1, hds1⟩ := (a1.trans b1).2.2 (s1.size + 1) [] (by omega)
  rw [he1] at hl
  rcases sim hw x.length 0 (by omega) (by omega) k1 _ l (by omega) hl with ⟨X, h1, h2, h3⟩ | ⟨⟨i, hi, h37⟩, X, h1, h2, h3⟩
  · obtain ⟨l2, hl2, hb2⟩ := all2 X h2
    refine ⟨X, l2, hl2, hb2, h3, .inl ?_⟩
    have g := h1.trans (d1.trans e1)
    rw [show 20 + x.length + 1 + 1 = s1.size by omega] at g
    obtain ⟨k', ds, hk', he, hds⟩ := g.2.2 k1 ([] ++ ds1) (by omega)
    rw [he] at hl
    obtain ⟨k, rfl⟩ : ∃ k, k' = k + 1 := ⟨k' - 1, by omega⟩
    rw [toks_end s1 k s1.size _ (Nat.le_refl _)] at hl
    obtain rfl := Sum.inl.inj hl
    rw [List.nil_append, List.map_append, List.map_append]
    have e3 : ds1.map bareT = headT ++ [Gm.lbT] := hds1
    have e4 : ds.map bareT = X ++ ([Gm.rbT] ++ [dotT]) := hds
    rw [e3, e4]
    simp only [List.append_assoc, List.cons_append, List.nil_append, List.map_cons, List.map_nil]
    rfl
  · obtain ⟨l2, hl2, hb2⟩ := all2 X h2
    refine ⟨X, l2, hl2, hb2, h3, .inr ⟨?_, ?_⟩⟩
    · have o1 := occ_at s1 (headB ++ [123]) (x ++ [125, 46]) (by rw [h.d1]; simp)
      have l1 : (headB ++ [123]).length = 20 := rfl
      rw [l1] at o1
      have := o1.left.2 i hi
      rw [h37] at this
      have h38 : (37 : UInt8).toNat = (x[i]).toNat := this
      exact ⟨x[i], List.getElem_mem hi, (UInt8.toNat_inj.1 h38).symm⟩
    · have e3 : ds1.map bareT = headT ++ [Gm.lbT] := hds1
      have e4 : l.map bareT = ([] ++ ds1).map bareT ++ (X ++ [⟨8, ⟨#[]⟩, 0, 0, 0⟩]) := h1
      rw [e4, List.nil_append, e3]
      simp only [List.append_assoc, List.cons_append, List.nil_append]
      rfl
end Go.Proofs.YtdpfmmbfidknfaaGreatDoor


/- GramBrackets, of what the parser tells. -/
namespace Go.Proofs.YtdpfmmbfidknfaaGreatDoor
open Go.RowKit Go.Lib

theorem bare_twice (l : List Tk) : (l.map bareT).map bareT = l.map bareT := by
  rw [List.map_map]
  congr 1
theorem ne_of {l : List Tk} {W : List Tk} (h : Ne ⟨l, [], 0⟩) (hb : l.map bareT = headT ++ Gm.lbT :: (W ++ [endT])) : Ne ⟨Gm.lbT :: (W ++ [endT]), [Gm.gN], 0⟩ := by
  obtain ⟨a, t, hs, h8, ha⟩ := h
  simp only at hs
  rw [hs, List.map_append, List.map_singleton] at hb
  have e1 : headT ++ Gm.lbT :: (W ++ [endT]) = (headT ++ Gm.lbT :: W) ++ [endT] := by simp
  rw [e1] at hb
  obtain ⟨h1, -⟩ := List.append_inj' hb rfl
  refine ⟨Gm.lbT :: W, endT, rfl, rfl, fun u hu => ?_⟩
  have hm : u ∈ a.map bareT := by rw [h1]; exact List.mem_append_right _ hu
  obtain ⟨v, hv, rfl⟩ := List.mem_map.1 hm
  exact ha v hv
theorem wd_k {u : Tk} (h : Wd u ∧ u.p = 0) (hm : Gm.isM u ⟨#[125]⟩ = true) : u.k = 6 ∧ u.p = 0 := by
  refine ⟨?_, h.2⟩
  have hx := Gm.isM_xe hm
  unfold Gm.isM at hm
  simp only [Bool.and_eq_true, Bool.or_eq_true, decide_eq_true_eq] at hm
  rcases hm.1 with hk | hk
  · exact hk
  · rcases h.1 with h7 | h7
    · exact absurd hk h7
    · rw [hx] at h7
      exact absurd h7 (by decide)
theorem parse_blind {s : ByteArray} {l : List Tk} (h : allT s = .inl l) : RR Eq (parseP s) (Gm.module (Gm.expr 201) ⟨l.map bareT, [], 0⟩) := by
  have p1 : parseP s = Gm.module (Gm.expr 201) ⟨l, [], 0⟩ := by unfold parseP; rw [h]; rfl
  rw [p1]
  exact tree_blind l (l.map bareT) (bare_twice l).symm

theorem brackets_src {s1 s2 : ByteArray} {x : List UInt8} (h : Srcs s1 s2 x) {r : Nat} {st : PS} (hp : parseP s1 = .ok (r, st)) :
    ∃ (s0 : PS) (l0 lc lf : List Nat) (t0 : PS) (z1 z2 : List Nd) (W : List Tk), st.ns.map bareN = s0.ns.map bareN ∧ Gm.Inv (Gm.lbT :: W) r s0 l0 lc lf t0 z1 z2 ∧
      (lf.length = 1 → lc.length = 1 → l0.length = 1 → (∀ m, s0.ns[l0.headD 0]? = some m → m.k = 6 ∧ m.l.length = 1) →
        (∃ st', parseP s2 = .ok (r, st') ∧ st.ns.map bareN = st'.ns.map bareN) ∨ ∃ er p, parseP s2 = .error (er, p) ∧ (er = 25 ∨ ∃ c ∈ x, c = 37)) := by
  cases hl : allT s1 with
  | inr e =>
    exfalso
    unfold parseP at hp
    rw [hl] at hp
    cases hp
  | inl l =>
  obtain ⟨X, l2, hl2, hb2, hX, hcase⟩ := srcs_toks h hl
  have q1 := parse_blind hl
  have q2 := parse_blind hl2
  rw [hp] at q1
  rw [hb2] at q2
  obtain ⟨W0, hW0, hWm⟩ : ∃ W0, l.map bareT = headT ++ Gm.lbT :: (W0 ++ [endT]) ∧ ((W0 = X ++ [Gm.rbT, dotT]) ∨ ((∃ c ∈ x, c = 37) ∧ W0 = X)) := by
    rcases hcase with hc | ⟨hc, hc2⟩
    · exact ⟨X ++ [Gm.rbT, dotT], by rw [hc]; simp, .inl rfl⟩
    · exact ⟨X, hc2, .inr ⟨hc, rfl⟩⟩
  have hne := ne_of (allT_ends s1 hl).1 hW0
  rw [hW0] at q1
  cases hm : Gm.module (Gm.expr 201) ⟨headT ++ Gm.lbT :: (W0 ++ [endT]), [], 0⟩ with
  | error e => rw [hm] at q1; exact q1.elim
  | ok q =>
  obtain ⟨r', s0⟩ := q
  rw [hm] at q1
  obtain ⟨rfl, hbs⟩ := q1
  obtain ⟨l0, lc, lf, t0, z1, z2, hI⟩ := Gm.module_inv hne hm
  refine ⟨s0, l0, lc, lf, t0, z1, z2, W0 ++ [endT], Gm.bare_ns hbs, hI, fun hf hc h0 hn => ?_⟩
  have hk : ∀ t ∈ W0 ++ [endT], Gm.isM t ⟨#[125]⟩ = true → t.k = 6 ∧ t.p = 0 := by
    intro t ht hm
    have hXk : t ∈ X → t.k = 6 ∧ t.p = 0 := fun ht => wd_k (hX t ht) hm
    have hend : t = endT → t.k = 6 ∧ t.p = 0 := fun e => by
      rw [e] at hm
      exact absurd hm (by decide)
    rcases List.mem_append.1 ht with ht | ht
    · rcases hWm with rfl | ⟨-, rfl⟩
      · rcases List.mem_append.1 ht with ht | ht
        · exact hXk ht
        · simp only [List.mem_cons, List.not_mem_nil, or_false] at ht
          rcases ht with rfl | rfl <;> exact ⟨rfl, rfl⟩
      · exact hXk ht
    · exact hend (List.mem_singleton.1 ht)
  obtain ⟨X1, c1, d, e, hW, hcx, hdx, he8, hA, hB⟩ := Gm.brackets_bare hk hne hm hI hf hc h0 hn
  rcases hWm with rfl | ⟨hpc, rfl⟩
  · have hWe : X1 ++ [c1, d, e] = X ++ [Gm.rbT, dotT, endT] := by rw [← hW]; simp
    obtain ⟨rfl, h3⟩ := List.append_inj' hWe rfl
    obtain ⟨rfl, rfl, rfl⟩ : c1 = Gm.rbT ∧ d = dotT ∧ e = endT := by simpa using h3
    rcases hA with hA | ⟨p, hA⟩
    · left
      rw [hA] at q2
      cases hq : parseP s2 with
      | error e => rw [hq] at q2; exact q2.elim
      | ok q =>
        obtain ⟨r2, st2⟩ := q
        rw [hq] at q2
        obtain ⟨rfl, hb⟩ := q2
        exact ⟨st2, rfl, (Gm.bare_ns hbs).trans (Gm.bare_ns hb).symm⟩
    · right
      rw [hA] at q2
      cases hq : parseP s2 with
      | ok q => rw [hq] at q2; exact q2.elim
      | error e =>
        rw [hq] at q2
        obtain ⟨er, p2⟩ := e
        exact ⟨er, p2, rfl, .inl q2⟩
  · have hWe : (X1 ++ [c1, d]) ++ [e] = W0 ++ [endT] := by rw [hW]; simp
    obtain ⟨rfl, h3⟩ := List.append_inj' hWe rfl
    obtain ⟨er, hE⟩ := hB (d :: [rT, Gm.rbT, dotT, endT]) (by simp)
    have e4 : X1 ++ [c1, d] ++ [rT, Gm.rbT, dotT, endT] = X1 ++ c1 :: d :: [rT, Gm.rbT, dotT, endT] := by simp
    rw [e4, hE] at q2
    right
    cases hq : parseP s2 with
    | ok q => rw [hq] at q2; exact q2.elim
    | error e2 =>
      obtain ⟨er2, p2⟩ := e2
      exact ⟨er2, p2, rfl, .inr hpc⟩
end Go.Proofs.YtdpfmmbfidknfaaGreatDoor


