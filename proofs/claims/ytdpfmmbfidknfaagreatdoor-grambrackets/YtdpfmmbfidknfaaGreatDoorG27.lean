import Derived.Test.YtdpfmmbfidknfaaGreatDoorG26
import Derived.Test.YtdpfmmbfidknfaaGreatDoorG16
/- The tree of tokens does not hang on places. -/
namespace Go.Proofs.YtdpfmmbfidknfaaGreatDoor
namespace Gm
variable {e e' : PM Nat}
theorem bare_getD {l l' : List Nd} (h : l.map bareN = l'.map bareN) (i : Nat) (d : Nd) : bareN (l.getD i d) = bareN (l'.getD i d) := by
  have h1 : (l.map bareN)[i]? = (l'.map bareN)[i]? := by rw [h]
  rw [List.getElem?_map, List.getElem?_map] at h1
  rw [List.getD_eq_getElem?_getD, List.getD_eq_getElem?_getD]
  cases h2 : l[i]? with
  | none =>
    rw [h2] at h1
    cases h3 : l'[i]? with
    | none => rfl
    | some n => rw [h3] at h1; cases h1
  | some m =>
    rw [h2] at h1
    cases h3 : l'[i]? with
    | none => rw [h3] at h1; cases h1
    | some n => rw [h3] at h1; exact Option.some.inj h1
theorem bareN_x {m n : Nd} (h : bareN m = bareN n) : m.x = n.x := by
  have h2 : (bareN m).x = (bareN n).x := by rw [h]
  exact h2
theorem bareN_n {m n : Nd} (h : bareN m = bareN n) : m.n = n.n := by
  have h2 : (bareN m).n = (bareN n).n := by rw [h]
  exact h2
theorem bareN_l {m n : Nd} (h : bareN m = bareN n) : m.l = n.l := by
  have h2 : (bareN m).l = (bareN n).l := by rw [h]
  exact h2
theorem bl_function (he : Bl Eq e e') : Bl Eq (functionOf e) (functionOf e') :=
  bl_bind bl_here fun t t' _ => bl_bind (bl_clauses (bl_fclause he)) fun c _ h => by
    subst h
    exact bl_bind (bl_need _) fun _ _ _ => fun s s' hs => by
      have hc := bareN_l (bare_getD (bare_ns hs) c ⟨0, ⟨#[]⟩, 0, 0, [], 0⟩)
      have hf := bare_getD (bare_ns hs) ((s'.ns.getD c ⟨0, ⟨#[]⟩, 0, 0, [], 0⟩).l.headD 0) ⟨0, ⟨#[]⟩, 0, 0, [], 0⟩
      simp only [hc]
      exact bl_lay (by simp only [bareN, bareN_x hf, bareN_n hf]) s s' hs
theorem bl_functions (he : Bl Eq e e') : ∀ k l, Bl Eq (functions e k l) (functions e' k l)
  | 0, _ => bl_pure rfl
  | k + 1, l => bl_bind bl_here fun _ _ ht => bl_ite (by rw [ht.k]) (bl_pure rfl) (bl_bind (bl_function he) fun _ _ h => by subst h; exact bl_functions he k _)
theorem bl_module (he : Bl Eq e e') : Bl Eq (module e) (module e') :=
  bl_bind bl_here fun _ _ _ => bl_bind (bl_need _) fun _ _ _ => bl_bind bl_here fun _ _ hu => bl_if (TkS_isA hu _) (bl_bind bl_next fun _ _ _ => bl_bind (bl_need _) fun _ _ _ => bl_bind (bl_needK _) fun _ _ hn => bl_bind (bl_need _) fun _ _ _ => bl_bind (bl_need _) fun _ _ _ => bl_bind bl_left fun _ _ h => by subst h; exact bl_bind (bl_functions he _ _) fun _ _ h => by subst h; exact bl_lay (by simp only [bareN, hn.x])) (bl_giveUp _)
end Gm
/-- Tokens that are the same but for places make trees that are the same but for places, or faults of one number. -/
theorem tree_blind (ts ts' : List Tk) (h : ts.map bareT = ts'.map bareT) : RR Eq (Gm.module (Gm.expr 201) ⟨ts, [], 0⟩) (Gm.module (Gm.expr 201) ⟨ts', [], 0⟩) :=
  Gm.bl_module (Gm.bl_expr 201) _ _ (by simp only [bareS, h])
end Go.Proofs.YtdpfmmbfidknfaaGreatDoor


/- The tokens of a module of one function whose body is one expression of digits, operators and brackets. -/
namespace Go.Proofs.YtdpfmmbfidknfaaGreatDoor
open Go.RowKit Go.Lib

theorem rest_occ (t : ByteArray) (p : Nat) (l : List UInt8) (h : Occ t p l) : (t.extract p t.size).data.toList = l ++ (dl t).drop (p + l.length) := by
  have hd : (t.extract p t.size).data.toList = (dl t).drop p := by
    have := dl_ext t p t.size
    rw [show (dl t).take t.size = dl t from List.take_length] at this
    exact this
  have h1 := h.1
  rw [hd, ← List.take_append_drop l.length ((dl t).drop p), List.drop_drop]
  congr 1
  apply List.ext_getElem
  · rw [List.length_take, List.length_drop, dl_len]; omega
  · intro i hi1 hi2
    rw [List.getElem_take, List.getElem_drop]
    have b := bt_dl t (p + i) (by rw [dl_len]; omega)
    rw [h.2 i hi2] at b
    exact (UInt8.toNat_inj.1 b).symm

/-- Not the first byte of a word, a variable, a number, bits, a quotation, a blank, a comment. -/
def Sgn (c : Nat) : Bool := !(pSmall c) && !(pCapital c) && c != 95 && !(pDigit c) && c != 35 && c != 39 && c != 34 && !(pBlank c) && c != 37
theorem steps_sg (t : ByteArray) (p : Nat) (c : UInt8) (l l2 : List UInt8) (h : Occ t p (c :: l2)) (hc : Sgn c.toNat = true) (hs : ∀ R, signL.find? (fun q => Lib.hasPrefix (c :: (l2 ++ R)) q) = some l) : Steps t p (p + l.length) [⟨6, ⟨l.toArray⟩, 0, 0, 0⟩] := by
  obtain ⟨hp, hb, -⟩ := h.cons
  unfold Sgn at hc
  simp only [Bool.and_eq_true, Bool.not_eq_true', bne_iff_ne] at hc
  obtain ⟨⟨⟨⟨⟨⟨⟨⟨c1, c2⟩, c3⟩, c4⟩, c5⟩, c6⟩, c7⟩, c8⟩, c9⟩ := hc
  have hsa : signAt t p = some l := by
    unfold signAt
    rw [rest_occ t p _ h]
    exact hs _
  have tv : tokV t p = sgV (signAt t p) := by
    unfold tokV
    rw [hb, if_neg (by rw [c1]; simp), if_neg (by rw [c2]; simp [c3]), if_neg (by rw [c4]; simp), if_neg c5, if_neg (by simp [c6, c7])]
  have te : tokE t p = p + sgN (signAt t p) := by
    unfold tokE
    rw [hb, if_neg (by rw [c1]; simp), if_neg (by rw [c2]; simp [c3]), if_neg (by rw [c4]; simp), if_neg c5, if_neg (by simp [c6, c7])]
  rw [hsa] at tv te
  exact steps_tok t p (p + l.length) _ hp (by rw [hb]; exact c8) (by rw [hb]; exact c9) (by rw [tv]; rfl) te (by rw [tv]; rfl)

theorem steps_word (t : ByteArray) (p : Nat) (s : List UInt8) (c : UInt8) (h64 : s.length ≤ 64) (h0 : 0 < s.length) (hs1 : pSmall (s[0]).toNat = true) (hn : ∀ c ∈ s, pName c.toNat = true) (hc : pName c.toNat = false) (h : Occ t p (s ++ [c])) : Steps t p (p + s.length) [⟨if kept ⟨s.toArray⟩ = true then 7 else 1, ⟨s.toArray⟩, 0, 0, 0⟩] := by
  have ho := h.left
  have hsz := h.1
  rw [List.length_append, List.length_singleton] at hsz
  obtain ⟨-, hcc, -⟩ := h.right.cons
  have hg : goes pName t p = p + s.length := by
    rw [goes_past pName t p s.length ho.1 (fun j hj => by rw [ho.2 j hj]; exact hn _ (List.getElem_mem _))]
    exact goes_stop (by rw [hcc]; exact hc)
  have hx := ho.ext
  have b0 : bt t p = (s[0]).toNat := ho.2 0 h0
  have d0 : pSmall (bt t p) = true := by rw [b0]; exact hs1
  have c0 : 97 ≤ bt t p ∧ bt t p ≤ 122 := by simp [pSmall] at d0; omega
  have tv : tokV t p = wordV t p := by unfold tokV; rw [if_pos d0]
  have te : tokE t p = p + s.length := by unfold tokE; rw [if_pos d0, hg]
  have wv : wordV t p = .tuple #[.agg #[.int .i64 ((if kept ⟨s.toArray⟩ = true then 7 else 1)), .string (⟨s.toArray⟩), .int .i64 (0), .float .f64 (0), .int .i64 (0)], .int .i64 0] := by
    unfold wordV
    rw [hg, hx]
    by_cases hk : kept ⟨s.toArray⟩ = true
    · rw [if_pos hk, if_pos hk]
    · rw [if_neg hk, if_neg hk, if_neg (by show ¬ 64 < s.length; omega)]
  rw [wv] at tv
  exact steps_tok t p (p + s.length) _ (by omega) (by simp [pBlank]; omega) (by omega) (by rw [tv]; rfl) te (by rw [tv]; rfl)

/-- What may stand behind a digit. -/
structure Nxt (t : ByteArray) (q : Nat) : Prop where
  lt : q < t.size
  n : pDigit (bt t q) = false
  f : fracOk t q = false
theorem steps_dig (t : ByteArray) (p n : Nat) (hn : n < 10) (h : Occ t p [dB n]) (hx : Nxt t (p + 1)) : Steps t p (p + 1) [dT n] := by
  obtain ⟨hp, hb, -⟩ := h.cons
  have e : (dB n).toNat = 48 + n := by simp [dB]; omega
  rw [e] at hb
  have d0 : pDigit (bt t p) = true := by rw [hb]; simp [pDigit]; omega
  have hg : goes pDigit t p = p + 1 := by
    rw [goes_on hp d0]
    exact goes_stop hx.n
  have fs : fracS t (p + 1) = ⟨#[]⟩ := by unfold fracS; rw [hx.f]; rfl
  have fe : fracEnd t (p + 1) = p + 1 := by unfold fracEnd; rw [hx.f]; rfl
  have hxs : (t.extract p (p + 1)).size = 1 := by rw [size_ext]; omega
  have hw : wor (t.extract p (p + 1)) 1 = n := by
    have := wor_wl (t.extract p (p + 1)) [dB n] (fun j hj => by
      obtain rfl : j = 0 := by simpa using hj
      rw [bt_ext2 t _ _ 0 (by omega) (by omega), Nat.add_zero, hb, ← e]; rfl) 1 (by simp)
    rw [this]
    simp only [List.take_succ_cons, List.take_zero, wl, e, List.length_nil]
    omega
  have nv : numV t p = .tuple #[.agg #[.int .i64 (3), .string (⟨#[]⟩), .int .i64 (((n : Nat) : Int)), .float .f64 (0), .int .i64 (0)], .int .i64 0] := by
    unfold numV
    rw [hg, fs, hxs, if_neg (by omega), if_pos (show (⟨#[]⟩ : ByteArray).size = 0 from rfl)]
    unfold wholeV
    rw [hxs, hw, if_neg (by omega), if_neg (by omega)]
  have n1 : ¬ pSmall (bt t p) = true := by simp [pSmall]; omega
  have n2 : ¬ (pCapital (bt t p) = true ∨ bt t p = 95) := by simp [pCapital]; omega
  have tv : tokV t p = numV t p := by unfold tokV; rw [if_neg n1, if_neg n2, if_pos d0]
  have te : tokE t p = p + 1 := by unfold tokE; rw [if_neg n1, if_neg n2, if_pos d0, hg, fe]
  rw [nv] at tv
  exact steps_tok t p (p + 1) _ hp (by simp [pBlank]; omega) (by omega) (by rw [tv]; rfl) te (by rw [tv]; rfl)

theorem steps_sp (t : ByteArray) (p : Nat) (h : Occ t p [32]) : Steps t p (p + 1) [] := by
  obtain ⟨hp, hb, -⟩ := h.cons
  have hr : runP t 1 false p = some false := run_sp t false p hb
  have hg := (gap t 1 p (by omega)).1 false hr
  simp only [Bool.false_eq_true, if_false] at hg
  refine ⟨by omega, by omega, fun k done hk => ?_⟩
  obtain ⟨k', hk', he⟩ := hg.2.2 k done hk
  exact ⟨k', [], hk', by rw [he, List.append_nil], rfl⟩

theorem nxt_of {t : ByteArray} {q : Nat} {c : UInt8} {l : List UInt8} (h : Occ t q (c :: l)) (hc : pDigit c.toNat = false) (h46 : c.toNat ≠ 46) : Nxt t q := by
  obtain ⟨h1, h2, -⟩ := h.cons
  refine ⟨h1, by rw [h2]; exact hc, ?_⟩
  unfold fracOk
  rw [h2]
  simp [h46]
theorem nxt_end {t : ByteArray} {q : Nat} (h : Occ t q [46]) (he : q + 1 = t.size) : Nxt t q := by
  obtain ⟨h1, h2, -⟩ := h.cons
  refine ⟨h1, by rw [h2]; rfl, ?_⟩
  unfold fracOk
  simp [he]

theorem steps_op (t : ByteArray) (s : Nat) (hs : s < 12) : ∀ p, Occ t p (opB s ++ [32]) → Steps t p (p + (opB s).length) [opT s] := by
  refine of12 (P := fun s => ∀ p, Occ t p (opB s ++ [32]) → Steps t p (p + (opB s).length) [opT s]) ?_ ?_ ?_ ?_ ?_ ?_ ?_ ?_ ?_ ?_ ?_ ?_ s hs
  · intro p h; exact steps_word t p _ 32 (by decide) (by decide) (by decide) (by decide) (by decide) h
  · intro p h; exact steps_word t p _ 32 (by decide) (by decide) (by decide) (by decide) (by decide) h
  · intro p h; exact steps_sg t p 61 [61, 61] [61, 32] h (by decide) (fun R => by rfl)
  · intro p h; exact steps_sg t p 60 [60] [32] h (by decide) (fun R => by rfl)
  · intro p h; exact steps_sg t p 61 [61, 58, 61] [58, 61, 32] h (by decide) (fun R => by rfl)
  · intro p h; exact steps_sg t p 43 [43, 43] [43, 32] h (by decide) (fun R => by rfl)
  · intro p h; exact steps_sg t p 43 [43] [32] h (by decide) (fun R => by rfl)
  · intro p h; exact steps_sg t p 45 [45] [32] h (by decide) (fun R => by rfl)
  · intro p h; exact steps_sg t p 42 [42] [32] h (by decide) (fun R => by rfl)
  · intro p h; exact steps_sg t p 47 [47] [32] h (by decide) (fun R => by rfl)
  · intro p h; exact steps_word t p _ 32 (by decide) (by decide) (by decide) (by decide) (by decide) h
  · intro p h; exact steps_word t p _ 32 (by decide) (by decide) (by decide) (by decide) (by decide) h

theorem steps_ex (t : ByteArray) : ∀ (e : Ex), Ok12 e → ∀ p, Occ t p (txt e) → Nxt t (p + (txt e).length) → Steps t p (p + (txt e).length) e.toks
  | .d n, ho, p, h, hx => steps_dig t p n ho h hx
  | .o s l r, ho, p, h, hx => by
    simp only [txt] at h hx ⊢
    have h1 := h.left
    have h2 := h.right
    have h3 : Occ t (p + (txt l).length) [32] := Occ.left (a := [32]) h2
    have h4 : Occ t (p + (txt l).length + 1) (opB s ++ 32 :: txt r) := Occ.right (a := [32]) h2
    have h5 : Occ t (p + (txt l).length + 1) (opB s ++ [32]) := by
      refine Occ.left (b := txt r) ?_
      rw [List.append_assoc]
      exact h4
    have h6 := h4.right
    have h7 : Occ t (p + (txt l).length + 1 + (opB s).length) [32] := Occ.left (a := [32]) h6
    have h8 : Occ t (p + (txt l).length + 1 + (opB s).length + 1) (txt r) := Occ.right (a := [32]) h6
    have hL : p + (txt l ++ 32 :: (opB s ++ 32 :: txt r)).length = p + (txt l).length + 1 + (opB s).length + 1 + (txt r).length := by
      simp only [List.length_append, List.length_cons]; omega
    rw [hL] at hx ⊢
    have a1 := steps_ex t l ho.2.1 p h1 (nxt_of h2 rfl (by decide))
    have a2 := steps_sp t _ h3
    have a3 := steps_op t s ho.1 _ h5
    have a4 := steps_sp t _ h7
    have a5 := steps_ex t r ho.2.2 _ h8 hx
    have := a1.trans (a2.trans (a3.trans (a4.trans a5)))
    exact this
  | .br e, ho, p, h, hx => by
    simp only [txt] at h hx ⊢
    have h1 : Occ t (p + 1) (txt e ++ [41]) := Occ.right (a := [40]) h
    have h2 := h1.left
    have h3 := h1.right
    have hL : p + (40 :: (txt e ++ [41])).length = p + 1 + (txt e).length + 1 := by simp only [List.length_append, List.length_cons, List.length_nil]; omega
    rw [hL] at hx ⊢
    have a1 := steps_sg t p 40 [40] [] (Occ.left (a := [40]) h) (by decide) (fun R => by rfl)
    have a2 := steps_ex t e ho _ h2 (nxt_of h3 rfl (by decide))
    have a3 := steps_sg t _ 41 [41] [] h3 (by decide) (fun R => by rfl)
    exact a1.trans (a2.trans a3)

def headB : List UInt8 := [45, 109, 111, 100, 117, 108, 101, 40, 109, 41, 46, 32, 102, 40, 41, 32, 45, 62, 32]
theorem steps_head (t : ByteArray) (h : Occ t 0 headB) : Steps t 0 19 headT := by
  have o : ∀ (a b : List UInt8), headB = a ++ b → Occ t a.length b := fun a b e => by
    rw [e] at h
    have := h.right
    rwa [Nat.zero_add] at this
  have a0 := steps_sg t 0 45 [45] [109] (Occ.left (a := [45, 109]) h) (by decide) (fun R => by rfl)
  have a1 := steps_word t 1 [109, 111, 100, 117, 108, 101] 40 (by decide) (by decide) (by decide) (by decide) (by decide) (Occ.left (a := [109, 111, 100, 117, 108, 101, 40]) (o [45] _ rfl))
  have a2 := steps_sg t 7 40 [40] [] (Occ.left (a := [40]) (o [45, 109, 111, 100, 117, 108, 101] _ rfl)) (by decide) (fun R => by rfl)
  have a3 := steps_word t 8 [109] 41 (by decide) (by decide) (by decide) (by decide) (by decide) (Occ.left (a := [109, 41]) (o [45, 109, 111, 100, 117, 108, 101, 40] _ rfl))
  have a4 := steps_sg t 9 41 [41] [] (Occ.left (a := [41]) (o [45, 109, 111, 100, 117, 108, 101, 40, 109] _ rfl)) (by decide) (fun R => by rfl)
  have a5 := steps_sg t 10 46 [46] [] (Occ.left (a := [46]) (o [45, 109, 111, 100, 117, 108, 101, 40, 109, 41] _ rfl)) (by decide) (fun R => by rfl)
  have a6 := steps_sp t 11 (Occ.left (a := [32]) (o [45, 109, 111, 100, 117, 108, 101, 40, 109, 41, 46] _ rfl))
  have a7 := steps_word t 12 [102] 40 (by decide) (by decide) (by decide) (by decide) (by decide) (Occ.left (a := [102, 40]) (o [45, 109, 111, 100, 117, 108, 101, 40, 109, 41, 46, 32] _ rfl))
  have a8 := steps_sg t 13 40 [40] [] (Occ.left (a := [40]) (o [45, 109, 111, 100, 117, 108, 101, 40, 109, 41, 46, 32, 102] _ rfl)) (by decide) (fun R => by rfl)
  have a9 := steps_sg t 14 41 [41] [] (Occ.left (a := [41]) (o [45, 109, 111, 100, 117, 108, 101, 40, 109, 41, 46, 32, 102, 40] _ rfl)) (by decide) (fun R => by rfl)
  have b0 := steps_sp t 15 (Occ.left (a := [32]) (o [45, 109, 111, 100, 117, 108, 101, 40, 109, 41, 46, 32, 102, 40, 41] _ rfl))
  have b1 := steps_sg t 16 45 [45, 62] [62] (Occ.left (a := [45, 62]) (o [45, 109, 111, 100, 117, 108, 101, 40, 109, 41, 46, 32, 102, 40, 41, 32] _ rfl)) (by decide) (fun R => by rfl)
  have b2 := steps_sp t 18 (Occ.left (a := [32]) (o [45, 109, 111, 100, 117, 108, 101, 40, 109, 41, 46, 32, 102, 40, 41, 32, 45, 62] _ rfl))
  exact a0.trans (a1.trans (a2.trans (a3.trans (a4.trans (a5.trans (a6.trans (a7.trans (a8.trans (a9.trans (b0.trans (b1.trans b2)))))))))))

/-- All tokens of such a source. -/
theorem all_src (t : ByteArray) (e : Ex) (ho : Ok12 e) (hd : t.data.toList = headB ++ (txt e ++ [46])) (hsz : t.size ≤ 65536) : ∃ l, allT t = .inl l ∧ l.map bareT = srcT e := by
  have hs : t.size = (headB ++ (txt e ++ [46])).length := by rw [← hd]; rfl
  have hO : Occ t 0 (headB ++ (txt e ++ [46])) := by
    refine ⟨by rw [hs]; omega, fun j hj => ?_⟩
    have hj2 : j < (dl t).length := by show j < t.size; omega
    rw [Nat.zero_add, bt_dl t j hj2]
    congr 1
    have : dl t = headB ++ (txt e ++ [46]) := hd
    simp only [this]
  have h1 := steps_head t hO.left
  have h2 : Occ t 19 (txt e ++ [46]) := by have := hO.right; exact this
  have h3 := h2.right
  have hend : 19 + (txt e).length + 1 = t.size := by rw [hs]; simp only [List.length_append, List.length_singleton]; rfl
  have h4 := steps_ex t e ho 19 h2.left (nxt_end h3 hend)
  have h5 := steps_sg t _ 46 [46] [] h3 (by decide) (fun R => by rfl)
  have h6 := h1.trans (h4.trans h5)
  have hl : 19 + (txt e).length + ([46] : List UInt8).length = t.size := hend
  rw [hl] at h6
  obtain ⟨k', ds, hk', he, hds⟩ := h6.2.2 (t.size + 1) [] (by omega)
  obtain ⟨k, rfl⟩ : ∃ k, k' = k + 1 := ⟨k' - 1, by omega⟩
  refine ⟨[] ++ ds ++ [⟨8, ⟨#[]⟩, 0, 0, t.size⟩], ?_, ?_⟩
  · unfold allT
    rw [if_neg (by omega), he, toks_end t k t.size _ (Nat.le_refl _)]
  · rw [List.nil_append, List.map_append]
    have : ds.map bareT = headT ++ (e.toks ++ [dotT]) := hds
    rw [this]
    simp only [srcT, List.append_assoc]
    rfl

end Go.Proofs.YtdpfmmbfidknfaaGreatDoor


