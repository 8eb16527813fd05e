import Derived.Test.YtdpfmmbfidknfaaGreatDoorG15
import Derived.Test.YtdpfmmbfidknfaaGreatDoorG22
import Derived.Test.YtdpfmmbfidknfaaGreatDoorG23
/- The tokens of a module of one function whose body is one expression of digits, operators and brackets. -/
namespace Go.Proofs.YtdpfmmbfidknfaaGreatDoor
open Go.RowKit Go.Lib

theorem rest_occ (t : ByteArray) (p : Nat) (l : List UInt8) (h : Occ t p l) : (t.extract p t.size).data.toList = l ++ (dl t).drop (p + l.length) := by
  have hd : (t.extract p t.size).data.toList = (dl t).drop p := by
    have := dl_ext t p t.size
    rw [show (dl t).take t.size = dl t from List.take_length] at this
    exact this
  have h1 := h.1
  rw [hd, ← List.take_append_drop l.length ((dl t).drop p), List.drop_drop]
  congr 1
  apply List.ext_getElem
  · rw [List.length_take, List.length_drop, dl_len]; omega
  · intro i hi1 hi2
    rw [List.getElem_take, List.getElem_drop]
    have b := bt_dl t (p + i) (by rw [dl_len]; omega)
    rw [h.2 i hi2] at b
    exact (UInt8.toNat_inj.1 b).symm

/-- Not the first byte of a word, a variable, a number, bits, a quotation, a blank, a comment. -/
def Sgn (c : Nat) : Bool := !(pSmall c) && !(pCapital c) && c != 95 && !(pDigit c) && c != 35 && c != 39 && c != 34 && !(pBlank c) && c != 37
theorem steps_sg (t : ByteArray) (p : Nat) (c : UInt8) (l l2 : List UInt8) (h : Occ t p (c :: l2)) (hc : Sgn c.toNat = true) (hs : ∀ R, signL.find? (fun q => Lib.hasPrefix (c :: (l2 ++ R)) q) = some l) : Steps t p (p + l.length) [⟨6, ⟨l.toArray⟩, 0, 0, 0⟩] := by
  obtain ⟨hp, hb, -⟩ := h.cons
  unfold Sgn at hc
  simp only [Bool.and_eq_true, Bool.not_eq_true', bne_iff_ne] at hc
  obtain ⟨⟨⟨⟨⟨⟨⟨⟨c1, c2⟩, c3⟩, c4⟩, c5⟩, c6⟩, c7⟩, c8⟩, c9⟩ := hc
  have hsa : signAt t p = some l := by
    unfold signAt
    rw [rest_occ t p _ h]
    exact hs _
  have tv : tokV t p = sgV (signAt t p) := by
    unfold tokV
    rw [hb, if_neg (by rw [c1]; simp), if_neg (by rw [c2]; simp [c3]), if_neg (by rw [c4]; simp), if_neg c5, if_neg (by simp [c6, c7])]
  have te : tokE t p = p + sgN (signAt t p) := by
    unfold tokE
    rw [hb, if_neg (by rw [c1]; simp), if_neg (by rw [c2]; simp [c3]), if_neg (by rw [c4]; simp), if_neg c5, if_neg (by simp [c6, c7])]
  rw [hsa] at tv te
  exact steps_tok t p (p + l.length) _ hp (by rw [hb]; exact c8) (by rw [hb]; exact c9) (by rw [tv]; rfl) te (by rw [tv]; rfl)

theorem steps_word (t : ByteArray) (p : Nat) (s : List UInt8) (c : UInt8) (h64 : s.length ≤ 64) (h0 : 0 < s.length) (hs1 : pSmall (s[0]).toNat = true) (hn : ∀ c ∈ s, pName c.toNat = true) (hc : pName c.toNat = false) (h : Occ t p (s ++ [c])) : Steps t p (p + s.length) [⟨if kept ⟨s.toArray⟩ = true then 7 else 1, ⟨s.toArray⟩, 0, 0, 0⟩] := by
  have ho := h.left
  have hsz := h.1
  rw [List.length_append, List.length_singleton] at hsz
  obtain ⟨-, hcc, -⟩ := h.right.cons
  have hg : goes pName t p = p + s.length := by
    rw [goes_past pName t p s.length ho.1 (fun j hj => by rw [ho.2 j hj]; exact hn _ (List.getElem_mem _))]
    exact goes_stop (by rw [hcc]; exact hc)
  have hx := ho.ext
  have b0 : bt t p = (s[0]).toNat := ho.2 0 h0
  have d0 : pSmall (bt t p) = true := by rw [b0]; exact hs1
  have c0 : 97 ≤ bt t p ∧ bt t p ≤ 122 := by simp [pSmall] at d0; omega
  have tv : tokV t p = wordV t p := by unfold tokV; rw [if_pos d0]
  have te : tokE t p = p + s.length := by unfold tokE; rw [if_pos d0, hg]
  have wv : wordV t p = .tuple #[.agg #[.int .i64 ((if kept ⟨s.toArray⟩ = true then 7 else 1)), .string (⟨s.toArray⟩), .int .i64 (0), .float .f64 (0), .int .i64 (0)], .int .i64 0] := by
    unfold wordV
    rw [hg, hx]
    by_cases hk : kept ⟨s.toArray⟩ = true
    · rw [if_pos hk, if_pos hk]
    · rw [if_neg hk, if_neg hk, if_neg (by show ¬ 64 < s.length; omega)]
  rw [wv] at tv
  exact steps_tok t p (p + s.length) _ (by omega) (by simp [pBlank]; omega) (by omega) (by rw [tv]; rfl) te (by rw [tv]; rfl)

/-- What may stand behind a digit. -/
structure Nxt (t : ByteArray) (q : Nat) : Prop where
  lt : q < t.size
  n : pDigit (bt t q) = false
  f : fracOk t q = false
theorem steps_dig (t : ByteArray) (p n : Nat) (hn : n < 10) (h : Occ t p [dB n]) (hx : Nxt t (p + 1)) : Steps t p (p + 1) [dT n] := by
  obtain ⟨hp, hb, -⟩ := h.cons
  have e : (dB n).toNat = 48 + n := by simp [dB]; omega
  rw [e] at hb
  have d0 : pDigit (bt t p) = true := by rw [hb]; simp [pDigit]; omega
  have hg : goes pDigit t p = p + 1 := by
    rw [goes_on hp d0]
    exact goes_stop hx.n
  have fs : fracS t (p + 1) = ⟨#[]⟩ := by unfold fracS; rw [hx.f]; rfl
  have fe : fracEnd t (p + 1) = p + 1 := by unfold fracEnd; rw [hx.f]; rfl
  have hxs : (t.extract p (p + 1)).size = 1 := by rw [size_ext]; omega
  have hw : wor (t.extract p (p + 1)) 1 = n := by
    have := wor_wl (t.extract p (p + 1)) [dB n] (fun j hj => by
      obtain rfl : j = 0 := by simpa using hj
      rw [bt_ext2 t _ _ 0 (by omega) (by omega), Nat.add_zero, hb, ← e]; rfl) 1 (by simp)
    rw [this]
    simp only [List.take_succ_cons, List.take_zero, wl, e, List.length_nil]
    omega
  have nv : numV t p = .tuple #[.agg #[.int .i64 (3), .string (⟨#[]⟩), .int .i64 (((n : Nat) : Int)), .float .f64 (0), .int .i64 (0)], .int .i64 0] := by
    unfold numV
    rw [hg, fs, hxs, if_neg (by omega), if_pos (show (⟨#[]⟩ : ByteArray).size = 0 from rfl)]
    unfold wholeV
    rw [hxs, hw, if_neg (by omega), if_neg (by omega)]
  have n1 : ¬ pSmall (bt t p) = true := by simp [pSmall]; omega
  have n2 : ¬ (pCapital (bt t p) = true ∨ bt t p = 95) := by simp [pCapital]; omega
  have tv : tokV t p = numV t p := by unfold tokV; rw [if_neg n1, if_neg n2, if_pos d0]
  have te : tokE t p = p + 1 := by unfold tokE; rw [if_neg n1, if_neg n2, if_pos d0, hg, fe]
  rw [nv] at tv
  exact steps_tok t p (p + 1) _ hp (by simp [pBlank]; omega) (by omega) (by rw [tv]; rfl) te (by rw [tv]; rfl)

theorem steps_sp (t : ByteArray) (p : Nat) (h : Occ t p [32]) : Steps t p (p + 1) [] := by
  obtain ⟨hp, hb, -⟩ := h.cons
  have hr : runP t 1 false p = some false := run_sp t false p hb
  have hg := (gap t 1 p (by omega)).1 false hr
  simp only [Bool.false_eq_true, if_false] at hg
  refine ⟨by omega, by omega, fun k done hk => ?_⟩
  obtain ⟨k', hk', he⟩ := hg.2.2 k done hk
  exact ⟨k', [], hk', by rw [he, List.append_nil], rfl⟩

theorem nxt_of {t : ByteArray} {q : Nat} {c : UInt8} {l : List UInt8} (h : Occ t q (c :: l)) (hc : pDigit c.toNat = false) (h46 : c.toNat ≠ 46) : Nxt t q := by
  obtain ⟨h1, h2, -⟩ := h.cons
  refine ⟨h1, by rw [h2]; exact hc, ?_⟩
  unfold fracOk
  rw [h2]
  simp [h46]
theorem nxt_end {t : ByteArray} {q : Nat} (h : Occ t q [46]) (he : q + 1 = t.size) : Nxt t q := by
  obtain ⟨h1, h2, -⟩ := h.cons
  refine ⟨h1, by rw [h2]; rfl, ?_⟩
  unfold fracOk
  simp [he]

theorem steps_op (t : ByteArray) (s : Nat) (hs : s < 12) : ∀ p, Occ t p (opB s ++ [32]) → Steps t p (p + (opB s).length) [opT s] := by
  refine of12 (P := fun s => ∀ p, Occ t p (opB s ++ [32]) → Steps t p (p + (opB s).length) [opT s]) ?_ ?_ ?_ ?_ ?_ ?_ ?_ ?_ ?_ ?_ ?_ ?_ s hs
  · intro p h; exact steps_word t p _ 32 (by decide) (by decide) (by decide) (by decide) (by decide) h
  · intro p h; exact steps_word t p _ 32 (by decide) (by decide) (by decide) (by decide) (by decide) h
  · intro p h; exact steps_sg t p 61 [61, 61] [61, 32] h (by decide) (fun R => by rfl)
  · intro p h; exact steps_sg t p 60 [60] [32] h (by decide) (fun R => by rfl)
  · intro p h; exact steps_sg t p 61 [61, 58, 61] [58, 61, 32] h (by decide) (fun R => by rfl)
  · intro p h; exact steps_sg t p 43 [43, 43] [43, 32] h (by decide) (fun R => by rfl)
  · intro p h; exact steps_sg t p 43 [43] [32] h (by decide) (fun R => by rfl)
  · intro p h; exact steps_sg t p 45 [45] [32] h (by decide) (fun R => by rfl)
  · intro p h; exact steps_sg t p 42 [42] [32] h (by decide) (fun R => by rfl)
  · intro p h; exact steps_sg t p 47 [47] [32] h (by decide) (fun R => by rfl)
  · intro p h; exact steps_word t p _ 32 (by decide) (by decide) (by decide) (by decide) (by decide) h
  · intro p h; exact steps_word t p _ 32 (by decide) (by decide) (by decide) (by decide) (by decide) h

theorem steps_ex (t : ByteArray) : ∀ (e : Ex), Ok12 e → ∀ p, Occ t p (txt e) → Nxt t (p + (txt e).length) → Steps t p (p + (txt e).length) e.toks
  | .d n, ho, p, h, hx => steps_dig t p n ho h hx
  | .o s l r, ho, p, h, hx => by
    simp only [txt] at h hx ⊢
    have h1 := h.left
    have h2 := h.right
    have h3 : Occ t (p + (txt l).length) [32] := Occ.left (a := [32]) h2
    have h4 : Occ t (p + (txt l).length + 1) (opB s ++ 32 :: txt r) := Occ.right (a := [32]) h2
    have h5 : Occ t (p + (txt l).length + 1) (opB s ++ [32]) := by
      refine Occ.left (b := txt r) ?_
      rw [List.append_assoc]
      exact h4
    have h6 := h4.right
    have h7 : Occ t (p + (txt l).length + 1 + (opB s).length) [32] := Occ.left (a := [32]) h6
    have h8 : Occ t (p + (txt l).length + 1 + (opB s).length + 1) (txt r) := Occ.right (a := [32]) h6
    have hL : p + (txt l ++ 32 :: (opB s ++ 32 :: txt r)).length = p + (txt l).length + 1 + (opB s).length + 1 + (txt r).length := by
      simp only [List.length_append, List.length_cons]; omega
    rw [hL] at hx ⊢
    have a1 := steps_ex t l ho.2.1 p h1 (nxt_of h2 rfl (by decide))
    have a2 := steps_sp t _ h3
    have a3 := steps_op t s ho.1 _ h5
    have a4 := steps_sp t _ h7
    have a5 := steps_ex t r ho.2.2 _ h8 hx
    have := a1.trans (a2.trans (a3.trans (a4.trans a5)))
    exact this
  | .br e, ho, p, h, hx => by
    simp only [txt] at h hx ⊢
    have h1 : Occ t (p + 1) (txt e ++ [41]) := Occ.right (a := [40]) h
    have h2 := h1.left
    have h3 := h1.right
    have hL : p + (40 :: (txt e ++ [41])).length = p + 1 + (txt e).length + 1 := by simp only [List.length_append, List.length_cons, List.length_nil]; omega
    rw [hL] at hx ⊢
    have a1 := steps_sg t p 40 [40] [] (Occ.left (a := [40]) h) (by decide) (fun R => by rfl)
    have a2 := steps_ex t e ho _ h2 (nxt_of h3 rfl (by decide))
    have a3 := steps_sg t _ 41 [41] [] h3 (by decide) (fun R => by rfl)
    exact a1.trans (a2.trans a3)

def headB : List UInt8 := [45, 109, 111, 100, 117, 108, 101, 40, 109, 41, 46, 32, 102, 40, 41, 32, 45, 62, 32]
theorem steps_head (t : ByteArray) (h : Occ t 0 headB) : Steps t 0 19 headT := by
  have o : ∀ (a b : List UInt8), headB = a ++ b → Occ t a.length b := fun a b e => by
    rw [e] at h
    have := h.right
    rwa [Nat.zero_add] at this
  have a0 := steps_sg t 0 45 [45] [109] (Occ.left (a := [45, 109]) h) (by decide) (fun R => by rfl)
  have a1 := steps_word t 1 [109, 111, 100, 117, 108, 101] 40 (by decide) (by decide) (by decide) (by decide) (by decide) (Occ.left (a := [109, 111, 100, 117, 108, 101, 40]) (o [45] _ rfl))
  have a2 := steps_sg t 7 40 [40] [] (Occ.left (a := [40]) (o [45, 109, 111, 100, 117, 108, 101] _ rfl)) (by decide) (fun R => by rfl)
  have a3 := steps_word t 8 [109] 41 (by decide) (by decide) (by decide) (by decide) (by decide) (Occ.left (a := [109, 41]) (o [45, 109, 111, 100, 117, 108, 101, 40] _ rfl))
  have a4 := steps_sg t 9 41 [41] [] (Occ.left (a := [41]) (o [45, 109, 111, 100, 117, 108, 101, 40, 109] _ rfl)) (by decide) (fun R => by rfl)
  have a5 := steps_sg t 10 46 [46] [] (Occ.left (a := [46]) (o [45, 109, 111, 100, 117, 108, 101, 40, 109, 41] _ rfl)) (by decide) (fun R => by rfl)
  have a6 := steps_sp t 11 (Occ.left (a := [32]) (o [45, 109, 111, 100, 117, 108, 101, 40, 109, 41, 46] _ rfl))
  have a7 := steps_word t 12 [102] 40 (by decide) (by decide) (by decide) (by decide) (by decide) (Occ.left (a := [102, 40]) (o [45, 109, 111, 100, 117, 108, 101, 40, 109, 41, 46, 32] _ rfl))
  have a8 := steps_sg t 13 40 [40] [] (Occ.left (a := [40]) (o [45, 109, 111, 100, 117, 108, 101, 40, 109, 41, 46, 32, 102] _ rfl)) (by decide) (fun R => by rfl)
  have a9 := steps_sg t 14 41 [41] [] (Occ.left (a := [41]) (o [45, 109, 111, 100, 117, 108, 101, 40, 109, 41, 46, 32, 102, 40] _ rfl)) (by decide) (fun R => by rfl)
  have b0 := steps_sp t 15 (Occ.left (a := [32]) (o [45, 109, 111, 100, 117, 108, 101, 40, 109, 41, 46, 32, 102, 40, 41] _ rfl))
  have b1 := steps_sg t 16 45 [45, 62] [62] (Occ.left (a := [45, 62]) (o [45, 109, 111, 100, 117, 108, 101, 40, 109, 41, 46, 32, 102, 40, 41, 32] _ rfl)) (by decide) (fun R => by rfl)
  have b2 := steps_sp t 18 (Occ.left (a := [32]) (o [45, 109, 111, 100, 117, 108, 101, 40, 109, 41, 46, 32, 102, 40, 41, 32, 45, 62] _ rfl))
  exact a0.trans (a1.trans (a2.trans (a3.trans (a4.trans (a5.trans (a6.trans (a7.trans (a8.trans (a9.trans (b0.trans (b1.trans b2)))))))))))

/-- All tokens of such a source. -/
theorem all_src (t : ByteArray) (e : Ex) (ho : Ok12 e) (hd : t.data.toList = headB ++ (txt e ++ [46])) (hsz : t.size ≤ 65536) : ∃ l, allT t = .inl l ∧ l.map bareT = srcT e := by
  have hs : t.size = (headB ++ (txt e ++ [46])).length := by rw [← hd]; rfl
  have hO : Occ t 0 (headB ++ (txt e ++ [46])) := by
    refine ⟨by rw [hs]; omega, fun j hj => ?_⟩
    have hj2 : j < (dl t).length := by show j < t.size; omega
    rw [Nat.zero_add, bt_dl t j hj2]
    congr 1
    have : dl t = headB ++ (txt e ++ [46]) := hd
    simp only [this]
  have h1 := steps_head t hO.left
  have h2 : Occ t 19 (txt e ++ [46]) := by have := hO.right; exact this
  have h3 := h2.right
  have hend : 19 + (txt e).length + 1 = t.size := by rw [hs]; simp only [List.length_append, List.length_singleton]; rfl
  have h4 := steps_ex t e ho 19 h2.left (nxt_end h3 hend)
  have h5 := steps_sg t _ 46 [46] [] h3 (by decide) (fun R => by rfl)
  have h6 := h1.trans (h4.trans h5)
  have hl : 19 + (txt e).length + ([46] : List UInt8).length = t.size := hend
  rw [hl] at h6
  obtain ⟨k', ds, hk', he, hds⟩ := h6.2.2 (t.size + 1) [] (by omega)
  obtain ⟨k, rfl⟩ : ∃ k, k' = k + 1 := ⟨k' - 1, by omega⟩
  refine ⟨[] ++ ds ++ [⟨8, ⟨#[]⟩, 0, 0, t.size⟩], ?_, ?_⟩
  · unfold allT
    rw [if_neg (by omega), he, toks_end t k t.size _ (Nat.le_refl _)]
  · rw [List.nil_append, List.map_append]
    have : ds.map bareT = headT ++ (e.toks ++ [dotT]) := hds
    rw [this]
    simp only [srcT, List.append_assoc]
    rfl

end Go.Proofs.YtdpfmmbfidknfaaGreatDoor


/- The law's own: a row with all brackets. -/
namespace Go.Proofs.YtdpfmmbfidknfaaGreatDoor
open Go.RowKit Go.Lib
attribute [local go_sem] store_float
attribute [local go_sem ↓] Go.wp_at_zero Go.wp_at_succ

theorem StrRow.take {w : World} {a : Option Addr} {l : List ByteArray} (h : StrRow w a l) (n : Nat) : StrRow w a (l.take n) := by
  intro j x hj
  rw [List.getElem?_take] at hj
  split at hj
  · exact h j x hj
  · cases hj
theorem StrRow.drop {w : World} {b o : Nat} {l : List ByteArray} (h : StrRow w (some ⟨b, o, none⟩) l) (n : Nat) : StrRow w (some ⟨b, o + n, none⟩) (l.drop n) := by
  intro j x hj
  rw [List.getElem?_drop] at hj
  obtain ⟨b', o', h1, h2, h3⟩ := h _ x hj
  obtain ⟨rfl, rfl⟩ : b = b' ∧ o = o' := by simpa using h1
  exact ⟨b, o + n, rfl, h2, by rw [Nat.add_assoc]; exact h3⟩
/-- A digit. -/
def dX (n : Nat) : ByteArray := ⟨#[dB n]⟩

theorem tree_nil (k : Nat) (x : List Nat) : tree k x [] = .d (x.headD 0) := by cases k <;> simp [tree]
set_option maxHeartbeats 2000000 in
set_option maxRecDepth 100000 in
theorem bracketed_one (k : Nat) (w : World) (xa la : Option Addr) (cx cl : Nat) (a : Nat) (hrx : StrRow w xa [dX a]) :
    Calls Tryz.prog 11 #[.slice xa 1 cx, .slice la 0 cl] w fun e w' => (∃ B : ByteArray, e = .returned (.string B) ∧ B.data.toList = txt (full (tree k [a] [])) ∧ B.size ≤ 12 * 0 + 1) ∧ Below w.heap.size w w' := by
  obtain ⟨b, o, rfl, hbl, hc⟩ := hrx 0 (dX a) rfl
  rw [Nat.add_zero] at hc
  have hz : dX a = ⟨#[dB a]⟩ := rfl
  generalize dX a = A at *
  go_enter Tryz.func11, Tryz.ntmps11
  go_wp2_with fail
  all_goals
    go_ret
    refine ⟨⟨_, rfl, ?_, ?_⟩, ?_⟩
    · rw [tree_nil]; rfl
    · exact Nat.le_refl _
    · first | exact Below.refl _ _ | exact below_drewN (Below.refl _ _) _

set_option maxHeartbeats 2000000 in
set_option maxRecDepth 100000 in
theorem bracketed_any : ∀ (k : Nat) (w : World) (xa la : Option Addr) (nx cx nl cl : Nat) (x l : List Nat), l.length ≤ k → x.length = nx → l.length = nl → nx = nl + 1 → nl ≤ 30 → nx ≤ cx → nl ≤ cl → StrRow w xa (x.map dX) → StrRow w la (l.map opX) → (∀ s ∈ l, s < 12) →
    Calls Tryz.prog 11 #[.slice xa nx cx, .slice la nl cl] w fun e w' => (∃ B : ByteArray, e = .returned (.string B) ∧ B.data.toList = txt (full (tree k x l)) ∧ B.size ≤ 12 * nl + 1) ∧ Below w.heap.size w w' := by
  intro k
  induction k with
  | zero =>
    intro w xa la nx cx nl cl x l hk hx hl hxl h30 hcx hcl hrx hrl hs
    obtain rfl : l = [] := List.eq_nil_of_length_eq_zero (by omega)
    obtain rfl : nl = 0 := by simpa using hl.symm
    subst hxl
    obtain ⟨a, rfl⟩ : ∃ a, x = [a] := List.length_eq_one_iff.1 hx
    exact bracketed_one 0 w xa la cx cl a hrx
  | succ k ih =>
    intro w xa la nx cx nl cl x l hk hx hl hxl h30 hcx hcl hrx hrl hs
    by_cases h0 : nl = 0
    · subst h0
      obtain rfl : l = [] := List.eq_nil_of_length_eq_zero hl
      subst hxl
      obtain ⟨a, rfl⟩ : ∃ a, x = [a] := List.length_eq_one_iff.1 hx
      exact bracketed_one (k + 1) w xa la cx cl a hrx
    · obtain ⟨hql, -⟩ := spl_ok (l := l) (by omega)
      have HSP := hidb (split_any · la cl nl l · hs hl (by omega) h30)
      have htr : tree (k + 1) x l = .o (l.getD (spl l) 0) (tree k (x.take (spl l + 1)) (l.take (spl l))) (tree k (x.drop (spl l + 1)) (l.drop (spl l + 1))) := by
        simp only [tree]
        rw [if_neg (by intro h; rw [h] at hl; simp at hl; omega)]
      obtain ⟨sq, hsq⟩ : ∃ s, l[spl l]? = some s := ⟨_, List.getElem?_eq_getElem hql⟩
      have hsg : l.getD (spl l) 0 = sq := by rw [List.getD_eq_getElem?_getD, hsq]; rfl
      rw [hsg] at htr
      obtain ⟨b, o, rfl, hbl, hcq⟩ := hrl (spl l) (opX sq) (by rw [List.getElem?_map, hsq]; rfl)
      obtain ⟨sx, hsx⟩ : ∃ s, x[spl l + 1]? = some s := ⟨_, List.getElem?_eq_getElem (by omega)⟩
      obtain ⟨bx, ox, rfl, hbx, -⟩ := hrx (spl l + 1) (dX sx) (by rw [List.getElem?_map, hsx]; rfl)
      obtain ⟨q, hq⟩ : ∃ q, spl l = q := ⟨_, rfl⟩
      rw [hq] at hql htr hsq hsg hcq hsx
      rw [hl] at hql
      have HL := hidb (fun W (hb : Below w.heap.size w W) => ih W (some ⟨bx, ox, none⟩) (some ⟨b, o, none⟩) (q + 1) cx q cl (x.take (q + 1)) (l.take q) (by rw [List.length_take]; omega) (by rw [List.length_take]; omega) (by rw [List.length_take]; omega) rfl (by omega) (by omega) (by omega) (by rw [List.map_take]; exact (hrx.keep hb).take _) (by rw [List.map_take]; exact (hrl.keep hb).take _) (fun s h => hs s (List.mem_of_mem_take h)))
      have hz : ((nl : Int) == 0) = false := by simp; omega
      have i0 : (0 : Int) ≤ (q : Int) := by omega
      have i1 : (q : Int) < (nl : Int) := by omega
      have i2 : (q : Int) ≤ (nl : Int) := by omega
      have i3 : (q : Int) ≤ (cl : Int) := by omega
      have i4 : (q : Int) + 1 ≤ (cx : Int) := by omega
      have i5 : (q : Int) + 1 ≤ (nx : Int) := by omega
      have i6 : (q : Int) + 1 ≤ (nl : Int) := by omega
      have i7 : (0 : Int) ≤ (q : Int) + 1 := by omega
      have hqw : IntKind.i64.wrap ((q : Int) + 1) = (q : Int) + 1 := by rw [IntKind.wrap_i64]; omega
      have hoz : (opX sq).size ≤ 7 := of12 (P := fun s => (opX s).size ≤ 7) (by decide) (by decide) (by decide) (by decide) (by decide) (by decide) (by decide) (by decide) (by decide) (by decide) (by decide) (by decide) sq (hs sq (List.mem_of_getElem? hsq))
      by_cases hce : cl = q + 1
      · have HR := hidb (fun W (hb : Below w.heap.size w W) => ih W (some ⟨bx, ox + (q + 1), none⟩) (some ⟨b, o, none⟩) (nl - q) (cx - (q + 1)) 0 0 (x.drop (q + 1)) (l.drop (q + 1)) (by rw [List.length_drop]; omega) (by rw [List.length_drop]; omega) (by rw [List.length_drop]; omega) (by omega) (by omega) (by omega) (by omega) (by rw [List.map_drop]; exact (hrx.keep hb).drop _)
            (by
              intro j y hj
              have := (List.getElem?_eq_some_iff.1 hj).1
              rw [List.length_map, List.length_drop] at this
              omega) (fun s h => hs s (List.mem_of_mem_drop h)))
        subst hce
        have i8 : (q : Int) ≤ (q : Int) + 1 := by omega
        have hcxe : ¬ cx = q + 1 := by omega
        have HQ := hidb hq
        have HRL := hidb hrl
        have HB0 := hidb (And.intro hbl hcq)
        clear ih hrx hs hsg hsx hsq hrl hbl hcq hq hk
        go_enter Tryz.func11, Tryz.ntmps11
        go_wp2_with fail
        refine (HSP.out w HRL.out).mono ?_
        rintro e w1 ⟨rfl, hb1⟩
        rw [HQ.out]
        have HB1 := hidb hb1
        have HS0 : Hid (∀ W, Below w1.heap.size w1 W → W.cell? ⟨b, o + q, none⟩ = some (.string (opX sq))) := hidb (fun W h => ((hb1.trans (h.mono hb1.size)).cell (p := ⟨b, o + q, none⟩) HB0.out.1).trans HB0.out.2)
        have HS1 := hidb (HS0.out w1.drew (Below.refl _ _).drew)
        clear hb1 HSP
        go_wp2_with fail
        have HBD := hidb (HB1.out.trans ((Below.refl _ _).drew.mono HB1.out.size))
        have M0 : Hid True := hidb trivial
        have HOZ : Hid ((opX sq).size ≤ 7 ∧ (opX sq).data.toList = opB sq) := hidb ⟨hoz, rfl⟩
        generalize opX sq = O at *
        clear hoz
        go_region_held3 (fun w' => w'.cell? ⟨b, o + q, none⟩ = some (.string O)) (first | with_reducible exact HS1.out | with_reducible exact HS2.out | with_reducible exact HS3.out) (first
          | (go_at_call 11; (clear M0); refine (HL.out _ HBD.out).mono ?_; rintro e w2 ⟨⟨A, rfl, hA, hAz⟩, hb2⟩; have HB2 := hidb (HBD.out.trans (hb2.mono HBD.out.size)); have HS2 := hidb ((hb2.cell (World.block_lt_of_cell? _ _ HS1.out)).trans HS1.out); have HA := hidb (And.intro hA hAz); clear hb2 hA; have n1 : ¬ 9223372036854775807 < 1 + A.size := (by omega); have n2 : ¬ 9223372036854775807 < 1 + A.size + 1 := (by omega); have n3 : ¬ 9223372036854775807 < 1 + A.size + 1 + O.size := (by have := HOZ.out.1; omega); have n4 : ¬ 9223372036854775807 < 1 + A.size + 1 + O.size + 1 := (by have := HOZ.out.1; omega); clear hAz)
          | (go_at_call 11; refine (HR.out _ HB2.out).mono ?_; rintro e w3 ⟨⟨B, rfl, hB, hBz⟩, hb3⟩; have HB3 := hidb (HB2.out.trans (hb3.mono HB2.out.size)); have HS3 := hidb ((hb3.cell (World.block_lt_of_cell? _ _ HS2.out)).trans HS2.out); have HBB := hidb (And.intro hB hBz); clear hb3 hB; have n5 : ¬ 9223372036854775807 < 1 + A.size + 1 + O.size + 1 + B.size := (by have := HOZ.out.1; have := HA.out.2; omega); have n6 : ¬ 9223372036854775807 < 1 + A.size + 1 + O.size + 1 + B.size + 1 := (by have := HOZ.out.1; have := HA.out.2; omega); clear hBz))
        go_wp2_with fail
        go_ret
        refine ⟨⟨_, rfl, ?_, ?_⟩, HB3.out⟩
        · rw [htr]
          simp only [ByteArray.data_append, Array.toList_append, HA.out.1, HBB.out.1, HOZ.out.2, full, txt, List.append_assoc, List.cons_append, List.nil_append]
        · simp only [ByteArray.size_append]
          have h1 := HA.out.2
          have h2 := HBB.out.2
          have h3 := HOZ.out.1
          have h4 : (⟨#[40]⟩ : ByteArray).size = 1 := rfl
          have h5 : (⟨#[32]⟩ : ByteArray).size = 1 := rfl
          have h6 : (⟨#[41]⟩ : ByteArray).size = 1 := rfl
          omega
      · have HR := hidb (fun W (hb : Below w.heap.size w W) => ih W (some ⟨bx, ox + (q + 1), none⟩) (some ⟨b, o + (q + 1), none⟩) (nl - q) (cx - (q + 1)) (nl - (q + 1)) (cl - (q + 1)) (x.drop (q + 1)) (l.drop (q + 1)) (by rw [List.length_drop]; omega) (by rw [List.length_drop]; omega) (by rw [List.length_drop]; omega) (by omega) (by omega) (by omega) (by omega) (by rw [List.map_drop]; exact (hrx.keep hb).drop _)
            (by rw [List.map_drop]; exact (hrl.keep hb).drop _) (fun s h => hs s (List.mem_of_mem_drop h)))
        have hcxe : ¬ cx = q + 1 := by omega
        have HQ := hidb hq
        have HRL := hidb hrl
        have HB0 := hidb (And.intro hbl hcq)
        clear ih hrx hs hsg hsx hsq hrl hbl hcq hq hk
        go_enter Tryz.func11, Tryz.ntmps11
        go_wp2_with fail
        refine (HSP.out w HRL.out).mono ?_
        rintro e w1 ⟨rfl, hb1⟩
        rw [HQ.out]
        have HB1 := hidb hb1
        have HS0 : Hid (∀ W, Below w1.heap.size w1 W → W.cell? ⟨b, o + q, none⟩ = some (.string (opX sq))) := hidb (fun W h => ((hb1.trans (h.mono hb1.size)).cell (p := ⟨b, o + q, none⟩) HB0.out.1).trans HB0.out.2)
        have HS1 := hidb (HS0.out w1.drew (Below.refl _ _).drew)
        clear hb1 HSP
        go_wp2_with fail
        have HBD := hidb (HB1.out.trans ((Below.refl _ _).drew.mono HB1.out.size))
        have M0 : Hid True := hidb trivial
        have HOZ : Hid ((opX sq).size ≤ 7 ∧ (opX sq).data.toList = opB sq) := hidb ⟨hoz, rfl⟩
        generalize opX sq = O at *
        clear hoz
        go_region_held3 (fun w' => w'.cell? ⟨b, o + q, none⟩ = some (.string O)) (first | with_reducible exact HS1.out | with_reducible exact HS2.out | with_reducible exact HS3.out) (first
          | (go_at_call 11; (clear M0); refine (HL.out _ HBD.out).mono ?_; rintro e w2 ⟨⟨A, rfl, hA, hAz⟩, hb2⟩; have HB2 := hidb (HBD.out.trans (hb2.mono HBD.out.size)); have HS2 := hidb ((hb2.cell (World.block_lt_of_cell? _ _ HS1.out)).trans HS1.out); have HA := hidb (And.intro hA hAz); clear hb2 hA; have n1 : ¬ 9223372036854775807 < 1 + A.size := (by omega); have n2 : ¬ 9223372036854775807 < 1 + A.size + 1 := (by omega); have n3 : ¬ 9223372036854775807 < 1 + A.size + 1 + O.size := (by have := HOZ.out.1; omega); have n4 : ¬ 9223372036854775807 < 1 + A.size + 1 + O.size + 1 := (by have := HOZ.out.1; omega); clear hAz)
          | (go_at_call 11; refine (HR.out _ HB2.out).mono ?_; rintro e w3 ⟨⟨B, rfl, hB, hBz⟩, hb3⟩; have HB3 := hidb (HB2.out.trans (hb3.mono HB2.out.size)); have HS3 := hidb ((hb3.cell (World.block_lt_of_cell? _ _ HS2.out)).trans HS2.out); have HBB := hidb (And.intro hB hBz); clear hb3 hB; have n5 : ¬ 9223372036854775807 < 1 + A.size + 1 + O.size + 1 + B.size := (by have := HOZ.out.1; have := HA.out.2; omega); have n6 : ¬ 9223372036854775807 < 1 + A.size + 1 + O.size + 1 + B.size + 1 := (by have := HOZ.out.1; have := HA.out.2; omega); clear hBz))
        go_wp2_with fail
        go_ret
        refine ⟨⟨_, rfl, ?_, ?_⟩, HB3.out⟩
        · rw [htr]
          simp only [ByteArray.data_append, Array.toList_append, HA.out.1, HBB.out.1, HOZ.out.2, full, txt, List.append_assoc, List.cons_append, List.nil_append]
        · simp only [ByteArray.size_append]
          have h1 := HA.out.2
          have h2 := HBB.out.2
          have h3 := HOZ.out.1
          have h4 : (⟨#[40]⟩ : ByteArray).size = 1 := rfl
          have h5 : (⟨#[32]⟩ : ByteArray).size = 1 := rfl
          have h6 : (⟨#[41]⟩ : ByteArray).size = 1 := rfl
          omega
end Go.Proofs.YtdpfmmbfidknfaaGreatDoor


