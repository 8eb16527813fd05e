import Derived.Test.YtecgddiohoeboaaDoorG19
/- The text of a term, and the tokens that stand in it. -/
namespace Go.Proofs.YtecgddiohoeboaaDoor
open Go.RowKit Go.Lib

theorem Tr.induct {Q : Tr → Prop} (h : ∀ k n f s a c kids, (∀ t, t ∈ kids → Q t) → Q (.mk k n f s a c kids)) : ∀ t, Q t
  | .mk k n f s a c kids => h k n f s a c kids (fun t _ => Tr.induct h t)

/-- The first k of a float's sixteen digits. -/
def hxL (f k : Nat) : List UInt8 := (List.range k).map fun j => hxc (f / 2 ^ (60 - 4 * j) % 16)
theorem hxL_len (f k : Nat) : (hxL f k).length = k := by simp [hxL]
theorem hxL_succ (f k : Nat) : hxL f (k + 1) = hxL f k ++ [hxc (f / 2 ^ (60 - 4 * k) % 16)] := by simp [hxL, List.range_succ]
theorem digit16 (U j : Nat) (hj : j < 16) : U / 16 ^ (16 - (j + 1)) = U / 16 ^ (16 - j) * 16 + U / 2 ^ (60 - 4 * j) % 16 := by
  have e1 : (2 : Nat) ^ (60 - 4 * j) = 16 ^ (15 - j) := by
    rw [show (16 : Nat) = 2 ^ 4 from rfl, ← Nat.pow_mul]
    congr 1
    omega
  rw [e1, show 16 - (j + 1) = 15 - j by omega, show 16 - j = (15 - j) + 1 by omega, Nat.pow_succ, ← Nat.div_div_eq_div_mul]
  omega
theorem hxL_hv (f : Nat) (hf : f < 18446744073709551616) : ∀ k, k ≤ 16 → hv (hxL f k) 0 = some (f / 16 ^ (16 - k)) := by
  intro k
  induction k with
  | zero => intro _; rw [show f / 16 ^ (16 - 0) = 0 from Nat.div_eq_of_lt (by simpa using hf)]; rfl
  | succ k ih =>
    intro hk
    rw [hxL_succ, hv_snoc, ih (by omega), digit16 f k (by omega)]
    simp only [Option.bind_some]
    rw [hxc_nat _ (by omega)]
    rfl

/-- May an atom stand as it is? -/
def plainL (s : List UInt8) : Bool :=
  match s with
  | [] => false
  | c :: _ => pSmall c.toNat && !kept ⟨s.toArray⟩ && s.all fun c => pName c.toNat
def quoT (s : List UInt8) : List UInt8 := if plainL s = true then s else 39 :: (qz s ++ [39])

def sgT (c : UInt8) : Tk := ⟨6, ⟨#[c]⟩, 0, 0, 0⟩

mutual
/-- A term as text. -/
def wrT : Tr → List UInt8
  | .mk k n f s _ _ kids => if k = 1 then itoa n else if k = 2 then 35 :: hxL f 16 else if k = 3 then quoT (dl s) else if k = 7 then 123 :: (rowT kids ++ [125]) else 91 :: (rowT kids ++ [93])
def rowT : List Tr → List UInt8
  | [] => []
  | t :: r => wrT t ++ resT r
def resT : List Tr → List UInt8
  | [] => []
  | t :: r => 44 :: (wrT t ++ resT r)
end

mutual
/-- Its tokens. -/
def tkT : Tr → List Tk
  | .mk k n f s _ _ kids => if k = 1 then (if n < 0 then [sgT 45, ⟨3, ⟨#[]⟩, -n, 0, 0⟩] else [⟨3, ⟨#[]⟩, n, 0, 0⟩]) else if k = 2 then [⟨4, ⟨#[]⟩, 0, f, 0⟩] else if k = 3 then [⟨1, s, 0, 0, 0⟩] else if k = 7 then sgT 123 :: (tkRow kids ++ [sgT 125]) else sgT 91 :: (tkRow kids ++ [sgT 93])
def tkRow : List Tr → List Tk
  | [] => []
  | t :: r => tkT t ++ tkRes r
def tkRes : List Tr → List Tk
  | [] => []
  | t :: r => sgT 44 :: (tkT t ++ tkRes r)
end

mutual
/-- Its atoms and numbers. -/
def atT : Tr → List Tk
  | .mk k n f s _ _ kids => (if k = 3 then [⟨1, s, 0, 0, 0⟩] else if k = 1 then (if n < 0 then [sgT 45, ⟨3, ⟨#[]⟩, -n, 0, 0⟩] else [⟨3, ⟨#[]⟩, n, 0, 0⟩]) else if k = 2 then [⟨4, ⟨#[]⟩, 0, f, 0⟩] else []) ++ atAll kids
def atAll : List Tr → List Tk
  | [] => []
  | t :: r => atT t ++ atAll r
end

mutual
/-- A term that can be said. -/
def Say : Tr → Prop
  | .mk k n f s _ _ kids => (k = 1 ∧ -576460752303423487 ≤ n ∧ n ≤ 576460752303423487 ∧ kids = []) ∨ (k = 2 ∧ Flt.fin f = true ∧ f < 18446744073709551616 ∧ kids = []) ∨ (k = 3 ∧ s.size ≤ 64 ∧ kids = []) ∨ ((k = 7 ∨ k = 8) ∧ SayAll kids)
def SayAll : List Tr → Prop
  | [] => True
  | t :: r => Say t ∧ SayAll r
end

/-- A sign that is no minus is passed over. -/
def keepT (t : Tk) : Bool := !(t.k == 6) || t.x == ⟨#[45]⟩

def LexT (t : Tr) : Prop := Say t → ∀ b p, Occ b p (wrT t) → Stop b (p + (wrT t).length) → Steps b p (p + (wrT t).length) (tkT t)

theorem res_stop {b : ByteArray} {p : Nat} {r : List Tr} {e : UInt8} (he : e = 125 ∨ e = 93) (h : Occ b p (resT r ++ [e])) : Stop b p := by
  cases r with
  | nil =>
    have := (Occ.cons (c := e) (l := []) (by simpa [resT] using h)).2.1
    rcases he with rfl | rfl
    · exact .inr (.inr (.inr this))
    · exact .inr (.inr (.inl this))
  | cons t r =>
    have := (Occ.cons (c := 44) (by simpa [resT] using h)).2.1
    exact .inr (.inl this)

theorem steps_res (e : UInt8) (he : e = 125 ∨ e = 93) : ∀ (r : List Tr), (∀ t, t ∈ r → LexT t) → SayAll r → ∀ b p, Occ b p (resT r ++ [e]) → Steps b p (p + (resT r).length) (tkRes r) := by
  intro r
  induction r with
  | nil => intro _ _ b p h; exact Steps.refl b p (by have := h.1; omega)
  | cons t r ih =>
    intro hk hs b p h
    have hs' : Say t ∧ SayAll r := by simpa [SayAll] using hs
    have hr : resT (t :: r) = 44 :: (wrT t ++ resT r) := by simp [resT]
    have ht : tkRes (t :: r) = sgT 44 :: (tkT t ++ tkRes r) := by simp [tkRes]
    rw [hr, List.cons_append, List.append_assoc] at h
    obtain ⟨h1, h2, h3⟩ := h.cons
    have s1 := steps_sign b p 44 h1 h2 (by decide)
    have s2 := hk t (by simp) hs'.1 b (p + 1) h3.left (res_stop he h3.right)
    have s3 := ih (fun t ht => hk t (by simp [ht])) hs'.2 b _ h3.right
    rw [ht, hr]
    have := s1.trans (s2.trans s3)
    rw [List.length_cons, List.length_append, show p + ((wrT t).length + (resT r).length + 1) = p + 1 + (wrT t).length + (resT r).length by omega]
    exact this

theorem steps_row (e : UInt8) (he : e = 125 ∨ e = 93) (r : List Tr) (hk : ∀ t, t ∈ r → LexT t) (hs : SayAll r) (b : ByteArray) (p : Nat) (h : Occ b p (rowT r ++ [e])) : Steps b p (p + (rowT r).length) (tkRow r) := by
  cases r with
  | nil => exact Steps.refl b p (by have := h.1; omega)
  | cons t r =>
    have hs' : Say t ∧ SayAll r := by simpa [SayAll] using hs
    have hr : rowT (t :: r) = wrT t ++ resT r := by simp [rowT]
    have ht : tkRow (t :: r) = tkT t ++ tkRes r := by simp [tkRow]
    rw [hr, List.append_assoc] at h
    have s2 := hk t (by simp) hs'.1 b p h.left (res_stop he h.right)
    have s3 := steps_res e he r (fun t ht => hk t (by simp [ht])) hs'.2 b _ h.right
    rw [ht, hr, List.length_append, ← Nat.add_assoc]
    exact s2.trans s3

theorem steps_atom (s : ByteArray) (hs : s.size ≤ 64) (b : ByteArray) (p : Nat) (h : Occ b p (quoT (dl s))) (hst : Stop b (p + (quoT (dl s)).length)) : Steps b p (p + (quoT (dl s)).length) [⟨1, s, 0, 0, 0⟩] := by
  have hss : (⟨(dl s).toArray⟩ : ByteArray) = s := by apply ByteArray.ext; exact Array.toList_inj.1 rfl
  have hl : (dl s).length ≤ 64 := hs
  unfold quoT at h hst ⊢
  split at h
  · rename_i hp
    rw [if_pos hp] at hst ⊢
    cases hd : dl s with
    | nil => rw [hd] at hp; cases hp
    | cons c l =>
      have hp' := hp
      rw [hd] at hp' h hst hl hss
      simp only [plainL, Bool.and_eq_true, Bool.not_eq_true', List.all_eq_true] at hp'
      obtain ⟨⟨p1, p2⟩, p3⟩ := hp'
      have := steps_plain b p (c :: l) (by simp) hl p1 p3 p2 h hst
      rw [hss] at this
      exact this
  · rename_i hp
    rw [if_neg hp]
    have := steps_quoted b p (dl s) hl h
    rw [hss] at this
    rw [show p + (39 :: (qz (dl s) ++ [39])).length = p + (qz (dl s)).length + 2 by simp; omega]
    exact this

/-- Of the text of a term its tokens are told. -/
theorem lex_term : ∀ t, LexT t := by
  refine Tr.induct fun k n f s a c kids ih => ?_
  intro hs b p h hst
  unfold Say at hs
  rcases hs with ⟨rfl, h1, h2, rfl⟩ | ⟨rfl, h1, h2, rfl⟩ | ⟨rfl, h1, rfl⟩ | ⟨hk, hall⟩
  · have hw : wrT (.mk 1 n f s a c []) = itoa n := by simp [wrT]
    rw [hw] at h hst ⊢
    by_cases hn : n < 0
    · have ht : tkT (.mk 1 n f s a c []) = [sgT 45, ⟨3, ⟨#[]⟩, -n, 0, 0⟩] := by simp [tkT, hn]
      have hi : itoa n = 45 :: decDigits n.natAbs := by unfold itoa; rw [if_pos hn]
      rw [hi] at h hst ⊢
      obtain ⟨p1, p2, p3⟩ := h.cons
      obtain ⟨_, f2, f3, _⟩ := dec_facts n.natAbs
      have s1 := steps_minus b p (by have := p3.1; omega) p2 (by
        have := p3.2 0 (by omega)
        rw [Nat.add_zero] at this
        rw [this]
        exact f2 _ (List.getElem_mem _))
      have s2 := steps_int b (p + 1) n.natAbs (by omega) p3 (by rw [List.length_cons] at hst; rw [show p + 1 + (decDigits n.natAbs).length = p + ((decDigits n.natAbs).length + 1) by omega]; exact hst)
      have := s1.trans s2
      rw [ht, List.length_cons, show p + ((decDigits n.natAbs).length + 1) = p + 1 + (decDigits n.natAbs).length by omega]
      rw [show ((n.natAbs : Nat) : Int) = -n by omega] at this
      exact this
    · have ht : tkT (.mk 1 n f s a c []) = [⟨3, ⟨#[]⟩, n, 0, 0⟩] := by simp [tkT, hn]
      have hi : itoa n = decDigits n.toNat := by unfold itoa; rw [if_neg hn]
      rw [hi] at h hst ⊢
      have := steps_int b p n.toNat (by omega) h hst
      rw [show ((n.toNat : Nat) : Int) = n by omega] at this
      rw [ht]
      exact this
  · have hw : wrT (.mk 2 n f s a c []) = 35 :: hxL f 16 := by simp [wrT]
    have ht : tkT (.mk 2 n f s a c []) = [⟨4, ⟨#[]⟩, 0, f, 0⟩] := by simp [tkT]
    rw [hw] at h hst ⊢
    have hh := hxL_hv f h2 16 (Nat.le_refl _)
    rw [show f / 16 ^ (16 - 16) = f by simp] at hh
    have := steps_flt b p f (hxL f 16) (hxL_len f 16) hh h1 h
    rw [ht, List.length_cons, hxL_len]
    exact this
  · have hw : wrT (.mk 3 n f s a c []) = quoT (dl s) := by simp [wrT]
    have ht : tkT (.mk 3 n f s a c []) = [⟨1, s, 0, 0, 0⟩] := by simp [tkT]
    rw [hw] at h hst ⊢
    rw [ht]
    exact steps_atom s h1 b p h hst
  · have fin : ∀ (o e : UInt8), (o = 123 ∧ e = 125 ∨ o = 91 ∧ e = 93) → Occ b p (o :: (rowT kids ++ [e])) → Steps b p (p + (o :: (rowT kids ++ [e])).length) (sgT o :: (tkRow kids ++ [sgT e])) := by
      intro o e hoe ho
      obtain ⟨p1, p2, p3⟩ := ho.cons
      have s1 := steps_sign b p o p1 p2 (by rcases hoe with ⟨rfl, _⟩ | ⟨rfl, _⟩ <;> decide)
      have s2 := steps_row e (by rcases hoe with ⟨_, rfl⟩ | ⟨_, rfl⟩ <;> decide) kids ih hall b (p + 1) p3
      obtain ⟨q1, q2, _⟩ := p3.right.cons
      have s3 := steps_sign b _ e q1 q2 (by rcases hoe with ⟨_, rfl⟩ | ⟨_, rfl⟩ <;> decide)
      have := s1.trans (s2.trans s3)
      rw [List.length_cons, List.length_append, show p + ((rowT kids).length + [e].length + 1) = p + 1 + (rowT kids).length + 1 by simp; omega]
      exact this
    rcases hk with rfl | rfl
    · have hw : wrT (.mk 7 n f s a c kids) = 123 :: (rowT kids ++ [125]) := by simp [wrT]
      have ht : tkT (.mk 7 n f s a c kids) = sgT 123 :: (tkRow kids ++ [sgT 125]) := by simp [tkT]
      rw [hw] at h ⊢
      rw [ht]
      exact fin 123 125 (.inl ⟨rfl, rfl⟩) h
    · have hw : wrT (.mk 8 n f s a c kids) = 91 :: (rowT kids ++ [93]) := by simp [wrT]
      have ht : tkT (.mk 8 n f s a c kids) = sgT 91 :: (tkRow kids ++ [sgT 93]) := by simp [tkT]
      rw [hw] at h ⊢
      rw [ht]
      exact fin 91 93 (.inr ⟨rfl, rfl⟩) h

/-- All tokens of a term's text. -/
theorem lex_text (t : Tr) (hs : Say t) (b : ByteArray) (hb : dl b = wrT t) (hz : b.size ≤ 65536) : ∃ ds, allT b = .inl (ds ++ [⟨8, ⟨#[]⟩, 0, 0, b.size⟩]) ∧ ds.map bare = tkT t := by
  have hl : (wrT t).length = b.size := by rw [← hb, dl_len]
  have ho : Occ b 0 (wrT t) := ⟨by omega, fun j hj => by
    rw [Nat.zero_add, bt_dl b j (by rw [dl_len]; omega)]
    simp only [hb]⟩
  have hst := lex_term t hs b 0 ho (.inl (by omega))
  rw [Nat.zero_add, hl] at hst
  obtain ⟨k', ds, hk', he, hd⟩ := hst.2.2 (b.size + 1) [] (by omega)
  refine ⟨ds, ?_, hd⟩
  unfold allT
  rw [if_neg (by omega), he, List.nil_append]
  obtain ⟨k, rfl⟩ : ∃ k, k' = k + 1 := ⟨k' - 1, by omega⟩
  exact toks_end b k b.size ds (Nat.le_refl _)

theorem keep_res (r : List Tr) (h : ∀ t, t ∈ r → (tkT t).filter keepT = atT t) : (tkRes r).filter keepT = atAll r := by
  induction r with
  | nil => simp [tkRes, atAll]
  | cons t r ih =>
    have h1 := h t (by simp)
    have h2 := ih (fun t ht => h t (by simp [ht]))
    have hc : keepT (sgT 44) = false := by rfl
    simp [tkRes, atAll, hc, List.filter_append, h1, h2]

/-- Without brackets and commas the tokens are the atoms and numbers. -/
theorem keep_term : ∀ t, Say t → (tkT t).filter keepT = atT t := by
  have hall : ∀ (r : List Tr), SayAll r → ∀ t, t ∈ r → Say t := by
    intro r
    induction r with
    | nil => intro _ t ht; cases ht
    | cons u r ih =>
      intro h t ht
      have h' : Say u ∧ SayAll r := by simpa [SayAll] using h
      rcases List.mem_cons.1 ht with rfl | ht
      · exact h'.1
      · exact ih h'.2 t ht
  refine Tr.induct (Q := fun t => Say t → (tkT t).filter keepT = atT t) fun k n f s a c kids ih => ?_
  intro hs
  unfold Say at hs
  have k45 : keepT (sgT 45) = true := by rfl
  rcases hs with ⟨rfl, h1, h2, rfl⟩ | ⟨rfl, h1, h2, rfl⟩ | ⟨rfl, h1, rfl⟩ | ⟨hk, hsay⟩
  · by_cases hn : n < 0
    · have k3 : keepT ⟨3, ⟨#[]⟩, -n, 0, 0⟩ = true := by rfl
      simp [tkT, atT, atAll, hn, k45, k3]
    · simp [tkT, atT, atAll, hn, keepT]
  · simp [tkT, atT, atAll, keepT]
  · simp [tkT, atT, atAll, keepT]
  · have hrow : (tkRow kids).filter keepT = atAll kids := by
      cases kids with
      | nil => simp [tkRow, atAll]
      | cons t r =>
        have h1 := ih t (by simp) (hall _ hsay t (by simp))
        have h2 := keep_res r (fun u hu => ih u (by simp [hu]) (hall _ hsay u (by simp [hu])))
        simp [tkRow, atAll, List.filter_append, h1, h2]
    have c1 : keepT (sgT 123) = false := by rfl
    have c2 : keepT (sgT 125) = false := by rfl
    have c3 : keepT (sgT 91) = false := by rfl
    have c4 : keepT (sgT 93) = false := by rfl
    rcases hk with rfl | rfl
    · simp [tkT, atT, List.filter_append, hrow, c1, c2]
    · simp [tkT, atT, List.filter_append, hrow, c3, c4]
end Go.Proofs.YtecgddiohoeboaaDoor


