import Derived.Test.YtmijabhnbmmmfaaGreatG44
import Derived.Test.YtmijabhnbmmmfaaGreatG46
/- The roots, one by one. -/
namespace Go.Proofs.YtmijabhnbmmmfaaGreat
open Go.RowKit Go.Deep

/-- How many words the first m roots' terms have, each block once. -/
def rT (us : List Int) (ts : List Tr) : Nat → Nat
  | 0 => 0
  | m + 1 => rT us ts m + (match us[m]?, ts[m]? with | some u, some t => if aloneT t = true then 0 else if u ∈ us.take m then 0 else wN t | _, _ => 0)

theorem rT_mono {us : List Int} {ts : List Tr} : ∀ {m n : Nat}, m ≤ n → rT us ts m ≤ rT us ts n := by
  intro m n h
  induction n with
  | zero => obtain rfl : m = 0 := by omega
            exact Nat.le_refl _
  | succ n ih =>
    rcases Nat.lt_or_ge m (n + 1) with h1 | h1
    · have := ih (by omega)
      simp only [rT]
      omega
    · obtain rfl : m = n + 1 := by omega
      exact Nat.le_refl _

def kSum (ts : List Tr) : Nat → Nat
  | 0 => 0
  | m + 1 => kSum ts m + (match ts[m]? with | some t => (kindsOf t).length | none => 0)

/-- Roots that are right, and whose blocks are their own, or the same. -/
structure Rts2 (ws : List Int) (L : List ByteArray) (us : List Int) (ts : List Tr) : Prop where
  len : us.length = ts.length
  good : ∀ (j : Nat) (u : Int) (t : Tr), us[j]? = some u → ts[j]? = some t → Good ws L t u
  same : ∀ (i j : Nat) (u : Int) (t s : Tr), us[i]? = some u → us[j]? = some u → ts[i]? = some t → ts[j]? = some s → aloneT t = false → aloneT s = false → t = s
  off : ∀ (i j : Nat) (u v : Int) (t s : Tr), us[i]? = some u → us[j]? = some v → ts[i]? = some t → ts[j]? = some s → aloneT t = false → aloneT s = false → u ≠ v → ∀ b, b ∈ blks ws t u → b ∉ blks ws s v
  nd : ∀ (j : Nat) (u : Int) (t : Tr), us[j]? = some u → ts[j]? = some t → (blks ws t u).Nodup

/-- All roots that point are unlike. -/
def Unlike (us : List Int) (ts : List Tr) (m : Nat) : Prop := ∀ (i j : Nat) (u v : Int) (t s : Tr), i < j → j < m → us[i]? = some u → us[j]? = some v → ts[i]? = some t → ts[j]? = some s → aloneT t = false → aloneT s = false → u ≠ v

structure RI (ws : List Int) (L : List ByteArray) (us : List Int) (ts : List Tr) (m : Nat) (cells : List Cl) (now : Nat → Int) (tl : Nat → Int) : Prop where
  ci : CI ws L cells now 0 (rT us ts m)
  pt : ∀ (j : Nat) (u : Int) (t : Tr), j < m → us[j]? = some u → ts[j]? = some t → Pt L cells (tl j) t
  ol : ∀ (j : Nat) (u : Int) (t : Tr), j < m → us[j]? = some u → ts[j]? = some t → aloneT t = false → now (bodyI u).toNat = tl j ∧ tl j ≠ 0
  nz : ∀ b, now b ≠ 0 → ∃ (j : Nat) (u : Int) (t : Tr), j < m ∧ us[j]? = some u ∧ ts[j]? = some t ∧ aloneT t = false ∧ b ∈ blks ws t u
  pd : ∀ b, b ∈ cells.flatMap (pb ws) → ∃ (j : Nat) (u : Int) (t : Tr), j < m ∧ us[j]? = some u ∧ ts[j]? = some t ∧ aloneT t = false ∧ b ∈ blks ws t u
  fm : Unlike us ts m → cells.length = kSum ts m ∧ ∀ (j : Nat) (u : Int) (t : Tr), j < m → us[j]? = some u → ts[j]? = some t → tl j = if aloneT t = true then u else ofW (tagT t) (kSum ts j)
  al : ∀ (j : Nat) (u : Int) (t : Tr), j < m → us[j]? = some u → ts[j]? = some t → aloneT t = true → tl j = u
  gh : GH ws cells now 0 (fun v t x => ∃ j, j < m ∧ us[j]? = some x ∧ ts[j]? = some t ∧ tl j = v)

theorem RI.zero {ws : List Int} {L : List ByteArray} {us : List Int} {ts : List Tr} {tl : Nat → Int} : RI ws L us ts 0 [] (fun _ => 0) tl :=
  ⟨⟨fun q x t h => by omega, fun q x t _ h => by simp at h, .nil, by simp, fun b hb => by simp at hb, rfl, Nat.le_refl _⟩, fun j u t h => by omega, fun j u t h => by omega, fun b h => absurd rfl h, fun b h => by simp at h, fun _ => ⟨rfl, fun j u t h => by omega⟩, fun j u t h => by omega, GH.zero (fun v t x h => by obtain ⟨j, hj, _⟩ := h; omega)⟩

theorem unlike_less {us : List Int} {ts : List Tr} {m : Nat} (h : Unlike us ts (m + 1)) : Unlike us ts m := fun i j u v t s h1 h2 => h i j u v t s h1 (by omega)

section
variable {ws : List Int} {L : List ByteArray} {us : List Int} {ts : List Tr} {m : Nat} {cells : List Cl} {now tl : Nat → Int} {u : Int} {t : Tr}

/-- A root that stands alone. -/
theorem RI.alone (h : RI ws L us ts m cells now tl) (hr : Rts2 ws L us ts) (hu : us[m]? = some u) (ht : ts[m]? = some t) (ha : aloneT t = true) : RI ws L us ts (m + 1) cells now (updN tl m u) := by
  have hk : (kindsOf t).length = 0 := by
    obtain ⟨k, n, f, s, a, c, kids⟩ := t
    simp only [aloneT] at ha
    by_cases c8 : k = 8
    · rw [if_pos c8] at ha
      have : kids = [] := by simpa using ha
      subst this c8
      simp [kindsOf]
    · rw [if_neg c8] at ha
      have ha' : k = 1 ∨ k = 3 ∨ k = 6 := by simpa using ha
      simp [kindsOf, c8, ha']
  have hrT : rT us ts (m + 1) = rT us ts m := by simp [rT, hu, ht, ha]
  have hks : kSum ts (m + 1) = kSum ts m := by simp [kSum, ht, hk]
  have hlt : ∀ j, j < m → updN tl m u j = tl j := fun j hj => by simp [updN]; intro e; omega
  have hpt : Pt L cells u t := by
    obtain ⟨_, g2, _, g4⟩ := hr.good m u t hu ht
    rcases rep_own g2.1 g4 with h' | ⟨h', _⟩
    · exact Or.inl h'
    · rw [ha] at h'; cases h'
  refine ⟨by rw [hrT]; exact h.ci, fun j v s hj hv hs => ?_, fun j v s hj hv hs hal => ?_, fun b hb => ?_, fun b hb => ?_, fun hU => ?_, fun j v s hj hv hs hal => ?_, h.gh.to fun v t' x hR => ?_⟩
  · rcases Nat.lt_or_ge j m with hl | hl
    · rw [hlt j hl]; exact h.pt j v s hl hv hs
    · obtain rfl : j = m := by omega
      obtain rfl : u = v := Option.some.inj (hu.symm.trans hv)
      obtain rfl : t = s := Option.some.inj (ht.symm.trans hs)
      simp only [updN, if_true]
      exact hpt
  · rcases Nat.lt_or_ge j m with hl | hl
    · rw [hlt j hl]; exact h.ol j v s hl hv hs hal
    · obtain rfl : j = m := by omega
      obtain rfl : t = s := Option.some.inj (ht.symm.trans hs)
      rw [ha] at hal; cases hal
  · obtain ⟨j, v, s, q1, q2⟩ := h.nz b hb
    exact ⟨j, v, s, by omega, q2⟩
  · obtain ⟨j, v, s, q1, q2⟩ := h.pd b hb
    exact ⟨j, v, s, by omega, q2⟩
  · obtain ⟨f1, f2⟩ := h.fm (unlike_less hU)
    refine ⟨by rw [hks]; exact f1, fun j v s hj hv hs => ?_⟩
    rcases Nat.lt_or_ge j m with hl | hl
    · rw [hlt j hl]; exact f2 j v s hl hv hs
    · obtain rfl : j = m := by omega
      obtain rfl : u = v := Option.some.inj (hu.symm.trans hv)
      obtain rfl : t = s := Option.some.inj (ht.symm.trans hs)
      simp [updN, ha]
  · rcases Nat.lt_or_ge j m with hl | hl
    · rw [hlt j hl]; exact h.al j v s hl hv hs hal
    · obtain rfl : j = m := by omega
      obtain rfl : u = v := Option.some.inj (hu.symm.trans hv)
      simp [updN]
  · obtain ⟨j, hj, e1, e2, e3⟩ := hR
    rcases Nat.lt_or_ge j m with hl | hl
    · exact Or.inl ⟨j, hl, e1, e2, by rw [← hlt j hl]; exact e3⟩
    · obtain rfl : j = m := by omega
      obtain rfl : u = x := Option.some.inj (hu.symm.trans e1)
      obtain rfl : t = t' := Option.some.inj (ht.symm.trans e2)
      exact Or.inr ⟨ha, by rw [← e3]; simp [updN]⟩

/-- A root that was met already. -/
theorem RI.old (h : RI ws L us ts m cells now tl) (hr : Rts2 ws L us ts) (hu : us[m]? = some u) (ht : ts[m]? = some t) (ha : aloneT t = false) {i : Nat} {s : Tr} (hi : i < m) (hui : us[i]? = some u) (hti : ts[i]? = some s) (has : aloneT s = false) : now (bodyI u).toNat = tl i ∧ tl i ≠ 0 ∧ RI ws L us ts (m + 1) cells now (updN tl m (tl i)) := by
  obtain ⟨o1, o2⟩ := h.ol i u s hi hui hti has
  obtain rfl : s = t := hr.same i m u s t hui hu hti ht has ha
  have hmem : u ∈ us.take m := List.mem_of_getElem? (i := i) (by rw [List.getElem?_take, if_pos hi]; exact hui)
  have hrT : rT us ts (m + 1) = rT us ts m := by simp [rT, hu, ht, ha, hmem]
  have hlt : ∀ j, j < m → updN tl m (tl i) j = tl j := fun j hj => by simp [updN]; intro e; omega
  refine ⟨o1, o2, by rw [hrT]; exact h.ci, fun j v s' hj hv hs => ?_, fun j v s' hj hv hs hal => ?_, fun b hb => ?_, fun b hb => ?_, fun hU => ?_, fun j v s' hj hv hs hal => ?_, h.gh.to fun v t' x hR => ?_⟩
  · rcases Nat.lt_or_ge j m with hl | hl
    · rw [hlt j hl]; exact h.pt j v s' hl hv hs
    · obtain rfl : j = m := by omega
      obtain rfl : s = s' := Option.some.inj (ht.symm.trans hs)
      simp only [updN, if_true]
      exact h.pt i u s hi hui hti
  · rcases Nat.lt_or_ge j m with hl | hl
    · rw [hlt j hl]; exact h.ol j v s' hl hv hs hal
    · obtain rfl : j = m := by omega
      obtain rfl : u = v := Option.some.inj (hu.symm.trans hv)
      simp only [updN, if_true]
      exact ⟨o1, o2⟩
  · obtain ⟨j, v, s', q1, q2⟩ := h.nz b hb
    exact ⟨j, v, s', by omega, q2⟩
  · obtain ⟨j, v, s', q1, q2⟩ := h.pd b hb
    exact ⟨j, v, s', by omega, q2⟩
  · exact absurd rfl (hU i m u u s s hi (by omega) hui hu hti ht has ha)
  · rcases Nat.lt_or_ge j m with hl | hl
    · rw [hlt j hl]; exact h.al j v s' hl hv hs hal
    · obtain rfl : j = m := by omega
      obtain rfl : s = s' := Option.some.inj (ht.symm.trans hs)
      rw [ha] at hal; cases hal
  · obtain ⟨j, hj, e1, e2, e3⟩ := hR
    rcases Nat.lt_or_ge j m with hl | hl
    · exact Or.inl ⟨j, hl, e1, e2, by rw [← hlt j hl]; exact e3⟩
    · obtain rfl : j = m := by omega
      obtain rfl : u = x := Option.some.inj (hu.symm.trans e1)
      obtain rfl : s = t' := Option.some.inj (ht.symm.trans e2)
      exact Or.inl ⟨i, hi, hui, hti, by rw [← e3]; simp [updN]⟩

/-- A root that is met first now. -/
theorem RI.fresh (h : RI ws L us ts m cells now tl) (hr : Rts2 ws L us ts) (hu : us[m]? = some u) (ht : ts[m]? = some t) (ha : aloneT t = false) {p : Nat} (hN : NewB ws L t u p) (hne : ∀ (i : Nat) (s : Tr), i < m → us[i]? = some u → ts[i]? = some s → aloneT s = true) (hc : cells.length ≤ 16777216) :
    now p = 0 ∧ RI ws L us ts (m + 1) (cells ++ ownC ws p t) (updN now p (ofW (tagT t) cells.length)) (updN tl m (ofW (tagT t) cells.length)) := by
  have ht56 : tagT t = 5 ∨ tagT t = 6 := by obtain ⟨k, n, f, s, a, c, kids⟩ := t; simp only [tagT]; split <;> simp
  have hvp : ofW (tagT t) (cells.length : Int) ≠ 0 := by
    intro e
    have : tagI (ofW (tagT t) (cells.length : Int)) = tagT t := by
      rcases ht56 with e | e
      · rw [e]; exact (box_made hc).1
      · rw [e]; exact (cons_made hc).1
    rw [e] at this
    have z : tagI 0 = 0 := by decide
    rw [z] at this
    omega
  have hbody : bodyI u = p := by
    rw [hN.x_]
    have hpp := hN.p_
    rcases ht56 with e | e
    · rw [e]; exact (box_made hpp).2.1
    · rw [e]; exact (cons_made hpp).2.1
  have hun : ∀ (i : Nat) (v : Int) (s : Tr), i < m → us[i]? = some v → ts[i]? = some s → aloneT s = false → v ≠ u := fun i v s hi hv hs hal e => by
    subst e
    rw [hne i s hi hv hs] at hal
    cases hal
  have hfree : ∀ b, b ∈ blks ws t u → now b = 0 := fun b hb => by
    by_cases hz : now b = 0
    · exact hz
    · obtain ⟨j, v, s, q1, q2, q3, q4, q5⟩ := h.nz b hz
      exact absurd q5 (hr.off m j u v t s hu q2 ht q3 ha q4 (fun e => hun j v s q1 q2 q3 q4 e.symm) b hb)
  have hmem : u ∉ us.take m := fun hm => by
    obtain ⟨i, hi⟩ := List.getElem?_of_mem hm
    rw [List.getElem?_take] at hi
    split at hi
    · rename_i hil
      obtain ⟨s, hs⟩ : ∃ s, ts[i]? = some s := ⟨_, List.getElem?_eq_getElem (by have := hr.len; have := get_lt hi; omega)⟩
      have h1 := hne i s hil hi hs
      obtain ⟨_, g2, _, g4⟩ := hr.good i u s hi hs
      obtain ⟨_, g2', _, g4'⟩ := hr.good m u t hu ht
      rcases rep_own g2.1 g4 with ⟨_, w1⟩ | ⟨w1, _⟩
      · have hb5 : tagI u = 5 ∨ tagI u = 6 := by
          rw [hN.x_]
          have hpp := hN.p_
          rcases ht56 with e | e
          · rw [e, (box_made hpp).1]; simp
          · rw [e, (cons_made hpp).1]; simp
        obtain ⟨k, n, f, s', a, c, kids⟩ := s
        have hgd := g2.1
        simp only [allT, Bool.and_eq_true] at hgd
        rw [aloneW_mk] at w1
        split at w1
        · rename_i e; subst e
          simp [goodT] at hgd
          obtain ⟨_, _, ⟨_, hw, _⟩ | ⟨hq, _⟩⟩ := rightB_cases0 hgd.1
          · have hb' := whB_yes hw
            have := (of_made (t := 1) (b := n) (by decide) (by decide) (by simp [mayB]; omega)).1
            rw [w1] at hb5; omega
          · omega
        split at w1
        · rename_i e; subst e
          simp [goodT] at hgd
          have := (of_made (t := 3) (b := n) (by decide) (by decide) (by simp [mayB]; omega)).1
          rw [w1] at hb5; omega
        split at w1
        · obtain ⟨ix, w1, hix⟩ := w1
          rw [w1] at hb5
          unfold ofW at hb5
          split at hb5
          · unfold tagI joinI at hb5; omega
          · unfold tagI at hb5; omega
        · have := nil_made.1
          rw [w1] at hb5; omega
      · rw [h1] at w1; cases w1
    · cases hi
  have hrT : rT us ts (m + 1) = rT us ts m + wN t := by simp [rT, hu, ht, ha, hmem]
  have hks : kSum ts (m + 1) = kSum ts m + (kindsOf t).length := by simp [kSum, ht]
  have hnd : (blks ws t u ++ (cells.drop 0).flatMap (pb ws)).Nodup := by
    refine List.nodup_append.2 ⟨hr.nd m u t hu ht, h.ci.nd, fun b hb b' hb' e => ?_⟩
    subst e
    obtain ⟨j, v, s, q1, q2, q3, q4, q5⟩ := h.pd b (by simpa using hb')
    exact hr.off m j u v t s hu q2 ht q3 ha q4 (fun e => hun j v s q1 q2 q3 q4 e.symm) b hb q5
  obtain ⟨ci2, pt2⟩ := h.ci.root hN ha hc hnd hfree
  have hlt : ∀ j, j < m → updN tl m (ofW (tagT t) cells.length) j = tl j := fun j hj => by simp [updN]; intro e; omega
  have hpm : p ∈ blks ws t u := by rw [hN.b_]; exact List.mem_cons_self ..
  refine ⟨hfree p hpm, by rw [hrT]; exact ci2, fun j v s hj hv hs => ?_, fun j v s hj hv hs hal => ?_, fun b hb => ?_, fun b hb => ?_, fun hU => ?_, fun j v s hj hv hs hal => ?_, (h.gh.root ha hN hc (hfree p hpm)).to fun v t' x hR => Or.inl ?_⟩
  · rcases Nat.lt_or_ge j m with hl | hl
    · rw [hlt j hl]; exact (h.pt j v s hl hv hs).mono app_mono
    · obtain rfl : j = m := by omega
      obtain rfl : t = s := Option.some.inj (ht.symm.trans hs)
      simp only [updN, if_true]
      exact pt2
  · rcases Nat.lt_or_ge j m with hl | hl
    · rw [hlt j hl]
      obtain ⟨o1, o2⟩ := h.ol j v s hl hv hs hal
      refine ⟨?_, o2⟩
      unfold updN
      rw [if_neg (fun e => ?_)]
      · exact o1
      · rw [e, hfree p hpm] at o1
        exact o2 o1.symm
    · obtain rfl : j = m := by omega
      obtain rfl : u = v := Option.some.inj (hu.symm.trans hv)
      rw [hbody]
      simp only [updN, Int.toNat_natCast, if_true]
      exact ⟨trivial, hvp⟩
  · unfold updN at hb
    by_cases e : b = p
    · exact ⟨m, u, t, by omega, hu, ht, ha, e ▸ hpm⟩
    · rw [if_neg e] at hb
      obtain ⟨j, v, s, q1, q2⟩ := h.nz b hb
      exact ⟨j, v, s, by omega, q2⟩
  · rw [List.flatMap_append] at hb
    rcases List.mem_append.1 hb with hb | hb
    · obtain ⟨j, v, s, q1, q2⟩ := h.pd b hb
      exact ⟨j, v, s, by omega, q2⟩
    · exact ⟨m, u, t, by omega, hu, ht, ha, by rw [hN.b_]; exact List.mem_cons_of_mem _ hb⟩
  · obtain ⟨f1, f2⟩ := h.fm (unlike_less hU)
    refine ⟨by rw [hks, List.length_append, ownC_len hN.l_, f1], fun j v s hj hv hs => ?_⟩
    rcases Nat.lt_or_ge j m with hl | hl
    · rw [hlt j hl]; exact f2 j v s hl hv hs
    · obtain rfl : j = m := by omega
      obtain rfl : t = s := Option.some.inj (ht.symm.trans hs)
      simp only [updN, if_true, ha, f1]
      simp
  · rcases Nat.lt_or_ge j m with hl | hl
    · rw [hlt j hl]; exact h.al j v s hl hv hs hal
    · obtain rfl : j = m := by omega
      obtain rfl : t = s := Option.some.inj (ht.symm.trans hs)
      rw [ha] at hal; cases hal
  · obtain ⟨j, hj, e1, e2, e3⟩ := hR
    rcases Nat.lt_or_ge j m with hl | hl
    · exact Or.inl ⟨j, hl, e1, e2, by rw [← hlt j hl]; exact e3⟩
    · obtain rfl : j = m := by omega
      obtain rfl : u = x := Option.some.inj (hu.symm.trans e1)
      obtain rfl : t = t' := Option.some.inj (ht.symm.trans e2)
      exact Or.inr ⟨by rw [← e3]; simp [updN], rfl, rfl⟩
end
end Go.Proofs.YtmijabhnbmmmfaaGreat


/- A root is met; what is told of roots, in memory. -/
namespace Go.Proofs.YtmijabhnbmmmfaaGreat
open Go.RowKit Go.Deep

/-- A row of words that is told. -/
structure TR (w : World) (tb n : Nat) (tl : Nat → Int) : Prop where
  row : ∀ j, j < n → w.cell? ⟨tb, j, none⟩ = some (.int .u64 (tl j)) ∧ w.frozen? ⟨tb, j, none⟩ = false
  lt : tb < w.heap.size

theorem TR.but {S : Nat → Prop} {w w' : World} {tb n : Nat} {tl : Nat → Int} (h : TR w tb n tl) (hb : But S w w') (hs : ¬ S tb) : TR w' tb n tl :=
  ⟨fun j hj => ⟨(hb.cell (p := ⟨tb, j, none⟩) h.lt hs).trans (h.row j hj).1, (hb.frozen (p := ⟨tb, j, none⟩) h.lt hs).trans (h.row j hj).2⟩, Nat.lt_of_lt_of_le h.lt hb.size⟩

theorem TR.keep {w w' : World} {tb n : Nat} {tl : Nat → Int} (h : TR w tb n tl) (hb : Below w.heap.size w w') : TR w' tb n tl := h.but (But.of_below (S := fun _ => False) hb) id

theorem TR.set {w : World} {tb n m : Nat} {tl : Nat → Int} (h : TR w tb n tl) (v : Int) : TR (w.setCell ⟨tb, m, none⟩ (.int .u64 v)) tb n (updN tl m v) := by
  refine ⟨fun j hj => ?_, by simpa [World.setCell] using h.lt⟩
  obtain ⟨a1, a2⟩ := h.row j hj
  refine ⟨?_, by rw [World.frozen?_setCell]; exact a2⟩
  unfold updN
  by_cases e : j = m
  · subst e
    rw [if_pos rfl]
    exact World.cell?_setCell_same _ _ _ a1
  · rw [if_neg e, World.cell?_setCell_other _ _ _ _ (ne_off3 _ _ _ (fun h => e h.symm))]
    exact a1

theorem MV.but {S : Nat → Prop} {w0 w w' : World} {mb hb nb N : Nat} {V : Value} {laid : List Int} {now : Nat → Int} (h : MV w0 w mb hb nb N V laid now) (hB : But S w w') (hS : ∀ k, S k → w0.heap.size ≤ k) (s1 : ¬ S mb) (s2 : ¬ S nb) (s3 : ∀ q, V.ownBlock = some q → ¬ S q) : MV w0 w' mb hb nb N V laid now := by
  refine ⟨h.tri.but hB s1, row_keep1 h.own (fun g hg hl => hB.block g hl (s3 g hg)), fun j hj => ?_, Nat.lt_of_lt_of_le h.lt hB.size, h.ne, h.off, h.mB, h.nB, h.be.trans (hB.below h.be.size hS), h.sp.at (fun q hq => hB.block q (row_lt1 h.own q hq).2 (s3 q hq)), h.po⟩
  obtain ⟨a1, a2⟩ := h.row j hj
  exact ⟨(hB.cell (p := ⟨nb, j, none⟩) h.lt s2).trans a1, (hB.frozen (p := ⟨nb, j, none⟩) h.lt s2).trans a2⟩

theorem CI.le {ws : List Int} {L : List ByteArray} {cells : List Cl} {now : Nat → Int} {n T : Nat} (h : CI ws L cells now n T) : cells.length ≤ T := by have := h.po; omega

/-- What meet has done with a root. -/
def MRt (w0 w : World) (mb hb nb : Nat) (ws : List Int) (L : List ByteArray) (us : List Int) (ts : List Tr) (m : Nat) (V : Value) (tl : Nat → Int) (e : Ending) (w' : World) : Prop :=
  ∃ v cells now V', e = .returned (.int .u64 v) ∧ RI ws L us ts (m + 1) cells now (updN tl m v) ∧ MV w0 w' mb hb nb ws.length V' (wds cells) now ∧ But (MB mb nb V) w w' ∧ ∀ q, V'.ownBlock = some q → V.ownBlock = some q ∨ w.heap.size ≤ q

theorem meet_root {hb ab most : Nat} {ws : List Int} {L : List ByteArray} {F : List Nat} {a : Option Addr} {c : Nat} {w0 w : World} {mb nb m : Nat} {V : Value} {cells : List Cl} {now tl : Nat → Int} {us : List Int} {ts : List Tr} {u : Int} {t : Tr} (hp0 : HP w0 hb ab most ws L F a c) (hL : L.length ≤ 100000) (hr : Rts2 ws L us ts) (hT : rT us ts us.length ≤ 16777216) (hu : us[m]? = some u) (ht : ts[m]? = some t)
    (hm : MV w0 w mb hb nb ws.length V (wds cells) now) (hi : RI ws L us ts m cells now tl) : Calls Tryz.prog 56 #[.pointer (some ⟨mb, 0, none⟩), .int .u64 u] w (MRt w0 w mb hb nb ws L us ts m V tl) := by
  obtain ⟨g1, g2, g3, g4⟩ := hr.good m u t hu ht
  have h64 := rep_64 g2.1 g4
  obtain ⟨p1, p2⟩ := rep_pts hL g2.1 g4
  have hcl : cells.length ≤ 16777216 := Nat.le_trans hi.ci.le (Nat.le_trans (rT_mono (Nat.le_of_lt (get_lt hu))) hT)
  cases hal : aloneT t with
  | true =>
    refine (meet_al h64.1 h64.2 (p1 hal)).mono ?_
    rintro e w' ⟨rfl, rfl⟩
    exact ⟨u, cells, now, V, rfl, hi.alone hr hu ht hal, hm, But.refl _ _, fun q hq => .inl hq⟩
  | false =>
    obtain ⟨p, hN⟩ := new_blk g1 g2 g4 hal
    obtain ⟨htg, ht56⟩ := p2 hal
    have hbody : bodyI u = p := by
      rw [hN.x_]
      rw [htg] at ht56
      have hpp := hN.p_
      rcases ht56 with e | e
      · rw [e]; exact (box_made hpp).2.1
      · rw [e]; exact (cons_made hpp).2.1
    have hpl := hN.l_
    have hn0 := hN.n_
    by_cases hex : ∃ i s, i < m ∧ us[i]? = some u ∧ ts[i]? = some s ∧ aloneT s = false
    · obtain ⟨i, s, h1, h2, h3, h4⟩ := hex
      obtain ⟨o1, o2, o3⟩ := hi.old hr hu ht hal h1 h2 h3 h4
      rw [hbody, Int.toNat_natCast] at o1
      refine (meet_old h64.1 h64.2 ht56 hbody (by omega) hm o1 o2).mono ?_
      rintro e w' ⟨rfl, rfl⟩
      exact ⟨tl i, cells, now, V, rfl, o3, hm, But.refl _ _, fun q hq => .inl hq⟩
    · obtain ⟨g, ha⟩ : ∃ g, a = some ⟨g, 0, none⟩ := by
        rcases hp0.row with ⟨_, _, e⟩ | ⟨g, cs, e, _⟩
        · have : ws.length = 0 := by rw [e]; rfl
          omega
        · exact ⟨g, e⟩
      obtain ⟨f1, f2⟩ := hi.fresh hr hu ht hal hN (fun i s h1 h2 h3 => by
        cases hs : aloneT s with
        | true => rfl
        | false => exact absurd ⟨i, s, h1, h2, h3, hs⟩ hex) hcl
      have hlen : (wds cells).length = cells.length := by simp [wds]
      refine (meet_new hp0 ha h64.1 h64.2 ht56 hbody hn0 hpl (by rw [hlen]; exact hcl) hm f1 (blk_rep ha g1 g2 g4 hal hN)).mono ?_
      rintro e w' ⟨rfl, V', q1, q2, q3⟩
      rw [htg, hlen, ← ownC_wds] at q1
      have hwd : wds cells ++ wds (ownC ws p t) = wds (cells ++ ownC ws p t) := by simp [wds]
      rw [hwd] at q1
      rw [htg, hlen]
      exact ⟨_, _, _, V', rfl, f2, q1, q2, q3⟩

theorem made_words (N : Nat) (hN : N ≤ 16777216) (w : World) : (Instr.makeSlice 59 (.int .i64 (N : Int)) (.int .i64 (N : Int))).run Tryz.prog w = .ok (.slice (some ⟨w.heap.size, 0, none⟩) N N) (w.alloc (.cells (madeCells #[.int .u64 0] N) 51)) := by
  obtain ⟨i0, hi, hz0, hz1, hz2⟩ := info_parts infoW
  have := run_make (P := Tryz.prog) w 59 51 i0 (.int .u64 0) Tryz.underlying59 hi hz0 .i64 .i64 (N : Int) (N : Int) (by omega) (by omega) (by rw [hz2]; omega) (by omega)
  rw [hz1] at this
  simpa [Value.cells] using this

theorem made_at {w : World} {N j : Nat} {t : TypeId} (hj : j < N) : (w.alloc (.cells (madeCells #[.int .u64 0] N) t)).cell? ⟨w.heap.size, j, none⟩ = some (.int .u64 0) ∧ (w.alloc (.cells (madeCells #[.int .u64 0] N) t)).frozen? ⟨w.heap.size, j, none⟩ = false := by
  refine ⟨?_, World.frozen?_alloc_new _ _ _ _⟩
  rw [World.cell?_alloc_new]
  simp [madeCells, hj, Nat.mod_one]
end Go.Proofs.YtmijabhnbmmmfaaGreat


