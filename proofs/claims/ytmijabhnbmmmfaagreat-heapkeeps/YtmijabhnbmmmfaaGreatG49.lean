import Derived.Test.YtmijabhnbmmmfaaGreatG38
import Derived.Test.YtmijabhnbmmmfaaGreatG26
import Derived.Test.YtmijabhnbmmmfaaGreatG36
import Derived.Test.YtmijabhnbmmmfaaGreatG46
/- Where the blocks of what is laid lie. -/
namespace Go.Proofs.YtmijabhnbmmmfaaGreat
open Go.RowKit Go.Deep

/-- What laying must give: the blocks lie in its room, each its own. -/
def LiesIt (t : Tr) : Prop := ∀ (p : Nat) (L : List ByteArray) (ws : List Int), (∀ (i : Nat) (x : Int), (layT t p L).2.1[i]? = some x → ws[p + i]? = some x) → p + wN t ≤ 16777216 → (blks ws t (layT t p L).1).Nodup ∧ ∀ b, b ∈ blks ws t (layT t p L).1 → p ≤ b ∧ b < p + wN t

theorem getD_of {ws : List Int} {q : Nat} {x : Int} (h : ws[q]? = some x) : ws.getD q 0 = x := by simp [List.getD, h]

theorem nodup_app {a b : List Nat} (ha : a.Nodup) (hb : b.Nodup) (h : ∀ x, x ∈ a → x ∉ b) : (a ++ b).Nodup :=
  List.nodup_append.2 ⟨ha, hb, fun x hx _ hy e => h x hx (e ▸ hy)⟩

theorem lies_all {ws : List Int} : ∀ (l : List Tr), (∀ t, t ∈ l → LiesIt t) → ∀ (b q : Nat) (L : List ByteArray), (∀ (j : Nat) (x : Int), (layAll l b L).1[j]? = some x → ws[q + j]? = some x) → (∀ (i : Nat) (x : Int), (layAll l b L).2.1[i]? = some x → ws[b + i]? = some x) → b + wAll l ≤ 16777216 → (blksA ws l q).Nodup ∧ ∀ x, x ∈ blksA ws l q → b ≤ x ∧ x < b + wAll l := by
  intro l
  induction l with
  | nil => intro _ b q L _ _ _; simp [blksA]
  | cons t r ih =>
    intro hk b q L h1 h2 h3
    have hl := lay_len t b L
    simp only [layAll] at h1 h2
    simp only [wAll] at h3 ⊢
    have e0 : ws.getD q 0 = (layT t b L).1 := getD_of (by simpa using h1 0 _ rfl)
    simp only [blksA, e0]
    obtain ⟨a1, a2⟩ := hk t (List.mem_cons_self ..) b L ws (fun i x hi => by
      refine h2 i x ?_
      rw [List.getElem?_append_left (get_lt hi)]; exact hi) (by omega)
    obtain ⟨b1, b2⟩ := ih (fun u hu => hk u (List.mem_cons_of_mem _ hu)) (b + (layT t b L).2.1.length) (q + 1) (layT t b L).2.2 (fun j x hj => by
        have e : q + 1 + j = q + (j + 1) := by omega
        rw [e]
        exact h1 (j + 1) x (by simpa using hj)) (fun i x hi => by
        have e : b + (layT t b L).2.1.length + i = b + ((layT t b L).2.1.length + i) := by omega
        rw [e]
        refine h2 _ x ?_
        rw [List.getElem?_append_right (by omega)]
        simpa using hi) (by rw [hl]; omega)
    rw [hl] at b2
    refine ⟨nodup_app a1 b1 fun x hx hx' => ?_, fun x hx => ?_⟩
    · have := a2 x hx; have := b2 x hx'; omega
    · rcases List.mem_append.1 hx with h | h
      · have := a2 x h; omega
      · have := b2 x h; omega

theorem lies_list {ws : List Int} : ∀ (l : List Tr), (∀ t, t ∈ l → LiesIt t) → ∀ (b p : Nat) (L : List ByteArray), (∀ (j : Nat) (x : Int), (pairs (layAll l b L).1 p)[j]? = some x → ws[p + j]? = some x) → (∀ (i : Nat) (x : Int), (layAll l b L).2.1[i]? = some x → ws[b + i]? = some x) → b + wAll l ≤ 16777216 → p + 2 * l.length ≤ b → (blksL ws l (if l.length = 0 then ofW 4 0 else ofW 6 p)).Nodup ∧ ∀ x, x ∈ blksL ws l (if l.length = 0 then ofW 4 0 else ofW 6 p) → (p ≤ x ∧ x < p + 2 * l.length) ∨ (b ≤ x ∧ x < b + wAll l) := by
  intro l
  induction l with
  | nil => intro _ b p L _ _ _ _; simp [blksL]
  | cons t r ih =>
    intro hk b p L h1 h2 h3 hp
    have hl := lay_len t b L
    simp only [layAll] at h1 h2
    simp only [wAll] at h3 ⊢
    simp only [List.length_cons] at hp ⊢
    rw [if_neg (by omega)]
    have hfirst : ∀ (i : Nat) (x : Int), (layT t b L).2.1[i]? = some x → ws[b + i]? = some x := fun i x hi => by
      refine h2 i x ?_
      rw [List.getElem?_append_left (get_lt hi)]; exact hi
    have hrest : ∀ (i : Nat) (x : Int), (layAll r (b + (layT t b L).2.1.length) (layT t b L).2.2).2.1[i]? = some x → ws[b + (layT t b L).2.1.length + i]? = some x := fun i x hi => by
      have e : b + (layT t b L).2.1.length + i = b + ((layT t b L).2.1.length + i) := by omega
      rw [e]
      refine h2 _ x ?_
      rw [List.getElem?_append_right (by omega)]
      simpa using hi
    have hrl := (layAll_len r (b + (layT t b L).2.1.length) (layT t b L).2.2).1
    have hR := ih (fun u hu => hk u (List.mem_cons_of_mem _ hu)) (b + (layT t b L).2.1.length) (p + 2) (layT t b L).2.2
    generalize layAll r (b + (layT t b L).2.1.length) (layT t b L).2.2 = Y at h1 hrest hrl hR
    have g0 : ws.getD p 0 = (layT t b L).1 := by
      refine getD_of ?_
      obtain ⟨y1, y2⟩ := Y
      cases y1 with
      | nil => exact h1 0 _ rfl
      | cons z zs => exact h1 0 _ rfl
    have g1 : ws.getD (p + 1) 0 = if r.length = 0 then ofW 4 0 else ofW 6 ((p + 2 : Nat) : Int) := by
      refine getD_of ?_
      obtain ⟨y1, y2⟩ := Y
      cases y1 with
      | nil =>
        simp only [List.length_nil] at hrl
        rw [if_pos hrl.symm]
        exact h1 1 _ rfl
      | cons z zs =>
        simp only [List.length_cons] at hrl
        rw [if_neg (by omega)]
        exact h1 1 _ rfl
    have hb : (bodyI (ofW 6 (p : Int))).toNat = p := by rw [(cons_made (by omega)).2.1]; simp
    simp only [blksL, hb, g0, g1]
    obtain ⟨a1, a2⟩ := hk t (List.mem_cons_self ..) b L ws hfirst (by omega)
    obtain ⟨b1, b2⟩ := hR (fun j x hj => by
        obtain ⟨y1, y2⟩ := Y
        cases y1 with
        | nil => simp [pairs] at hj
        | cons z zs =>
          have e : p + 2 + j = p + (j + 2) := by omega
          rw [e]
          exact h1 (j + 2) x (by simpa only [pairs, List.getElem?_cons_succ] using hj)) hrest (by rw [hl]; omega) (by omega)
    rw [hl] at b2
    generalize blksL ws r (if r.length = 0 then ofW 4 0 else ofW 6 ((p + 2 : Nat) : Int)) = B2 at *
    generalize blks ws t (layT t b L).1 = B1 at *
    refine ⟨List.nodup_cons.2 ⟨fun hx => ?_, nodup_app a1 b1 fun x hx hx' => ?_⟩, fun x hx => ?_⟩
    · rcases List.mem_append.1 hx with h | h
      · have := a2 p h; omega
      · have := b2 p h; omega
    · have := a2 x hx; have := b2 x hx'; omega
    · rcases List.mem_cons.1 hx with rfl | hx
      · omega
      · rcases List.mem_append.1 hx with h | h
        · have := a2 x h; omega
        · have := b2 x h; omega

theorem lay_lies : ∀ t : Tr, allT goodT t = true → LiesIt t := by
  refine Tr.ind fun k n f s a c kids hk0 hg p L ws h1 h2 => ?_
  simp only [allT, Bool.and_eq_true] at hg
  have hk : ∀ t, t ∈ kids → LiesIt t := fun t ht => hk0 t ht (good_kids hg.2 ht)
  simp only [layT] at h1 ⊢
  simp only [wN] at h2 ⊢
  by_cases c8 : k = 8
  · subst c8
    simp only [show ¬ (8 : Int) = 1 from by decide, show ¬ (8 : Int) = 6 from by decide, show ¬ (8 : Int) = 3 from by decide, if_false, if_true, blks] at h1 h2 ⊢
    have hl := layAll_len kids (p + 2 * kids.length) L
    obtain ⟨a1, a2⟩ := lies_list kids hk (p + 2 * kids.length) p L (fun j x hj => h1 j x (by rw [List.getElem?_append_left (get_lt hj)]; exact hj)) (fun i x hi => by
      have e : p + 2 * kids.length + i = p + (2 * kids.length + i) := by omega
      rw [e]
      refine h1 _ x ?_
      rw [List.getElem?_append_right (by rw [pairs_len, hl.1]; omega), pairs_len, hl.1]
      have e2 : 2 * kids.length + i - 2 * kids.length = i := by omega
      rw [e2]; exact hi) (by omega) (Nat.le_refl _)
    exact ⟨a1, fun b hb => by have := a2 b hb; omega⟩
  by_cases ca : k = 1 ∨ k = 3 ∨ k = 6
  · simp only [blks, if_neg c8, if_pos ca]
    exact ⟨List.nodup_nil, fun b hb => by simp at hb⟩
  · have c1 : ¬ k = 1 := fun e => ca (.inl e)
    have c3 : ¬ k = 3 := fun e => ca (.inr (.inl e))
    have c6 : ¬ k = 6 := fun e => ca (.inr (.inr e))
    simp only [if_neg c1, if_neg c6, if_neg c3, if_neg c8] at h1 h2 ⊢
    have hb : (bodyI (ofW 5 (p : Int))).toNat = p := by rw [(box_made (by omega)).2.1]; simp
    have hl := layAll_len kids (p + (front k n f kids.length).length + kids.length) L
    have hfl : (front k n f kids.length).length = frN k := by
      unfold front frN
      by_cases c2 : k = 2
      · simp [c2]
      by_cases c4 : k = 4
      · simp [c4]
      by_cases c5 : k = 5
      · simp [c5]
      have c7 : k = 7 := by
        have hg1 := hg.1
        simp only [goodT, c1, c2, c3, c4, c5, c6, c8, or_self, if_false] at hg1
        by_cases h : k = 7
        · exact h
        · simp [h] at hg1
      simp [c7]
    simp only [blks, if_neg c8, if_neg ca, hb]
    obtain ⟨a1, a2⟩ := lies_all kids hk (p + (front k n f kids.length).length + kids.length) (p + frN k) L (fun j x hj => by
      have hjl : j < kids.length := by have := get_lt hj; rw [hl.1] at this; exact this
      have e : p + frN k + j = p + ((front k n f kids.length).length + j) := by rw [hfl]; omega
      rw [e]
      refine h1 _ x ?_
      rw [List.append_assoc, List.getElem?_append_right (by omega), List.getElem?_append_left (by rw [hl.1]; omega)]
      have e2 : (front k n f kids.length).length + j - (front k n f kids.length).length = j := by omega
      rw [e2]; exact hj) (fun i x hi => by
      have e : p + (front k n f kids.length).length + kids.length + i = p + ((front k n f kids.length).length + kids.length + i) := by omega
      rw [e]
      refine h1 _ x ?_
      rw [List.getElem?_append_right (by rw [List.length_append, hl.1]; omega), List.length_append, hl.1]
      have e2 : (front k n f kids.length).length + kids.length + i - ((front k n f kids.length).length + kids.length) = i := by omega
      rw [e2]; exact hi) (by omega)
    have hfr : 1 ≤ (front k n f kids.length).length := by rw [hfl]; unfold frN; split <;> omega
    refine ⟨List.nodup_cons.2 ⟨fun hx => ?_, a1⟩, fun x hx => ?_⟩
    · have := a2 p hx; omega
    · rcases List.mem_cons.1 hx with rfl | hx
      · omega
      · have := a2 x hx; omega
end Go.Proofs.YtmijabhnbmmmfaaGreat


/- Load, whatever the heap holds. -/
namespace Go.Proofs.YtmijabhnbmmmfaaGreat
open Go.RowKit Go.Deep
attribute [local go_sem] store_float f64bits f64frombits
attribute [local go_sem ↓] Go.wp_at_zero Go.wp_at_succ

section
variable {hb ab most : Nat} {ws : List Int} {L : List ByteArray} {F : List Nat} {a : Option Addr} {c g : Nat}

/-- In an empty heap terms stand alone. -/
theorem emp_read (hem : ws = []) (hL : L.length ≤ 100000) (t : Tr) (hg : allT goodT t = true) (u : Int) (h : Rep ws L t u) : RdOk hb ab most ws L F a c t u := by
  obtain ⟨k, n, f, s, a', c', kids⟩ := t
  simp only [allT, Bool.and_eq_true] at hg
  obtain ⟨hg1, hg2⟩ := hg
  unfold Rep at h
  by_cases c1 : k = 1
  · rw [if_pos c1] at h
    subst c1 h
    simp [goodT] at hg1
    obtain ⟨hs0, hl0, ⟨_, hw, hf0⟩ | ⟨hq, _⟩⟩ := rightB_cases0 hg1
    · have e0 : kids = [] := List.length_eq_zero_iff.1 hl0
      subst e0 hf0
      obtain rfl := empty_of hs0
      have hb' := whB_yes hw
      obtain ⟨m1, m2, m3, m4, m5⟩ := of_made (t := 1) (b := n) (by decide) (by decide) (by simp [mayB]; omega)
      have e1 : aloneK (ofW 1 n) = 1 := by unfold aloneK; rw [m1]; rfl
      have e2 : aloneN (ofW 1 n) = n := by unfold aloneN; rw [m1, m2]; rfl
      have e3 : aloneS L (ofW 1 n) = ⟨#[]⟩ := by unfold aloneS; rw [m1]; rfl
      refine read_alone m3 m4 m5 (by omega) ?_ (by rw [e1]; decide) (by rw [e2]; exact wf64 (by omega) (by omega)) (by rw [e3]; exact Nat.zero_le _)
      rw [e1, e2, e3]
      unfold Same SameAll
      exact ⟨rfl, rfl, rfl, rfl, trivial⟩
    · omega
  rw [if_neg c1] at h
  by_cases c6 : k = 6
  · rw [if_pos c6] at h
    subst c6 h
    simp [goodT] at hg1
    have e0 : kids = [] := hg1.2.2
    have hf0 := hg1.2.1.1
    subst e0 hf0
    obtain rfl := empty_of (s := s) (by simpa using hg1.2.1.2)
    obtain ⟨m1, m2, m3, m4, m5⟩ := of_made (t := 3) (b := n) (by decide) (by decide) (by simp [mayB]; omega)
    have e1 : aloneK (ofW 3 n) = 6 := by unfold aloneK; rw [m1]; rfl
    have e2 : aloneN (ofW 3 n) = n := by unfold aloneN; rw [m1, m2]; rfl
    have e3 : aloneS L (ofW 3 n) = ⟨#[]⟩ := by unfold aloneS; rw [m1]; rfl
    refine read_alone m3 m4 m5 (by omega) ?_ (by rw [e1]; decide) (by rw [e2]; exact wf64 (by omega) (by omega)) (by rw [e3]; exact Nat.zero_le _)
    rw [e1, e2, e3]
    unfold Same SameAll
    exact ⟨rfl, rfl, rfl, rfl, trivial⟩
  rw [if_neg c6] at h
  by_cases c3 : k = 3
  · rw [if_pos c3] at h
    obtain ⟨i, rfl, hi⟩ := h
    subst c3
    simp [goodT] at hg1
    have e0 : kids = [] := hg1.2.2
    have hf0 := hg1.2.1.1
    have hn0 := hg1.2.1.2
    subst e0 hf0 hn0
    have hil := get_lt hi
    obtain ⟨m1, m2, m3, m4, m5⟩ := of_made (t := 2) (b := (i : Int)) (by decide) (by decide) (by simp [mayB]; omega)
    have e1 : aloneK (ofW 2 (i : Int)) = 3 := by unfold aloneK; rw [m1]; rfl
    have e2 : aloneN (ofW 2 (i : Int)) = 0 := by unfold aloneN; rw [m1]; rfl
    have e3 : aloneS L (ofW 2 (i : Int)) = s := by
      have hti : txIs L (i : Int) = true := by simp [txIs]; omega
      unfold aloneS; rw [m1, m2]; simp [txOf, hti, hi]
    refine read_alone m3 m4 m5 (by omega) ?_ (by rw [e1]; decide) (by rw [e2]; decide) (by rw [e3]; exact Nat.le_trans hg1.1 (by unfold maxLen; omega))
    rw [e1, e2, e3]
    unfold Same SameAll
    exact ⟨rfl, rfl, rfl, rfl, trivial⟩
  rw [if_neg c3] at h
  by_cases c8 : k = 8
  · rw [if_pos c8] at h
    subst c8
    simp [goodT] at hg1
    obtain ⟨⟨rfl, rfl⟩, hs0⟩ := hg1
    obtain rfl := empty_of (s := s) (by simpa using hs0)
    cases kids with
    | nil => unfold RepL at h; subst h; exact read_nil
    | cons t r =>
      unfold RepL at h
      obtain ⟨p, _, _, ⟨x, hx, _⟩, _⟩ := h
      rw [hem] at hx
      simp at hx
  rw [if_neg c8] at h
  obtain ⟨p, _, _, hfr, _⟩ := h
  have h0 : 0 < (front k n f kids.length).length := by
    unfold front
    repeat' split
    all_goals simp
  have := hfr 0 _ (List.getElem?_eq_getElem h0)
  rw [hem] at this
  simp at this
end

theorem emp_over {hb ab most gb : Nat} {ws : List Int} {L : List ByteArray} {F : List Nat} {a : Option Addr} {c d : Nat} (he : ws = []) (hL : L.length ≤ 100000) (t : Tr) (hg : allT goodT t = true) (u : Int) (h : Rep ws L t u) (hd : d ≤ 200) : OverOk hb ab most gb ws L F a c u d (deepN t) (wN t) := by
  obtain ⟨k, n, f, s, a', c', kids⟩ := t
  simp only [allT, Bool.and_eq_true] at hg
  have hg1 := hg.1
  have fin : kids = [] → (k = 1 ∨ k = 3 ∨ k = 6 ∨ k = 8) → OverOk hb ab most gb ws L F a c u d 1 0 → OverOk hb ab most gb ws L F a c u d (deepN (.mk k n f s a' c' kids)) (wN (.mk k n f s a' c' kids)) := by
    intro e hk ho
    subst e
    have dd : deepN (.mk k n f s a' c' []) = 1 := by simp [deepN, deepNs]
    have ww : wN (.mk k n f s a' c' []) = 0 := by rcases hk with rfl | rfl | rfl | rfl <;> simp [wN, wAll]
    rw [dd, ww]
    exact ho
  unfold Rep at h
  by_cases c1 : k = 1
  · rw [if_pos c1] at h
    subst c1 h
    simp [goodT] at hg1
    obtain ⟨hs0, hl0, ⟨_, hw, hf0⟩ | ⟨hq, _⟩⟩ := rightB_cases0 hg1
    · have hb' := whB_yes hw
      obtain ⟨m1, m2, m3, m4, m5⟩ := of_made (t := 1) (b := n) (by decide) (by decide) (by simp [mayB]; omega)
      exact fin (List.length_eq_zero_iff.1 hl0) (by simp) (over_alone m3 m4 m5 (by omega) (by unfold aloneB; rw [m1]; rfl) hd)
    · omega
  rw [if_neg c1] at h
  by_cases c6 : k = 6
  · rw [if_pos c6] at h
    subst c6 h
    simp [goodT] at hg1
    obtain ⟨m1, m2, m3, m4, m5⟩ := of_made (t := 3) (b := n) (by decide) (by decide) (by simp [mayB]; omega)
    exact fin hg1.2.2 (by simp) (over_alone m3 m4 m5 (by omega) (by unfold aloneB; rw [m1]; rfl) hd)
  rw [if_neg c6] at h
  by_cases c3 : k = 3
  · rw [if_pos c3] at h
    obtain ⟨i, rfl, hi⟩ := h
    subst c3
    simp [goodT] at hg1
    have hil := get_lt hi
    obtain ⟨m1, m2, m3, m4, m5⟩ := of_made (t := 2) (b := (i : Int)) (by decide) (by decide) (by simp [mayB]; omega)
    exact fin hg1.2.2 (by simp) (over_alone m3 m4 m5 (by omega) (by unfold aloneB; rw [m1, m2]; simp [txIs]; omega) hd)
  rw [if_neg c3] at h
  by_cases c8 : k = 8
  · rw [if_pos c8] at h
    cases kids with
    | nil => unfold RepL at h; subst h; exact fin rfl (by simp [c8]) (over_nil hd)
    | cons t r =>
      unfold RepL at h
      obtain ⟨p, _, _, ⟨x, hx, _⟩, _⟩ := h
      rw [he] at hx
      simp at hx
  rw [if_neg c8] at h
  obtain ⟨p, _, _, hfr, _⟩ := h
  have h0 : 0 < (front k n f kids.length).length := by
    unfold front
    repeat' split
    all_goals simp
  have := hfr 0 _ (List.getElem?_eq_getElem h0)
  rw [he] at this
  simp at this

section
variable {hb ab most : Nat} {ws : List Int} {L : List ByteArray} {F : List Nat} {a : Option Addr} {c : Nat}

set_option maxHeartbeats 1600000 in
set_option maxRecDepth 100000 in
theorem load_all (w0 w : World) (t : Tr) (u : Int) (hp : HP w hb ab most ws L F a c) (hL : L.length ≤ 100000) (hin : t.In w0 0) (he : errT t = 0) (hr : Rep ws L t u) :
    Calls Tryz.prog 19 #[.pointer (some ⟨hb, 0, none⟩), .int .u64 u] w fun e w' => ∃ t', e = .returned (.tuple #[t'.val, .int .i64 0]) ∧ Same t t' ∧ t'.In w' w.heap.size ∧ Below w.heap.size w w' := by
  obtain ⟨hg, hw1, hw2⟩ := words_right he
  have hlt := hp.tri.lt
  have hFlt := hp.tab.lt
  have hd := right_deep he
  have hws : ws.length ≤ 16777216 := Nat.le_trans hp.fits hp.small
  have hglt : ∀ g, a = some ⟨g, 0, none⟩ → g < w.heap.size := by
    intro g ha
    rcases hp.row with ⟨e, _⟩ | ⟨g', cs, e, _, _, _, h4⟩
    · rw [ha] at e; cases e
    · rw [ha] at e
      obtain rfl : g = g' := by simpa using e
      exact h4
  have hA : ws = [] ∨ ∃ g, a = some ⟨g, 0, none⟩ := by
    rcases hp.row with ⟨_, _, e⟩ | ⟨g, cs, e, _⟩
    · exact Or.inl e
    · exact Or.inr ⟨g, e⟩
  have hFW : w.heap.size + 1 ∉ F := fun h => by have := hFlt _ h; omega
  have OV := hidb (fun gb (hgb : w.heap.size ≤ gb) => show OverOk hb ab most gb ws L F a c u 1 (deepN t) (wN t) from by
    rcases hA with e | ⟨g, ha⟩
    · exact emp_over e hL t hg u hr (by omega)
    · have := hglt g ha
      exact (rep_over ⟨ha, by omega, fun h => by have := hFlt _ h; omega, by omega, hL, hws⟩ w0 t hin hg hw2 u 1 hr (by omega)).2)
  have RD := hidb (show RdOk hb ab most ws L F a c t u from by
    rcases hA with e | ⟨g, ha⟩
    · exact emp_read e hL t hg u hr
    · exact rep_read ha hL w0 t hin hg hw2 u hr)
  have hD := deepN_pos t
  have HPP := hidb hp
  have HB0 := hidb (show Below w.heap.size w ((w.alloc (.cells #[.int .i64 0, .int .i64 0, .float .f64 0, .string ⟨#[]⟩, .slice none 0 0] 44)).alloc (.cells #[.pointer (some ⟨hb, 0, none⟩), .int .i64 0, .slice none 0 0] 103)) from (below_new w _).alloc (by simp) _)
  have e1 : (w.alloc (.cells #[.int .i64 0, .int .i64 0, .float .f64 0, .string ⟨#[]⟩, .slice none 0 0] 44)).heap.size = w.heap.size + 1 := by simp
  have tr := Tri.new (w.alloc (.cells #[.int .i64 0, .int .i64 0, .float .f64 0, .string ⟨#[]⟩, .slice none 0 0] 44)) 103 (.pointer (some ⟨hb, 0, none⟩)) (.int .i64 0) (.slice none 0 0)
  rw [e1] at tr
  have HBX := hidb ((Box.new w 44 (.int .i64 0) (.int .i64 0) (.float .f64 0) (.string ⟨#[]⟩) (.slice none 0 0)).keep (below_new _ (.cells #[.pointer (some ⟨hb, 0, none⟩), .int .i64 0, .slice none 0 0] 103)))
  have hgg : ∀ g', a = some ⟨g', 0, none⟩ → w.heap.size + 1 ≠ g' := fun g' e => by
    have := hglt g' e
    omega
  have HO := hidb (holds_ok (gb := w.heap.size + 1) (W := 0) _ (hp.keep HB0.out) tr (by omega) hFW hgg (OV.out (w.heap.size + 1) (by omega)) hD hw2)
  have HS : Hid (¬ hb = w.heap.size + 1 ∧ w.heap.size ≠ w.heap.size + 1 ∧ w.heap.size + 1 ∉ F ∧ ∀ g, a = some ⟨g, 0, none⟩ → g ≠ w.heap.size + 1) := hidb ⟨by omega, by omega, hFW, fun g e => (hgg g e).symm⟩
  clear hgg hp hin he hr hlt hFlt hd hws hglt hFW OV hg hw1 hw2 tr e1 hD hA
  go_enter Tryz.func19, Tryz.ntmps19
  go_wp2_with fail
  refine HO.out.mono ?_
  rintro e w2 ⟨rfl, hbt⟩
  have HP2 := hidb ((HPP.out.keep HB0.out).but hbt (fun e => HS.out.1 e) (fun x hx e => HS.out.2.2.1 (e ▸ hx)) (fun g' e e2 => HS.out.2.2.2 g' e e2))
  have HX2 := hidb (HBX.out.but hbt HS.out.2.1)
  have HB2 := hidb (HB0.out.trans (hbt.below HB0.out.size (fun k e => by have e' : k = w.heap.size + 1 := e; omega)))
  clear hbt HO HBX
  go_wp2_with fail
  refine (RD.out _ HP2.out).mono ?_
  rintro e w3 ⟨⟨k, n, f, s, a3, c3, ks⟩, rfl, hsm, hin3, hb3⟩
  have HX3 := hidb (HX2.out.keep hb3)
  have HSM := hidb hsm
  have HI3 := hidb hin3
  have HB3 := hidb (HB2.out.trans (hb3.mono HB2.out.size))
  have hwl : w.heap.size < w2.heap.size := HX2.out.lt
  obtain ⟨d0, d1, d2, d3, d4, g0, g1, g2, g3, g4, -⟩ := HX3.out
  clear hsm hin3 hb3 RD
  simp only [Tr.val, Tr.cells]
  go_wp2_with fail
  exact bodyPost_ret (v := .tuple #[.agg #[.int .i64 k, .int .i64 n, .float .f64 f, .string s, .slice a3 ks.length c3], .int .i64 0]) (by simp [results, Tryz.results19, go_sem, d0, d1, d2, d3, d4]) rfl ⟨.mk k n f s a3 c3 ks, rfl, HSM.out, in_mono (Nat.le_of_lt hwl) _ (in_set5 hwl _ _ _ _ _ _ HI3.out), below_set5 HB3.out (Nat.le_refl _) _ _ _ _ _⟩
end
end Go.Proofs.YtmijabhnbmmmfaaGreat


