import Derived.Test.YtmijabhnbmmmfaaGreatG35
import Derived.Test.YtmijabhnbmmmfaaGreatG34
/- read of whatever says a right term; Load. -/
namespace Go.Proofs.YtmijabhnbmmmfaaGreat
open Go.RowKit Go.Deep
attribute [local go_sem] store_float f64bits f64frombits
attribute [local go_sem ↓] Go.wp_at_zero Go.wp_at_succ

theorem empty_of {s : ByteArray} (h : s.toList.isEmpty = true) : s = ⟨#[]⟩ := by
  rw [ByteArray.toList_eq] at h
  obtain ⟨d⟩ := s
  obtain ⟨l⟩ := d
  cases l with
  | nil => rfl
  | cons a r => simp at h

section
variable {hb ab most : Nat} {ws : List Int} {L : List ByteArray} {F : List Nat} {a : Option Addr} {c g : Nat}

theorem read_nil {a0 : Option Addr} {c0 : Nat} : RdOk hb ab most ws L F a c (.mk 8 0 0 ⟨#[]⟩ a0 c0 []) (ofW 4 0) := by
  obtain ⟨h1, _, h3, h4, h5⟩ := nil_made
  have e1 : aloneK (ofW 4 0) = 8 := by unfold aloneK; rw [h1]; rfl
  have e2 : aloneN (ofW 4 0) = 0 := by unfold aloneN; rw [h1]; rfl
  have e3 : aloneS L (ofW 4 0) = ⟨#[]⟩ := by unfold aloneS; rw [h1]; rfl
  refine read_alone h3 h4 h5 (by omega) ?_ (by rw [e1]; decide) (by rw [e2]; decide) (by rw [e3]; exact Nat.zero_le _)
  rw [e1, e2, e3]
  unfold Same SameAll
  exact ⟨rfl, rfl, rfl, rfl, trivial⟩

/-- A list that has some. -/
theorem read_list (ha : a = some ⟨g, 0, none⟩) {a0 : Option Addr} {c0 : Nat} (l : List Tr) (hl : l.length ≤ 65536) (hk : ∀ t, t ∈ l → ∀ u, Rep ws L t u → RdOk hb ab most ws L F a c t u) (u : Int) (h : RepL ws L l u) : RdOk hb ab most ws L F a c (.mk 8 0 0 ⟨#[]⟩ a0 c0 l) u := by
  cases l with
  | nil =>
    unfold RepL at h
    subst h
    exact read_nil
  | cons t r =>
    unfold RepL at h
    obtain ⟨p, rfl, hp, ⟨x, hx, hrx⟩, y, hy, hry⟩ := h
    obtain ⟨m1, m2, m3, m4, m5⟩ := cons_made hp
    obtain ⟨ty, y0, y1, -⟩ := repl_tag hry
    exact read_point (u := ofW 6 p) (y := y) (n := 2) (cc := 2) (fl := 0) (q := p) (A := ⟨g, p, none⟩) (k := 8) (Nn := 0) [(t, x)] r ha m3 m4 (Or.inr m1)
      (fun w hp' => block_of hb (ofW 6 p) p ⟨g, p, none⟩ ⟨g, p, none⟩ 2 1 2 0 8 0 y m3 m4 m2 w (Or.inl ⟨m1, fun w' hb' => pair_ok (hp'.keep hb') g p ha y hy y0 y1 ty⟩))
      (fun j z hj => by
        rcases j with _ | j
        · obtain rfl : (t, x) = z := by simpa using hj
          exact ⟨hx, hk t (List.mem_cons_self ..) x hrx⟩
        · simp at hj) hry (fun t' ht' => hk t' (List.mem_cons_of_mem _ ht')) (by simp only [List.length_cons, List.length_nil] at hl ⊢; omega) (by decide) (by decide) (by decide)

theorem zip_fst : ∀ (vs : List Int) (kids : List Tr), vs.length = kids.length → (List.zipWith (fun x t => ((t, x) : Tr × Int)) vs kids).map (fun x => x.1) = kids
  | [], [], _ => rfl
  | v :: vr, t :: r, h => by
    have := zip_fst vr r (by simpa using h)
    simp only [List.zipWith_cons_cons, List.map_cons, this]

theorem box_read (ha : a = some ⟨g, 0, none⟩) {a0 : Option Addr} {c0 : Nat} (k N : Int) (f p sz fr : Nat) (kids : List Tr) (hfr : frN k = fr) (hkB : hdB k = true) (hsz : sz ≤ 65536) (hw : ws[p]? = some (hdW k sz)) (hlen : p + (fr + kids.length) ≤ ws.length) (hln : lnN k sz = ((fr + kids.length : Nat) : Int)) (hlb : lnB k sz = true)
    (hf : f < 18446744073709551616) (hNw : (Lit.int .i64 N).wf = true) (hkw : (Lit.int .i64 k).wf = true)
    (hbr : ∀ w, HP w hb ab most ws L F a c → Calls Tryz.prog 99 #[.int .i64 k, .slice (some ⟨g, p, none⟩) (fr + kids.length) (fr + kids.length)] w fun e w'' => e = .returned (.agg #[.int .i64 (k), .int .i64 (N), .float .f64 (f), .string ⟨#[]⟩, .slice none 0 0]) ∧ Below w.heap.size w w'') (hgood : errT (.mk k N f ⟨#[]⟩ none 0 []) = 0)
    (hp : p ≤ 16777216) (hel : RepAll ws L kids (p + fr)) (hk : ∀ t, t ∈ kids → ∀ u, Rep ws L t u → RdOk hb ab most ws L F a c t u) :
    RdOk hb ab most ws L F a c (.mk k N f ⟨#[]⟩ a0 c0 kids) (ofW 5 p) := by
  obtain ⟨m1, m2, m3, m4, m5⟩ := box_made hp
  obtain ⟨e0, e1, e2, e3, e4⟩ := hd_made hkB (s := sz) (by omega) (by omega)
  obtain ⟨vs, hvl, hv⟩ := repAll_words kids (p + fr) hel
  have hfr0 : 1 ≤ fr := by rw [← hfr]; unfold frN; split <;> omega
  have hkl : kids.length ≤ 65536 := by
    unfold lnN at hln
    unfold frN at hfr
    split at hln
    · rename_i h7; rw [if_pos h7] at hfr; omega
    · rename_i h7
      rw [if_neg h7] at hfr
      split at hln <;> omega
  have hxl : (List.zipWith (fun x t => ((t, x) : Tr × Int)) vs kids).length = kids.length := by simp [hvl]
  have hI := read_point (hb := hb) (ab := ab) (most := most) (ws := ws) (L := L) (F := F) (a := a) (c := c) (u := ofW 5 p) (y := ofW 4 0) (n := fr + kids.length) (cc := fr + kids.length - fr) (fl := f) (g := g) (q := if fr + kids.length = fr then p else p + fr) (A := ⟨g, p, none⟩) (k := k) (Nn := N) (a0 := a0) (c0 := c0) (List.zipWith (fun x t => ((t, x) : Tr × Int)) vs kids) [] ha m3 m4 (Or.inl m1)
    (fun w hp' => by
      rw [hxl]
      have em : kids.length = fr + kids.length - fr := by omega
      rw [em]
      have em2 : fr + (fr + kids.length - fr) = fr + kids.length := by omega
      rw [em2]
      refine block_of hb (ofW 5 p) p ⟨g, p, none⟩ ⟨g, if fr + kids.length = fr then p else p + fr, none⟩ (fr + kids.length) (fr + kids.length - fr) (fr + kids.length - fr) f k N (ofW 4 0) m3 m4 m2 w (Or.inr ⟨m1, fun w' hb' => ?_⟩)
      have := box_ok (hp'.keep hb') g ha p (fr + kids.length) sz (hdW k sz) k N f hw e0 e1 e2 e3 e4 hln hlb hlen (by omega) hsz hf hNw hkw (fun w'' hb'' => hbr w'' ((hp'.keep hb').keep hb'')) hgood
      rw [hfr] at this
      exact this)
    (fun j z hj => by
      have hjl : j < kids.length := by
        rcases Nat.lt_or_ge j kids.length with q | q
        · exact q
        · rw [List.getElem?_eq_none (by rw [hxl]; exact q)] at hj; cases hj
      obtain ⟨t, ht⟩ : ∃ t, kids[j]? = some t := ⟨_, List.getElem?_eq_getElem hjl⟩
      obtain ⟨x, x1, x2, x3⟩ := hv j t ht
      have ez : z = (t, x) := by
        rw [List.getElem?_zipWith, x1, ht] at hj
        simpa using hj.symm
      subst ez
      rw [if_neg (by omega)]
      exact ⟨x2, hk t (List.mem_of_getElem? ht) x x3⟩) (by unfold RepL; rfl) (fun t ht => by simp at ht) (by rw [hxl]; simpa using hkl) hkw hNw (by simpa [Lit.wf] using hf)
  rw [zip_fst vs kids hvl, List.append_nil] at hI
  exact hI

/-- Its floats are of 64 bits. -/
def smF : Tr → Bool
  | .mk _ _ f _ _ _ _ => decide (f < 18446744073709551616)

theorem wf64 {n : Int} (h0 : -1099511627776000000 ≤ n) (h1 : n ≤ 1099511627776000000) : (Lit.int .i64 n).wf = true := by
  have e0 : IntKind.i64.min = -9223372036854775808 := by decide
  have e1 : IntKind.i64.max = 9223372036854775807 := by decide
  simp only [Lit.wf, e0, e1, Bool.and_eq_true, decide_eq_true_eq]
  omega

theorem in_smF {w : World} : ∀ t : Tr, t.In w 0 → allT smF t = true := by
  refine Tr.ind fun k n f s a c kids hk hin => ?_
  have hfit : (Tr.mk k n f s a c kids).fit := by unfold Tr.In at hin; exact hin.1
  have hf : f < 18446744073709551616 := by have := hfit.2.2.1; simpa [Lit.wf] using this
  simp only [allT, smF, decide_eq_true hf, Bool.true_and]
  have hall : ∀ (l : List Tr), (∀ t, t ∈ l → t ∈ kids) → allAll smF l = true := by
    intro l
    induction l with
    | nil => intro _; simp [allAll]
    | cons t r ih =>
      intro hl
      have ht := hl t (List.mem_cons_self ..)
      simp only [allAll, Bool.and_eq_true]
      refine ⟨?_, ih fun u hu => hl u (List.mem_cons_of_mem _ hu)⟩
      obtain ⟨j, hj⟩ := List.getElem?_of_mem ht
      refine hk t ht ?_
      unfold Tr.In at hin
      cases a with
      | none =>
        have h0 := hin.1.2.2.2.2.2.2 rfl
        have h1 := hin.1.2.2.2.2.1
        have := get_lt hj
        omega
      | some ad => exact (inAll_get (hin.2 ad rfl).2 j t hj).2
  exact hall kids fun t h => h

set_option maxRecDepth 100000 in
theorem rep_readP (ha : a = some ⟨g, 0, none⟩) (hL : L.length ≤ 100000) : ∀ t : Tr, allT smF t = true → allT goodT t = true → wN t ≤ 65536 → ∀ u, Rep ws L t u → RdOk hb ab most ws L F a c t u := by
  refine Tr.ind fun k n f s a' c' kids hk hin hg hwn u h => ?_
  simp only [allT, Bool.and_eq_true] at hg hin
  obtain ⟨hg1, hg2⟩ := hg
  have hf : f < 18446744073709551616 := by have := hin.1; simpa [smF] using this
  have hwk : ∀ t, t ∈ kids → wN t ≤ wAll kids := by
    intro t ht
    clear hk hin hg1 hg2 hwn h
    induction kids with
    | nil => simp at ht
    | cons v r ih =>
      simp only [wAll]
      rcases List.mem_cons.1 ht with rfl | ht
      · omega
      · have := ih ht; omega
  have hkids : wAll kids ≤ 65536 → ∀ t, t ∈ kids → ∀ u, Rep ws L t u → RdOk hb ab most ws L F a c t u := by
    intro hwa t ht
    exact hk t ht (good_kids hin.2 ht) (good_kids hg2 ht) (by have := hwk t ht; omega)
  unfold Rep at h
  simp only [wN] at hwn
  by_cases c1 : k = 1
  · rw [if_pos c1] at h
    subst c1 h
    simp [goodT] at hg1
    obtain ⟨hs0, hl0, ⟨_, hw, hf0⟩ | ⟨hq, _⟩⟩ := rightB_cases0 hg1
    · have e0 : kids = [] := List.length_eq_zero_iff.1 hl0
      subst e0 hf0
      obtain rfl := empty_of hs0
      have hb' := whB_yes hw
      obtain ⟨m1, m2, m3, m4, m5⟩ := of_made (t := 1) (b := n) (by decide) (by decide) (by simp [mayB]; omega)
      have e1 : aloneK (ofW 1 n) = 1 := by unfold aloneK; rw [m1]; rfl
      have e2 : aloneN (ofW 1 n) = n := by unfold aloneN; rw [m1, m2]; rfl
      have e3 : aloneS L (ofW 1 n) = ⟨#[]⟩ := by unfold aloneS; rw [m1]; rfl
      refine read_alone m3 m4 m5 (by omega) ?_ (by rw [e1]; decide) (by rw [e2]; exact wf64 (by omega) (by omega)) (by rw [e3]; exact Nat.zero_le _)
      rw [e1, e2, e3]
      unfold Same SameAll
      exact ⟨rfl, rfl, rfl, rfl, trivial⟩
    · omega
  rw [if_neg c1] at h hwn
  by_cases c6 : k = 6
  · rw [if_pos c6] at h
    subst c6 h
    simp [goodT] at hg1
    have e0 : kids = [] := hg1.2.2
    have hf0 := hg1.2.1.1
    subst e0 hf0
    obtain rfl := empty_of (s := s) (by simpa using hg1.2.1.2)
    obtain ⟨m1, m2, m3, m4, m5⟩ := of_made (t := 3) (b := n) (by decide) (by decide) (by simp [mayB]; omega)
    have e1 : aloneK (ofW 3 n) = 6 := by unfold aloneK; rw [m1]; rfl
    have e2 : aloneN (ofW 3 n) = n := by unfold aloneN; rw [m1, m2]; rfl
    have e3 : aloneS L (ofW 3 n) = ⟨#[]⟩ := by unfold aloneS; rw [m1]; rfl
    refine read_alone m3 m4 m5 (by omega) ?_ (by rw [e1]; decide) (by rw [e2]; exact wf64 (by omega) (by omega)) (by rw [e3]; exact Nat.zero_le _)
    rw [e1, e2, e3]
    unfold Same SameAll
    exact ⟨rfl, rfl, rfl, rfl, trivial⟩
  rw [if_neg c6] at h hwn
  by_cases c3 : k = 3
  · rw [if_pos c3] at h
    obtain ⟨i, rfl, hi⟩ := h
    subst c3
    simp [goodT] at hg1
    have e0 : kids = [] := hg1.2.2
    have hf0 := hg1.2.1.1
    have hn0 := hg1.2.1.2
    subst e0 hf0 hn0
    have hil := get_lt hi
    obtain ⟨m1, m2, m3, m4, m5⟩ := of_made (t := 2) (b := (i : Int)) (by decide) (by decide) (by simp [mayB]; omega)
    have e1 : aloneK (ofW 2 (i : Int)) = 3 := by unfold aloneK; rw [m1]; rfl
    have e2 : aloneN (ofW 2 (i : Int)) = 0 := by unfold aloneN; rw [m1]; rfl
    have e3 : aloneS L (ofW 2 (i : Int)) = s := by
      have hti : txIs L (i : Int) = true := by simp [txIs]; omega
      unfold aloneS; rw [m1, m2]; simp [txOf, hti, hi]
    refine read_alone m3 m4 m5 (by omega) ?_ (by rw [e1]; decide) (by rw [e2]; decide) (by rw [e3]; exact Nat.le_trans hg1.1 (by unfold maxLen; omega))
    rw [e1, e2, e3]
    unfold Same SameAll
    exact ⟨rfl, rfl, rfl, rfl, trivial⟩
  rw [if_neg c3] at h hwn
  by_cases c8 : k = 8
  · rw [if_pos c8] at h hwn
    subst c8
    simp [goodT] at hg1
    obtain ⟨⟨rfl, rfl⟩, hs0⟩ := hg1
    obtain rfl := empty_of (s := s) (by simpa using hs0)
    exact read_list ha kids (by omega) (hkids (by omega)) u h
  rw [if_neg c8] at h hwn
  obtain ⟨p, rfl, hp, hfr, hra⟩ := h
  have hfl : (front k n f kids.length).length = frN k := by
    unfold front frN
    by_cases c2 : k = 2
    · simp [c2]
    by_cases c4 : k = 4
    · simp [c4]
    by_cases c5 : k = 5
    · simp [c5]
    have c7 : k = 7 := by
      simp only [goodT, c1, c2, c3, c4, c5, c6, c8, or_self, if_false] at hg1
      by_cases h : k = 7
      · exact h
      · simp [h] at hg1
    simp [c7]
  have hplen : p + frN k ≤ ws.length := by
    have : frN k - 1 < (front k n f kids.length).length := by rw [hfl]; unfold frN; split <;> omega
    have := get_lt (hfr (frN k - 1) _ (List.getElem?_eq_getElem this))
    have : 1 ≤ frN k := by unfold frN; split <;> omega
    omega
  have hlen := all_len kids (p + (front k n f kids.length).length) hra (by rw [hfl]; exact hplen)
  rw [hfl] at hra hlen hwn
  have hwa : wAll kids ≤ 65536 := by omega
  have hkk := hkids hwa
  by_cases c2 : k = 2
  · subst c2
    simp [goodT] at hg1
    obtain ⟨hs0, hl0, ⟨hq, _⟩ | ⟨_, hn0, hfin⟩⟩ := rightB_cases0 hg1
    · omega
    have e0 : kids = [] := List.length_eq_zero_iff.1 hl0
    subst e0 hn0
    obtain rfl := empty_of hs0
    have hx := hfr 1 (f : Int) rfl
    exact box_read ha 2 0 f p 1 2 [] rfl rfl (by omega) (hfr 0 _ rfl) (by simpa [frN] using hlen) rfl rfl hf (by decide) (by decide) (fun w hp' => by
      obtain ⟨g', e', _, _, hc⟩ := hp_cell hp' (p + 1) (f : Int) hx
      rw [ha] at e'
      obtain rfl : g = g' := by simpa using e'
      exact bare_2 g p 2 f w (by omega) (hc w (Below.refl _ _))) (bare_err (by simp [goodT, rightB, hfin]) (by decide)) hp hra hkk
  by_cases c4 : k = 4
  · subst c4
    simp [goodT] at hg1
    have e0 : kids = [] := hg1.2.2
    subst e0
    have hx := hfr 1 n rfl
    have hn := hg1.1
    have hf0 := hg1.2.1.1
    subst hf0
    obtain rfl := empty_of (s := s) (by simpa using hg1.2.1.2)
    exact box_read ha 4 n 0 p 1 2 [] rfl rfl (by omega) (hfr 0 _ rfl) (by simpa [frN] using hlen) rfl rfl (by omega) (wf64 (by omega) (by omega)) (by decide) (fun w hp' => by
      obtain ⟨g', e', _, _, hc⟩ := hp_cell hp' (p + 1) n hx
      rw [ha] at e'
      obtain rfl : g = g' := by simpa using e'
      exact bare_n 4 (Or.inl rfl) g p 2 n w (by omega) hn.1 hn.2 (hc w (Below.refl _ _))) (bare_err (by simp [goodT]; exact hn) (by decide)) hp hra hkk
  by_cases c5 : k = 5
  · subst c5
    simp [goodT] at hg1
    have hx := hfr 1 n rfl
    have hn := hg1.1
    have hf0 := hg1.2.1
    subst hf0
    obtain rfl := empty_of (s := s) (by simpa using hg1.2.2)
    exact box_read ha 5 n 0 p kids.length 2 kids rfl rfl (by simp [frN] at hwn; omega) (hfr 0 _ rfl) (by simp [frN] at hlen; omega) (by simp [lnN]) (by simp [lnB]) (by omega) (wf64 (by omega) (by omega)) (by decide) (fun w hp' => by
      obtain ⟨g', e', _, _, hc⟩ := hp_cell hp' (p + 1) n hx
      rw [ha] at e'
      obtain rfl : g = g' := by simpa using e'
      exact bare_n 5 (Or.inr rfl) g p (2 + kids.length) n w (by omega) hn.1 (by omega) (hc w (Below.refl _ _))) (bare_err (by simp [goodT]; omega) (by decide)) hp hra hkk
  have c7 : k = 7 := by
    simp only [goodT, c1, c2, c3, c4, c5, c6, c8, or_self, if_false] at hg1
    by_cases h : k = 7
    · exact h
    · simp [h] at hg1
  subst c7
  simp [goodT] at hg1
  obtain ⟨⟨rfl, rfl⟩, hs0⟩ := hg1
  obtain rfl := empty_of (s := s) (by simpa using hs0)
  exact box_read ha 7 0 0 p kids.length 1 kids rfl rfl (by simp [frN] at hwn; omega) (hfr 0 _ rfl) (by simp [frN] at hlen; omega) (by simp [lnN]) (by simp [lnB]) (by omega) (by decide) (by decide) (fun w hp' => bare_7 _ w) (bare_err (by simp [goodT]) (by decide)) hp hra hkk

theorem rep_read (ha : a = some ⟨g, 0, none⟩) (hL : L.length ≤ 100000) (w0 : World) (t : Tr) (hin : t.In w0 0) (hg : allT goodT t = true) (hw : wN t ≤ 65536) (u : Int) (h : Rep ws L t u) : RdOk hb ab most ws L F a c t u := rep_readP ha hL t (in_smF t hin) hg hw u h

theorem in_set5 {w : World} {base b : Nat} (hb : b < base) (u0 u1 u2 u3 u4 : Value) (t : Tr) (h : t.In w base) : t.In (set5 w b u0 u1 u2 u3 u4) base := by
  refine in_on (S := fun k => k < w.heap.size ∧ base ≤ k) (fun k hk => ?_) t h (on_in t h)
  have hne : k ≠ b := by omega
  unfold set5
  rw [Below.heap_setCell _ _ _ _ hne, Below.heap_setCell _ _ _ _ hne, Below.heap_setCell _ _ _ _ hne, Below.heap_setCell _ _ _ _ hne, Below.heap_setCell _ _ _ _ hne]

set_option maxHeartbeats 1600000 in
set_option maxRecDepth 100000 in
theorem load_ok (w0 w : World) (t : Tr) (u : Int) (hp : HP w hb ab most ws L F a c) (ha : a = some ⟨g, 0, none⟩) (hL : L.length ≤ 100000) (hin : t.In w0 0) (he : errT t = 0) (hr : Rep ws L t u) :
    Calls Tryz.prog 19 #[.pointer (some ⟨hb, 0, none⟩), .int .u64 u] w fun e w' => ∃ t', e = .returned (.tuple #[t'.val, .int .i64 0]) ∧ Same t t' ∧ t'.In w' w.heap.size ∧ Below w.heap.size w w' := by
  obtain ⟨hg, hw1, hw2⟩ := words_right he
  have hlt := hp.tri.lt
  have hFlt := hp.tab.lt
  have hd := right_deep he
  have hws : ws.length ≤ 16777216 := Nat.le_trans hp.fits hp.small
  have hglt : g < w.heap.size := by
    rcases hp.row with ⟨e, _⟩ | ⟨g', cs, e, _, _, _, h4⟩
    · rw [ha] at e; cases e
    · rw [ha] at e
      obtain rfl : g = g' := by simpa using e
      exact h4
  have hFW : w.heap.size + 1 ∉ F := fun h => by have := hFlt _ h; omega
  have cx : ∀ gb, w.heap.size ≤ gb → Ctx hb ab most gb ws L F a c g := fun gb hgb => ⟨ha, by omega, fun h => by have := hFlt _ h; omega, by omega, hL, hws⟩
  have OV := hidb (fun gb hgb => (rep_over (cx gb hgb) w0 t hin hg hw2 u 1 hr (by omega)).2)
  have RD := hidb (rep_read (hb := hb) (ab := ab) (most := most) (F := F) (c := c) ha hL w0 t hin hg hw2 u hr)
  have hD := deepN_pos t
  have HPP := hidb hp
  have HB0 := hidb (show Below w.heap.size w ((w.alloc (.cells #[.int .i64 0, .int .i64 0, .float .f64 0, .string ⟨#[]⟩, .slice none 0 0] 44)).alloc (.cells #[.pointer (some ⟨hb, 0, none⟩), .int .i64 0, .slice none 0 0] 103)) from (below_new w _).alloc (by simp) _)
  have e1 : (w.alloc (.cells #[.int .i64 0, .int .i64 0, .float .f64 0, .string ⟨#[]⟩, .slice none 0 0] 44)).heap.size = w.heap.size + 1 := by simp
  have tr := Tri.new (w.alloc (.cells #[.int .i64 0, .int .i64 0, .float .f64 0, .string ⟨#[]⟩, .slice none 0 0] 44)) 103 (.pointer (some ⟨hb, 0, none⟩)) (.int .i64 0) (.slice none 0 0)
  rw [e1] at tr
  have HBX := hidb ((Box.new w 44 (.int .i64 0) (.int .i64 0) (.float .f64 0) (.string ⟨#[]⟩) (.slice none 0 0)).keep (below_new _ (.cells #[.pointer (some ⟨hb, 0, none⟩), .int .i64 0, .slice none 0 0] 103)))
  have hgg : ∀ g', a = some ⟨g', 0, none⟩ → w.heap.size + 1 ≠ g' := fun g' e => by
    rw [ha] at e
    obtain rfl : g = g' := by simpa using e
    omega
  have HO := hidb (holds_ok (gb := w.heap.size + 1) (W := 0) _ (hp.keep HB0.out) tr (by omega) hFW hgg (OV.out (w.heap.size + 1) (by omega)) hD hw2)
  have HS : Hid (¬ hb = w.heap.size + 1 ∧ w.heap.size ≠ w.heap.size + 1 ∧ w.heap.size + 1 ∉ F ∧ g ≠ w.heap.size + 1) := hidb ⟨by omega, by omega, hFW, by omega⟩
  have HA := hidb ha
  clear hgg hp hin he hr hlt hFlt hd hws hglt hFW cx OV hg hw1 hw2 tr e1 hD ha
  go_enter Tryz.func19, Tryz.ntmps19
  go_wp2_with fail
  refine HO.out.mono ?_
  rintro e w2 ⟨rfl, hbt⟩
  have HP2 := hidb ((HPP.out.keep HB0.out).but hbt (fun e => HS.out.1 e) (fun x hx e => HS.out.2.2.1 (e ▸ hx)) (fun g' e e2 => by
    rw [HA.out] at e
    obtain rfl : g = g' := by simpa using e
    exact HS.out.2.2.2 e2))
  have HX2 := hidb (HBX.out.but hbt HS.out.2.1)
  have HB2 := hidb (HB0.out.trans (hbt.below HB0.out.size (fun k e => by have e' : k = w.heap.size + 1 := e; omega)))
  clear hbt HO HBX
  go_wp2_with fail
  refine (RD.out _ HP2.out).mono ?_
  rintro e w3 ⟨⟨k, n, f, s, a3, c3, ks⟩, rfl, hsm, hin3, hb3⟩
  have HX3 := hidb (HX2.out.keep hb3)
  have HSM := hidb hsm
  have HI3 := hidb hin3
  have HB3 := hidb (HB2.out.trans (hb3.mono HB2.out.size))
  have hwl : w.heap.size < w2.heap.size := HX2.out.lt
  obtain ⟨d0, d1, d2, d3, d4, g0, g1, g2, g3, g4, -⟩ := HX3.out
  clear hsm hin3 hb3 RD
  simp only [Tr.val, Tr.cells]
  go_wp2_with fail
  exact bodyPost_ret (v := .tuple #[.agg #[.int .i64 k, .int .i64 n, .float .f64 f, .string s, .slice a3 ks.length c3], .int .i64 0]) (by simp [results, Tryz.results19, go_sem, d0, d1, d2, d3, d4]) rfl ⟨.mk k n f s a3 c3 ks, rfl, HSM.out, in_mono (Nat.le_of_lt hwl) _ (in_set5 hwl _ _ _ _ _ _ HI3.out), below_set5 HB3.out (Nat.le_refl _) _ _ _ _ _⟩
end
end Go.Proofs.YtmijabhnbmmmfaaGreat


/- A word that points: to nothing, or to a block that may be a term's. -/
namespace Go.Proofs.YtmijabhnbmmmfaaGreat
open Go.RowKit Go.Deep

theorem tag_word {u t : Int} {p : Nat} (ht : tagI u = t) (h56 : t = 5 ∨ t = 6) (hp : bodyI u = p) (hl : p ≤ 16777216) : u = ofW t p := by
  have hm : tagB t = true ∧ mayB t p = true := by rcases h56 with rfl | rfl <;> simp [tagB, mayB] <;> omega
  simp only [ofW, hm.1, hm.2, Bool.and_self, if_true]
  unfold tagI at ht
  unfold bodyI at hp
  rw [if_neg (by omega)] at hp
  unfold joinI
  omega

theorem body_pos {u : Int} (h0 : 0 ≤ u) (h1 : u ≤ 18446744073709551615) (h56 : tagI u = 5 ∨ tagI u = 6) : 0 ≤ bodyI u ∧ bodyI u ≤ 1152921504606846976 := by
  unfold tagI at h56
  unfold bodyI
  rw [if_neg (by omega)]
  omega

/-- Words of a list's tags say lists. -/
theorem rep_list {ws : List Int} {L : List ByteArray} (hL : L.length ≤ 100000) {t : Tr} {y : Int} (h : Rep ws L t y) (hg : allT goodT t = true) (ht : tagI y = 4 ∨ tagI y = 6) : ∃ a c kids, t = .mk 8 0 0 ⟨#[]⟩ a c kids ∧ RepL ws L kids y := by
  obtain ⟨k, n, f, s, a, c, kids⟩ := t
  simp only [allT, Bool.and_eq_true] at hg
  have hg1 := hg.1
  unfold Rep at h
  split at h
  · rename_i c1
    subst c1 h
    simp [goodT] at hg1
    obtain ⟨_, _, ⟨_, hw, _⟩ | ⟨hq, _⟩⟩ := rightB_cases0 hg1
    · have hb' := whB_yes hw
      have := (of_made (t := 1) (b := n) (by decide) (by decide) (by simp [mayB]; omega)).1
      omega
    · omega
  split at h
  · rename_i c1 c6
    subst c6 h
    simp [goodT] at hg1
    have := (of_made (t := 3) (b := n) (by decide) (by decide) (by simp [mayB]; omega)).1
    omega
  split at h
  · obtain ⟨i, rfl, hi⟩ := h
    have hil := get_lt hi
    have := (of_made (t := 2) (b := (i : Int)) (by decide) (by decide) (by simp [mayB]; omega)).1
    omega
  split at h
  · rename_i c8
    subst c8
    simp [goodT] at hg1
    obtain ⟨⟨rfl, rfl⟩, hs0⟩ := hg1
    obtain rfl := empty_of (s := s) (by simpa using hs0)
    exact ⟨a, c, kids, rfl, h⟩
  · obtain ⟨p, rfl, hp, _⟩ := h
    have := (box_made hp).1
    omega

theorem repAll_of {ws : List Int} {L : List ByteArray} : ∀ (ts : List Tr) (q : Nat), (∀ (j : Nat) (t : Tr), ts[j]? = some t → ∃ x, ws[q + j]? = some x ∧ Rep ws L t x) → RepAll ws L ts q := by
  intro ts
  induction ts with
  | nil => intro q _; unfold RepAll; trivial
  | cons t r ih =>
    intro q h
    unfold RepAll
    refine ⟨by simpa using h 0 t rfl, ih (q + 1) fun j u hu => ?_⟩
    have e : q + 1 + j = q + (j + 1) := by omega
    rw [e]
    exact h (j + 1) u (by simpa using hu)

section
variable (hb ab most : Nat) (ws : List Int) (L : List ByteArray) (F : List Nat) (a : Option Addr) (c : Nat)

def BlkNo (u : Int) : Prop := ∃ (A El : Option Addr) (n n' m c' f : Nat) (k N y : Int), n ≤ 70000 ∧ ∀ w, HP w hb ab most ws L F a c → Calls Tryz.prog 53 #[.pointer (some ⟨hb, 0, none⟩), .int .u64 u] w fun e w' =>
  e = .returned (.tuple #[.agg #[.slice A n n', .int .i64 k, .int .i64 N, .float .f64 f, .string ⟨#[]⟩, .slice none 0 0, .slice El m c', .int .u64 y], .bool false]) ∧ Below w.heap.size w w'

def BlkYes (g : Nat) (u : Int) : Prop := ∃ (A : Addr) (n q m cc f : Nat) (k N y : Int), 1 ≤ n ∧ n ≤ 70000 ∧ m ≤ 65536 ∧ 0 ≤ y ∧ y ≤ 18446744073709551615 ∧ (∀ j, j < m → ∃ x, ws[q + j]? = some x) ∧
  (∀ w, HP w hb ab most ws L F a c → Calls Tryz.prog 53 #[.pointer (some ⟨hb, 0, none⟩), .int .u64 u] w fun e w' =>
    e = .returned (.tuple #[.agg #[.slice (some A) n n, .int .i64 k, .int .i64 N, .float .f64 f, .string ⟨#[]⟩, .slice none 0 0, .slice (some ⟨g, q, none⟩) m cc, .int .u64 y], .bool true]) ∧ Below w.heap.size w w') ∧
  ∀ (tr : Tr) (ts : List Tr), Rep ws L tr y → allT goodT tr = true → allT smF tr = true → ts.length = m → (∀ (j : Nat) (t : Tr), ts[j]? = some t → ∃ x, ws[q + j]? = some x ∧ Rep ws L t x) → allAll goodT ts = true → allAll smF ts = true →
    ∃ t, Rep ws L t u ∧ allT goodT t = true ∧ allT smF t = true ∧ deepN t = deepest (ts.map deepN) (deepN tr) ∧ wN t = n + wN tr + (ts.map wN).sum
end

section
variable {hb ab most : Nat} {ws : List Int} {L : List ByteArray} {F : List Nat} {a : Option Addr} {c : Nat}

theorem blk_zero {u : Int} (h0 : 0 ≤ u) (h1 : u ≤ 18446744073709551615) (h : (tagI u = 6 ∧ ∀ w, HP w hb ab most ws L F a c → Calls Tryz.prog 84 #[.pointer (some ⟨hb, 0, none⟩), .int .i64 (bodyI u)] w fun e w' => e = .returned (.tuple #[zeroBlk, .bool false]) ∧ Below w.heap.size w w') ∨
    (tagI u = 5 ∧ ∀ w, HP w hb ab most ws L F a c → Calls Tryz.prog 85 #[.pointer (some ⟨hb, 0, none⟩), .int .i64 (bodyI u)] w fun e w' => e = .returned (.tuple #[zeroBlk, .bool false]) ∧ Below w.heap.size w w')) : BlkNo hb ab most ws L F a c u :=
  ⟨none, none, 0, 0, 0, 0, 0, 0, 0, 0, by omega, fun w hp => block_gen hb u (bodyI u) none none 0 0 0 0 0 0 0 0 false h0 h1 rfl w (h.imp (fun h => ⟨h.1, fun w' hb' => h.2 w' (hp.keep hb')⟩) (fun h => ⟨h.1, fun w' hb' => h.2 w' (hp.keep hb')⟩))⟩

theorem head_is {hd : Int} (h : isB hd = true) : hd = hdW (hkI hd) (hsI hd) ∧ hdB (hkI hd) = true ∧ 0 ≤ hsI hd ∧ hsI hd ≤ 65536 := by
  unfold hkI hsI
  rw [if_pos h]
  unfold isB at h
  simp only [Bool.and_eq_true, decide_eq_true_eq] at h
  obtain ⟨⟨h1, h2⟩, h3⟩ := h
  have h3' := h3
  simp [szB] at h3'
  rw [if_pos (by unfold isB; simp [h1, h2, h3])]
  refine ⟨?_, h2, by omega, by omega⟩
  simp only [hdW, h2, h3, Bool.and_self, if_true]
  omega

theorem blk_pair {u : Int} {g : Nat} (hL : L.length ≤ 100000) (hws : ws.length ≤ 16777216) (hwr : ∀ (i : Nat) (x : Int), ws[i]? = some x → 0 ≤ x ∧ x ≤ 18446744073709551615) (ha : a = some ⟨g, 0, none⟩) (h0 : 0 ≤ u) (h1 : u ≤ 18446744073709551615) (ht : tagI u = 6) : BlkNo hb ab most ws L F a c u ∨ BlkYes hb ab most ws L F a c g u := by
  obtain ⟨b0, b1⟩ := body_pos h0 h1 (Or.inr ht)
  obtain ⟨p, hp⟩ : ∃ p : Nat, bodyI u = p := ⟨(bodyI u).toNat, by omega⟩
  by_cases hin : p + 2 ≤ ws.length
  case neg => exact Or.inl (blk_zero h0 h1 (Or.inl ⟨ht, fun w h => pair_none h _ b1 (by omega)⟩))
  obtain ⟨x, hx⟩ : ∃ x, ws[p]? = some x := ⟨_, List.getElem?_eq_getElem (by omega)⟩
  obtain ⟨y, hy⟩ : ∃ y, ws[p + 1]? = some y := ⟨_, List.getElem?_eq_getElem (by omega)⟩
  obtain ⟨y0, y1⟩ := hwr _ _ hy
  by_cases hty : tagI y = 4 ∨ tagI y = 6
  case neg => exact Or.inl (blk_zero h0 h1 (Or.inl ⟨ht, fun w h => by rw [hp]; exact pair_bad h g p ha y hy y0 y1 (fun e => hty (.inl e)) (fun e => hty (.inr e))⟩))
  right
  have hu := tag_word ht (Or.inr rfl) hp (by omega)
  refine ⟨⟨g, p, none⟩, 2, p, 1, 2, 0, 8, 0, y, by omega, by omega, by omega, y0, y1, fun j hj => ⟨x, (by obtain rfl : j = 0 := (by omega); exact hx)⟩, fun w hp' => block_of hb u p ⟨g, p, none⟩ ⟨g, p, none⟩ 2 1 2 0 8 0 y h0 h1 hp w (Or.inl ⟨ht, fun w' hb' => pair_ok (hp'.keep hb') g p ha y hy y0 y1 hty⟩), ?_⟩
  intro tr ts hr hg hs hl hel hgs hss
  match ts, hl with
  | [t1], _ =>
    obtain ⟨a', c', kr, rfl, hrl⟩ := rep_list hL hr hg hty
    obtain ⟨x', hx', hr1⟩ := hel 0 t1 rfl
    simp only [allT, Bool.and_eq_true] at hg hs
    simp only [allAll, Bool.and_true] at hgs hss
    refine ⟨.mk 8 0 0 ⟨#[]⟩ none 0 (t1 :: kr), ?_, ?_, ?_, ?_, ?_⟩
    · unfold Rep
      rw [if_neg (by decide), if_neg (by decide), if_neg (by decide), if_pos rfl]
      unfold RepL
      exact ⟨p, hu, by omega, ⟨x', hx', hr1⟩, y, hy, hrl⟩
    · have e1 : goodT (.mk 8 0 0 ⟨#[]⟩ none 0 (t1 :: kr)) = true := by simp [goodT, ByteArray.toList_eq]
      simp only [allT, allAll, e1, hgs, hg.2, Bool.and_self]
    · have e1 : smF (.mk 8 0 0 ⟨#[]⟩ none 0 (t1 :: kr)) = true := by simp [smF]
      simp only [allT, allAll, e1, hss, hs.2, Bool.and_self]
    · have e1 : deepN (.mk 8 0 0 ⟨#[]⟩ none 0 (t1 :: kr)) = deepL (t1 :: kr) := by simp only [deepN, deepL_is]
      have e2 : deepN (.mk 8 0 0 ⟨#[]⟩ a' c' kr) = deepL kr := by simp only [deepN, deepL_is]
      rw [e1, e2]
      simp only [deepL, List.map_cons, List.map_nil, deepest]
    · simp only [wN, wAll, List.map_cons, List.map_nil, List.sum_cons, List.sum_nil, List.length_cons]
      simp
      omega

theorem good_bare {k N : Int} {f : Nat} (h : errT (.mk k N f ⟨#[]⟩ none 0 []) = 0) : goodT (.mk k N f ⟨#[]⟩ none 0 []) = true := by
  have := (words_right h).1
  simp only [allT, Bool.and_eq_true] at this
  exact this.1

/-- A block of a kind that is right. -/
theorem blk_made {u : Int} {g p m sz f : Nat} {k N : Int} (hL : L.length ≤ 100000) (hws : ws.length ≤ 16777216) (ha : a = some ⟨g, 0, none⟩) (h0 : 0 ≤ u) (h1 : u ≤ 18446744073709551615) (ht : tagI u = 5) (hp : bodyI u = p) (hkB : hdB k = true) (hsz : sz ≤ 65536) (hw : ws[p]? = some (hdW k sz)) (hlen : p + (frN k + m) ≤ ws.length) (hln : lnN k sz = ((frN k + m : Nat) : Int)) (hlb : lnB k sz = true)
    (hf : f < 18446744073709551616) (hN : (Lit.int .i64 N).wf = true)
    (hbr : ∀ w, HP w hb ab most ws L F a c → Calls Tryz.prog 99 #[.int .i64 k, .slice (some ⟨g, p, none⟩) (frN k + m) (frN k + m)] w fun e w'' => e = .returned (.agg #[.int .i64 (k), .int .i64 (N), .float .f64 (f), .string ⟨#[]⟩, .slice none 0 0]) ∧ Below w.heap.size w w'')
    (hfr : errT (.mk k N f ⟨#[]⟩ none 0 []) = 0 → (front k N f m).length = frN k ∧ (∀ (i : Nat) (x : Int), (front k N f m)[i]? = some x → ws[p + i]? = some x) ∧ ∀ ts : List Tr, ts.length = m → goodT (.mk k N f ⟨#[]⟩ none 0 ts) = true) : BlkNo hb ab most ws L F a c u ∨ BlkYes hb ab most ws L F a c g u := by
  obtain ⟨e0, e1, e2, e3, e4⟩ := hd_made hkB (s := sz) (by omega) (by omega)
  have hfr0 : 1 ≤ frN k ∧ frN k ≤ 2 := by unfold frN; split <;> omega
  have hkw : (Lit.int .i64 k).wf = true := by
    have := hdB_cases hkB
    exact wf64 (by omega) (by omega)
  have hml : m ≤ 65536 := by
    unfold lnN at hln
    unfold frN at hln
    split at hln
    · omega
    · split at hln <;> omega
  have hbox : ∀ w, HP w hb ab most ws L F a c → Calls Tryz.prog 85 #[.pointer (some ⟨hb, 0, none⟩), .int .i64 p] w fun e w' => e = .returned (.tuple #[blkV g p (frN k + m) (frN k) k N f, .bool (errT (.mk k N f ⟨#[]⟩ none 0 []) == 0)]) ∧ Below w.heap.size w w' := fun w hp' =>
    box_gen hp' g ha p (frN k + m) sz (hdW k sz) k N f hw e0 e1 e2 e3 e4 hln hlb hlen (by omega) hsz hf hN hkw (fun w'' hb'' => hbr w'' (hp'.keep hb''))
  by_cases he : errT (.mk k N f ⟨#[]⟩ none 0 []) = 0
  case neg =>
    left
    have hee : (errT (.mk k N f ⟨#[]⟩ none 0 []) == 0) = false := by simpa using he
    rw [hee] at hbox
    exact ⟨some ⟨g, p, none⟩, some ⟨g, if frN k + m = frN k then p else p + frN k, none⟩, frN k + m, frN k + m, frN k + m - frN k, frN k + m - frN k, f, k, N, ofW 4 0, by omega, fun w hp' => block_gen hb u p _ _ _ _ _ _ f k N (ofW 4 0) false h0 h1 hp w (Or.inr ⟨ht, fun w' hb' => hbox w' (hp'.keep hb')⟩)⟩
  right
  have hee : (errT (.mk k N f ⟨#[]⟩ none 0 []) == 0) = true := by simpa using he
  rw [hee] at hbox
  obtain ⟨f1, f2, f3⟩ := hfr he
  have em : frN k + m - frN k = m := by omega
  have hu := tag_word ht (Or.inl rfl) hp (by omega)
  obtain ⟨n1, n2, n3, n4, n5⟩ := nil_made
  refine ⟨⟨g, p, none⟩, frN k + m, if frN k + m = frN k then p else p + frN k, m, m, f, k, N, ofW 4 0, by omega, by omega, hml, n3, n4, fun j hj => ?_, fun w hp' => ?_, ?_⟩
  · rw [if_neg (by omega)]
    exact ⟨_, List.getElem?_eq_getElem (by omega)⟩
  · have := block_of hb u p ⟨g, p, none⟩ ⟨g, if frN k + m = frN k then p else p + frN k, none⟩ (frN k + m) (frN k + m - frN k) (frN k + m - frN k) f k N (ofW 4 0) h0 h1 hp w (Or.inr ⟨ht, fun w' hb' => hbox w' (hp'.keep hb')⟩)
    rw [em] at this
    exact this
  intro tr ts hr hg hs hl hel hgs hss
  obtain ⟨a', c', kr, rfl, hrl⟩ := rep_list hL hr hg (by rw [n1]; exact Or.inl rfl)
  have hkr : kr = [] := by
    cases kr with
    | nil => rfl
    | cons t2 r2 =>
      unfold RepL at hrl
      obtain ⟨p2, e, hp2, _⟩ := hrl
      have := (cons_made hp2).1
      rw [← e] at this
      omega
  subst hkr
  have c1 : k ≠ 1 := fun e => by subst e; simp [hdB] at hkB
  have c6 : k ≠ 6 := fun e => by subst e; simp [hdB] at hkB
  have c3 : k ≠ 3 := fun e => by subst e; simp [hdB] at hkB
  have c8 : k ≠ 8 := fun e => by subst e; simp [hdB] at hkB
  refine ⟨.mk k N f ⟨#[]⟩ none 0 ts, ?_, ?_, ?_, ?_, ?_⟩
  · unfold Rep
    rw [if_neg c1, if_neg c6, if_neg c3, if_neg c8, hl]
    refine ⟨p, hu, by omega, f2, ?_⟩
    rw [f1]
    refine repAll_of ts _ fun j t hj => ?_
    have hjl := get_lt hj
    have := hel j t hj
    rw [if_neg (by omega)] at this
    exact this
  · simp only [allT, f3 ts hl, hgs, Bool.and_self]
  · simp only [allT, smF, decide_eq_true hf, hss, Bool.and_self]
  · simp only [deepN, deepNs_map, List.map_nil, deepest]
  · have hwa := sum_wAll ts
    simp only [wN]
    rw [if_neg c1, if_neg c6, if_neg c3, if_neg c8, hl, f1, hwa]
    simp [wAll]
end
end Go.Proofs.YtmijabhnbmmmfaaGreat


