import Derived.Test.YtmijabhnbmmmfaaGreatG35
import Derived.Test.YtmijabhnbmmmfaaGreatG25
import Derived.Maps.AppendAt
/- read of whatever says a right term; Load. -/
namespace Go.Proofs.YtmijabhnbmmmfaaGreat
open Go.RowKit Go.Deep
attribute [local go_sem] store_float f64bits f64frombits
attribute [local go_sem ↓] Go.wp_at_zero Go.wp_at_succ

theorem empty_of {s : ByteArray} (h : s.toList.isEmpty = true) : s = ⟨#[]⟩ := by
  rw [ByteArray.toList_eq] at h
  obtain ⟨d⟩ := s
  obtain ⟨l⟩ := d
  cases l with
  | nil => rfl
  | cons a r => simp at h

section
variable {hb ab most : Nat} {ws : List Int} {L : List ByteArray} {F : List Nat} {a : Option Addr} {c g : Nat}

theorem read_nil {a0 : Option Addr} {c0 : Nat} : RdOk hb ab most ws L F a c (.mk 8 0 0 ⟨#[]⟩ a0 c0 []) (ofW 4 0) := by
  obtain ⟨h1, _, h3, h4, h5⟩ := nil_made
  have e1 : aloneK (ofW 4 0) = 8 := by unfold aloneK; rw [h1]; rfl
  have e2 : aloneN (ofW 4 0) = 0 := by unfold aloneN; rw [h1]; rfl
  have e3 : aloneS L (ofW 4 0) = ⟨#[]⟩ := by unfold aloneS; rw [h1]; rfl
  refine read_alone h3 h4 h5 (by omega) ?_ (by rw [e1]; decide) (by rw [e2]; decide) (by rw [e3]; exact Nat.zero_le _)
  rw [e1, e2, e3]
  unfold Same SameAll
  exact ⟨rfl, rfl, rfl, rfl, trivial⟩

/-- A list that has some. -/
theorem read_list (ha : a = some ⟨g, 0, none⟩) {a0 : Option Addr} {c0 : Nat} (l : List Tr) (hl : l.length ≤ 65536) (hk : ∀ t, t ∈ l → ∀ u, Rep ws L t u → RdOk hb ab most ws L F a c t u) (u : Int) (h : RepL ws L l u) : RdOk hb ab most ws L F a c (.mk 8 0 0 ⟨#[]⟩ a0 c0 l) u := by
  cases l with
  | nil =>
    unfold RepL at h
    subst h
    exact read_nil
  | cons t r =>
    unfold RepL at h
    obtain ⟨p, rfl, hp, ⟨x, hx, hrx⟩, y, hy, hry⟩ := h
    obtain ⟨m1, m2, m3, m4, m5⟩ := cons_made hp
    obtain ⟨ty, y0, y1, -⟩ := repl_tag hry
    exact read_point (u := ofW 6 p) (y := y) (n := 2) (cc := 2) (fl := 0) (q := p) (A := ⟨g, p, none⟩) (k := 8) (Nn := 0) [(t, x)] r ha m3 m4 (Or.inr m1)
      (fun w hp' => block_of hb (ofW 6 p) p ⟨g, p, none⟩ ⟨g, p, none⟩ 2 1 2 0 8 0 y m3 m4 m2 w (Or.inl ⟨m1, fun w' hb' => pair_ok (hp'.keep hb') g p ha y hy y0 y1 ty⟩))
      (fun j z hj => by
        rcases j with _ | j
        · obtain rfl : (t, x) = z := by simpa using hj
          exact ⟨hx, hk t (List.mem_cons_self ..) x hrx⟩
        · simp at hj) hry (fun t' ht' => hk t' (List.mem_cons_of_mem _ ht')) (by simp only [List.length_cons, List.length_nil] at hl ⊢; omega) (by decide) (by decide) (by decide)

theorem zip_fst : ∀ (vs : List Int) (kids : List Tr), vs.length = kids.length → (List.zipWith (fun x t => ((t, x) : Tr × Int)) vs kids).map (fun x => x.1) = kids
  | [], [], _ => rfl
  | v :: vr, t :: r, h => by
    have := zip_fst vr r (by simpa using h)
    simp only [List.zipWith_cons_cons, List.map_cons, this]

theorem box_read (ha : a = some ⟨g, 0, none⟩) {a0 : Option Addr} {c0 : Nat} (k N : Int) (f p sz fr : Nat) (kids : List Tr) (hfr : frN k = fr) (hkB : hdB k = true) (hsz : sz ≤ 65536) (hw : ws[p]? = some (hdW k sz)) (hlen : p + (fr + kids.length) ≤ ws.length) (hln : lnN k sz = ((fr + kids.length : Nat) : Int)) (hlb : lnB k sz = true)
    (hf : f < 18446744073709551616) (hNw : (Lit.int .i64 N).wf = true) (hkw : (Lit.int .i64 k).wf = true)
    (hbr : ∀ w, HP w hb ab most ws L F a c → Calls Tryz.prog 99 #[.int .i64 k, .slice (some ⟨g, p, none⟩) (fr + kids.length) (fr + kids.length)] w fun e w'' => e = .returned (.agg #[.int .i64 (k), .int .i64 (N), .float .f64 (f), .string ⟨#[]⟩, .slice none 0 0]) ∧ Below w.heap.size w w'') (hgood : errT (.mk k N f ⟨#[]⟩ none 0 []) = 0)
    (hp : p ≤ 16777216) (hel : RepAll ws L kids (p + fr)) (hk : ∀ t, t ∈ kids → ∀ u, Rep ws L t u → RdOk hb ab most ws L F a c t u) :
    RdOk hb ab most ws L F a c (.mk k N f ⟨#[]⟩ a0 c0 kids) (ofW 5 p) := by
  obtain ⟨m1, m2, m3, m4, m5⟩ := box_made hp
  obtain ⟨e0, e1, e2, e3, e4⟩ := hd_made hkB (s := sz) (by omega) (by omega)
  obtain ⟨vs, hvl, hv⟩ := repAll_words kids (p + fr) hel
  have hfr0 : 1 ≤ fr := by rw [← hfr]; unfold frN; split <;> omega
  have hkl : kids.length ≤ 65536 := by
    unfold lnN at hln
    unfold frN at hfr
    split at hln
    · rename_i h7; rw [if_pos h7] at hfr; omega
    · rename_i h7
      rw [if_neg h7] at hfr
      split at hln <;> omega
  have hxl : (List.zipWith (fun x t => ((t, x) : Tr × Int)) vs kids).length = kids.length := by simp [hvl]
  have hI := read_point (hb := hb) (ab := ab) (most := most) (ws := ws) (L := L) (F := F) (a := a) (c := c) (u := ofW 5 p) (y := ofW 4 0) (n := fr + kids.length) (cc := fr + kids.length - fr) (fl := f) (g := g) (q := if fr + kids.length = fr then p else p + fr) (A := ⟨g, p, none⟩) (k := k) (Nn := N) (a0 := a0) (c0 := c0) (List.zipWith (fun x t => ((t, x) : Tr × Int)) vs kids) [] ha m3 m4 (Or.inl m1)
    (fun w hp' => by
      rw [hxl]
      have em : kids.length = fr + kids.length - fr := by omega
      rw [em]
      have em2 : fr + (fr + kids.length - fr) = fr + kids.length := by omega
      rw [em2]
      refine block_of hb (ofW 5 p) p ⟨g, p, none⟩ ⟨g, if fr + kids.length = fr then p else p + fr, none⟩ (fr + kids.length) (fr + kids.length - fr) (fr + kids.length - fr) f k N (ofW 4 0) m3 m4 m2 w (Or.inr ⟨m1, fun w' hb' => ?_⟩)
      have := box_ok (hp'.keep hb') g ha p (fr + kids.length) sz (hdW k sz) k N f hw e0 e1 e2 e3 e4 hln hlb hlen (by omega) hsz hf hNw hkw (fun w'' hb'' => hbr w'' ((hp'.keep hb').keep hb'')) hgood
      rw [hfr] at this
      exact this)
    (fun j z hj => by
      have hjl : j < kids.length := by
        rcases Nat.lt_or_ge j kids.length with q | q
        · exact q
        · rw [List.getElem?_eq_none (by rw [hxl]; exact q)] at hj; cases hj
      obtain ⟨t, ht⟩ : ∃ t, kids[j]? = some t := ⟨_, List.getElem?_eq_getElem hjl⟩
      obtain ⟨x, x1, x2, x3⟩ := hv j t ht
      have ez : z = (t, x) := by
        rw [List.getElem?_zipWith, x1, ht] at hj
        simpa using hj.symm
      subst ez
      rw [if_neg (by omega)]
      exact ⟨x2, hk t (List.mem_of_getElem? ht) x x3⟩) (by unfold RepL; rfl) (fun t ht => by simp at ht) (by rw [hxl]; simpa using hkl) hkw hNw (by simpa [Lit.wf] using hf)
  rw [zip_fst vs kids hvl, List.append_nil] at hI
  exact hI

/-- Its floats are of 64 bits. -/
def smF : Tr → Bool
  | .mk _ _ f _ _ _ _ => decide (f < 18446744073709551616)

theorem wf64 {n : Int} (h0 : -1099511627776000000 ≤ n) (h1 : n ≤ 1099511627776000000) : (Lit.int .i64 n).wf = true := by
  have e0 : IntKind.i64.min = -9223372036854775808 := by decide
  have e1 : IntKind.i64.max = 9223372036854775807 := by decide
  simp only [Lit.wf, e0, e1, Bool.and_eq_true, decide_eq_true_eq]
  omega

theorem in_smF {w : World} : ∀ t : Tr, t.In w 0 → allT smF t = true := by
  refine Tr.ind fun k n f s a c kids hk hin => ?_
  have hfit : (Tr.mk k n f s a c kids).fit := by unfold Tr.In at hin; exact hin.1
  have hf : f < 18446744073709551616 := by have := hfit.2.2.1; simpa [Lit.wf] using this
  simp only [allT, smF, decide_eq_true hf, Bool.true_and]
  have hall : ∀ (l : List Tr), (∀ t, t ∈ l → t ∈ kids) → allAll smF l = true := by
    intro l
    induction l with
    | nil => intro _; simp [allAll]
    | cons t r ih =>
      intro hl
      have ht := hl t (List.mem_cons_self ..)
      simp only [allAll, Bool.and_eq_true]
      refine ⟨?_, ih fun u hu => hl u (List.mem_cons_of_mem _ hu)⟩
      obtain ⟨j, hj⟩ := List.getElem?_of_mem ht
      refine hk t ht ?_
      unfold Tr.In at hin
      cases a with
      | none =>
        have h0 := hin.1.2.2.2.2.2.2 rfl
        have h1 := hin.1.2.2.2.2.1
        have := get_lt hj
        omega
      | some ad => exact (inAll_get (hin.2 ad rfl).2 j t hj).2
  exact hall kids fun t h => h

set_option maxRecDepth 100000 in
theorem rep_readP (ha : a = some ⟨g, 0, none⟩) (hL : L.length ≤ 100000) : ∀ t : Tr, allT smF t = true → allT goodT t = true → wN t ≤ 65536 → ∀ u, Rep ws L t u → RdOk hb ab most ws L F a c t u := by
  refine Tr.ind fun k n f s a' c' kids hk hin hg hwn u h => ?_
  simp only [allT, Bool.and_eq_true] at hg hin
  obtain ⟨hg1, hg2⟩ := hg
  have hf : f < 18446744073709551616 := by have := hin.1; simpa [smF] using this
  have hwk : ∀ t, t ∈ kids → wN t ≤ wAll kids := by
    intro t ht
    clear hk hin hg1 hg2 hwn h
    induction kids with
    | nil => simp at ht
    | cons v r ih =>
      simp only [wAll]
      rcases List.mem_cons.1 ht with rfl | ht
      · omega
      · have := ih ht; omega
  have hkids : wAll kids ≤ 65536 → ∀ t, t ∈ kids → ∀ u, Rep ws L t u → RdOk hb ab most ws L F a c t u := by
    intro hwa t ht
    exact hk t ht (good_kids hin.2 ht) (good_kids hg2 ht) (by have := hwk t ht; omega)
  unfold Rep at h
  simp only [wN] at hwn
  by_cases c1 : k = 1
  · rw [if_pos c1] at h
    subst c1 h
    simp [goodT] at hg1
    obtain ⟨hs0, hl0, ⟨_, hw, hf0⟩ | ⟨hq, _⟩⟩ := rightB_cases0 hg1
    · have e0 : kids = [] := List.length_eq_zero_iff.1 hl0
      subst e0 hf0
      obtain rfl := empty_of hs0
      have hb' := whB_yes hw
      obtain ⟨m1, m2, m3, m4, m5⟩ := of_made (t := 1) (b := n) (by decide) (by decide) (by simp [mayB]; omega)
      have e1 : aloneK (ofW 1 n) = 1 := by unfold aloneK; rw [m1]; rfl
      have e2 : aloneN (ofW 1 n) = n := by unfold aloneN; rw [m1, m2]; rfl
      have e3 : aloneS L (ofW 1 n) = ⟨#[]⟩ := by unfold aloneS; rw [m1]; rfl
      refine read_alone m3 m4 m5 (by omega) ?_ (by rw [e1]; decide) (by rw [e2]; exact wf64 (by omega) (by omega)) (by rw [e3]; exact Nat.zero_le _)
      rw [e1, e2, e3]
      unfold Same SameAll
      exact ⟨rfl, rfl, rfl, rfl, trivial⟩
    · omega
  rw [if_neg c1] at h hwn
  by_cases c6 : k = 6
  · rw [if_pos c6] at h
    subst c6 h
    simp [goodT] at hg1
    have e0 : kids = [] := hg1.2.2
    have hf0 := hg1.2.1.1
    subst e0 hf0
    obtain rfl := empty_of (s := s) (by simpa using hg1.2.1.2)
    obtain ⟨m1, m2, m3, m4, m5⟩ := of_made (t := 3) (b := n) (by decide) (by decide) (by simp [mayB]; omega)
    have e1 : aloneK (ofW 3 n) = 6 := by unfold aloneK; rw [m1]; rfl
    have e2 : aloneN (ofW 3 n) = n := by unfold aloneN; rw [m1, m2]; rfl
    have e3 : aloneS L (ofW 3 n) = ⟨#[]⟩ := by unfold aloneS; rw [m1]; rfl
    refine read_alone m3 m4 m5 (by omega) ?_ (by rw [e1]; decide) (by rw [e2]; exact wf64 (by omega) (by omega)) (by rw [e3]; exact Nat.zero_le _)
    rw [e1, e2, e3]
    unfold Same SameAll
    exact ⟨rfl, rfl, rfl, rfl, trivial⟩
  rw [if_neg c6] at h hwn
  by_cases c3 : k = 3
  · rw [if_pos c3] at h
    obtain ⟨i, rfl, hi⟩ := h
    subst c3
    simp [goodT] at hg1
    have e0 : kids = [] := hg1.2.2
    have hf0 := hg1.2.1.1
    have hn0 := hg1.2.1.2
    subst e0 hf0 hn0
    have hil := get_lt hi
    obtain ⟨m1, m2, m3, m4, m5⟩ := of_made (t := 2) (b := (i : Int)) (by decide) (by decide) (by simp [mayB]; omega)
    have e1 : aloneK (ofW 2 (i : Int)) = 3 := by unfold aloneK; rw [m1]; rfl
    have e2 : aloneN (ofW 2 (i : Int)) = 0 := by unfold aloneN; rw [m1]; rfl
    have e3 : aloneS L (ofW 2 (i : Int)) = s := by
      have hti : txIs L (i : Int) = true := by simp [txIs]; omega
      unfold aloneS; rw [m1, m2]; simp [txOf, hti, hi]
    refine read_alone m3 m4 m5 (by omega) ?_ (by rw [e1]; decide) (by rw [e2]; decide) (by rw [e3]; exact Nat.le_trans hg1.1 (by unfold maxLen; omega))
    rw [e1, e2, e3]
    unfold Same SameAll
    exact ⟨rfl, rfl, rfl, rfl, trivial⟩
  rw [if_neg c3] at h hwn
  by_cases c8 : k = 8
  · rw [if_pos c8] at h hwn
    subst c8
    simp [goodT] at hg1
    obtain ⟨⟨rfl, rfl⟩, hs0⟩ := hg1
    obtain rfl := empty_of (s := s) (by simpa using hs0)
    exact read_list ha kids (by omega) (hkids (by omega)) u h
  rw [if_neg c8] at h hwn
  obtain ⟨p, rfl, hp, hfr, hra⟩ := h
  have hfl : (front k n f kids.length).length = frN k := by
    unfold front frN
    by_cases c2 : k = 2
    · simp [c2]
    by_cases c4 : k = 4
    · simp [c4]
    by_cases c5 : k = 5
    · simp [c5]
    have c7 : k = 7 := by
      simp only [goodT, c1, c2, c3, c4, c5, c6, c8, or_self, if_false] at hg1
      by_cases h : k = 7
      · exact h
      · simp [h] at hg1
    simp [c7]
  have hplen : p + frN k ≤ ws.length := by
    have : frN k - 1 < (front k n f kids.length).length := by rw [hfl]; unfold frN; split <;> omega
    have := get_lt (hfr (frN k - 1) _ (List.getElem?_eq_getElem this))
    have : 1 ≤ frN k := by unfold frN; split <;> omega
    omega
  have hlen := all_len kids (p + (front k n f kids.length).length) hra (by rw [hfl]; exact hplen)
  rw [hfl] at hra hlen hwn
  have hwa : wAll kids ≤ 65536 := by omega
  have hkk := hkids hwa
  by_cases c2 : k = 2
  · subst c2
    simp [goodT] at hg1
    obtain ⟨hs0, hl0, ⟨hq, _⟩ | ⟨_, hn0, hfin⟩⟩ := rightB_cases0 hg1
    · omega
    have e0 : kids = [] := List.length_eq_zero_iff.1 hl0
    subst e0 hn0
    obtain rfl := empty_of hs0
    have hx := hfr 1 (f : Int) rfl
    exact box_read ha 2 0 f p 1 2 [] rfl rfl (by omega) (hfr 0 _ rfl) (by simpa [frN] using hlen) rfl rfl hf (by decide) (by decide) (fun w hp' => by
      obtain ⟨g', e', _, _, hc⟩ := hp_cell hp' (p + 1) (f : Int) hx
      rw [ha] at e'
      obtain rfl : g = g' := by simpa using e'
      exact bare_2 g p 2 f w (by omega) (hc w (Below.refl _ _))) (bare_err (by simp [goodT, rightB, hfin]) (by decide)) hp hra hkk
  by_cases c4 : k = 4
  · subst c4
    simp [goodT] at hg1
    have e0 : kids = [] := hg1.2.2
    subst e0
    have hx := hfr 1 n rfl
    have hn := hg1.1
    have hf0 := hg1.2.1.1
    subst hf0
    obtain rfl := empty_of (s := s) (by simpa using hg1.2.1.2)
    exact box_read ha 4 n 0 p 1 2 [] rfl rfl (by omega) (hfr 0 _ rfl) (by simpa [frN] using hlen) rfl rfl (by omega) (wf64 (by omega) (by omega)) (by decide) (fun w hp' => by
      obtain ⟨g', e', _, _, hc⟩ := hp_cell hp' (p + 1) n hx
      rw [ha] at e'
      obtain rfl : g = g' := by simpa using e'
      exact bare_n 4 (Or.inl rfl) g p 2 n w (by omega) hn.1 hn.2 (hc w (Below.refl _ _))) (bare_err (by simp [goodT]; exact hn) (by decide)) hp hra hkk
  by_cases c5 : k = 5
  · subst c5
    simp [goodT] at hg1
    have hx := hfr 1 n rfl
    have hn := hg1.1
    have hf0 := hg1.2.1
    subst hf0
    obtain rfl := empty_of (s := s) (by simpa using hg1.2.2)
    exact box_read ha 5 n 0 p kids.length 2 kids rfl rfl (by simp [frN] at hwn; omega) (hfr 0 _ rfl) (by simp [frN] at hlen; omega) (by simp [lnN]) (by simp [lnB]) (by omega) (wf64 (by omega) (by omega)) (by decide) (fun w hp' => by
      obtain ⟨g', e', _, _, hc⟩ := hp_cell hp' (p + 1) n hx
      rw [ha] at e'
      obtain rfl : g = g' := by simpa using e'
      exact bare_n 5 (Or.inr rfl) g p (2 + kids.length) n w (by omega) hn.1 (by omega) (hc w (Below.refl _ _))) (bare_err (by simp [goodT]; omega) (by decide)) hp hra hkk
  have c7 : k = 7 := by
    simp only [goodT, c1, c2, c3, c4, c5, c6, c8, or_self, if_false] at hg1
    by_cases h : k = 7
    · exact h
    · simp [h] at hg1
  subst c7
  simp [goodT] at hg1
  obtain ⟨⟨rfl, rfl⟩, hs0⟩ := hg1
  obtain rfl := empty_of (s := s) (by simpa using hs0)
  exact box_read ha 7 0 0 p kids.length 1 kids rfl rfl (by simp [frN] at hwn; omega) (hfr 0 _ rfl) (by simp [frN] at hlen; omega) (by simp [lnN]) (by simp [lnB]) (by omega) (by decide) (by decide) (fun w hp' => bare_7 _ w) (bare_err (by simp [goodT]) (by decide)) hp hra hkk

theorem rep_read (ha : a = some ⟨g, 0, none⟩) (hL : L.length ≤ 100000) (w0 : World) (t : Tr) (hin : t.In w0 0) (hg : allT goodT t = true) (hw : wN t ≤ 65536) (u : Int) (h : Rep ws L t u) : RdOk hb ab most ws L F a c t u := rep_readP ha hL t (in_smF t hin) hg hw u h

theorem in_set5 {w : World} {base b : Nat} (hb : b < base) (u0 u1 u2 u3 u4 : Value) (t : Tr) (h : t.In w base) : t.In (set5 w b u0 u1 u2 u3 u4) base := by
  refine in_on (S := fun k => k < w.heap.size ∧ base ≤ k) (fun k hk => ?_) t h (on_in t h)
  have hne : k ≠ b := by omega
  unfold set5
  rw [Below.heap_setCell _ _ _ _ hne, Below.heap_setCell _ _ _ _ hne, Below.heap_setCell _ _ _ _ hne, Below.heap_setCell _ _ _ _ hne, Below.heap_setCell _ _ _ _ hne]

set_option maxHeartbeats 1600000 in
set_option maxRecDepth 100000 in
theorem load_ok (w0 w : World) (t : Tr) (u : Int) (hp : HP w hb ab most ws L F a c) (ha : a = some ⟨g, 0, none⟩) (hL : L.length ≤ 100000) (hin : t.In w0 0) (he : errT t = 0) (hr : Rep ws L t u) :
    Calls Tryz.prog 19 #[.pointer (some ⟨hb, 0, none⟩), .int .u64 u] w fun e w' => ∃ t', e = .returned (.tuple #[t'.val, .int .i64 0]) ∧ Same t t' ∧ t'.In w' w.heap.size ∧ Below w.heap.size w w' := by
  obtain ⟨hg, hw1, hw2⟩ := words_right he
  have hlt := hp.tri.lt
  have hFlt := hp.tab.lt
  have hd := right_deep he
  have hws : ws.length ≤ 16777216 := Nat.le_trans hp.fits hp.small
  have hglt : g < w.heap.size := by
    rcases hp.row with ⟨e, _⟩ | ⟨g', cs, e, _, _, _, h4⟩
    · rw [ha] at e; cases e
    · rw [ha] at e
      obtain rfl : g = g' := by simpa using e
      exact h4
  have hFW : w.heap.size + 1 ∉ F := fun h => by have := hFlt _ h; omega
  have cx : ∀ gb, w.heap.size ≤ gb → Ctx hb ab most gb ws L F a c g := fun gb hgb => ⟨ha, by omega, fun h => by have := hFlt _ h; omega, by omega, hL, hws⟩
  have OV := hidb (fun gb hgb => (rep_over (cx gb hgb) w0 t hin hg hw2 u 1 hr (by omega)).2)
  have RD := hidb (rep_read (hb := hb) (ab := ab) (most := most) (F := F) (c := c) ha hL w0 t hin hg hw2 u hr)
  have hD := deepN_pos t
  have HPP := hidb hp
  have HB0 := hidb (show Below w.heap.size w ((w.alloc (.cells #[.int .i64 0, .int .i64 0, .float .f64 0, .string ⟨#[]⟩, .slice none 0 0] 44)).alloc (.cells #[.pointer (some ⟨hb, 0, none⟩), .int .i64 0, .slice none 0 0] 103)) from (below_new w _).alloc (by simp) _)
  have e1 : (w.alloc (.cells #[.int .i64 0, .int .i64 0, .float .f64 0, .string ⟨#[]⟩, .slice none 0 0] 44)).heap.size = w.heap.size + 1 := by simp
  have tr := Tri.new (w.alloc (.cells #[.int .i64 0, .int .i64 0, .float .f64 0, .string ⟨#[]⟩, .slice none 0 0] 44)) 103 (.pointer (some ⟨hb, 0, none⟩)) (.int .i64 0) (.slice none 0 0)
  rw [e1] at tr
  have HBX := hidb ((Box.new w 44 (.int .i64 0) (.int .i64 0) (.float .f64 0) (.string ⟨#[]⟩) (.slice none 0 0)).keep (below_new _ (.cells #[.pointer (some ⟨hb, 0, none⟩), .int .i64 0, .slice none 0 0] 103)))
  have hgg : ∀ g', a = some ⟨g', 0, none⟩ → w.heap.size + 1 ≠ g' := fun g' e => by
    rw [ha] at e
    obtain rfl : g = g' := by simpa using e
    omega
  have HO := hidb (holds_ok (gb := w.heap.size + 1) (W := 0) _ (hp.keep HB0.out) tr (by omega) hFW hgg (OV.out (w.heap.size + 1) (by omega)) hD hw2)
  have HS : Hid (¬ hb = w.heap.size + 1 ∧ w.heap.size ≠ w.heap.size + 1 ∧ w.heap.size + 1 ∉ F ∧ g ≠ w.heap.size + 1) := hidb ⟨by omega, by omega, hFW, by omega⟩
  have HA := hidb ha
  clear hgg hp hin he hr hlt hFlt hd hws hglt hFW cx OV hg hw1 hw2 tr e1 hD ha
  go_enter Tryz.func19, Tryz.ntmps19
  go_wp2_with fail
  refine HO.out.mono ?_
  rintro e w2 ⟨rfl, hbt⟩
  have HP2 := hidb ((HPP.out.keep HB0.out).but hbt (fun e => HS.out.1 e) (fun x hx e => HS.out.2.2.1 (e ▸ hx)) (fun g' e e2 => by
    rw [HA.out] at e
    obtain rfl : g = g' := by simpa using e
    exact HS.out.2.2.2 e2))
  have HX2 := hidb (HBX.out.but hbt HS.out.2.1)
  have HB2 := hidb (HB0.out.trans (hbt.below HB0.out.size (fun k e => by have e' : k = w.heap.size + 1 := e; omega)))
  clear hbt HO HBX
  go_wp2_with fail
  refine (RD.out _ HP2.out).mono ?_
  rintro e w3 ⟨⟨k, n, f, s, a3, c3, ks⟩, rfl, hsm, hin3, hb3⟩
  have HX3 := hidb (HX2.out.keep hb3)
  have HSM := hidb hsm
  have HI3 := hidb hin3
  have HB3 := hidb (HB2.out.trans (hb3.mono HB2.out.size))
  have hwl : w.heap.size < w2.heap.size := HX2.out.lt
  obtain ⟨d0, d1, d2, d3, d4, g0, g1, g2, g3, g4, -⟩ := HX3.out
  clear hsm hin3 hb3 RD
  simp only [Tr.val, Tr.cells]
  go_wp2_with fail
  exact bodyPost_ret (v := .tuple #[.agg #[.int .i64 k, .int .i64 n, .float .f64 f, .string s, .slice a3 ks.length c3], .int .i64 0]) (by simp [results, Tryz.results19, go_sem, d0, d1, d2, d3, d4]) rfl ⟨.mk k n f s a3 c3 ks, rfl, HSM.out, in_mono (Nat.le_of_lt hwl) _ (in_set5 hwl _ _ _ _ _ _ HI3.out), below_set5 HB3.out (Nat.le_refl _) _ _ _ _ _⟩
end
end Go.Proofs.YtmijabhnbmmmfaaGreat


/- Terms stored one by one. -/
namespace Go.Proofs.YtmijabhnbmmmfaaGreat
open Go.RowKit Go.Deep
attribute [local go_sem] store_float f64bits f64frombits
attribute [local go_sem ↓] Go.wp_at_zero Go.wp_at_succ

abbrev In64 (x : Int) : Prop := 0 ≤ x ∧ x ≤ 18446744073709551615

theorem of_64 (t b : Int) : In64 (ofW t b) := by
  unfold ofW
  split
  · rename_i h
    simp only [Bool.and_eq_true] at h
    have ht : 1 ≤ t ∧ t ≤ 8 := by simpa [tagB] using h.1
    unfold joinI
    constructor <;> omega
  · constructor <;> omega

theorem hd_64 (k s : Int) : In64 (hdW k s) := by
  unfold hdW
  split
  · rename_i h
    simp only [Bool.and_eq_true] at h
    have hs : 0 ≤ s ∧ s ≤ 65536 := by simpa [szB] using h.2
    have hk := hdB_cases h.1
    constructor <;> omega
  · constructor <;> omega

theorem pairs_64 : ∀ (l : List Int) (p : Nat), (∀ x, x ∈ l → In64 x) → ∀ x, x ∈ pairs l p → In64 x := by
  intro l
  induction l with
  | nil => intro p _ x h; simp [pairs] at h
  | cons y r ih =>
    intro p hl x h
    cases r with
    | nil =>
      have h' : x = y ∨ x = ofW 4 0 := by simpa [pairs] using h
      rcases h' with e | e
      · rw [e]; exact hl _ (List.mem_cons_self ..)
      · rw [e]; exact of_64 _ _
    | cons z r =>
      have h' : x = y ∨ x = ofW 6 ((p + 2 : Nat) : Int) ∨ x ∈ pairs (z :: r) (p + 2) := by simpa only [pairs, List.mem_cons] using h
      rcases h' with e | e | h'
      · rw [e]; exact hl _ (List.mem_cons_self ..)
      · rw [e]; exact of_64 _ _
      · exact ih (p + 2) (fun v hv => hl v (List.mem_cons_of_mem _ hv)) x h'

theorem front_64 {k n : Int} {f len : Nat} {s : ByteArray} {a : Option Addr} {c : Nat} {kids : List Tr} (hg : goodT (.mk k n f s a c kids) = true) (hf : f < 18446744073709551616) (h1 : k ≠ 1) (h3 : k ≠ 3) (h6 : k ≠ 6) (h8 : k ≠ 8) : ∀ x, x ∈ front k n f len → In64 x := by
  intro x hx
  unfold front at hx
  split at hx
  · simp only [List.mem_cons, List.not_mem_nil, or_false] at hx
    rcases hx with rfl | rfl
    · exact hd_64 _ _
    · constructor <;> omega
  split at hx
  · rename_i h4
    subst h4
    simp [goodT] at hg
    simp only [List.mem_cons, List.not_mem_nil, or_false] at hx
    rcases hx with rfl | rfl
    · exact hd_64 _ _
    · constructor <;> omega
  split at hx
  · rename_i h5
    subst h5
    simp [goodT] at hg
    simp only [List.mem_cons, List.not_mem_nil, or_false] at hx
    rcases hx with rfl | rfl
    · exact hd_64 _ _
    · constructor <;> omega
  · simp only [List.mem_cons, List.not_mem_nil, or_false] at hx
    subst hx
    exact hd_64 _ _

theorem lay_64 : ∀ t : Tr, allT goodT t = true → allT smF t = true → ∀ (p : Nat) (L : List ByteArray), In64 (layT t p L).1 ∧ ∀ x, x ∈ (layT t p L).2.1 → In64 x := by
  refine Tr.ind fun k n f s a c kids hk hg hs p L => ?_
  simp only [allT, Bool.and_eq_true] at hg hs
  have hf : f < 18446744073709551616 := by simpa [smF] using hs.1
  have hall : ∀ (l : List Tr), (∀ t, t ∈ l → t ∈ kids) → ∀ p L, (∀ x, x ∈ (layAll l p L).1 → In64 x) ∧ ∀ x, x ∈ (layAll l p L).2.1 → In64 x := by
    intro l
    induction l with
    | nil => intro _ p L; simp [layAll]
    | cons t r ih =>
      intro hl p L
      have ht := hl t (List.mem_cons_self ..)
      obtain ⟨e1, e2⟩ := hk t ht (good_kids hg.2 ht) (good_kids hs.2 ht) p L
      obtain ⟨i1, i2⟩ := ih (fun u hu => hl u (List.mem_cons_of_mem _ hu)) (p + (layT t p L).2.1.length) (layT t p L).2.2
      simp only [layAll]
      refine ⟨fun x hx => ?_, fun x hx => ?_⟩
      · rcases List.mem_cons.1 hx with rfl | hx
        · exact e1
        · exact i1 x hx
      · rcases List.mem_append.1 hx with hx | hx
        · exact e2 x hx
        · exact i2 x hx
  simp only [layT]
  by_cases c1 : k = 1
  · simp only [if_pos c1]; exact ⟨of_64 _ _, fun x hx => by simp at hx⟩
  simp only [if_neg c1]
  by_cases c6 : k = 6
  · simp only [if_pos c6]; exact ⟨of_64 _ _, fun x hx => by simp at hx⟩
  simp only [if_neg c6]
  by_cases c3 : k = 3
  · simp only [if_pos c3]; exact ⟨of_64 _ _, fun x hx => by simp at hx⟩
  simp only [if_neg c3]
  by_cases c8 : k = 8
  · simp only [if_pos c8]
    obtain ⟨i1, i2⟩ := hall kids (fun t h => h) (p + 2 * kids.length) L
    refine ⟨by split <;> exact of_64 _ _, fun x hx => ?_⟩
    rcases List.mem_append.1 hx with hx | hx
    · exact pairs_64 _ _ i1 x hx
    · exact i2 x hx
  simp only [if_neg c8]
  obtain ⟨i1, i2⟩ := hall kids (fun t h => h) (p + (front k n f kids.length).length + kids.length) L
  refine ⟨of_64 _ _, fun x hx => ?_⟩
  rcases List.mem_append.1 hx with hx | hx
  · rcases List.mem_append.1 hx with hx | hx
    · exact front_64 hg.1 hf c1 c3 c6 c8 x hx
    · exact i1 x hx
  · exact i2 x hx

theorem lay_tx : ∀ t : Tr, allT goodT t = true → ∀ (p : Nat) (L : List ByteArray), (∀ s, s ∈ L → s.size ≤ 64) → ∀ s, s ∈ (layT t p L).2.2 → s.size ≤ 64 := by
  refine Tr.ind fun k n f s a c kids hk hg p L hL => ?_
  simp only [allT, Bool.and_eq_true] at hg
  have hall : ∀ (l : List Tr), (∀ t, t ∈ l → t ∈ kids) → ∀ p L, (∀ s, s ∈ L → s.size ≤ 64) → ∀ s, s ∈ (layAll l p L).2.2 → s.size ≤ 64 := by
    intro l
    induction l with
    | nil => intro _ p L hL; simpa only [layAll] using hL
    | cons t r ih =>
      intro hl p L hL
      have ht := hl t (List.mem_cons_self ..)
      simp only [layAll]
      exact ih (fun u hu => hl u (List.mem_cons_of_mem _ hu)) _ _ (hk t ht (good_kids hg.2 ht) p L hL)
  simp only [layT]
  by_cases c1 : k = 1
  · simp only [if_pos c1]; exact hL
  simp only [if_neg c1]
  by_cases c6 : k = 6
  · simp only [if_pos c6]; exact hL
  simp only [if_neg c6]
  by_cases c3 : k = 3
  · simp only [if_pos c3]
    have hs : s.size ≤ 64 := by subst c3; have := hg.1; simp [goodT] at this; exact this.1
    intro x hx
    unfold stepL at hx
    split at hx
    · exact hL x hx
    · rcases List.mem_append.1 hx with hx | hx
      · exact hL x hx
      · obtain rfl : x = s := by simpa using hx
        exact hs
  simp only [if_neg c3]
  by_cases c8 : k = 8
  · simp only [if_pos c8]; exact hall kids (fun t h => h) _ _ hL
  simp only [if_neg c8]
  exact hall kids (fun t h => h) _ _ hL

/-- A heap with the first m terms of a row, and the words that say them. -/
structure StI (w wr : World) (kids : List Tr) (m hb ab : Nat) (ws : List Int) (L : List ByteArray) (F : List Nat) (a2 : Option Addr) (c2 : Nat) (us : List Int) : Prop where
  hp : HP wr hb ab 16777216 ws L F a2 c2
  wl : ws.length = wAll (kids.take m)
  ll : L.length ≤ cntAll (kids.take m)
  w64 : ∀ x, x ∈ ws → In64 x
  tx : ∀ s, s ∈ L → s.size ≤ 64
  hbB : w.heap.size ≤ hb
  fB : ∀ k, k ∈ F → w.heap.size ≤ k
  gB : ∀ g, a2 = some ⟨g, 0, none⟩ → w.heap.size ≤ g
  be : Below w.heap.size w wr
  ul : us.length = m
  rep : ∀ (j : Nat) (t : Tr) (u : Int), kids[j]? = some t → us[j]? = some u → Rep ws L t u

/-- A row of words that is the call's own, beside the heap. -/
structure UsR (w wr : World) (hb : Nat) (F : List Nat) (a2 : Option Addr) (vo : Value) (uo : List Int) : Prop where
  own : wr.ownsRow w.heap.size 51 1 vo uo.length (uo.map fun u => Value.int .u64 u)
  off : ∀ q, vo.ownBlock = some q → q ≠ hb ∧ q ∉ F ∧ ∀ g, a2 = some ⟨g, 0, none⟩ → q ≠ g

theorem row_keep1 {w w' : World} {base : Nat} {v : Value} {n : Nat} {xs : List Value} (h : w.ownsRow base 51 1 v n xs) (hb : ∀ g, v.ownBlock = some g → g < w.heap.size → w'.heap[g]? = w.heap[g]?) : w'.ownsRow base 51 1 v n xs := by
  obtain ⟨hl, h | ⟨g, cap, cur, rfl, h1, h2, h3, h4, h5, h6⟩⟩ := h
  · exact ⟨hl, Or.inl h⟩
  · refine ⟨hl, Or.inr ⟨g, cap, cur, rfl, h1, (hb g rfl ?_).trans h2, h3, h4, h5, h6⟩⟩
    rcases Nat.lt_or_ge g w.heap.size with q | q
    · exact q
    · rw [Array.getElem?_eq_none q] at h2; cases h2

theorem row_lt1 {w : World} {base : Nat} {v : Value} {n : Nat} {xs : List Value} (h : w.ownsRow base 51 1 v n xs) (g : Nat) (hg : v.ownBlock = some g) : base ≤ g ∧ g < w.heap.size := by
  obtain ⟨_, ⟨rfl, _⟩ | ⟨g', cap, cur, rfl, h1, h2, _⟩⟩ := h
  · simp [Value.ownBlock] at hg
  · obtain rfl : g' = g := by simpa [Value.ownBlock] using hg
    refine ⟨h1, ?_⟩
    rcases Nat.lt_or_ge g' w.heap.size with q | q
    · exact q
    · rw [Array.getElem?_eq_none q] at h2; cases h2

theorem gOf_mem {w : World} {hb ab most : Nat} {ws : List Int} {L : List ByteArray} {F : List Nat} {a2 : Option Addr} {c : Nat} (h : HP w hb ab most ws L F a2 c) {k : Nat} (hk : k ∈ gOf a2) : a2 = some ⟨k, 0, none⟩ := by
  cases a2 with
  | none => simp [gOf] at hk
  | some ad =>
    obtain ⟨g, e⟩ := row_head h
    rw [e] at hk ⊢
    simp [gOf] at hk
    rw [hk]

/-- One more is stored. -/
theorem StI.put {w wr w' : World} {kids : List Tr} {m hb ab : Nat} {ws : List Int} {L : List ByteArray} {F F' : List Nat} {a2 a3 : Option Addr} {c2 c3 : Nat} {us : List Int} {t : Tr} {vo : Value} {uo : List Int} (h : StI w wr kids m hb ab ws L F a2 c2 us) (hr : UsR w wr hb F a2 vo uo) (ht : kids[m]? = some t) (he : errT t = 0) (hin : t.In w 0) (hfit : ws.length + wN t ≤ 16777216)
    (hp : HP w' hb ab 16777216 (ws ++ (layT t ws.length L).2.1) (layT t ws.length L).2.2 F' a3 c3) (hF : ∀ k, k ∈ F' → k ∈ F ∨ wr.heap.size ≤ k) (hg : ∀ g, a3 = some ⟨g, 0, none⟩ → a2 = some ⟨g, 0, none⟩ ∨ wr.heap.size ≤ g) (hk : Kept (hb :: gOf a2 ++ F) wr w') :
    StI w w' kids (m + 1) hb ab (ws ++ (layT t ws.length L).2.1) (layT t ws.length L).2.2 F' a3 c3 (us ++ [(layT t ws.length L).1]) ∧ UsR w w' hb F' a3 vo uo := by
  have hl1 := lay_len t ws.length L
  have hl2 := lay_atoms t ws.length L
  have hw2 := wAll_take ht
  have hc2 := cntAll_take ht
  obtain ⟨hgood, _, _⟩ := words_right he
  obtain ⟨x1, x2⟩ := lay_64 t hgood (in_smF t hin) ws.length L
  have hbs := h.be.size
  have hwl := h.wl
  have hll := h.ll
  have hin' : ∀ k, k ∈ hb :: gOf a2 ++ F → w.heap.size ≤ k := fun k hk' => by
    rcases List.mem_append.1 hk' with hk' | hk'
    · rcases List.mem_cons.1 hk' with rfl | hk'
      · exact h.hbB
      · exact h.gB k (gOf_mem h.hp hk')
    · exact h.fB k hk'
  refine ⟨⟨hp, by rw [List.length_append, hl1, hwl, hw2], by omega, fun x hx => ?_, lay_tx t hgood _ _ h.tx, h.hbB, fun k hk' => ?_, fun g e => ?_, h.be.trans (kept_below hk hbs hin'), by simp [h.ul], fun j v u hj hu => ?_⟩, ⟨row_keep1 hr.own fun q hq hql => ?_, fun q hq => ?_⟩⟩
  · rcases List.mem_append.1 hx with hx | hx
    · exact h.w64 x hx
    · exact x2 x hx
  · rcases hF k hk' with h' | h'
    · exact h.fB k h'
    · omega
  · rcases hg g e with h' | h'
    · exact h.gB g h'
    · omega
  · rcases Nat.lt_or_ge j us.length with hjl | hjl
    · rw [List.getElem?_append_left hjl] at hu
      exact rep_more (fun i x hi => by rw [List.getElem?_append_left (get_lt hi)]; exact hi) (fun i x hi => lay_keeps t _ _ i x hi) v u (h.rep j v u hj hu)
    · have hjm := get_lt hu
      simp only [List.length_append, List.length_cons, List.length_nil] at hjm
      have hul := h.ul
      obtain rfl : j = m := by omega
      rw [List.getElem?_append_right (by omega)] at hu
      have hz : j - us.length = 0 := by omega
      rw [hz] at hu
      obtain rfl : (layT t ws.length L).1 = u := by simpa using hu
      obtain rfl : t = v := Option.some.inj (ht.symm.trans hj)
      refine lay_says t hgood ws.length L _ _ (fun i x hi => ?_) (by omega) (fun i x hi => hi)
      rw [List.getElem?_append_right (by omega)]
      have e : ws.length + i - ws.length = i := by omega
      rw [e]; exact hi
  · obtain ⟨o1, o2, o3⟩ := hr.off q hq
    refine hk.block q hql fun hmem => ?_
    rcases List.mem_append.1 hmem with hm | hm
    · rcases List.mem_cons.1 hm with hm | hm
      · exact o1 hm
      · exact o3 q (gOf_mem h.hp hm) rfl
    · exact o2 hm
  · obtain ⟨o1, o2, o3⟩ := hr.off q hq
    have hql := (row_lt1 hr.own q hq).2
    refine ⟨o1, fun hm => ?_, fun g e => ?_⟩
    · rcases hF q hm with h' | h'
      · exact o2 h'
      · omega
    · rcases hg g e with h' | h'
      · exact o3 g h'
      · omega
end Go.Proofs.YtmijabhnbmmmfaaGreat


