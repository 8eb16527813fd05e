import Derived.Test.YtmijabhnbmmmfaaGreatG28
/- A block that says a term; all terms. -/
namespace Go.Proofs.YtmijabhnbmmmfaaGreat
open Go.RowKit Go.Deep

theorem zip_deep : ∀ (vs : List Int) (kids : List Tr), vs.length = kids.length → (List.zipWith (fun x t => (x, deepN t, wN t)) vs kids).map (fun x => x.2.1) = kids.map deepN
  | [], [], _ => rfl
  | v :: vr, t :: r, h => by
    have := zip_deep vr r (by simpa using h)
    simp only [List.zipWith_cons_cons, List.map_cons, this]
theorem zip_words : ∀ (vs : List Int) (kids : List Tr), vs.length = kids.length → (List.zipWith (fun x t => (x, deepN t, wN t)) vs kids).map (fun x => x.2.2) = kids.map wN
  | [], [], _ => rfl
  | v :: vr, t :: r, h => by
    have := zip_words vr r (by simpa using h)
    simp only [List.zipWith_cons_cons, List.map_cons, this]

theorem box_over {hb ab most gb : Nat} {ws : List Int} {L : List ByteArray} {F : List Nat} {a : Option Addr} {c g : Nat} (cx : Ctx hb ab most gb ws L F a c g) (k N : Int) (f p sz fr : Nat) (kids : List Tr) (hfr : frN k = fr) (hkB : hdB k = true) (hsz : sz ≤ 65536) (hw : ws[p]? = some (hdW k sz)) (hlen : p + (fr + kids.length) ≤ ws.length) (hln : lnN k sz = ((fr + kids.length : Nat) : Int)) (hlb : lnB k sz = true)
    (hf : f < 18446744073709551616) (hNw : (Lit.int .i64 N).wf = true) (hkw : (Lit.int .i64 k).wf = true)
    (hbr : ∀ w, HP w hb ab most ws L F a c → Calls Tryz.prog 99 #[.int .i64 k, .slice (some ⟨g, p, none⟩) (fr + kids.length) (fr + kids.length)] w fun e w'' => e = .returned (.agg #[.int .i64 (k), .int .i64 (N), .float .f64 (f), .string ⟨#[]⟩, .slice none 0 0]) ∧ Below w.heap.size w w'') (hgood : errT (.mk k N f ⟨#[]⟩ none 0 []) = 0)
    (hp : p ≤ 16777216) (hel : RepAll ws L kids (p + fr)) (hk : ∀ t, t ∈ kids → ∀ u d, Rep ws L t u → d + deepN t ≤ 201 → deepN t ≤ 1000 ∧ OverOk hb ab most gb ws L F a c u d (deepN t) (wN t)) (d : Nat) (hd : d + deepNs kids 1 ≤ 201) :
    OverOk hb ab most gb ws L F a c (ofW 5 p) d (deepNs kids 1) (fr + kids.length + wAll kids) := by
  obtain ⟨m1, m2, m3, m4, m5⟩ := box_made hp
  obtain ⟨e0, e1, e2, e3, e4⟩ := hd_made hkB (s := sz) (by omega) (by omega)
  obtain ⟨vs, hvl, hv⟩ := repAll_words kids (p + fr) hel
  have hsmall := cx.hs
  have hle := deepNs_le kids 1
  have hfr0 : 1 ≤ fr := by rw [← hfr]; unfold frN; split <;> omega
  have hkl : kids.length ≤ 65536 := by
    unfold lnN at hln
    unfold frN at hfr
    split at hln
    · rename_i h7; rw [if_pos h7] at hfr; omega
    · rename_i h7
      rw [if_neg h7] at hfr
      split at hln <;> omega
  have hxl : (List.zipWith (fun x t => (x, deepN t, wN t)) vs kids).length = kids.length := by simp [hvl]
  have hI := into_ok (hb := hb) (ab := ab) (most := most) (gb := gb) (ws := ws) (L := L) (F := F) (a := a) (c := c) (u := ofW 5 p) (y := ofW 4 0) (d := d) (n := fr + kids.length) (cc := fr + kids.length - fr) (fl := f) (dR := 1) (nR := 0) (g := g) (q := if fr + kids.length = fr then p else p + fr) (A := ⟨g, p, none⟩) (k := k) (Nn := N) (List.zipWith (fun x t => (x, deepN t, wN t)) vs kids) cx.ha (by rw [m2]; omega) m3 m4 cx.h1 cx.h2 cx.h3
    (fun w hp' => by
      rw [hxl]
      have em : kids.length = fr + kids.length - fr := by omega
      rw [em]
      have em2 : fr + (fr + kids.length - fr) = fr + kids.length := by omega
      rw [em2]
      refine block_of hb (ofW 5 p) p ⟨g, p, none⟩ ⟨g, if fr + kids.length = fr then p else p + fr, none⟩ (fr + kids.length) (fr + kids.length - fr) (fr + kids.length - fr) f k N (ofW 4 0) m3 m4 m2 w (Or.inr ⟨m1, fun w' hb' => ?_⟩)
      have := box_ok (hp'.keep hb') g cx.ha p (fr + kids.length) sz (hdW k sz) k N f hw e0 e1 e2 e3 e4 hln hlb hlen (by omega) hsz hf hNw hkw (fun w'' hb'' => hbr w'' ((hp'.keep hb').keep hb'')) hgood
      rw [hfr] at this
      exact this)
    (by omega) (over_nil (by omega)) (fun j z hj => by
      have hjl : j < kids.length := by
        rcases Nat.lt_or_ge j kids.length with q | q
        · exact q
        · rw [List.getElem?_eq_none (by rw [hxl]; exact q)] at hj; cases hj
      obtain ⟨t, ht⟩ : ∃ t, kids[j]? = some t := ⟨_, List.getElem?_eq_getElem hjl⟩
      obtain ⟨x, x1, x2, x3⟩ := hv j t ht
      have ez : z = (x, deepN t, wN t) := by
        rw [List.getElem?_zipWith, x1, ht] at hj
        simpa using hj.symm
      subst ez
      have hm := List.mem_of_getElem? ht
      have hl2 := hle.2 t hm
      obtain ⟨k1, k2⟩ := hk t hm x (d + 1) x3 (by omega)
      rw [if_neg (by omega)]
      exact ⟨x2, by have := deepN_pos t; simp only; omega, by simp only; omega, k2⟩) (by omega) (by omega) (by rw [hxl]; exact hkl)
  have hO := over_into m3 m4 (by rw [m2]; omega) (Or.inl m1) (by omega) hI
  rw [zip_deep vs kids hvl, zip_words vs kids hvl, sum_wAll, ← deepNs_map, Nat.add_zero] at hO
  exact hO
end Go.Proofs.YtmijabhnbmmmfaaGreat


/- Whatever says a right term is held for one. -/
namespace Go.Proofs.YtmijabhnbmmmfaaGreat
open Go.RowKit Go.Deep

theorem get_lt {α : Type} {l : List α} {i : Nat} {x : α} (h : l[i]? = some x) : i < l.length := by
  rcases Nat.lt_or_ge i l.length with q | q
  · exact q
  · rw [List.getElem?_eq_none q] at h; cases h

theorem all_len {ws : List Int} {L : List ByteArray} : ∀ (l : List Tr) (q : Nat), RepAll ws L l q → q ≤ ws.length → q + l.length ≤ ws.length := by
  intro l
  induction l with
  | nil => intro q _ h; simpa using h
  | cons t r ih =>
    intro q h hq
    unfold RepAll at h
    obtain ⟨⟨x, hx, _⟩, h2⟩ := h
    have := ih (q + 1) h2 (get_lt hx)
    simp only [List.length_cons]
    omega

theorem bare_err {k N : Int} {f : Nat} (h : goodT (.mk k N f ⟨#[]⟩ none 0 []) = true) (hk : own k 0 ≤ 2) : errT (.mk k N f ⟨#[]⟩ none 0 []) = 0 := by
  unfold errT
  have hm : meas (.mk k N f ⟨#[]⟩ none 0 []) 200 65536 = own k 0 := by
    simp only [meas, List.length_nil, measAll]
    rw [if_neg (by omega)]
  have ho := own_nonneg k 0
  rw [hm, if_neg (by omega)]
  simp only [allT, allAll, h, Bool.and_self, if_true]

set_option maxRecDepth 100000 in
theorem rep_over {hb ab most gb : Nat} {ws : List Int} {L : List ByteArray} {F : List Nat} {a : Option Addr} {c g : Nat} (cx : Ctx hb ab most gb ws L F a c g) (w0 : World) : ∀ t : Tr, t.In w0 0 → allT goodT t = true → wN t ≤ 65536 → ∀ u d, Rep ws L t u → d + deepN t ≤ 201 → deepN t ≤ 1000 ∧ OverOk hb ab most gb ws L F a c u d (deepN t) (wN t) := by
  refine Tr.ind fun k n f s a' c' kids hk hin hg hwn u d h hd => ?_
  simp only [allT, Bool.and_eq_true] at hg
  obtain ⟨hg1, hg2⟩ := hg
  have hfit : (Tr.mk k n f s a' c' kids).fit := by unfold Tr.In at hin; exact hin.1
  have hf : f < 18446744073709551616 := by have := hfit.2.2.1; simpa [Lit.wf] using this
  have hwk : ∀ t, t ∈ kids → wN t ≤ wAll kids := by
    intro t ht
    clear hk hin hg1 hg2 hwn h hd hfit
    induction kids with
    | nil => simp at ht
    | cons v r ih =>
      simp only [wAll]
      rcases List.mem_cons.1 ht with rfl | ht
      · omega
      · have := ih ht; omega
  have hkids : wAll kids ≤ 65536 → ∀ t, t ∈ kids → ∀ u d, Rep ws L t u → d + deepN t ≤ 201 → deepN t ≤ 1000 ∧ OverOk hb ab most gb ws L F a c u d (deepN t) (wN t) := by
    intro hwa t ht
    obtain ⟨j, hj⟩ := List.getElem?_of_mem ht
    refine hk t ht ?_ (good_kids hg2 ht) (by have := hwk t ht; omega)
    unfold Tr.In at hin
    cases a' with
    | none =>
      have h0 := hin.1.2.2.2.2.2.2 rfl
      have h1 := hin.1.2.2.2.2.1
      have := get_lt hj
      omega
    | some ad => exact (inAll_get (hin.2 ad rfl).2 j t hj).2
  simp only [deepN] at hd ⊢
  have hle := deepNs_le kids 1
  refine ⟨by omega, ?_⟩
  unfold Rep at h
  simp only [wN] at hwn ⊢
  by_cases c1 : k = 1
  · rw [if_pos c1] at h
    rw [if_pos c1]
    subst c1 h
    simp [goodT] at hg1
    obtain ⟨_, hl0, ⟨_, hw, _⟩ | ⟨hq, _⟩⟩ := rightB_cases0 hg1
    · have e0 : kids = [] := List.length_eq_zero_iff.1 hl0
      subst e0
      have hb' := whB_yes hw
      obtain ⟨m1, m2, m3, m4, m5⟩ := of_made (t := 1) (b := n) (by decide) (by decide) (by simp [mayB]; omega)
      exact over_alone m3 m4 m5 (by omega) (by unfold aloneB; rw [m1]; rfl) (by simp only [deepNs] at hd; omega)
    · omega
  rw [if_neg c1] at h hwn ⊢
  by_cases c6 : k = 6
  · rw [if_pos c6] at h
    rw [if_pos c6]
    subst c6 h
    simp [goodT] at hg1
    have e0 : kids = [] := hg1.2.2
    subst e0
    obtain ⟨m1, m2, m3, m4, m5⟩ := of_made (t := 3) (b := n) (by decide) (by decide) (by simp [mayB]; omega)
    exact over_alone m3 m4 m5 (by omega) (by unfold aloneB; rw [m1]; rfl) (by simp only [deepNs] at hd; omega)
  rw [if_neg c6] at h hwn ⊢
  by_cases c3 : k = 3
  · rw [if_pos c3] at h
    rw [if_pos c3]
    obtain ⟨i, rfl, hi⟩ := h
    subst c3
    simp [goodT] at hg1
    have e0 : kids = [] := hg1.2.2
    subst e0
    have hil := get_lt hi
    have hL := cx.hL
    obtain ⟨m1, m2, m3, m4, m5⟩ := of_made (t := 2) (b := (i : Int)) (by decide) (by decide) (by simp [mayB]; omega)
    exact over_alone m3 m4 m5 (by omega) (by unfold aloneB; rw [m1, m2]; simp [txIs]; omega) (by simp only [deepNs] at hd; omega)
  rw [if_neg c3] at h hwn ⊢
  by_cases c8 : k = 8
  · rw [if_pos c8] at h hwn ⊢
    rw [← deepL_is] at hd ⊢
    exact list_over cx kids (hkids (by omega)) u d h hd
  rw [if_neg c8] at h hwn ⊢
  obtain ⟨p, rfl, hp, hfr, hra⟩ := h
  have hfl : (front k n f kids.length).length = frN k := by
    unfold front frN
    by_cases c2 : k = 2
    · simp [c2]
    by_cases c4 : k = 4
    · simp [c4]
    by_cases c5 : k = 5
    · simp [c5]
    have c7 : k = 7 := by
      simp only [goodT, c1, c2, c3, c4, c5, c6, c8, or_self, if_false] at hg1
      by_cases h : k = 7
      · exact h
      · simp [h] at hg1
    simp [c7]
  have hplen : p + frN k ≤ ws.length := by
    have : frN k - 1 < (front k n f kids.length).length := by rw [hfl]; unfold frN; split <;> omega
    have := get_lt (hfr (frN k - 1) _ (List.getElem?_eq_getElem this))
    have : 1 ≤ frN k := by unfold frN; split <;> omega
    omega
  have hlen := all_len kids (p + (front k n f kids.length).length) hra (by rw [hfl]; exact hplen)
  rw [hfl] at hra hlen hwn ⊢
  have hwa : wAll kids ≤ 65536 := by omega
  have hkk := hkids hwa
  by_cases c2 : k = 2
  · subst c2
    simp [goodT] at hg1
    obtain ⟨_, hl0, ⟨hq, _⟩ | ⟨_, hn0, hfin⟩⟩ := rightB_cases0 hg1
    · omega
    have e0 : kids = [] := List.length_eq_zero_iff.1 hl0
    subst e0
    have hx := hfr 1 (f : Int) rfl
    exact box_over cx 2 0 f p 1 2 [] rfl rfl (by omega) (hfr 0 _ rfl) (by simpa [frN] using hlen) rfl rfl hf (by decide) (by decide) (fun w hp' => by
      obtain ⟨g', e', _, _, hc⟩ := hp_cell hp' (p + 1) (f : Int) hx
      rw [cx.ha] at e'
      obtain rfl : g = g' := by simpa using e'
      exact bare_2 g p 2 f w (by omega) (hc w (Below.refl _ _))) (bare_err (by simp [goodT, rightB, hfin]) (by decide)) hp hra hkk d hd
  by_cases c4 : k = 4
  · subst c4
    simp [goodT] at hg1
    have e0 : kids = [] := hg1.2.2
    subst e0
    have hx := hfr 1 n rfl
    have hn := hg1.1
    have hf0 := hg1.2.1.1
    have hs0 := hg1.2.1.2
    exact box_over cx 4 n 0 p 1 2 [] rfl rfl (by omega) (hfr 0 _ rfl) (by simpa [frN] using hlen) rfl rfl (by omega) (by have := hfit.2.1; exact this) (by decide) (fun w hp' => by
      obtain ⟨g', e', _, _, hc⟩ := hp_cell hp' (p + 1) n hx
      rw [cx.ha] at e'
      obtain rfl : g = g' := by simpa using e'
      exact bare_n 4 (Or.inl rfl) g p 2 n w (by omega) hn.1 hn.2 (hc w (Below.refl _ _))) (bare_err (by simp [goodT]; exact hn) (by decide)) hp hra hkk d hd
  by_cases c5 : k = 5
  · subst c5
    simp [goodT] at hg1
    have hx := hfr 1 n rfl
    have hn := hg1.1
    exact box_over cx 5 n 0 p kids.length 2 kids rfl rfl (by simp [frN] at hwn; omega) (hfr 0 _ rfl) (by simp [frN] at hlen; omega) (by simp [lnN]) (by simp [lnB]) (by omega) (by have := hfit.2.1; exact this) (by decide) (fun w hp' => by
      obtain ⟨g', e', _, _, hc⟩ := hp_cell hp' (p + 1) n hx
      rw [cx.ha] at e'
      obtain rfl : g = g' := by simpa using e'
      exact bare_n 5 (Or.inr rfl) g p (2 + kids.length) n w (by omega) hn.1 (by omega) (hc w (Below.refl _ _))) (bare_err (by simp [goodT]; omega) (by decide)) hp hra hkk d hd
  have c7 : k = 7 := by
    simp only [goodT, c1, c2, c3, c4, c5, c6, c8, or_self, if_false] at hg1
    by_cases h : k = 7
    · exact h
    · simp [h] at hg1
  subst c7
  exact box_over cx 7 0 0 p kids.length 1 kids rfl rfl (by simp [frN] at hwn; omega) (hfr 0 _ rfl) (by simp [frN] at hlen; omega) (by simp [lnN]) (by simp [lnB]) (by omega) (by decide) (by decide) (fun w hp' => bare_7 _ w) (bare_err (by simp [goodT]) (by decide)) hp hra hkk d hd
end Go.Proofs.YtmijabhnbmmmfaaGreat


