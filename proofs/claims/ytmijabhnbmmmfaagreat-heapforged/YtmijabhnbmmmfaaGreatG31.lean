import Derived.Test.YtmijabhnbmmmfaaGreatG30
/- Whatever says a right term is held for one. -/
namespace Go.Proofs.YtmijabhnbmmmfaaGreat
open Go.RowKit Go.Deep

theorem get_lt {α : Type} {l : List α} {i : Nat} {x : α} (h : l[i]? = some x) : i < l.length := by
  rcases Nat.lt_or_ge i l.length with q | q
  · exact q
  · rw [List.getElem?_eq_none q] at h; cases h

theorem all_len {ws : List Int} {L : List ByteArray} : ∀ (l : List Tr) (q : Nat), RepAll ws L l q → q ≤ ws.length → q + l.length ≤ ws.length := by
  intro l
  induction l with
  | nil => intro q _ h; simpa using h
  | cons t r ih =>
    intro q h hq
    unfold RepAll at h
    obtain ⟨⟨x, hx, _⟩, h2⟩ := h
    have := ih (q + 1) h2 (get_lt hx)
    simp only [List.length_cons]
    omega

theorem bare_err {k N : Int} {f : Nat} (h : goodT (.mk k N f ⟨#[]⟩ none 0 []) = true) (hk : own k 0 ≤ 2) : errT (.mk k N f ⟨#[]⟩ none 0 []) = 0 := by
  unfold errT
  have hm : meas (.mk k N f ⟨#[]⟩ none 0 []) 200 65536 = own k 0 := by
    simp only [meas, List.length_nil, measAll]
    rw [if_neg (by omega)]
  have ho := own_nonneg k 0
  rw [hm, if_neg (by omega)]
  simp only [allT, allAll, h, Bool.and_self, if_true]

set_option maxRecDepth 100000 in
theorem rep_over {hb ab most gb : Nat} {ws : List Int} {L : List ByteArray} {F : List Nat} {a : Option Addr} {c g : Nat} (cx : Ctx hb ab most gb ws L F a c g) (w0 : World) : ∀ t : Tr, t.In w0 0 → allT goodT t = true → wN t ≤ 65536 → ∀ u d, Rep ws L t u → d + deepN t ≤ 201 → deepN t ≤ 1000 ∧ OverOk hb ab most gb ws L F a c u d (deepN t) (wN t) := by
  refine Tr.ind fun k n f s a' c' kids hk hin hg hwn u d h hd => ?_
  simp only [allT, Bool.and_eq_true] at hg
  obtain ⟨hg1, hg2⟩ := hg
  have hfit : (Tr.mk k n f s a' c' kids).fit := by unfold Tr.In at hin; exact hin.1
  have hf : f < 18446744073709551616 := by have := hfit.2.2.1; simpa [Lit.wf] using this
  have hwk : ∀ t, t ∈ kids → wN t ≤ wAll kids := by
    intro t ht
    clear hk hin hg1 hg2 hwn h hd hfit
    induction kids with
    | nil => simp at ht
    | cons v r ih =>
      simp only [wAll]
      rcases List.mem_cons.1 ht with rfl | ht
      · omega
      · have := ih ht; omega
  have hkids : wAll kids ≤ 65536 → ∀ t, t ∈ kids → ∀ u d, Rep ws L t u → d + deepN t ≤ 201 → deepN t ≤ 1000 ∧ OverOk hb ab most gb ws L F a c u d (deepN t) (wN t) := by
    intro hwa t ht
    obtain ⟨j, hj⟩ := List.getElem?_of_mem ht
    refine hk t ht ?_ (good_kids hg2 ht) (by have := hwk t ht; omega)
    unfold Tr.In at hin
    cases a' with
    | none =>
      have h0 := hin.1.2.2.2.2.2.2 rfl
      have h1 := hin.1.2.2.2.2.1
      have := get_lt hj
      omega
    | some ad => exact (inAll_get (hin.2 ad rfl).2 j t hj).2
  simp only [deepN] at hd ⊢
  have hle := deepNs_le kids 1
  refine ⟨by omega, ?_⟩
  unfold Rep at h
  simp only [wN] at hwn ⊢
  by_cases c1 : k = 1
  · rw [if_pos c1] at h
    rw [if_pos c1]
    subst c1 h
    simp [goodT] at hg1
    obtain ⟨_, hl0, ⟨_, hw, _⟩ | ⟨hq, _⟩⟩ := rightB_cases0 hg1
    · have e0 : kids = [] := List.length_eq_zero_iff.1 hl0
      subst e0
      have hb' := whB_yes hw
      obtain ⟨m1, m2, m3, m4, m5⟩ := of_made (t := 1) (b := n) (by decide) (by decide) (by simp [mayB]; omega)
      exact over_alone m3 m4 m5 (by omega) (by unfold aloneB; rw [m1]; rfl) (by simp only [deepNs] at hd; omega)
    · omega
  rw [if_neg c1] at h hwn ⊢
  by_cases c6 : k = 6
  · rw [if_pos c6] at h
    rw [if_pos c6]
    subst c6 h
    simp [goodT] at hg1
    have e0 : kids = [] := hg1.2.2
    subst e0
    obtain ⟨m1, m2, m3, m4, m5⟩ := of_made (t := 3) (b := n) (by decide) (by decide) (by simp [mayB]; omega)
    exact over_alone m3 m4 m5 (by omega) (by unfold aloneB; rw [m1]; rfl) (by simp only [deepNs] at hd; omega)
  rw [if_neg c6] at h hwn ⊢
  by_cases c3 : k = 3
  · rw [if_pos c3] at h
    rw [if_pos c3]
    obtain ⟨i, rfl, hi⟩ := h
    subst c3
    simp [goodT] at hg1
    have e0 : kids = [] := hg1.2.2
    subst e0
    have hil := get_lt hi
    have hL := cx.hL
    obtain ⟨m1, m2, m3, m4, m5⟩ := of_made (t := 2) (b := (i : Int)) (by decide) (by decide) (by simp [mayB]; omega)
    exact over_alone m3 m4 m5 (by omega) (by unfold aloneB; rw [m1, m2]; simp [txIs]; omega) (by simp only [deepNs] at hd; omega)
  rw [if_neg c3] at h hwn ⊢
  by_cases c8 : k = 8
  · rw [if_pos c8] at h hwn ⊢
    rw [← deepL_is] at hd ⊢
    exact list_over cx kids (hkids (by omega)) u d h hd
  rw [if_neg c8] at h hwn ⊢
  obtain ⟨p, rfl, hp, hfr, hra⟩ := h
  have hfl : (front k n f kids.length).length = frN k := by
    unfold front frN
    by_cases c2 : k = 2
    · simp [c2]
    by_cases c4 : k = 4
    · simp [c4]
    by_cases c5 : k = 5
    · simp [c5]
    have c7 : k = 7 := by
      simp only [goodT, c1, c2, c3, c4, c5, c6, c8, or_self, if_false] at hg1
      by_cases h : k = 7
      · exact h
      · simp [h] at hg1
    simp [c7]
  have hplen : p + frN k ≤ ws.length := by
    have : frN k - 1 < (front k n f kids.length).length := by rw [hfl]; unfold frN; split <;> omega
    have := get_lt (hfr (frN k - 1) _ (List.getElem?_eq_getElem this))
    have : 1 ≤ frN k := by unfold frN; split <;> omega
    omega
  have hlen := all_len kids (p + (front k n f kids.length).length) hra (by rw [hfl]; exact hplen)
  rw [hfl] at hra hlen hwn ⊢
  have hwa : wAll kids ≤ 65536 := by omega
  have hkk := hkids hwa
  by_cases c2 : k = 2
  · subst c2
    simp [goodT] at hg1
    obtain ⟨_, hl0, ⟨hq, _⟩ | ⟨_, hn0, hfin⟩⟩ := rightB_cases0 hg1
    · omega
    have e0 : kids = [] := List.length_eq_zero_iff.1 hl0
    subst e0
    have hx := hfr 1 (f : Int) rfl
    exact box_over cx 2 0 f p 1 2 [] rfl rfl (by omega) (hfr 0 _ rfl) (by simpa [frN] using hlen) rfl rfl hf (by decide) (by decide) (fun w hp' => by
      obtain ⟨g', e', _, _, hc⟩ := hp_cell hp' (p + 1) (f : Int) hx
      rw [cx.ha] at e'
      obtain rfl : g = g' := by simpa using e'
      exact bare_2 g p 2 f w (by omega) (hc w (Below.refl _ _))) (bare_err (by simp [goodT, rightB, hfin]) (by decide)) hp hra hkk d hd
  by_cases c4 : k = 4
  · subst c4
    simp [goodT] at hg1
    have e0 : kids = [] := hg1.2.2
    subst e0
    have hx := hfr 1 n rfl
    have hn := hg1.1
    have hf0 := hg1.2.1.1
    have hs0 := hg1.2.1.2
    exact box_over cx 4 n 0 p 1 2 [] rfl rfl (by omega) (hfr 0 _ rfl) (by simpa [frN] using hlen) rfl rfl (by omega) (by have := hfit.2.1; exact this) (by decide) (fun w hp' => by
      obtain ⟨g', e', _, _, hc⟩ := hp_cell hp' (p + 1) n hx
      rw [cx.ha] at e'
      obtain rfl : g = g' := by simpa using e'
      exact bare_n 4 (Or.inl rfl) g p 2 n w (by omega) hn.1 hn.2 (hc w (Below.refl _ _))) (bare_err (by simp [goodT]; exact hn) (by decide)) hp hra hkk d hd
  by_cases c5 : k = 5
  · subst c5
    simp [goodT] at hg1
    have hx := hfr 1 n rfl
    have hn := hg1.1
    exact box_over cx 5 n 0 p kids.length 2 kids rfl rfl (by simp [frN] at hwn; omega) (hfr 0 _ rfl) (by simp [frN] at hlen; omega) (by simp [lnN]) (by simp [lnB]) (by omega) (by have := hfit.2.1; exact this) (by decide) (fun w hp' => by
      obtain ⟨g', e', _, _, hc⟩ := hp_cell hp' (p + 1) n hx
      rw [cx.ha] at e'
      obtain rfl : g = g' := by simpa using e'
      exact bare_n 5 (Or.inr rfl) g p (2 + kids.length) n w (by omega) hn.1 (by omega) (hc w (Below.refl _ _))) (bare_err (by simp [goodT]; omega) (by decide)) hp hra hkk d hd
  have c7 : k = 7 := by
    simp only [goodT, c1, c2, c3, c4, c5, c6, c8, or_self, if_false] at hg1
    by_cases h : k = 7
    · exact h
    · simp [h] at hg1
  subst c7
  exact box_over cx 7 0 0 p kids.length 1 kids rfl rfl (by simp [frN] at hwn; omega) (hfr 0 _ rfl) (by simp [frN] at hlen; omega) (by simp [lnN]) (by simp [lnB]) (by omega) (by decide) (by decide) (fun w hp' => bare_7 _ w) (bare_err (by simp [goodT]) (by decide)) hp hra hkk d hd
end Go.Proofs.YtmijabhnbmmmfaaGreat


/- holds. -/
namespace Go.Proofs.YtmijabhnbmmmfaaGreat
open Go.RowKit Go.Deep
attribute [local go_sem] store_float f64bits f64frombits
attribute [local go_sem ↓] Go.wp_at_zero Go.wp_at_succ

theorem deepN_deep : ∀ t : Tr, (deepN t : Int) = deep t := by
  refine Tr.ind fun k n f s a c kids hk => ?_
  simp only [deepN, deep]
  have hall : ∀ (l : List Tr), (∀ t, t ∈ l → t ∈ kids) → ∀ (m : Nat) (M : Int), 1 ≤ m → (m : Int) = M + 1 → (deepNs l m : Int) = deepAll l M + 1 := by
    intro l
    induction l with
    | nil => intro _ m M _ h; simp only [deepNs, deepAll]; exact h
    | cons t r ih =>
      intro hl m M h1 h
      simp only [deepNs, deepAll]
      have e := hk t (hl t (List.mem_cons_self ..))
      refine ih (fun v hv => hl v (List.mem_cons_of_mem _ hv)) _ _ (by omega) ?_
      split <;> omega
  exact hall kids (fun t h => h) 1 0 (Nat.le_refl _) rfl

/-- A right term is at most so deep. -/
theorem right_deep {t : Tr} (h : errT t = 0) : deepN t ≤ 200 := by
  have e := deepN_deep t
  have h' := h
  unfold errT at h'
  rcases agree_start goodT t with ⟨q, _⟩ | ⟨_, _, q, _⟩
  · rw [if_pos q] at h'; omega
  · omega

set_option maxHeartbeats 1000000 in
theorem holds_ok {hb ab most gb : Nat} {ws : List Int} {L : List ByteArray} {F : List Nat} {a : Option Addr} {c : Nat} {u : Int} {D N W : Nat} (w : World) (hp : HP w hb ab most ws L F a c) (hg : Tri w gb (.pointer (some ⟨hb, 0, none⟩)) (.int .i64 W) (.slice none 0 0)) (hgh : gb ≠ hb) (hgF : gb ∉ F) (hgg : ∀ g, a = some ⟨g, 0, none⟩ → gb ≠ g) (h : OverOk hb ab most gb ws L F a c u 1 D N) (hD : 0 < D) (hN : N ≤ 65536) :
    Calls Tryz.prog 37 #[.pointer (some ⟨gb, 0, none⟩), .int .u64 u] w fun e w' => e = .returned (.bool true) ∧ But (· = gb) w w' := by
  have hg2 := hg.set1 (.int .i64 0)
  have hb2 : But (· = gb) w (w.setCell ⟨gb, 1, none⟩ (.int .i64 0)) := (But.refl (· = gb) w).setCell (p := ⟨gb, 1, none⟩) (fun _ => rfl) _
  have OV := hidb (h 0 _ (hp.but hb2 (fun e => hgh e.symm) (fun x hx e => hgF (e ▸ hx)) (fun g hg' e => hgg g hg' e.symm)) hg2 (by omega))
  have HB2 := hidb hb2
  obtain ⟨c0, c1, c2, f0, f1, f2, hlt⟩ := hg
  clear hp h hg2 hb2
  have hDD : (0 : Int) < (D : Int) := by omega
  go_enter Tryz.func37, Tryz.ntmps37
  go_wp2_with fail
  refine OV.out.mono ?_
  rintro e w1 ⟨rfl, _, hb1⟩
  have HB := hidb (HB2.out.trans hb1)
  clear hb1 OV
  go_wp2
  go_ret
  exact ⟨rfl, HB.out⟩
end Go.Proofs.YtmijabhnbmmmfaaGreat


