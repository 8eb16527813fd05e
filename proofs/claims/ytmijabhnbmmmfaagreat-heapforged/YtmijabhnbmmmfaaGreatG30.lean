import Derived.Test.YtmijabhnbmmmfaaGreatG29
/- Any term that words say is held for one, and measured. -/
namespace Go.Proofs.YtmijabhnbmmmfaaGreat
open Go.RowKit Go.Deep

/-- A heap, a gauge beside it. -/
structure Ctx (hb ab most gb : Nat) (ws : List Int) (L : List ByteArray) (F : List Nat) (a : Option Addr) (c g : Nat) : Prop where
  ha : a = some ⟨g, 0, none⟩
  h1 : gb ≠ hb
  h2 : gb ∉ F
  h3 : gb ≠ g
  hL : L.length ≤ 100000
  hs : ws.length ≤ 16777216

theorem nil_made : tagI (ofW 4 0) = 4 ∧ bodyI (ofW 4 0) = 0 ∧ 0 ≤ ofW 4 0 ∧ ofW 4 0 ≤ 18446744073709551615 ∧ wRightB (ofW 4 0) = true := of_made (by decide) (by decide) (by decide)

theorem over_nil {hb ab most gb : Nat} {ws : List Int} {L : List ByteArray} {F : List Nat} {a : Option Addr} {c : Nat} {d : Nat} (hd : d ≤ 200) : OverOk hb ab most gb ws L F a c (ofW 4 0) d 1 0 := by
  obtain ⟨h1, _, h3, h4, h5⟩ := nil_made
  exact over_alone h3 h4 h5 (by omega) (by unfold aloneB; rw [h1]; rfl) hd

theorem cons_made {p : Nat} (h : p ≤ 16777216) : tagI (ofW 6 p) = 6 ∧ bodyI (ofW 6 p) = p ∧ 0 ≤ ofW 6 p ∧ ofW 6 p ≤ 18446744073709551615 ∧ wRightB (ofW 6 p) = true := of_made (by decide) (by decide) (by simp [mayB]; omega)
theorem box_made {p : Nat} (h : p ≤ 16777216) : tagI (ofW 5 p) = 5 ∧ bodyI (ofW 5 p) = p ∧ 0 ≤ ofW 5 p ∧ ofW 5 p ≤ 18446744073709551615 ∧ wRightB (ofW 5 p) = true := of_made (by decide) (by decide) (by simp [mayB]; omega)

/-- A list, pair by pair. -/
theorem list_over {hb ab most gb : Nat} {ws : List Int} {L : List ByteArray} {F : List Nat} {a : Option Addr} {c g : Nat} (cx : Ctx hb ab most gb ws L F a c g) : ∀ (l : List Tr), (∀ t, t ∈ l → ∀ u d, Rep ws L t u → d + deepN t ≤ 201 → deepN t ≤ 1000 ∧ OverOk hb ab most gb ws L F a c u d (deepN t) (wN t)) →
    ∀ u d, RepL ws L l u → d + deepL l ≤ 201 → OverOk hb ab most gb ws L F a c u d (deepL l) (2 * l.length + wAll l) := by
  intro l
  induction l with
  | nil =>
    intro _ u d h hd
    unfold RepL at h
    subst h
    simp only [deepL] at hd
    exact over_nil (by omega)
  | cons t r ih =>
    intro hk u d h hd
    unfold RepL at h
    obtain ⟨p, rfl, hp, ⟨x, hx, hrx⟩, y, hy, hry⟩ := h
    simp only [deepL] at hd
    have hpos := deepN_pos t
    obtain ⟨m1, m2, m3, m4, m5⟩ := cons_made hp
    have hyt : (tagI y = 4 ∨ tagI y = 6) ∧ 0 ≤ y ∧ y ≤ 18446744073709551615 := by
      cases r with
      | nil => unfold RepL at hry; subst hry; have := nil_made; exact ⟨Or.inl this.1, this.2.2.1, this.2.2.2.1⟩
      | cons t2 r2 =>
        unfold RepL at hry
        obtain ⟨p2, rfl, hp2, _⟩ := hry
        have := cons_made hp2
        exact ⟨Or.inr this.1, this.2.2.1, this.2.2.2.1⟩
    have hR := ih (fun v hv => hk v (List.mem_cons_of_mem _ hv)) y d hry (by omega)
    obtain ⟨hd1, hT⟩ := hk t (List.mem_cons_self ..) x (d + 1) hrx (by omega)
    have hrl : 1 ≤ deepL r := by rw [deepL_is]; exact (deepNs_le r 1).1
    have hI := into_ok (hb := hb) (ab := ab) (most := most) (gb := gb) (ws := ws) (L := L) (F := F) (a := a) (c := c) (u := ofW 6 p) (y := y) (d := d) (n := 2) (cc := 2) (fl := 0) (dR := deepL r) (nR := 2 * r.length + wAll r) (g := g) (q := p) (A := ⟨g, p, none⟩) (k := 8) (Nn := 0) [(x, deepN t, wN t)] cx.ha (by rw [m2]; omega) m3 m4 cx.h1 cx.h2 cx.h3
      (fun w hp' => block_of hb (ofW 6 p) p ⟨g, p, none⟩ ⟨g, p, none⟩ 2 1 2 0 8 0 y m3 m4 m2 w (Or.inl ⟨m1, fun w' hb' => pair_ok (hp'.keep hb') g p cx.ha y hy hyt.2.1 hyt.2.2 hyt.1⟩))
      (by omega) hR (fun j z hj => by
        rcases j with _ | j
        · obtain rfl : (x, deepN t, wN t) = z := by simpa using hj
          exact ⟨hx, by simp only; omega, by simp only; omega, hT⟩
        · simp at hj) (by omega) (by omega) (by simp)
    have hO := over_into m3 m4 (by rw [m2]; omega) (Or.inr m1) (by omega) hI
    simp only [List.map_cons, List.map_nil, deepest, List.sum_cons, List.sum_nil, Nat.add_zero] at hO
    simp only [deepL, List.length_cons, wAll]
    have e : 2 * (r.length + 1) + (wN t + wAll r) = 2 + (2 * r.length + wAll r) + wN t := by omega
    rw [e]
    exact hO
end Go.Proofs.YtmijabhnbmmmfaaGreat


/- A block that says a term; all terms. -/
namespace Go.Proofs.YtmijabhnbmmmfaaGreat
open Go.RowKit Go.Deep

theorem zip_deep : ∀ (vs : List Int) (kids : List Tr), vs.length = kids.length → (List.zipWith (fun x t => (x, deepN t, wN t)) vs kids).map (fun x => x.2.1) = kids.map deepN
  | [], [], _ => rfl
  | v :: vr, t :: r, h => by
    have := zip_deep vr r (by simpa using h)
    simp only [List.zipWith_cons_cons, List.map_cons, this]
theorem zip_words : ∀ (vs : List Int) (kids : List Tr), vs.length = kids.length → (List.zipWith (fun x t => (x, deepN t, wN t)) vs kids).map (fun x => x.2.2) = kids.map wN
  | [], [], _ => rfl
  | v :: vr, t :: r, h => by
    have := zip_words vr r (by simpa using h)
    simp only [List.zipWith_cons_cons, List.map_cons, this]

theorem box_over {hb ab most gb : Nat} {ws : List Int} {L : List ByteArray} {F : List Nat} {a : Option Addr} {c g : Nat} (cx : Ctx hb ab most gb ws L F a c g) (k N : Int) (f p sz fr : Nat) (kids : List Tr) (hfr : frN k = fr) (hkB : hdB k = true) (hsz : sz ≤ 65536) (hw : ws[p]? = some (hdW k sz)) (hlen : p + (fr + kids.length) ≤ ws.length) (hln : lnN k sz = ((fr + kids.length : Nat) : Int)) (hlb : lnB k sz = true)
    (hf : f < 18446744073709551616) (hNw : (Lit.int .i64 N).wf = true) (hkw : (Lit.int .i64 k).wf = true)
    (hbr : ∀ w, HP w hb ab most ws L F a c → Calls Tryz.prog 99 #[.int .i64 k, .slice (some ⟨g, p, none⟩) (fr + kids.length) (fr + kids.length)] w fun e w'' => e = .returned (.agg #[.int .i64 (k), .int .i64 (N), .float .f64 (f), .string ⟨#[]⟩, .slice none 0 0]) ∧ Below w.heap.size w w'') (hgood : errT (.mk k N f ⟨#[]⟩ none 0 []) = 0)
    (hp : p ≤ 16777216) (hel : RepAll ws L kids (p + fr)) (hk : ∀ t, t ∈ kids → ∀ u d, Rep ws L t u → d + deepN t ≤ 201 → deepN t ≤ 1000 ∧ OverOk hb ab most gb ws L F a c u d (deepN t) (wN t)) (d : Nat) (hd : d + deepNs kids 1 ≤ 201) :
    OverOk hb ab most gb ws L F a c (ofW 5 p) d (deepNs kids 1) (fr + kids.length + wAll kids) := by
  obtain ⟨m1, m2, m3, m4, m5⟩ := box_made hp
  obtain ⟨e0, e1, e2, e3, e4⟩ := hd_made hkB (s := sz) (by omega) (by omega)
  obtain ⟨vs, hvl, hv⟩ := repAll_words kids (p + fr) hel
  have hsmall := cx.hs
  have hle := deepNs_le kids 1
  have hfr0 : 1 ≤ fr := by rw [← hfr]; unfold frN; split <;> omega
  have hkl : kids.length ≤ 65536 := by
    unfold lnN at hln
    unfold frN at hfr
    split at hln
    · rename_i h7; rw [if_pos h7] at hfr; omega
    · rename_i h7
      rw [if_neg h7] at hfr
      split at hln <;> omega
  have hxl : (List.zipWith (fun x t => (x, deepN t, wN t)) vs kids).length = kids.length := by simp [hvl]
  have hI := into_ok (hb := hb) (ab := ab) (most := most) (gb := gb) (ws := ws) (L := L) (F := F) (a := a) (c := c) (u := ofW 5 p) (y := ofW 4 0) (d := d) (n := fr + kids.length) (cc := fr + kids.length - fr) (fl := f) (dR := 1) (nR := 0) (g := g) (q := if fr + kids.length = fr then p else p + fr) (A := ⟨g, p, none⟩) (k := k) (Nn := N) (List.zipWith (fun x t => (x, deepN t, wN t)) vs kids) cx.ha (by rw [m2]; omega) m3 m4 cx.h1 cx.h2 cx.h3
    (fun w hp' => by
      rw [hxl]
      have em : kids.length = fr + kids.length - fr := by omega
      rw [em]
      have em2 : fr + (fr + kids.length - fr) = fr + kids.length := by omega
      rw [em2]
      refine block_of hb (ofW 5 p) p ⟨g, p, none⟩ ⟨g, if fr + kids.length = fr then p else p + fr, none⟩ (fr + kids.length) (fr + kids.length - fr) (fr + kids.length - fr) f k N (ofW 4 0) m3 m4 m2 w (Or.inr ⟨m1, fun w' hb' => ?_⟩)
      have := box_ok (hp'.keep hb') g cx.ha p (fr + kids.length) sz (hdW k sz) k N f hw e0 e1 e2 e3 e4 hln hlb hlen (by omega) hsz hf hNw hkw (fun w'' hb'' => hbr w'' ((hp'.keep hb').keep hb'')) hgood
      rw [hfr] at this
      exact this)
    (by omega) (over_nil (by omega)) (fun j z hj => by
      have hjl : j < kids.length := by
        rcases Nat.lt_or_ge j kids.length with q | q
        · exact q
        · rw [List.getElem?_eq_none (by rw [hxl]; exact q)] at hj; cases hj
      obtain ⟨t, ht⟩ : ∃ t, kids[j]? = some t := ⟨_, List.getElem?_eq_getElem hjl⟩
      obtain ⟨x, x1, x2, x3⟩ := hv j t ht
      have ez : z = (x, deepN t, wN t) := by
        rw [List.getElem?_zipWith, x1, ht] at hj
        simpa using hj.symm
      subst ez
      have hm := List.mem_of_getElem? ht
      have hl2 := hle.2 t hm
      obtain ⟨k1, k2⟩ := hk t hm x (d + 1) x3 (by omega)
      rw [if_neg (by omega)]
      exact ⟨x2, by have := deepN_pos t; simp only; omega, by simp only; omega, k2⟩) (by omega) (by omega) (by rw [hxl]; exact hkl)
  have hO := over_into m3 m4 (by rw [m2]; omega) (Or.inl m1) (by omega) hI
  rw [zip_deep vs kids hvl, zip_words vs kids hvl, sum_wAll, ← deepNs_map, Nat.add_zero] at hO
  exact hO
end Go.Proofs.YtmijabhnbmmmfaaGreat


