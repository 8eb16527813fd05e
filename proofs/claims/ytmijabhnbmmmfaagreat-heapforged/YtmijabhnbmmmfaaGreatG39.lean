import Derived.Test.YtmijabhnbmmmfaaGreatG38
import Derived.Test.YtmijabhnbmmmfaaGreatG36
/- A word that points: to nothing, or to a block that may be a term's. -/
namespace Go.Proofs.YtmijabhnbmmmfaaGreat
open Go.RowKit Go.Deep

theorem tag_word {u t : Int} {p : Nat} (ht : tagI u = t) (h56 : t = 5 ∨ t = 6) (hp : bodyI u = p) (hl : p ≤ 16777216) : u = ofW t p := by
  have hm : tagB t = true ∧ mayB t p = true := by rcases h56 with rfl | rfl <;> simp [tagB, mayB] <;> omega
  simp only [ofW, hm.1, hm.2, Bool.and_self, if_true]
  unfold tagI at ht
  unfold bodyI at hp
  rw [if_neg (by omega)] at hp
  unfold joinI
  omega

theorem body_pos {u : Int} (h0 : 0 ≤ u) (h1 : u ≤ 18446744073709551615) (h56 : tagI u = 5 ∨ tagI u = 6) : 0 ≤ bodyI u ∧ bodyI u ≤ 1152921504606846976 := by
  unfold tagI at h56
  unfold bodyI
  rw [if_neg (by omega)]
  omega

/-- Words of a list's tags say lists. -/
theorem rep_list {ws : List Int} {L : List ByteArray} (hL : L.length ≤ 100000) {t : Tr} {y : Int} (h : Rep ws L t y) (hg : allT goodT t = true) (ht : tagI y = 4 ∨ tagI y = 6) : ∃ a c kids, t = .mk 8 0 0 ⟨#[]⟩ a c kids ∧ RepL ws L kids y := by
  obtain ⟨k, n, f, s, a, c, kids⟩ := t
  simp only [allT, Bool.and_eq_true] at hg
  have hg1 := hg.1
  unfold Rep at h
  split at h
  · rename_i c1
    subst c1 h
    simp [goodT] at hg1
    obtain ⟨_, _, ⟨_, hw, _⟩ | ⟨hq, _⟩⟩ := rightB_cases0 hg1
    · have hb' := whB_yes hw
      have := (of_made (t := 1) (b := n) (by decide) (by decide) (by simp [mayB]; omega)).1
      omega
    · omega
  split at h
  · rename_i c1 c6
    subst c6 h
    simp [goodT] at hg1
    have := (of_made (t := 3) (b := n) (by decide) (by decide) (by simp [mayB]; omega)).1
    omega
  split at h
  · obtain ⟨i, rfl, hi⟩ := h
    have hil := get_lt hi
    have := (of_made (t := 2) (b := (i : Int)) (by decide) (by decide) (by simp [mayB]; omega)).1
    omega
  split at h
  · rename_i c8
    subst c8
    simp [goodT] at hg1
    obtain ⟨⟨rfl, rfl⟩, hs0⟩ := hg1
    obtain rfl := empty_of (s := s) (by simpa using hs0)
    exact ⟨a, c, kids, rfl, h⟩
  · obtain ⟨p, rfl, hp, _⟩ := h
    have := (box_made hp).1
    omega

theorem repAll_of {ws : List Int} {L : List ByteArray} : ∀ (ts : List Tr) (q : Nat), (∀ (j : Nat) (t : Tr), ts[j]? = some t → ∃ x, ws[q + j]? = some x ∧ Rep ws L t x) → RepAll ws L ts q := by
  intro ts
  induction ts with
  | nil => intro q _; unfold RepAll; trivial
  | cons t r ih =>
    intro q h
    unfold RepAll
    refine ⟨by simpa using h 0 t rfl, ih (q + 1) fun j u hu => ?_⟩
    have e : q + 1 + j = q + (j + 1) := by omega
    rw [e]
    exact h (j + 1) u (by simpa using hu)

section
variable (hb ab most : Nat) (ws : List Int) (L : List ByteArray) (F : List Nat) (a : Option Addr) (c : Nat)

def BlkNo (u : Int) : Prop := ∃ (A El : Option Addr) (n n' m c' f : Nat) (k N y : Int), n ≤ 70000 ∧ ∀ w, HP w hb ab most ws L F a c → Calls Tryz.prog 53 #[.pointer (some ⟨hb, 0, none⟩), .int .u64 u] w fun e w' =>
  e = .returned (.tuple #[.agg #[.slice A n n', .int .i64 k, .int .i64 N, .float .f64 f, .string ⟨#[]⟩, .slice none 0 0, .slice El m c', .int .u64 y], .bool false]) ∧ Below w.heap.size w w'

def BlkYes (g : Nat) (u : Int) : Prop := ∃ (A : Addr) (n q m cc f : Nat) (k N y : Int), 1 ≤ n ∧ n ≤ 70000 ∧ m ≤ 65536 ∧ 0 ≤ y ∧ y ≤ 18446744073709551615 ∧ (∀ j, j < m → ∃ x, ws[q + j]? = some x) ∧
  (∀ w, HP w hb ab most ws L F a c → Calls Tryz.prog 53 #[.pointer (some ⟨hb, 0, none⟩), .int .u64 u] w fun e w' =>
    e = .returned (.tuple #[.agg #[.slice (some A) n n, .int .i64 k, .int .i64 N, .float .f64 f, .string ⟨#[]⟩, .slice none 0 0, .slice (some ⟨g, q, none⟩) m cc, .int .u64 y], .bool true]) ∧ Below w.heap.size w w') ∧
  ∀ (tr : Tr) (ts : List Tr), Rep ws L tr y → allT goodT tr = true → allT smF tr = true → ts.length = m → (∀ (j : Nat) (t : Tr), ts[j]? = some t → ∃ x, ws[q + j]? = some x ∧ Rep ws L t x) → allAll goodT ts = true → allAll smF ts = true →
    ∃ t, Rep ws L t u ∧ allT goodT t = true ∧ allT smF t = true ∧ deepN t = deepest (ts.map deepN) (deepN tr) ∧ wN t = n + wN tr + (ts.map wN).sum
end

section
variable {hb ab most : Nat} {ws : List Int} {L : List ByteArray} {F : List Nat} {a : Option Addr} {c : Nat}

theorem blk_zero {u : Int} (h0 : 0 ≤ u) (h1 : u ≤ 18446744073709551615) (h : (tagI u = 6 ∧ ∀ w, HP w hb ab most ws L F a c → Calls Tryz.prog 84 #[.pointer (some ⟨hb, 0, none⟩), .int .i64 (bodyI u)] w fun e w' => e = .returned (.tuple #[zeroBlk, .bool false]) ∧ Below w.heap.size w w') ∨
    (tagI u = 5 ∧ ∀ w, HP w hb ab most ws L F a c → Calls Tryz.prog 85 #[.pointer (some ⟨hb, 0, none⟩), .int .i64 (bodyI u)] w fun e w' => e = .returned (.tuple #[zeroBlk, .bool false]) ∧ Below w.heap.size w w')) : BlkNo hb ab most ws L F a c u :=
  ⟨none, none, 0, 0, 0, 0, 0, 0, 0, 0, by omega, fun w hp => block_gen hb u (bodyI u) none none 0 0 0 0 0 0 0 0 false h0 h1 rfl w (h.imp (fun h => ⟨h.1, fun w' hb' => h.2 w' (hp.keep hb')⟩) (fun h => ⟨h.1, fun w' hb' => h.2 w' (hp.keep hb')⟩))⟩

theorem head_is {hd : Int} (h : isB hd = true) : hd = hdW (hkI hd) (hsI hd) ∧ hdB (hkI hd) = true ∧ 0 ≤ hsI hd ∧ hsI hd ≤ 65536 := by
  unfold hkI hsI
  rw [if_pos h]
  unfold isB at h
  simp only [Bool.and_eq_true, decide_eq_true_eq] at h
  obtain ⟨⟨h1, h2⟩, h3⟩ := h
  have h3' := h3
  simp [szB] at h3'
  rw [if_pos (by unfold isB; simp [h1, h2, h3])]
  refine ⟨?_, h2, by omega, by omega⟩
  simp only [hdW, h2, h3, Bool.and_self, if_true]
  omega

theorem blk_pair {u : Int} {g : Nat} (hL : L.length ≤ 100000) (hws : ws.length ≤ 16777216) (hwr : ∀ (i : Nat) (x : Int), ws[i]? = some x → 0 ≤ x ∧ x ≤ 18446744073709551615) (ha : a = some ⟨g, 0, none⟩) (h0 : 0 ≤ u) (h1 : u ≤ 18446744073709551615) (ht : tagI u = 6) : BlkNo hb ab most ws L F a c u ∨ BlkYes hb ab most ws L F a c g u := by
  obtain ⟨b0, b1⟩ := body_pos h0 h1 (Or.inr ht)
  obtain ⟨p, hp⟩ : ∃ p : Nat, bodyI u = p := ⟨(bodyI u).toNat, by omega⟩
  by_cases hin : p + 2 ≤ ws.length
  case neg => exact Or.inl (blk_zero h0 h1 (Or.inl ⟨ht, fun w h => pair_none h _ b1 (by omega)⟩))
  obtain ⟨x, hx⟩ : ∃ x, ws[p]? = some x := ⟨_, List.getElem?_eq_getElem (by omega)⟩
  obtain ⟨y, hy⟩ : ∃ y, ws[p + 1]? = some y := ⟨_, List.getElem?_eq_getElem (by omega)⟩
  obtain ⟨y0, y1⟩ := hwr _ _ hy
  by_cases hty : tagI y = 4 ∨ tagI y = 6
  case neg => exact Or.inl (blk_zero h0 h1 (Or.inl ⟨ht, fun w h => by rw [hp]; exact pair_bad h g p ha y hy y0 y1 (fun e => hty (.inl e)) (fun e => hty (.inr e))⟩))
  right
  have hu := tag_word ht (Or.inr rfl) hp (by omega)
  refine ⟨⟨g, p, none⟩, 2, p, 1, 2, 0, 8, 0, y, by omega, by omega, by omega, y0, y1, fun j hj => ⟨x, (by obtain rfl : j = 0 := (by omega); exact hx)⟩, fun w hp' => block_of hb u p ⟨g, p, none⟩ ⟨g, p, none⟩ 2 1 2 0 8 0 y h0 h1 hp w (Or.inl ⟨ht, fun w' hb' => pair_ok (hp'.keep hb') g p ha y hy y0 y1 hty⟩), ?_⟩
  intro tr ts hr hg hs hl hel hgs hss
  match ts, hl with
  | [t1], _ =>
    obtain ⟨a', c', kr, rfl, hrl⟩ := rep_list hL hr hg hty
    obtain ⟨x', hx', hr1⟩ := hel 0 t1 rfl
    simp only [allT, Bool.and_eq_true] at hg hs
    simp only [allAll, Bool.and_true] at hgs hss
    refine ⟨.mk 8 0 0 ⟨#[]⟩ none 0 (t1 :: kr), ?_, ?_, ?_, ?_, ?_⟩
    · unfold Rep
      rw [if_neg (by decide), if_neg (by decide), if_neg (by decide), if_pos rfl]
      unfold RepL
      exact ⟨p, hu, by omega, ⟨x', hx', hr1⟩, y, hy, hrl⟩
    · have e1 : goodT (.mk 8 0 0 ⟨#[]⟩ none 0 (t1 :: kr)) = true := by simp [goodT, ByteArray.toList_eq]
      simp only [allT, allAll, e1, hgs, hg.2, Bool.and_self]
    · have e1 : smF (.mk 8 0 0 ⟨#[]⟩ none 0 (t1 :: kr)) = true := by simp [smF]
      simp only [allT, allAll, e1, hss, hs.2, Bool.and_self]
    · have e1 : deepN (.mk 8 0 0 ⟨#[]⟩ none 0 (t1 :: kr)) = deepL (t1 :: kr) := by simp only [deepN, deepL_is]
      have e2 : deepN (.mk 8 0 0 ⟨#[]⟩ a' c' kr) = deepL kr := by simp only [deepN, deepL_is]
      rw [e1, e2]
      simp only [deepL, List.map_cons, List.map_nil, deepest]
    · simp only [wN, wAll, List.map_cons, List.map_nil, List.sum_cons, List.sum_nil, List.length_cons]
      simp
      omega

theorem good_bare {k N : Int} {f : Nat} (h : errT (.mk k N f ⟨#[]⟩ none 0 []) = 0) : goodT (.mk k N f ⟨#[]⟩ none 0 []) = true := by
  have := (words_right h).1
  simp only [allT, Bool.and_eq_true] at this
  exact this.1

/-- A block of a kind that is right. -/
theorem blk_made {u : Int} {g p m sz f : Nat} {k N : Int} (hL : L.length ≤ 100000) (hws : ws.length ≤ 16777216) (ha : a = some ⟨g, 0, none⟩) (h0 : 0 ≤ u) (h1 : u ≤ 18446744073709551615) (ht : tagI u = 5) (hp : bodyI u = p) (hkB : hdB k = true) (hsz : sz ≤ 65536) (hw : ws[p]? = some (hdW k sz)) (hlen : p + (frN k + m) ≤ ws.length) (hln : lnN k sz = ((frN k + m : Nat) : Int)) (hlb : lnB k sz = true)
    (hf : f < 18446744073709551616) (hN : (Lit.int .i64 N).wf = true)
    (hbr : ∀ w, HP w hb ab most ws L F a c → Calls Tryz.prog 99 #[.int .i64 k, .slice (some ⟨g, p, none⟩) (frN k + m) (frN k + m)] w fun e w'' => e = .returned (.agg #[.int .i64 (k), .int .i64 (N), .float .f64 (f), .string ⟨#[]⟩, .slice none 0 0]) ∧ Below w.heap.size w w'')
    (hfr : errT (.mk k N f ⟨#[]⟩ none 0 []) = 0 → (front k N f m).length = frN k ∧ (∀ (i : Nat) (x : Int), (front k N f m)[i]? = some x → ws[p + i]? = some x) ∧ ∀ ts : List Tr, ts.length = m → goodT (.mk k N f ⟨#[]⟩ none 0 ts) = true) : BlkNo hb ab most ws L F a c u ∨ BlkYes hb ab most ws L F a c g u := by
  obtain ⟨e0, e1, e2, e3, e4⟩ := hd_made hkB (s := sz) (by omega) (by omega)
  have hfr0 : 1 ≤ frN k ∧ frN k ≤ 2 := by unfold frN; split <;> omega
  have hkw : (Lit.int .i64 k).wf = true := by
    have := hdB_cases hkB
    exact wf64 (by omega) (by omega)
  have hml : m ≤ 65536 := by
    unfold lnN at hln
    unfold frN at hln
    split at hln
    · omega
    · split at hln <;> omega
  have hbox : ∀ w, HP w hb ab most ws L F a c → Calls Tryz.prog 85 #[.pointer (some ⟨hb, 0, none⟩), .int .i64 p] w fun e w' => e = .returned (.tuple #[blkV g p (frN k + m) (frN k) k N f, .bool (errT (.mk k N f ⟨#[]⟩ none 0 []) == 0)]) ∧ Below w.heap.size w w' := fun w hp' =>
    box_gen hp' g ha p (frN k + m) sz (hdW k sz) k N f hw e0 e1 e2 e3 e4 hln hlb hlen (by omega) hsz hf hN hkw (fun w'' hb'' => hbr w'' (hp'.keep hb''))
  by_cases he : errT (.mk k N f ⟨#[]⟩ none 0 []) = 0
  case neg =>
    left
    have hee : (errT (.mk k N f ⟨#[]⟩ none 0 []) == 0) = false := by simpa using he
    rw [hee] at hbox
    exact ⟨some ⟨g, p, none⟩, some ⟨g, if frN k + m = frN k then p else p + frN k, none⟩, frN k + m, frN k + m, frN k + m - frN k, frN k + m - frN k, f, k, N, ofW 4 0, by omega, fun w hp' => block_gen hb u p _ _ _ _ _ _ f k N (ofW 4 0) false h0 h1 hp w (Or.inr ⟨ht, fun w' hb' => hbox w' (hp'.keep hb')⟩)⟩
  right
  have hee : (errT (.mk k N f ⟨#[]⟩ none 0 []) == 0) = true := by simpa using he
  rw [hee] at hbox
  obtain ⟨f1, f2, f3⟩ := hfr he
  have em : frN k + m - frN k = m := by omega
  have hu := tag_word ht (Or.inl rfl) hp (by omega)
  obtain ⟨n1, n2, n3, n4, n5⟩ := nil_made
  refine ⟨⟨g, p, none⟩, frN k + m, if frN k + m = frN k then p else p + frN k, m, m, f, k, N, ofW 4 0, by omega, by omega, hml, n3, n4, fun j hj => ?_, fun w hp' => ?_, ?_⟩
  · rw [if_neg (by omega)]
    exact ⟨_, List.getElem?_eq_getElem (by omega)⟩
  · have := block_of hb u p ⟨g, p, none⟩ ⟨g, if frN k + m = frN k then p else p + frN k, none⟩ (frN k + m) (frN k + m - frN k) (frN k + m - frN k) f k N (ofW 4 0) h0 h1 hp w (Or.inr ⟨ht, fun w' hb' => hbox w' (hp'.keep hb')⟩)
    rw [em] at this
    exact this
  intro tr ts hr hg hs hl hel hgs hss
  obtain ⟨a', c', kr, rfl, hrl⟩ := rep_list hL hr hg (by rw [n1]; exact Or.inl rfl)
  have hkr : kr = [] := by
    cases kr with
    | nil => rfl
    | cons t2 r2 =>
      unfold RepL at hrl
      obtain ⟨p2, e, hp2, _⟩ := hrl
      have := (cons_made hp2).1
      rw [← e] at this
      omega
  subst hkr
  have c1 : k ≠ 1 := fun e => by subst e; simp [hdB] at hkB
  have c6 : k ≠ 6 := fun e => by subst e; simp [hdB] at hkB
  have c3 : k ≠ 3 := fun e => by subst e; simp [hdB] at hkB
  have c8 : k ≠ 8 := fun e => by subst e; simp [hdB] at hkB
  refine ⟨.mk k N f ⟨#[]⟩ none 0 ts, ?_, ?_, ?_, ?_, ?_⟩
  · unfold Rep
    rw [if_neg c1, if_neg c6, if_neg c3, if_neg c8, hl]
    refine ⟨p, hu, by omega, f2, ?_⟩
    rw [f1]
    refine repAll_of ts _ fun j t hj => ?_
    have hjl := get_lt hj
    have := hel j t hj
    rw [if_neg (by omega)] at this
    exact this
  · simp only [allT, f3 ts hl, hgs, Bool.and_self]
  · simp only [allT, smF, decide_eq_true hf, hss, Bool.and_self]
  · simp only [deepN, deepNs_map, List.map_nil, deepest]
  · have hwa := sum_wAll ts
    simp only [wN]
    rw [if_neg c1, if_neg c6, if_neg c3, if_neg c8, hl, f1, hwa]
    simp [wAll]
end
end Go.Proofs.YtmijabhnbmmmfaaGreat


/- Any word that points. -/
namespace Go.Proofs.YtmijabhnbmmmfaaGreat
open Go.RowKit Go.Deep

theorem wf_i64 {n : Int} (h0 : -9223372036854775808 ≤ n) (h1 : n ≤ 9223372036854775807) : (Lit.int .i64 n).wf = true := by
  have e0 : IntKind.i64.min = -9223372036854775808 := by decide
  have e1 : IntKind.i64.max = 9223372036854775807 := by decide
  simp only [Lit.wf, e0, e1, Bool.and_eq_true, decide_eq_true_eq]
  omega

section
variable {hb ab most : Nat} {ws : List Int} {L : List ByteArray} {F : List Nat} {a : Option Addr} {c : Nat}

theorem hcut_any (g p n : Nat) (ha : a = some ⟨g, 0, none⟩) (hp : p ≤ 1152921504606846976) (hn0 : 0 < n) (hn : n ≤ 100000) : ∃ (v : Value) (fits : Bool), (fits = true → p + n ≤ ws.length) ∧ ∀ w, HP w hb ab most ws L F a c → Calls Tryz.prog 97 #[.pointer (some ⟨hb, 0, none⟩), .int .i64 p, .int .i64 n] w fun e w' => e = .returned (.tuple #[v, .bool fits]) ∧ w' = w := by
  by_cases h : p + n ≤ ws.length
  · exact ⟨_, true, fun _ => h, fun w hp' => hcut_in hp' g ha p n hn0 h⟩
  · exact ⟨_, false, fun e => (by cases e), fun w hp' => hcut_no hp' p n (by omega) hn (by omega)⟩

theorem blk_box {u : Int} {g : Nat} (hL : L.length ≤ 100000) (hws : ws.length ≤ 16777216) (hwr : ∀ (i : Nat) (x : Int), ws[i]? = some x → 0 ≤ x ∧ x ≤ 18446744073709551615) (ha : a = some ⟨g, 0, none⟩) (h0 : 0 ≤ u) (h1 : u ≤ 18446744073709551615) (ht : tagI u = 5) : BlkNo hb ab most ws L F a c u ∨ BlkYes hb ab most ws L F a c g u := by
  obtain ⟨b0, b1⟩ := body_pos h0 h1 (Or.inl ht)
  obtain ⟨p, hp⟩ : ∃ p : Nat, bodyI u = p := ⟨(bodyI u).toNat, by omega⟩
  by_cases hin : p + 1 ≤ ws.length
  case neg => exact Or.inl (blk_zero h0 h1 (Or.inr ⟨ht, fun w h => box_none h _ b1 (by omega)⟩))
  obtain ⟨hd, hx⟩ : ∃ x, ws[p]? = some x := ⟨_, List.getElem?_eq_getElem (by omega)⟩
  obtain ⟨d0, d1⟩ := hwr _ _ hx
  have hsz : 0 ≤ hsI hd ∧ hsI hd ≤ 65536 := by
    by_cases h : isB hd = true
    · exact (head_is h).2.2
    · unfold hsI; rw [if_neg h]; omega
  have hnp : 0 ≤ lnN (hkI hd) (hsI hd) := by
    unfold lnN
    repeat' split
    all_goals omega
  obtain ⟨n, hn⟩ : ∃ n : Nat, lnN (hkI hd) (hsI hd) = n := ⟨(lnN (hkI hd) (hsI hd)).toNat, by omega⟩
  have hn0 : 0 < n ∧ n ≤ 65538 := by
    unfold lnN at hn
    split at hn
    · omega
    · split at hn <;> omega
  obtain ⟨v, fits, hfit, C2⟩ := hcut_any (hb := hb) (ab := ab) (most := most) (ws := ws) (L := L) (F := F) (a := a) (c := c) g p n ha (by omega) hn0.1 (by omega)
  have bad : (isB hd = false ∨ lnB (hkI hd) (hsI hd) = false ∨ fits = false) → BlkNo hb ab most ws L F a c u := fun hbad =>
    blk_zero h0 h1 (Or.inr ⟨ht, fun w h => by rw [hp]; exact box_fail h g p n ha hd hx d0 d1 hsz.1 hsz.2 hn v fits (fun w' hb' => C2 w' (h.keep hb')) hbad⟩)
  cases hI : isB hd with
  | false => exact Or.inl (bad (Or.inl hI))
  | true =>
  cases hB : lnB (hkI hd) (hsI hd) with
  | false => exact Or.inl (bad (Or.inr (Or.inl hB)))
  | true =>
  cases fits with
  | false => exact Or.inl (bad (Or.inr (Or.inr rfl)))
  | true =>
  have hlen := hfit rfl
  clear bad C2 hfit
  obtain ⟨hdE, hkB, -, -⟩ := head_is hI
  generalize hkI hd = k at *
  obtain ⟨sz, hsz'⟩ : ∃ sz : Nat, hsI hd = sz := ⟨(hsI hd).toNat, by omega⟩
  rw [hsz'] at hdE hB hn hsz
  rw [hdE] at hx
  have hk := hdB_cases hkB
  have h2k : (k = 2 ∨ k = 4) → sz = 1 := by
    intro h
    rcases h with rfl | rfl <;> simp [lnB] at hB <;> omega
  have second : 2 ≤ n → ∃ x, ws[p + 1]? = some x ∧ 0 ≤ x ∧ x ≤ 18446744073709551615 := fun h => by
    obtain ⟨x, hx⟩ : ∃ x, ws[p + 1]? = some x := ⟨_, List.getElem?_eq_getElem (by omega)⟩
    exact ⟨x, hx, hwr _ _ hx⟩
  have cellAt : ∀ x, ws[p + 1]? = some x → ∀ w, HP w hb ab most ws L F a c → w.cell? ⟨g, p + 1, none⟩ = some (.int .u64 x) := fun x hx w hp' => by
    obtain ⟨g', e', _, _, hc⟩ := hp_cell hp' (p + 1) x hx
    rw [ha] at e'
    obtain rfl : g = g' := by simpa using e'
    exact hc w (Below.refl _ _)
  rcases hk with rfl | rfl | rfl | rfl
  · obtain rfl : sz = 1 := by have := h2k (Or.inl rfl); exact_mod_cast this
    obtain rfl : n = 2 := by simp [lnN] at hn; omega
    obtain ⟨x, hx1, x0, x1⟩ := second (by omega)
    have hxn : ((x.toNat : Nat) : Int) = x := by omega
    refine blk_made (m := 0) (sz := 1) (f := x.toNat) (N := 0) hL hws ha h0 h1 ht hp hkB (by omega) hx (by simpa [frN] using hlen) rfl rfl (by omega) (by decide) (fun w hp' => bare_2 g p 2 x.toNat w (by omega) (by rw [hxn]; exact cellAt x hx1 w hp')) (fun he => ⟨rfl, fun i z hi => ?_, fun ts hl => ?_⟩)
    · match i, hi with
      | 0, hi => obtain rfl : hdW 2 1 = z := by simpa [front] using hi
                 exact hx
      | 1, hi => obtain rfl : ((x.toNat : Nat) : Int) = z := by simpa [front] using hi
                 rw [hxn]; exact hx1
      | i + 2, hi => simp [front] at hi
    · obtain rfl := List.length_eq_zero_iff.1 hl
      exact good_bare he
  · obtain rfl : sz = 1 := by have := h2k (Or.inr rfl); exact_mod_cast this
    obtain rfl : n = 2 := by simp [lnN] at hn; omega
    obtain ⟨x, hx1, x0, x1⟩ := second (by omega)
    obtain ⟨N, hN⟩ : ∃ N : Int, N = if x < 9223372036854775808 then x else x - 18446744073709551616 := ⟨_, rfl⟩
    have hNr : -9223372036854775808 ≤ N ∧ N ≤ 9223372036854775807 := by rw [hN]; split <;> omega
    refine blk_made (m := 0) (sz := 1) (f := 0) (N := N) hL hws ha h0 h1 ht hp hkB (by omega) hx (by simpa [frN] using hlen) rfl rfl (by omega) (wf_i64 hNr.1 hNr.2) (fun w hp' => bare_nn 4 (Or.inl rfl) g p 2 x N w (by omega) x0 x1 hN (cellAt x hx1 w hp')) (fun he => ?_)
    have hg := good_bare he
    have hgN : 0 ≤ N ∧ N ≤ 1099511627776 := by simp [goodT] at hg; omega
    obtain rfl : x = N := by rw [hN] at hgN ⊢; split at hgN <;> simp_all <;> omega
    refine ⟨rfl, fun i z hi => ?_, fun ts hl => ?_⟩
    · match i, hi with
      | 0, hi => obtain rfl : hdW 4 1 = z := by simpa [front] using hi
                 exact hx
      | 1, hi => obtain rfl : x = z := by simpa [front] using hi
                 exact hx1
      | i + 2, hi => simp [front] at hi
    · obtain rfl := List.length_eq_zero_iff.1 hl
      exact hg
  · obtain rfl : n = 2 + sz := by simp [lnN] at hn; omega
    obtain ⟨x, hx1, x0, x1⟩ := second (by omega)
    obtain ⟨N, hN⟩ : ∃ N : Int, N = if x < 9223372036854775808 then x else x - 18446744073709551616 := ⟨_, rfl⟩
    have hNr : -9223372036854775808 ≤ N ∧ N ≤ 9223372036854775807 := by rw [hN]; split <;> omega
    refine blk_made (m := sz) (sz := sz) (f := 0) (N := N) hL hws ha h0 h1 ht hp hkB (by omega) hx (by simpa [frN] using hlen) (by simp [lnN, frN]) (by simp [lnB]) (by omega) (wf_i64 hNr.1 hNr.2) (fun w hp' => bare_nn 5 (Or.inr rfl) g p (2 + sz) x N w (by omega) x0 x1 hN (cellAt x hx1 w hp')) (fun he => ?_)
    have hg := good_bare he
    have hgN : 0 ≤ N ∧ N ≤ 16384 := by simp [goodT] at hg; omega
    obtain rfl : x = N := by rw [hN] at hgN ⊢; split at hgN <;> simp_all <;> omega
    refine ⟨rfl, fun i z hi => ?_, fun ts hl => by simp [goodT, ByteArray.toList_eq]; omega⟩
    match i, hi with
    | 0, hi => obtain rfl : hdW 5 sz = z := by simpa [front] using hi
               exact hx
    | 1, hi => obtain rfl : x = z := by simpa [front] using hi
               exact hx1
    | i + 2, hi => simp [front] at hi
  · obtain rfl : n = 1 + sz := by simp [lnN] at hn; omega
    refine blk_made (m := sz) (sz := sz) (f := 0) (N := 0) hL hws ha h0 h1 ht hp hkB (by omega) hx (by simpa [frN] using hlen) (by simp [lnN, frN]) (by simp [lnB]) (by omega) (by decide) (fun w hp' => bare_7 _ w) (fun he => ?_)
    refine ⟨rfl, fun i z hi => ?_, fun ts hl => by simp [goodT, ByteArray.toList_eq]⟩
    match i, hi with
    | 0, hi => obtain rfl : hdW 7 sz = z := by simpa [front] using hi
               exact hx
    | i + 1, hi => simp [front] at hi

theorem blk_any {u : Int} (hL : L.length ≤ 100000) (hws : ws.length ≤ 16777216) (hwr : ∀ (i : Nat) (x : Int), ws[i]? = some x → 0 ≤ x ∧ x ≤ 18446744073709551615) (hA : ws = [] ∨ ∃ g, a = some ⟨g, 0, none⟩) (h0 : 0 ≤ u) (h1 : u ≤ 18446744073709551615) (ht : tagI u = 5 ∨ tagI u = 6) : BlkNo hb ab most ws L F a c u ∨ ∃ g, a = some ⟨g, 0, none⟩ ∧ BlkYes hb ab most ws L F a c g u := by
  obtain ⟨b0, b1⟩ := body_pos h0 h1 ht
  rcases hA with rfl | ⟨g, ha⟩
  · left
    rcases ht with ht | ht
    · exact blk_zero h0 h1 (Or.inr ⟨ht, fun w h => box_none h _ b1 (by simp; omega)⟩)
    · exact blk_zero h0 h1 (Or.inl ⟨ht, fun w h => pair_none h _ b1 (by simp; omega)⟩)
  · rcases ht with ht | ht
    · exact (blk_box hL hws hwr ha h0 h1 ht).imp id (fun h => ⟨g, ha, h⟩)
    · exact (blk_pair hL hws hwr ha h0 h1 ht).imp id (fun h => ⟨g, ha, h⟩)
end
end Go.Proofs.YtmijabhnbmmmfaaGreat


