import Derived.Test.YtmijabhnbmmmfaaGreatG40
import Derived.Test.YtmijabhnbmmmfaaGreatG36
import Derived.Maps.AppendAt
import Derived.Test.YtmijabhnbmmmfaaGreatG39
import Derived.Test.YtmijabhnbmmmfaaGreatG35
import Derived.Deep.Cut
import Derived.Deep.RegionLaw
import Derived.Deep.AppendLies
/- Terms stored one by one. -/
namespace Go.Proofs.YtmijabhnbmmmfaaGreat
open Go.RowKit Go.Deep
attribute [local go_sem] store_float f64bits f64frombits
attribute [local go_sem ↓] Go.wp_at_zero Go.wp_at_succ

abbrev In64 (x : Int) : Prop := 0 ≤ x ∧ x ≤ 18446744073709551615

theorem of_64 (t b : Int) : In64 (ofW t b) := by
  unfold ofW
  split
  · rename_i h
    simp only [Bool.and_eq_true] at h
    have ht : 1 ≤ t ∧ t ≤ 8 := by simpa [tagB] using h.1
    unfold joinI
    constructor <;> omega
  · constructor <;> omega

theorem hd_64 (k s : Int) : In64 (hdW k s) := by
  unfold hdW
  split
  · rename_i h
    simp only [Bool.and_eq_true] at h
    have hs : 0 ≤ s ∧ s ≤ 65536 := by simpa [szB] using h.2
    have hk := hdB_cases h.1
    constructor <;> omega
  · constructor <;> omega

theorem pairs_64 : ∀ (l : List Int) (p : Nat), (∀ x, x ∈ l → In64 x) → ∀ x, x ∈ pairs l p → In64 x := by
  intro l
  induction l with
  | nil => intro p _ x h; simp [pairs] at h
  | cons y r ih =>
    intro p hl x h
    cases r with
    | nil =>
      have h' : x = y ∨ x = ofW 4 0 := by simpa [pairs] using h
      rcases h' with e | e
      · rw [e]; exact hl _ (List.mem_cons_self ..)
      · rw [e]; exact of_64 _ _
    | cons z r =>
      have h' : x = y ∨ x = ofW 6 ((p + 2 : Nat) : Int) ∨ x ∈ pairs (z :: r) (p + 2) := by simpa only [pairs, List.mem_cons] using h
      rcases h' with e | e | h'
      · rw [e]; exact hl _ (List.mem_cons_self ..)
      · rw [e]; exact of_64 _ _
      · exact ih (p + 2) (fun v hv => hl v (List.mem_cons_of_mem _ hv)) x h'

theorem front_64 {k n : Int} {f len : Nat} {s : ByteArray} {a : Option Addr} {c : Nat} {kids : List Tr} (hg : goodT (.mk k n f s a c kids) = true) (hf : f < 18446744073709551616) (h1 : k ≠ 1) (h3 : k ≠ 3) (h6 : k ≠ 6) (h8 : k ≠ 8) : ∀ x, x ∈ front k n f len → In64 x := by
  intro x hx
  unfold front at hx
  split at hx
  · simp only [List.mem_cons, List.not_mem_nil, or_false] at hx
    rcases hx with rfl | rfl
    · exact hd_64 _ _
    · constructor <;> omega
  split at hx
  · rename_i h4
    subst h4
    simp [goodT] at hg
    simp only [List.mem_cons, List.not_mem_nil, or_false] at hx
    rcases hx with rfl | rfl
    · exact hd_64 _ _
    · constructor <;> omega
  split at hx
  · rename_i h5
    subst h5
    simp [goodT] at hg
    simp only [List.mem_cons, List.not_mem_nil, or_false] at hx
    rcases hx with rfl | rfl
    · exact hd_64 _ _
    · constructor <;> omega
  · simp only [List.mem_cons, List.not_mem_nil, or_false] at hx
    subst hx
    exact hd_64 _ _

theorem lay_64 : ∀ t : Tr, allT goodT t = true → allT smF t = true → ∀ (p : Nat) (L : List ByteArray), In64 (layT t p L).1 ∧ ∀ x, x ∈ (layT t p L).2.1 → In64 x := by
  refine Tr.ind fun k n f s a c kids hk hg hs p L => ?_
  simp only [allT, Bool.and_eq_true] at hg hs
  have hf : f < 18446744073709551616 := by simpa [smF] using hs.1
  have hall : ∀ (l : List Tr), (∀ t, t ∈ l → t ∈ kids) → ∀ p L, (∀ x, x ∈ (layAll l p L).1 → In64 x) ∧ ∀ x, x ∈ (layAll l p L).2.1 → In64 x := by
    intro l
    induction l with
    | nil => intro _ p L; simp [layAll]
    | cons t r ih =>
      intro hl p L
      have ht := hl t (List.mem_cons_self ..)
      obtain ⟨e1, e2⟩ := hk t ht (good_kids hg.2 ht) (good_kids hs.2 ht) p L
      obtain ⟨i1, i2⟩ := ih (fun u hu => hl u (List.mem_cons_of_mem _ hu)) (p + (layT t p L).2.1.length) (layT t p L).2.2
      simp only [layAll]
      refine ⟨fun x hx => ?_, fun x hx => ?_⟩
      · rcases List.mem_cons.1 hx with rfl | hx
        · exact e1
        · exact i1 x hx
      · rcases List.mem_append.1 hx with hx | hx
        · exact e2 x hx
        · exact i2 x hx
  simp only [layT]
  by_cases c1 : k = 1
  · simp only [if_pos c1]; exact ⟨of_64 _ _, fun x hx => by simp at hx⟩
  simp only [if_neg c1]
  by_cases c6 : k = 6
  · simp only [if_pos c6]; exact ⟨of_64 _ _, fun x hx => by simp at hx⟩
  simp only [if_neg c6]
  by_cases c3 : k = 3
  · simp only [if_pos c3]; exact ⟨of_64 _ _, fun x hx => by simp at hx⟩
  simp only [if_neg c3]
  by_cases c8 : k = 8
  · simp only [if_pos c8]
    obtain ⟨i1, i2⟩ := hall kids (fun t h => h) (p + 2 * kids.length) L
    refine ⟨by split <;> exact of_64 _ _, fun x hx => ?_⟩
    rcases List.mem_append.1 hx with hx | hx
    · exact pairs_64 _ _ i1 x hx
    · exact i2 x hx
  simp only [if_neg c8]
  obtain ⟨i1, i2⟩ := hall kids (fun t h => h) (p + (front k n f kids.length).length + kids.length) L
  refine ⟨of_64 _ _, fun x hx => ?_⟩
  rcases List.mem_append.1 hx with hx | hx
  · rcases List.mem_append.1 hx with hx | hx
    · exact front_64 hg.1 hf c1 c3 c6 c8 x hx
    · exact i1 x hx
  · exact i2 x hx

theorem lay_tx : ∀ t : Tr, allT goodT t = true → ∀ (p : Nat) (L : List ByteArray), (∀ s, s ∈ L → s.size ≤ 64) → ∀ s, s ∈ (layT t p L).2.2 → s.size ≤ 64 := by
  refine Tr.ind fun k n f s a c kids hk hg p L hL => ?_
  simp only [allT, Bool.and_eq_true] at hg
  have hall : ∀ (l : List Tr), (∀ t, t ∈ l → t ∈ kids) → ∀ p L, (∀ s, s ∈ L → s.size ≤ 64) → ∀ s, s ∈ (layAll l p L).2.2 → s.size ≤ 64 := by
    intro l
    induction l with
    | nil => intro _ p L hL; simpa only [layAll] using hL
    | cons t r ih =>
      intro hl p L hL
      have ht := hl t (List.mem_cons_self ..)
      simp only [layAll]
      exact ih (fun u hu => hl u (List.mem_cons_of_mem _ hu)) _ _ (hk t ht (good_kids hg.2 ht) p L hL)
  simp only [layT]
  by_cases c1 : k = 1
  · simp only [if_pos c1]; exact hL
  simp only [if_neg c1]
  by_cases c6 : k = 6
  · simp only [if_pos c6]; exact hL
  simp only [if_neg c6]
  by_cases c3 : k = 3
  · simp only [if_pos c3]
    have hs : s.size ≤ 64 := by subst c3; have := hg.1; simp [goodT] at this; exact this.1
    intro x hx
    unfold stepL at hx
    split at hx
    · exact hL x hx
    · rcases List.mem_append.1 hx with hx | hx
      · exact hL x hx
      · obtain rfl : x = s := by simpa using hx
        exact hs
  simp only [if_neg c3]
  by_cases c8 : k = 8
  · simp only [if_pos c8]; exact hall kids (fun t h => h) _ _ hL
  simp only [if_neg c8]
  exact hall kids (fun t h => h) _ _ hL

/-- A term's words lie from p on. -/
def LaidAt (ws : List Int) (t : Tr) (u : Int) (p : Nat) : Prop := ∃ L : List ByteArray, u = (layT t p L).1 ∧ ∀ (i : Nat) (x : Int), (layT t p L).2.1[i]? = some x → ws[p + i]? = some x

theorem LaidAt.more {ws : List Int} {t : Tr} {u : Int} {p : Nat} (h : LaidAt ws t u p) (more : List Int) : LaidAt (ws ++ more) t u p := by
  obtain ⟨L, h1, h2⟩ := h
  exact ⟨L, h1, fun i x hi => by have := h2 i x hi; rw [List.getElem?_append_left (get_lt this)]; exact this⟩

/-- A heap with the first m terms of a row, and the words that say them. -/
structure StI (w wr : World) (kids : List Tr) (m hb ab : Nat) (ws : List Int) (L : List ByteArray) (F : List Nat) (a2 : Option Addr) (c2 : Nat) (us : List Int) : Prop where
  hp : HP wr hb ab 16777216 ws L F a2 c2
  wl : ws.length = wAll (kids.take m)
  ll : L.length ≤ cntAll (kids.take m)
  w64 : ∀ x, x ∈ ws → In64 x
  tx : ∀ s, s ∈ L → s.size ≤ 64
  hbB : w.heap.size ≤ hb
  fB : ∀ k, k ∈ F → w.heap.size ≤ k
  gB : ∀ g, a2 = some ⟨g, 0, none⟩ → w.heap.size ≤ g
  be : Below w.heap.size w wr
  ul : us.length = m
  rep : ∀ (j : Nat) (t : Tr) (u : Int), kids[j]? = some t → us[j]? = some u → Rep ws L t u
  lay : ∀ (j : Nat) (t : Tr) (u : Int), kids[j]? = some t → us[j]? = some u → LaidAt ws t u (wAll (kids.take j))

/-- A row of words that is the call's own, beside the heap. -/
structure UsR (w wr : World) (hb : Nat) (F : List Nat) (a2 : Option Addr) (vo : Value) (uo : List Int) : Prop where
  own : wr.ownsRow w.heap.size 51 1 vo uo.length (uo.map fun u => Value.int .u64 u)
  off : ∀ q, vo.ownBlock = some q → q ≠ hb ∧ q ∉ F ∧ ∀ g, a2 = some ⟨g, 0, none⟩ → q ≠ g

theorem row_keep1 {w w' : World} {base : Nat} {v : Value} {n : Nat} {xs : List Value} (h : w.ownsRow base 51 1 v n xs) (hb : ∀ g, v.ownBlock = some g → g < w.heap.size → w'.heap[g]? = w.heap[g]?) : w'.ownsRow base 51 1 v n xs := by
  obtain ⟨hl, h | ⟨g, cap, cur, rfl, h1, h2, h3, h4, h5, h6⟩⟩ := h
  · exact ⟨hl, Or.inl h⟩
  · refine ⟨hl, Or.inr ⟨g, cap, cur, rfl, h1, (hb g rfl ?_).trans h2, h3, h4, h5, h6⟩⟩
    rcases Nat.lt_or_ge g w.heap.size with q | q
    · exact q
    · rw [Array.getElem?_eq_none q] at h2; cases h2

theorem row_lt1 {w : World} {base : Nat} {v : Value} {n : Nat} {xs : List Value} (h : w.ownsRow base 51 1 v n xs) (g : Nat) (hg : v.ownBlock = some g) : base ≤ g ∧ g < w.heap.size := by
  obtain ⟨_, ⟨rfl, _⟩ | ⟨g', cap, cur, rfl, h1, h2, _⟩⟩ := h
  · simp [Value.ownBlock] at hg
  · obtain rfl : g' = g := by simpa [Value.ownBlock] using hg
    refine ⟨h1, ?_⟩
    rcases Nat.lt_or_ge g' w.heap.size with q | q
    · exact q
    · rw [Array.getElem?_eq_none q] at h2; cases h2

theorem gOf_mem {w : World} {hb ab most : Nat} {ws : List Int} {L : List ByteArray} {F : List Nat} {a2 : Option Addr} {c : Nat} (h : HP w hb ab most ws L F a2 c) {k : Nat} (hk : k ∈ gOf a2) : a2 = some ⟨k, 0, none⟩ := by
  cases a2 with
  | none => simp [gOf] at hk
  | some ad =>
    obtain ⟨g, e⟩ := row_head h
    rw [e] at hk ⊢
    simp [gOf] at hk
    rw [hk]

/-- One more is stored. -/
theorem StI.put {w wr w' : World} {kids : List Tr} {m hb ab : Nat} {ws : List Int} {L : List ByteArray} {F F' : List Nat} {a2 a3 : Option Addr} {c2 c3 : Nat} {us : List Int} {t : Tr} {vo : Value} {uo : List Int} (h : StI w wr kids m hb ab ws L F a2 c2 us) (hr : UsR w wr hb F a2 vo uo) (ht : kids[m]? = some t) (he : errT t = 0) (hin : t.In w 0) (hfit : ws.length + wN t ≤ 16777216)
    (hp : HP w' hb ab 16777216 (ws ++ (layT t ws.length L).2.1) (layT t ws.length L).2.2 F' a3 c3) (hF : ∀ k, k ∈ F' → k ∈ F ∨ wr.heap.size ≤ k) (hg : ∀ g, a3 = some ⟨g, 0, none⟩ → a2 = some ⟨g, 0, none⟩ ∨ wr.heap.size ≤ g) (hk : Kept (hb :: gOf a2 ++ F) wr w') :
    StI w w' kids (m + 1) hb ab (ws ++ (layT t ws.length L).2.1) (layT t ws.length L).2.2 F' a3 c3 (us ++ [(layT t ws.length L).1]) ∧ UsR w w' hb F' a3 vo uo := by
  have hl1 := lay_len t ws.length L
  have hl2 := lay_atoms t ws.length L
  have hw2 := wAll_take ht
  have hc2 := cntAll_take ht
  obtain ⟨hgood, _, _⟩ := words_right he
  obtain ⟨x1, x2⟩ := lay_64 t hgood (in_smF t hin) ws.length L
  have hbs := h.be.size
  have hwl := h.wl
  have hll := h.ll
  have hin' : ∀ k, k ∈ hb :: gOf a2 ++ F → w.heap.size ≤ k := fun k hk' => by
    rcases List.mem_append.1 hk' with hk' | hk'
    · rcases List.mem_cons.1 hk' with rfl | hk'
      · exact h.hbB
      · exact h.gB k (gOf_mem h.hp hk')
    · exact h.fB k hk'
  refine ⟨⟨hp, by rw [List.length_append, hl1, hwl, hw2], by omega, fun x hx => ?_, lay_tx t hgood _ _ h.tx, h.hbB, fun k hk' => ?_, fun g e => ?_, h.be.trans (kept_below hk hbs hin'), by simp [h.ul], fun j v u hj hu => ?_, fun j v u hj hu => ?_⟩, ⟨row_keep1 hr.own fun q hq hql => ?_, fun q hq => ?_⟩⟩
  · rcases List.mem_append.1 hx with hx | hx
    · exact h.w64 x hx
    · exact x2 x hx
  · rcases hF k hk' with h' | h'
    · exact h.fB k h'
    · omega
  · rcases hg g e with h' | h'
    · exact h.gB g h'
    · omega
  · rcases Nat.lt_or_ge j us.length with hjl | hjl
    · rw [List.getElem?_append_left hjl] at hu
      exact rep_more (fun i x hi => by rw [List.getElem?_append_left (get_lt hi)]; exact hi) (fun i x hi => lay_keeps t _ _ i x hi) v u (h.rep j v u hj hu)
    · have hjm := get_lt hu
      simp only [List.length_append, List.length_cons, List.length_nil] at hjm
      have hul := h.ul
      obtain rfl : j = m := by omega
      rw [List.getElem?_append_right (by omega)] at hu
      have hz : j - us.length = 0 := by omega
      rw [hz] at hu
      obtain rfl : (layT t ws.length L).1 = u := by simpa using hu
      obtain rfl : t = v := Option.some.inj (ht.symm.trans hj)
      refine lay_says t hgood ws.length L _ _ (fun i x hi => ?_) (by omega) (fun i x hi => hi)
      rw [List.getElem?_append_right (by omega)]
      have e : ws.length + i - ws.length = i := by omega
      rw [e]; exact hi
  · rcases Nat.lt_or_ge j us.length with hjl | hjl
    · rw [List.getElem?_append_left hjl] at hu
      exact (h.lay j v u hj hu).more _
    · have hjm := get_lt hu
      simp only [List.length_append, List.length_cons, List.length_nil] at hjm
      have hul := h.ul
      obtain rfl : j = m := by omega
      rw [List.getElem?_append_right (by omega)] at hu
      have hz : j - us.length = 0 := by omega
      rw [hz] at hu
      obtain rfl : (layT t ws.length L).1 = u := by simpa using hu
      obtain rfl : t = v := Option.some.inj (ht.symm.trans hj)
      rw [← hwl]
      refine ⟨L, rfl, fun i x hi => ?_⟩
      rw [List.getElem?_append_right (by omega)]
      have e : ws.length + i - ws.length = i := by omega
      rw [e]; exact hi
  · obtain ⟨o1, o2, o3⟩ := hr.off q hq
    refine hk.block q hql fun hmem => ?_
    rcases List.mem_append.1 hmem with hm | hm
    · rcases List.mem_cons.1 hm with hm | hm
      · exact o1 hm
      · exact o3 q (gOf_mem h.hp hm) rfl
    · exact o2 hm
  · obtain ⟨o1, o2, o3⟩ := hr.off q hq
    have hql := (row_lt1 hr.own q hq).2
    refine ⟨o1, fun hm => ?_, fun g e => ?_⟩
    · rcases hF q hm with h' | h'
      · exact o2 h'
      · omega
    · rcases hg g e with h' | h'
      · exact o3 g h'
      · omega
end Go.Proofs.YtmijabhnbmmmfaaGreat


/- append of words to a row of the call's own, with what the whole of its room holds. -/
namespace Go.Proofs.YtmijabhnbmmmfaaGreat
open Go.RowKit Go.Deep

/-- All cells of a slice's block are words. -/
def SpU (w : World) (v : Value) : Prop := ∀ q, v.ownBlock = some q → ∀ cur e fr, w.heap[q]? = some (.cells cur e fr) → ∀ (j : Nat) (x : Value), cur[j]? = some x → ∃ u : Int, x = .int .u64 u

theorem SpU.at {w w' : World} {v : Value} (h : SpU w v) (e : ∀ q, v.ownBlock = some q → w'.heap[q]? = w.heap[q]?) : SpU w' v := fun q hq cur t fr hc => h q hq cur t fr (by rw [← e q hq]; exact hc)

theorem zc_words (n j : Nat) (x : Value) (h : (Builtin.zeroCells #[Value.int .u64 0] n)[j]? = some x) : x = .int .u64 0 := by
  rw [zeroCells_one] at h
  rw [Array.getElem?_replicate] at h
  split at h
  · exact (Option.some.inj h).symm
  · cases h

theorem arr3 {a b c : Array Value} {j : Nat} {x : Value} (h : (a ++ b ++ c)[j]? = some x) : (∃ i : Nat, a[i]? = some x) ∨ (∃ i : Nat, b[i]? = some x) ∨ ∃ i : Nat, c[i]? = some x := by
  have hm : x ∈ a ++ b ++ c := Array.mem_of_getElem? h
  rw [Array.mem_append, Array.mem_append] at hm
  rcases hm with (hm | hm) | hm
  · exact .inl (Array.getElem?_of_mem hm)
  · exact .inr (.inl (Array.getElem?_of_mem hm))
  · exact .inr (.inr (Array.getElem?_of_mem hm))

theorem run_appU {w : World} {base : Nat} {v : Value} {n : Nat} {xs : List Value} (ty : TypeId) (hown : w.ownsRow base 51 1 v n xs) (hsp : SpU w v) (ad : Addr) (m c : Nat) (news : List Value) (hl : news.length = m) (hc : ∀ j u, news[j]? = some u → w.cell? (ad.add j) = some u) (h1 : ∀ u ∈ news, u.oneCell' = true) (hw : ∀ u ∈ news, ∃ i : Int, u = .int .u64 i) (hm : 0 < m) (z1 : n + m ≤ maxLen) (z2 : (n + m) * 8 ≤ 140737488355328) (hb : base ≤ w.heap.size) :
    ∃ g cap w', (Builtin.append_ #[59, 59] ty #[v, .slice (some ad) m c]).run Tryz.prog w = .ok (.slice (some ⟨g, 0, none⟩) (n + m) cap) w' ∧ w'.ownsRow base 51 1 (.slice (some ⟨g, 0, none⟩) (n + m) cap) (n + m) (xs ++ news) ∧ w.grownBy w' v.ownBlock ∧ (v.ownBlock = some g ∨ g = w.heap.size) ∧ SpU w' (.slice (some ⟨g, 0, none⟩) (n + m) cap) := by
  obtain ⟨i0, hi, hz0, hz1, hz2⟩ := info_parts infoW
  obtain ⟨g, cap, w', hr, h2, h3, h4, h5⟩ := run_append_lies (P := Tryz.prog) w 59 ty base 51 i0 (.int .u64 0) 1 8 Tryz.underlying59 hi hz0 hz1 hz2 rfl (by decide) v n xs hown ad m c news (by omega) hc h1 hm z1 z2 hb _ rfl
  refine ⟨g, cap, w', hr, h2, h3, h4, ?_⟩
  have hm63 : n + m ≤ 9223372036854775807 := by simp only [maxLen] at z1; omega
  have key : ∀ (arr : Array Value) (t : TypeId) (fr : Nat × Nat), w'.heap[g]? = some (.cells arr t fr) → (∀ (j : Nat) (x : Value), arr[j]? = some x → ∃ u : Int, x = .int .u64 u) → SpU w' (.slice (some ⟨g, 0, none⟩) (n + m) cap) := by
    intro arr t fr ha hx q hq cur e fr' hcur j x hj
    obtain rfl : g = q := by simpa [Value.ownBlock] using hq
    rw [ha] at hcur
    obtain rfl : arr = cur := by simp at hcur; exact hcur.1
    exact hx j x hj
  have hN : ∀ (j : Nat) (x : Value), news.toArray[j]? = some x → ∃ u : Int, x = .int .u64 u := fun j x hj => hw x (List.mem_of_getElem? (i := j) (by simpa using hj))
  rcases hown.2 with ⟨rfl, rfl⟩ | ⟨g0, cap0, cur, rfl, hbg, hg, hnc, hcm, hcs, htake⟩
  · have hx : xs = [] := List.eq_nil_of_length_eq_zero (by simpa using hown.1)
    subst hx
    have hr2 := run_append_nil (P := Tryz.prog) w 59 ty 51 i0 (.int .u64 0) Tryz.underlying59 hi hz0 ad m c news (by rw [hz1]; omega) hc hm (by omega) (by rw [hz2]; omega)
    rw [hr2] at hr
    simp only [Result.ok.injEq, Value.slice.injEq, Option.some.injEq, Addr.mk.injEq] at hr
    obtain ⟨⟨⟨hgg, _⟩, _⟩, hww⟩ := hr
    refine key _ _ _ (by rw [← hww, ← hgg]; exact heap_alloc_new w.drew _) fun j x hj => ?_
    have hj' : (#[] ++ news.toArray ++ Builtin.zeroCells (Value.cells (.int .u64 0)) (grownCap w m 0 51 - m))[j]? = some x := by simpa using hj
    rcases arr3 hj' with ⟨i, h⟩ | ⟨i, h⟩ | ⟨i, h⟩
    · simp at h
    · exact hN i x h
    · exact ⟨0, zc_words _ _ _ h⟩
  · have hO : ∀ (j : Nat) (x : Value), cur[j]? = some x → ∃ u : Int, x = .int .u64 u := hsp g0 rfl cur _ _ hg
    have hxs : ∀ (j : Nat) (x : Value), xs.toArray[j]? = some x → ∃ u : Int, x = .int .u64 u := fun j x hj => by
      have : (cur.toList.take (n * 1))[j]? = some x := by rw [htake]; simpa using hj
      rw [List.getElem?_take] at this
      split at this
      · exact hO j x (by simpa using this)
      · cases this
    by_cases hroom : n + m ≤ cap0
    · have hfit : n * i0.size + news.length ≤ cur.size := by rw [hz1, hl, hcs]; omega
      have hr2 := run_append_room (P := Tryz.prog) w 59 ty 51 i0 Tryz.underlying59 hi g0 n cap0 cur hg ad m c news (by rw [hz1]; omega) hc h1 hroom hfit
      rw [hr2] at hr
      simp only [Result.ok.injEq, Value.slice.injEq, Option.some.injEq, Addr.mk.injEq] at hr
      obtain ⟨⟨⟨hgg, _⟩, _⟩, hww⟩ := hr
      refine key _ _ _ (by rw [← hww, ← hgg]; exact setRow_heap w g0 cur _ _ _ hg) fun j x hj => ?_
      have hmem : x ∈ cur.toList.take (n * i0.size) ++ news ++ cur.toList.drop (n * i0.size + news.length) := List.mem_of_getElem? (i := j) (by simpa using hj)
      rcases List.mem_append.1 hmem with hmem | hmem
      · rcases List.mem_append.1 hmem with hmem | hmem
        · obtain ⟨i, hi'⟩ := List.getElem?_of_mem (List.mem_of_mem_take hmem)
          exact hO i x (by simpa using hi')
        · exact hw x hmem
      · obtain ⟨i, hi'⟩ := List.getElem?_of_mem (List.mem_of_mem_drop hmem)
        exact hO i x (by simpa using hi')
    · have holds : ∀ j u, xs[j]? = some u → w.cell? ((⟨g0, 0, none⟩ : Addr).add j) = some u := hown.cells (g := g0) rfl
      have hr2 := run_append_grow (P := Tryz.prog) w 59 ty 51 i0 (.int .u64 0) Tryz.underlying59 hi hz0 ⟨g0, 0, none⟩ n cap0 xs (by rw [hz1]; exact hown.1) holds ad m c news (by rw [hz1]; omega) hc (by omega) (by omega) (by rw [hz2]; exact growslice_fits (by omega) z2)
      rw [hr2] at hr
      simp only [Result.ok.injEq, Value.slice.injEq, Option.some.injEq, Addr.mk.injEq] at hr
      obtain ⟨⟨⟨hgg, _⟩, _⟩, hww⟩ := hr
      refine key _ _ _ (by rw [← hww, ← hgg]; exact heap_alloc_new w.drew _) fun j x hj => ?_
      rcases arr3 hj with ⟨i, h⟩ | ⟨i, h⟩ | ⟨i, h⟩
      · exact hxs i x h
      · exact hN i x h
      · exact ⟨0, zc_words _ _ _ h⟩

theorem step_appW {ops : Array Oper} {o : Oper} {a : Act} {w : World} {K : Act → World → Prop} {Q : Exit → Act → World → Prop} {E : Prop} (hg : o.guard = none) (s x : Operand)
    (hop : o.op = Op.call { callee := .builtin .append, args := #[s, x], argTypes := #[59, 59] }) (base : Nat) (v : Value) (n : Nat) (xs : List Value) (hs : a.eval s = v) (how : w.ownsRow base 51 1 v n xs) (hsp : SpU w v)
    (ad : Addr) (m c : Nat) (news : List Value) (hl : news.length = m) (hx : a.eval x = .slice (some ad) m c) (hc : ∀ j u, news[j]? = some u → w.cell? (ad.add j) = some u) (h1 : ∀ u ∈ news, u.oneCell' = true) (hw : ∀ u ∈ news, ∃ i : Int, u = .int .u64 i) (hm : 0 < m) (z1 : n + m ≤ maxLen) (z2 : (n + m) * 8 ≤ 140737488355328) (hb : base ≤ w.heap.size)
    (h : ∀ g cap w', w'.ownsRow base 51 1 (.slice (some ⟨g, 0, none⟩) (n + m) cap) (n + m) (xs ++ news) → w.grownBy w' v.ownBlock → (v.ownBlock = some g ∨ g = w.heap.size) → SpU w' (.slice (some ⟨g, 0, none⟩) (n + m) cap) → K (a.put o.dst (.slice (some ⟨g, 0, none⟩) (n + m) cap)) w') :
    if Region.wanted o (yielded ops a.tmps) = true then Oper.wp Tryz.prog o a w K Q else E := by
  have hwn : Region.wanted o (yielded ops a.tmps) = true := by simp [Region.wanted, hg]
  rw [if_pos hwn]
  obtain ⟨g, cap, w', hr, h2, h3, h4, h5⟩ := run_appU o.type how hsp ad m c news hl hc h1 hw hm z1 z2 hb
  unfold Oper.wp execOp
  simp only [hop, resolve, invoke, builtin, Sem.run_bind, Sem.run_pure, Result.andThen_ok, List.map_toArray, List.map_cons, List.map_nil, hs, hx, hr]
  exact h g cap w' h2 h3 h4 h5
end Go.Proofs.YtmijabhnbmmmfaaGreat


