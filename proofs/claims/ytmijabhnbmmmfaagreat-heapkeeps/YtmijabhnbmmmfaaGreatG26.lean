import Derived.Test.YtmijabhnbmmmfaaGreatG25
/- What is laid says the term. -/
namespace Go.Proofs.YtmijabhnbmmmfaaGreat
open Go.RowKit Go.Deep

/-- What laying must give: the word says the term. -/
def SaysIt (t : Tr) : Prop := ∀ (p : Nat) (L : List ByteArray) (ws : List Int) (L2 : List ByteArray), (∀ (i : Nat) (x : Int), (layT t p L).2.1[i]? = some x → ws[p + i]? = some x) → p + wN t ≤ 16777216 → (∀ (i : Nat) (x : ByteArray), (layT t p L).2.2[i]? = some x → L2[i]? = some x) → Rep ws L2 t (layT t p L).1

theorem says_all {ws : List Int} {L2 : List ByteArray} : ∀ (l : List Tr), (∀ t, t ∈ l → SaysIt t) → ∀ (b q : Nat) (L : List ByteArray), (∀ (j : Nat) (x : Int), (layAll l b L).1[j]? = some x → ws[q + j]? = some x) → (∀ (i : Nat) (x : Int), (layAll l b L).2.1[i]? = some x → ws[b + i]? = some x) → b + wAll l ≤ 16777216 → (∀ (i : Nat) (x : ByteArray), (layAll l b L).2.2[i]? = some x → L2[i]? = some x) → RepAll ws L2 l q := by
  intro l
  induction l with
  | nil => intro _ b q L _ _ _ _; unfold RepAll; trivial
  | cons t r ih =>
    intro hk b q L h1 h2 h3 h4
    have hl := lay_len t b L
    simp only [layAll] at h1 h2 h4
    simp only [wAll] at h3
    unfold RepAll
    refine ⟨⟨(layT t b L).1, by simpa using h1 0 _ rfl, hk t (List.mem_cons_self ..) b L ws L2 (fun i x hi => ?_) (by omega) (fun i x hi => h4 i x (layAll_keeps r _ _ i x hi))⟩, ?_⟩
    · refine h2 i x ?_
      have hil : i < (layT t b L).2.1.length := by
        rcases Nat.lt_or_ge i (layT t b L).2.1.length with q | q
        · exact q
        · rw [List.getElem?_eq_none q] at hi; simp at hi
      rw [List.getElem?_append_left hil]; exact hi
    · refine ih (fun u hu => hk u (List.mem_cons_of_mem _ hu)) (b + (layT t b L).2.1.length) (q + 1) (layT t b L).2.2 (fun j x hj => ?_) (fun i x hi => ?_) (by rw [hl]; omega) h4
      · have e : q + 1 + j = q + (j + 1) := by omega
        rw [e]
        exact h1 (j + 1) x (by simpa using hj)
      · have e : b + (layT t b L).2.1.length + i = b + ((layT t b L).2.1.length + i) := by omega
        rw [e]
        refine h2 _ x ?_
        rw [List.getElem?_append_right (by omega)]
        simpa using hi

theorem says_list {ws : List Int} {L2 : List ByteArray} : ∀ (l : List Tr), (∀ t, t ∈ l → SaysIt t) → ∀ (b p : Nat) (L : List ByteArray), (∀ (j : Nat) (x : Int), (pairs (layAll l b L).1 p)[j]? = some x → ws[p + j]? = some x) → (∀ (i : Nat) (x : Int), (layAll l b L).2.1[i]? = some x → ws[b + i]? = some x) → b + wAll l ≤ 16777216 → p + 2 * l.length ≤ 16777216 → (∀ (i : Nat) (x : ByteArray), (layAll l b L).2.2[i]? = some x → L2[i]? = some x) → RepL ws L2 l (if l.length = 0 then ofW 4 0 else ofW 6 p) := by
  intro l
  induction l with
  | nil => intro _ b p L _ _ _ _ _; unfold RepL; simp
  | cons t r ih =>
    intro hk b p L h1 h2 h3 hp h4
    have hl := lay_len t b L
    simp only [layAll] at h1 h2 h4
    simp only [wAll] at h3
    simp only [List.length_cons] at hp
    rw [if_neg (by simp)]
    unfold RepL
    have hfirst : ∀ (i : Nat) (x : Int), (layT t b L).2.1[i]? = some x → ws[b + i]? = some x := fun i x hi => by
      refine h2 i x ?_
      have hil : i < (layT t b L).2.1.length := by
        rcases Nat.lt_or_ge i (layT t b L).2.1.length with q | q
        · exact q
        · rw [List.getElem?_eq_none q] at hi; simp at hi
      rw [List.getElem?_append_left hil]; exact hi
    have hrest : ∀ (i : Nat) (x : Int), (layAll r (b + (layT t b L).2.1.length) (layT t b L).2.2).2.1[i]? = some x → ws[b + (layT t b L).2.1.length + i]? = some x := fun i x hi => by
      have e : b + (layT t b L).2.1.length + i = b + ((layT t b L).2.1.length + i) := by omega
      rw [e]
      refine h2 _ x ?_
      rw [List.getElem?_append_right (by omega)]
      simpa using hi
    have hkeep : ∀ (i : Nat) (x : ByteArray), (layT t b L).2.2[i]? = some x → L2[i]? = some x := fun i x hi => h4 i x (layAll_keeps r _ _ i x hi)
    have hrl := (layAll_len r (b + (layT t b L).2.1.length) (layT t b L).2.2).1
    have hR := ih (fun u hu => hk u (List.mem_cons_of_mem _ hu)) (b + (layT t b L).2.1.length) (p + 2) (layT t b L).2.2
    generalize layAll r (b + (layT t b L).2.1.length) (layT t b L).2.2 = Y at h1 h4 hrest hrl hR
    refine ⟨p, rfl, by omega, ⟨(layT t b L).1, ?_, hk t (List.mem_cons_self ..) b L ws L2 hfirst (by omega) hkeep⟩, ?_⟩
    · obtain ⟨y1, y2⟩ := Y
      cases y1 with
      | nil => exact h1 0 _ rfl
      | cons z zs => exact h1 0 _ rfl
    · refine ⟨if r.length = 0 then ofW 4 0 else ofW 6 ((p + 2 : Nat) : Int), ?_, ?_⟩
      · obtain ⟨y1, y2⟩ := Y
        cases y1 with
        | nil =>
          simp only [List.length_nil] at hrl
          rw [if_pos hrl.symm]
          exact h1 1 _ rfl
        | cons z zs =>
          simp only [List.length_cons] at hrl
          rw [if_neg (by omega)]
          exact h1 1 _ rfl
      · refine hR (fun j x hj => ?_) hrest (by rw [hl]; omega) (by omega) h4
        obtain ⟨y1, y2⟩ := Y
        cases y1 with
        | nil => simp [pairs] at hj
        | cons z zs =>
          have e : p + 2 + j = p + (j + 2) := by omega
          rw [e]
          exact h1 (j + 2) x (by simpa only [pairs, List.getElem?_cons_succ] using hj)

theorem lay_says : ∀ t : Tr, allT goodT t = true → SaysIt t := by
  refine Tr.ind fun k n f s a c kids hk hg p L ws L2 h1 h2 h3 => ?_
  simp only [allT, Bool.and_eq_true] at hg
  have hkids : ∀ t, t ∈ kids → SaysIt t := fun t ht => hk t ht (good_kids hg.2 ht)
  simp only [layT] at h1 h3 ⊢
  simp only [wN] at h2
  unfold Rep
  by_cases c1 : k = 1
  · simp only [if_pos c1]
  simp only [if_neg c1] at h1 h2 h3 ⊢
  by_cases c6 : k = 6
  · simp only [if_pos c6]
  simp only [if_neg c6] at h1 h2 h3 ⊢
  by_cases c3 : k = 3
  · simp only [if_pos c3] at h1 h3 ⊢
    have hs : s.size ≤ 64 := by subst c3; have := hg.1; simp [goodT] at this; exact this.1
    obtain ⟨g1, g2⟩ := stepL_has L s hs
    exact ⟨pos L s, by rw [g2], h3 _ _ g1⟩
  simp only [if_neg c3] at h1 h2 h3 ⊢
  by_cases c8 : k = 8
  · simp only [if_pos c8] at h1 h2 h3 ⊢
    have hl := layAll_len kids (p + 2 * kids.length) L
    refine says_list kids hkids (p + 2 * kids.length) p L (fun j x hj => h1 j x ?_) (fun i x hi => ?_) (by omega) (by omega) h3
    · have hjl : j < (pairs (layAll kids (p + 2 * kids.length) L).1 p).length := by
        rcases Nat.lt_or_ge j (pairs (layAll kids (p + 2 * kids.length) L).1 p).length with q | q
        · exact q
        · rw [List.getElem?_eq_none q] at hj; cases hj
      rw [List.getElem?_append_left hjl]; exact hj
    · have e : p + 2 * kids.length + i = p + (2 * kids.length + i) := by omega
      rw [e]
      refine h1 _ x ?_
      rw [List.getElem?_append_right (by rw [pairs_len, hl.1]; omega), pairs_len, hl.1]
      have e2 : 2 * kids.length + i - 2 * kids.length = i := by omega
      rw [e2]; exact hi
  simp only [if_neg c8] at h1 h2 h3 ⊢
  have hl := layAll_len kids (p + (front k n f kids.length).length + kids.length) L
  refine ⟨p, rfl, by omega, fun i x hi => h1 i x ?_, says_all kids hkids (p + (front k n f kids.length).length + kids.length) (p + (front k n f kids.length).length) L (fun j x hj => ?_) (fun i x hi => ?_) (by omega) h3⟩
  · have hil : i < (front k n f kids.length).length := by
      rcases Nat.lt_or_ge i (front k n f kids.length).length with q | q
      · exact q
      · rw [List.getElem?_eq_none q] at hi; cases hi
    rw [List.append_assoc, List.getElem?_append_left hil]; exact hi
  · have hjl : j < kids.length := by
      rcases Nat.lt_or_ge j kids.length with q | q
      · exact q
      · rw [List.getElem?_eq_none (by rw [hl.1]; exact q)] at hj; cases hj
    have e : p + (front k n f kids.length).length + j = p + ((front k n f kids.length).length + j) := by omega
    rw [e]
    refine h1 _ x ?_
    rw [List.append_assoc, List.getElem?_append_right (by omega), List.getElem?_append_left (by rw [hl.1]; omega)]
    have e2 : (front k n f kids.length).length + j - (front k n f kids.length).length = j := by omega
    rw [e2]; exact hj
  · have e : p + (front k n f kids.length).length + kids.length + i = p + ((front k n f kids.length).length + kids.length + i) := by omega
    rw [e]
    refine h1 _ x ?_
    rw [List.getElem?_append_right (by rw [List.length_append, hl.1]; omega), List.length_append, hl.1]
    have e2 : (front k n f kids.length).length + kids.length + i - ((front k n f kids.length).length + kids.length) = i := by omega
    rw [e2]; exact hi
end Go.Proofs.YtmijabhnbmmmfaaGreat


/- Words that are made, taken to pieces; what stands alone. -/
namespace Go.Proofs.YtmijabhnbmmmfaaGreat
open Go.RowKit Go.Deep
attribute [local go_sem] store_float f64bits f64frombits
attribute [local go_sem ↓] Go.wp_at_zero Go.wp_at_succ

/-- A word that may be: its pieces. -/
theorem of_made {t b : Int} (h1 : 1 ≤ t) (h2 : t ≤ 8) (hm : mayB t b = true) : tagI (ofW t b) = t ∧ bodyI (ofW t b) = b ∧ 0 ≤ ofW t b ∧ ofW t b ≤ 18446744073709551615 ∧ wRightB (ofW t b) = true := by
  have htb : tagB t = true := by simp [tagB]; omega
  have hlim : (t = 1 ∧ -576460752303423488 ≤ b ∧ b ≤ 576460752303423487) ∨ (t ≠ 1 ∧ 0 ≤ b ∧ b ≤ 1099511627776) := by
    unfold mayB at hm
    split at hm
    · left; simp at hm; exact ⟨by assumption, hm⟩
    · right
      split at hm
      · simp at hm; exact ⟨by assumption, by omega, by omega⟩
      · simp at hm; exact ⟨by assumption, hm⟩
  have e : ofW t b = joinI t b := by simp [ofW, htb, hm]
  have ht : tagI (joinI t b) = t := by unfold tagI joinI; omega
  have hb : bodyI (joinI t b) = b := by
    unfold bodyI joinI
    rcases hlim with ⟨rfl, q1, q2⟩ | ⟨q0, q1, q2⟩
    · split <;> omega
    · split
      · rename_i hc; omega
      · omega
  rw [e]
  refine ⟨ht, hb, ?_, ?_, ?_⟩
  · unfold joinI; omega
  · unfold joinI; omega
  · unfold wRightB
    rw [ht, hb]
    simp [ofE, htb, hm, e]

/-- What a word says by itself. -/
def aloneK (u : Int) : Int := if tagI u = 1 then 1 else if tagI u = 3 then 6 else if tagI u = 4 then 8 else 3
def aloneN (u : Int) : Int := if tagI u = 1 ∨ tagI u = 3 then bodyI u else 0
def aloneS (L : List ByteArray) (u : Int) : ByteArray := if tagI u = 2 then txOf L (bodyI u) else ⟨#[]⟩
def aloneB (L : List ByteArray) (u : Int) : Bool := if tagI u = 2 then txIs L (bodyI u) else true

set_option maxHeartbeats 1600000 in
set_option maxRecDepth 100000 in
theorem alone_ok {w : World} {hb ab most : Nat} {ws : List Int} {L : List ByteArray} {F : List Nat} {a : Option Addr} {c : Nat} (h : HP w hb ab most ws L F a c) (u : Int) (h0 : 0 ≤ u) (h1 : u ≤ 18446744073709551615) (hr : wRightB u = true) (ht : tagI u = 1 ∨ tagI u = 2 ∨ tagI u = 3 ∨ tagI u = 4) :
    Calls Tryz.prog 52 #[.pointer (some ⟨hb, 0, none⟩), .int .u64 u] w fun e w' => e = .returned (.tuple #[.agg #[.int .i64 (aloneK u), .int .i64 (aloneN u), .float .f64 0, .string (aloneS L u), .slice none 0 0], .bool (aloneB L u)]) ∧ Below w.heap.size w w' := by
  have RT := hidb (right_any u h0 h1)
  rw [hr] at RT
  have TG := hidb (tag_any u h0 h1)
  have BD := hidb (body_any u h0 h1)
  have TB := hidb (fun w' (hb' : Below w.heap.size w w') => table_any (h.keep hb').tri)
  have TX := hidb (fun w' (hb' : Below w.heap.size w w') => text_any (h.keep hb').tab (bodyI u))
  clear h hr
  unfold aloneK aloneN aloneS aloneB
  generalize tagI u = T at *
  generalize bodyI u = B at *
  rcases ht with rfl | rfl | rfl | rfl
  · go_enter Tryz.func52, Tryz.ntmps52
    go_wp2_with (first | (go_at_call 82; refine (RT.out _).mono ?_; rintro e w' ⟨rfl, rfl⟩) | (go_at_call 81; refine (TG.out _).mono ?_; rintro e w' ⟨rfl, rfl⟩) | (go_at_call 78; refine (BD.out _).mono ?_; rintro e w' ⟨rfl, rfl⟩))
    exact bodyPost_ret (v := .tuple #[.agg #[.int .i64 1, .int .i64 B, .float .f64 0, .string ⟨#[]⟩, .slice none 0 0], .bool true]) (by simp [results, Tryz.results52, go_sem]) rfl ⟨rfl, below_new w _⟩
  · generalize txOf L B = S at *
    generalize txIs L B = I at *
    go_enter Tryz.func52, Tryz.ntmps52
    go_wp2_with (first | (go_at_call 82; refine (RT.out _).mono ?_; rintro e w' ⟨rfl, rfl⟩) | (go_at_call 81; refine (TG.out _).mono ?_; rintro e w' ⟨rfl, rfl⟩) | (go_at_call 78; refine (BD.out _).mono ?_; rintro e w' ⟨rfl, rfl⟩) | (go_at_call 42; refine (TB.out _ (below_new w _)).mono ?_; rintro e w' ⟨rfl, rfl⟩) | (go_at_call 83; refine (TX.out _ (below_new w _)).mono ?_; rintro e w' ⟨rfl, rfl⟩))
    exact bodyPost_ret (v := .tuple #[.agg #[.int .i64 3, .int .i64 0, .float .f64 0, .string S, .slice none 0 0], .bool I]) (by simp [results, Tryz.results52, go_sem]) rfl ⟨rfl, below_new w _⟩
  · go_enter Tryz.func52, Tryz.ntmps52
    go_wp2_with (first | (go_at_call 82; refine (RT.out _).mono ?_; rintro e w' ⟨rfl, rfl⟩) | (go_at_call 81; refine (TG.out _).mono ?_; rintro e w' ⟨rfl, rfl⟩) | (go_at_call 78; refine (BD.out _).mono ?_; rintro e w' ⟨rfl, rfl⟩))
    exact bodyPost_ret (v := .tuple #[.agg #[.int .i64 6, .int .i64 B, .float .f64 0, .string ⟨#[]⟩, .slice none 0 0], .bool true]) (by simp [results, Tryz.results52, go_sem]) rfl ⟨rfl, below_new w _⟩
  · go_enter Tryz.func52, Tryz.ntmps52
    go_wp2_with (first | (go_at_call 82; refine (RT.out _).mono ?_; rintro e w' ⟨rfl, rfl⟩) | (go_at_call 81; refine (TG.out _).mono ?_; rintro e w' ⟨rfl, rfl⟩) | (go_at_call 78; refine (BD.out _).mono ?_; rintro e w' ⟨rfl, rfl⟩))
    exact bodyPost_ret (v := .tuple #[.agg #[.int .i64 8, .int .i64 0, .float .f64 0, .string ⟨#[]⟩, .slice none 0 0], .bool true]) (by simp [results, Tryz.results52, go_sem]) rfl ⟨rfl, below_new w _⟩
end Go.Proofs.YtmijabhnbmmmfaaGreat


