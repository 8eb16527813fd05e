import Derived.Test.YtggpbfmdhenjdaaG20
/- Put that refuses; Take of nothing; whole numbers as terms. -/
namespace Go.Proofs.Ytggpbfmdhenjdaa
open Go.RowKit Go.Deep
attribute [local go_sem] store_float f64bits
attribute [local go_sem ↓] Go.wp_at_zero Go.wp_at_succ
variable {w : World} {bb place most puts : Nat} {ms : List Msg} {R : Nat → Prop}

set_option maxHeartbeats 400000 in
set_option maxRecDepth 100000 in
theorem putB_err (t : Tr) (hin : t.In w 0) (hs : Small t) (he : (errT t == 0) = false) :
    Calls Try.prog 9 #[.pointer (some ⟨bb, 0, none⟩), t.val] w fun e w' => e = .returned (.int .i64 (errT t)) ∧ Below w.heap.size w w' := by
  have WD := hidb (fun w' hb => words_t t w' (in_below (w := w) hb hin) hs)
  generalize errT t = E at *
  generalize wordsT t = Wd at *
  obtain ⟨k, n, f, s, a, c, kids⟩ := t
  clear hin hs
  show Calls Try.prog 9 #[.pointer (some ⟨bb, 0, none⟩), .agg #[.int .i64 k, .int .i64 n, .float .f64 f, .string s, .slice a kids.length c]] w _
  go_enter Try.func9, Try.ntmps9
  go_wp2_with (first
    | (go_at_call 21; refine (WD.out _ (below_new w _)).mono ?_; rintro e w1 ⟨rfl, hb1⟩; have HB2 := hidb (box_then (Below.refl _ _) hb1); clear hb1 WD))
  go_ret
  exact ⟨rfl, box_below HB2.out⟩

set_option maxHeartbeats 400000 in
set_option maxRecDepth 100000 in
theorem putB_full (t : Tr) (W2 : Nat) (h : BX w bb ms place most puts R) (hin : t.In w 0) (hs : Small t) (he : errT t = 0) (hw2 : wordsT t = (W2 : Int)) (hW2 : W2 ≤ 65536) (hfit : most < wds ms + (W2 + 2)) (_hmost : most ≤ 16777216) (hwd : wds ms ≤ most) :
    Calls Try.prog 9 #[.pointer (some ⟨bb, 0, none⟩), t.val] w fun e w' => e = .returned (.int .i64 12) ∧ Below w.heap.size w w' := by
  have WD := hidb (fun w' hb => words_t t w' (in_below (w := w) hb hin) hs)
  rw [he, hw2] at WD
  have HB := hidb h
  obtain ⟨k, n, f, s, a, c, kids⟩ := t
  clear hin hs he hw2 h
  show Calls Try.prog 9 #[.pointer (some ⟨bb, 0, none⟩), .agg #[.int .i64 k, .int .i64 n, .float .f64 f, .string s, .slice a kids.length c]] w _
  have hW : IntKind.i64.wrap ((W2 : Int) + 2) = (W2 : Int) + 2 := by rw [IntKind.wrap_i64]; omega
  have hsub : IntKind.i64.wrap ((most : Int) - (wds ms : Int)) = (most : Int) - (wds ms : Int) := by rw [IntKind.wrap_i64]; omega
  have hcmp : (most : Int) - (wds ms : Int) < (W2 : Int) + 2 := by omega
  go_enter Try.func9, Try.ntmps9
  go_wp2_with (first
    | (go_at_call 21; refine (WD.out _ (below_new w _)).mono ?_; rintro e w1 ⟨rfl, hb1⟩; have HB2 := hidb (box_then (Below.refl _ _) hb1); clear hb1 WD))
  have HX1 := hidb (HB.out.keep (box_below HB2.out))
  obtain ⟨c4, -⟩ := HX1.out.box.1 4 _ rfl
  obtain ⟨c5, -⟩ := HX1.out.box.1 5 _ rfl
  go_region_held3 (fun w' => w'.cell? ⟨bb, 4, none⟩ = some (.int .i64 (wds ms : Int)) ∧ w'.cell? ⟨bb, 5, none⟩ = some (.int .i64 (most : Int))) (first | go_keep) (first | fail)
  go_wp2_with fail
  go_ret
  exact ⟨rfl, (box_below HB2.out).drew⟩

/-- A whole number as a term. -/
def numT (k : Int) : Tr := .mk 1 k 0 ⟨#[]⟩ none 0 []
theorem numT_in (k : Int) (h1 : 0 ≤ k) (h2 : k ≤ 1000) (w : World) : (numT k).In w 0 := by
  unfold numT Tr.In
  refine ⟨⟨by decide, ?_, by decide, by show 0 ≤ maxLen; omega, by simp, by simp, fun _ => rfl⟩, fun ad h => by simp at h⟩
  have e0 : IntKind.i64.min = -9223372036854775808 := by decide
  have e1 : IntKind.i64.max = 9223372036854775807 := by decide
  simp only [Lit.wf, e0, e1, Bool.and_eq_true, decide_eq_true_eq]
  omega
theorem numT_on (k : Int) (S : Nat → Prop) : (numT k).On S := by unfold numT Tr.On Tr.OnAll; exact ⟨fun h => by simp at h, trivial⟩
theorem numT_small (k : Int) : Small (numT k) := by unfold numT Small SmallAll; exact ⟨by simp, trivial⟩
theorem numT_err (k : Int) (h1 : 0 ≤ k) (h2 : k ≤ 1000) : errT (numT k) = 0 ∧ wordsT (numT k) = 0 := by
  have h : whB k = true := by simp [whB]; omega
  have e : errT (numT k) = 0 := by simp [errT, numT, meas, measAll, own, allT, allAll, goodT, rightB, h, ByteArray.toList_eq]
  refine ⟨e, ?_⟩
  unfold wordsT
  rw [if_pos e]
  simp [numT, meas, measAll, own]
theorem sm_num {k : Int} {t : Tr} (h : Sm (numT k) t) : ∃ a c, t = .mk 1 k 0 ⟨#[]⟩ a c [] := by
  obtain ⟨k', n', f', s', a', c', kids'⟩ := t
  unfold numT Sm at h
  obtain ⟨rfl, rfl, rfl, rfl, h⟩ := h
  cases kids' with
  | nil => exact ⟨a', c', rfl⟩
  | cons => simp [SmA] at h
end Go.Proofs.Ytggpbfmdhenjdaa


/- The chapter's examples. -/
namespace Go.Proofs.Ytggpbfmdhenjdaa
open Go.RowKit Go.Deep
attribute [local go_sem] store_float f64bits
attribute [local go_sem ↓] Go.wp_at_zero Go.wp_at_succ

/-- Messages that are whole numbers. -/
def NumB (ms : List Msg) (ks : List Int) : Prop := ms.map Msg.n = ks ∧ ∀ m : Msg, m ∈ ms → m.k = 1 ∧ m.f = 0 ∧ m.s = ⟨#[]⟩ ∧ m.kids = [] ∧ m.wd = 2

theorem NumB.snoc {ms : List Msg} {ks : List Int} (h : NumB ms ks) {m : Msg} {k : Int} (hs : Sm (numT k) m.t) (hw : m.wd = 2) : NumB (ms ++ [m]) (ks ++ [k]) := by
  obtain ⟨a, c, e⟩ := sm_num hs
  unfold Msg.t at e
  injection e with e1 e2 e3 e4 e5 e6 e7
  refine ⟨by simp [h.1, e2], fun x hx => ?_⟩
  rcases List.mem_append.1 hx with hx | hx
  · exact h.2 x hx
  · simp at hx; subst hx; exact ⟨e1, e3, e4, e7, hw⟩
theorem NumB.wds : ∀ {ms : List Msg} {ks : List Int}, NumB ms ks → wds ms = 2 * ms.length
  | [], _, _ => rfl
  | m :: r, ks, h => by
    have h1 := NumB.wds (ms := r) (ks := r.map Msg.n) ⟨rfl, fun x hx => h.2 x (by simp [hx])⟩
    have h2 := (h.2 m (by simp)).2.2.2.2
    simp [Go.Proofs.Ytggpbfmdhenjdaa.wds, h1, h2]
    omega
theorem NumB.small {ms : List Msg} {ks : List Int} (h : NumB ms ks) {m : Msg} (hm : m ∈ ms) : Small m.t ∧ cnT m.t ≤ 1000000000 ∧ m.t = .mk 1 m.n 0 ⟨#[]⟩ m.a m.c [] := by
  obtain ⟨e1, e2, e3, e4, _⟩ := h.2 m hm
  have e : m.t = .mk 1 m.n 0 ⟨#[]⟩ m.a m.c [] := by unfold Msg.t; rw [e1, e2, e3, e4]
  rw [e]
  exact ⟨by unfold Small SmallAll; exact ⟨by simp, trivial⟩, by simp [cnT, cnA], rfl⟩

/-- Two boxes, apart. -/
structure Two (w0 w : World) (b c : Nat) (mb mc : List Msg) (pc ub uc : Nat) (Rb Rc : Nat → Prop) (kb kc : List Int) : Prop where
  hb : BX w b mb 0 4 ub Rb
  hc : BX w c mc pc 100 uc Rc
  d1 : ∀ q, BS b mb q ∨ Rb q → ¬ BS c mc q
  d2 : ∀ q, BS c mc q ∨ Rc q → ¬ BS b mb q
  nb : NumB mb kb
  nc : NumB mc kc
  low : ∀ q, BS b mb q ∨ BS c mc q → w0.heap.size ≤ q
  bel : Below w0.heap.size w0 w

variable {w0 w w' : World} {b c pc ub uc : Nat} {mb mc : List Msg} {Rb Rc R' : Nat → Prop} {kb kc : List Int}

theorem BX.lt {bb place most puts : Nat} {ms : List Msg} {R : Nat → Prop} (h : BX w bb ms place most puts R) {q : Nat} (hq : BS bb ms q ∨ R q) : q < w.heap.size := by
  rcases hq with (rfl | ⟨x, hx, rfl⟩) | hq
  · exact h.box.2
  · obtain ⟨i, hi⟩ := List.getElem?_of_mem hx
    exact (h.msg i x hi).2
  · exact (h.far q hq).1
theorem bs_snoc {bb q : Nat} {ms : List Msg} {m : Msg} (h : BS bb (ms ++ [m]) q) : BS bb ms q ∨ q = m.b := by
  rcases h with e | ⟨x, hx, e⟩
  · exact .inl (.inl e)
  · rcases List.mem_append.1 hx with hx | hx
    · exact .inl (.inr ⟨x, hx, e⟩)
    · simp at hx; subst hx; exact .inr e

theorem Two.keep (h : Two w0 w b c mb mc pc ub uc Rb Rc kb kc) (hw : Below w.heap.size w w') : Two w0 w' b c mb mc pc ub uc Rb Rc kb kc :=
  ⟨h.hb.keep hw, h.hc.keep hw, h.d1, h.d2, h.nb, h.nc, h.low, h.bel.trans (hw.mono h.bel.size)⟩
theorem Two.putc (h : Two w0 w b c mb mc pc ub uc Rb Rc kb kc) {m : Msg} {k : Int} (hx : BX w' c (mc ++ [m]) pc 100 (uc + 1) R') (hs : Sm (numT k) m.t) (hw : m.wd = 2) (hm : w.heap.size ≤ m.b) (hR : ∀ q, R' q → Rc q ∨ w.heap.size ≤ q) (ht : But (BS c mc) w w') : Two w0 w' b c mb (mc ++ [m]) pc ub (uc + 1) Rb R' kb (kc ++ [k]) := by
  refine ⟨h.hb.but ht (fun q hq => h.d1 q (.inl hq)) (fun q hq => h.d1 q (.inr hq)), hx, fun q hq hs => ?_, fun q hq hs => ?_, h.nb, h.nc.snoc hs hw, fun q hq => ?_, h.bel.trans (ht.below h.bel.size (fun q hq => h.low q (.inr hq)))⟩
  · rcases bs_snoc hs with e | e
    · exact h.d1 q hq e
    · have := h.hb.lt hq; omega
  · rcases hq with hq | hq
    · rcases bs_snoc hq with e | e
      · exact h.d2 q (.inl e) hs
      · have := h.hb.lt (.inl hs); omega
    · rcases hR q hq with e | e
      · exact h.d2 q (.inr e) hs
      · have := h.hb.lt (.inl hs); omega
  · rcases hq with hq | hq
    · exact h.low q (.inl hq)
    · rcases bs_snoc hq with e | e
      · exact h.low q (.inr e)
      · have := h.bel.size; omega
theorem Two.putb (h : Two w0 w b c mb mc pc ub uc Rb Rc kb kc) {m : Msg} {k : Int} (hx : BX w' b (mb ++ [m]) 0 4 (ub + 1) R') (hs : Sm (numT k) m.t) (hw : m.wd = 2) (hm : w.heap.size ≤ m.b) (hR : ∀ q, R' q → Rb q ∨ w.heap.size ≤ q) (ht : But (BS b mb) w w') : Two w0 w' b c (mb ++ [m]) mc pc (ub + 1) uc R' Rc (kb ++ [k]) kc := by
  refine ⟨hx, h.hc.but ht (fun q hq => h.d2 q (.inl hq)) (fun q hq => h.d2 q (.inr hq)), fun q hq hs => ?_, fun q hq hs => ?_, h.nb.snoc hs hw, h.nc, fun q hq => ?_, h.bel.trans (ht.below h.bel.size (fun q hq => h.low q (.inl hq)))⟩
  · rcases hq with hq | hq
    · rcases bs_snoc hq with e | e
      · exact h.d1 q (.inl e) hs
      · have := h.hc.lt (.inl hs); omega
    · rcases hR q hq with e | e
      · exact h.d1 q (.inr e) hs
      · have := h.hc.lt (.inl hs); omega
  · rcases bs_snoc hs with e | e
    · exact h.d2 q hq e
    · have := h.hc.lt hq; omega
  · rcases hq with hq | hq
    · rcases bs_snoc hq with e | e
      · exact h.low q (.inl e)
      · have := h.bel.size; omega
    · exact h.low q (.inr hq)
theorem Two.turnc (h : Two w0 w b c mb mc pc ub uc Rb Rc kb kc) {mc' : List Msg} {pc' : Nat} {kc' : List Int} (hx : BX w' c mc' pc' 100 uc Rc) (hsub : ∀ x, x ∈ mc' → x ∈ mc) (hn : NumB mc' kc') (ht : But (BS c mc) w w') : Two w0 w' b c mb mc' pc' ub uc Rb Rc kb kc' := by
  have hs : ∀ q, BS c mc' q → BS c mc q := by
    rintro q (e | ⟨x, hx, e⟩)
    · exact .inl e
    · exact .inr ⟨x, hsub x hx, e⟩
  exact ⟨h.hb.but ht (fun q hq => h.d1 q (.inl hq)) (fun q hq => h.d1 q (.inr hq)), hx, fun q hq h2 => h.d1 q hq (hs q h2), fun q hq h2 => h.d2 q (hq.imp (hs q) id) h2, h.nb, hn, fun q hq => h.low q (hq.imp id (hs q)), h.bel.trans (ht.below h.bel.size (fun q hq => h.low q (.inr hq)))⟩

theorem bx_new (w : World) (n : Nat) (bb : Nat) (hbb : bb = w.heap.size) : BX (w.alloc (.cells #[.pointer none, .pointer none, .pointer none, .int .i64 0, .int .i64 0, .int .i64 (n : Int), .int .i64 0] BT)) bb [] 0 n 0 (fun _ => False) := by
  subst hbb
  exact ⟨At.new w [.pointer none, .pointer none, .pointer none, .int .i64 0, .int .i64 0, .int .i64 (n : Int), .int .i64 0] BT, fun i m h => by simp at h, by simp, fun m h => by simp at h, fun m h => by simp at h, fun q h => h.elim, by simp⟩

theorem iNum_any (k : Int) (w : World) : Calls Try.prog 17 #[.int .i64 k] w fun e w' => e = .returned (.agg #[.int .i64 1, .int .i64 k, .float .f64 0, .string ⟨#[]⟩, .slice none 0 0]) ∧ Below w.heap.size w w' := by
  go_enter Try.func17, Try.ntmps17
  go_wp2
  exact bodyPost_ret (v := .agg #[.int .i64 1, .int .i64 k, .float .f64 0, .string ⟨#[]⟩, .slice none 0 0]) (by simp [results, Try.results17, go_sem]) rfl ⟨rfl, below_new w _⟩

theorem putc_num (h : Two w0 w b c mb mc pc ub uc Rb Rc kb kc) (k : Int) (h1 : 0 ≤ k) (h2 : k ≤ 1000) (hf : 2 * mc.length + 2 ≤ 100) (hu : uc ≤ 1000) : Calls Try.prog 9 #[.pointer (some ⟨c, 0, none⟩), .agg #[.int .i64 1, .int .i64 k, .float .f64 0, .string ⟨#[]⟩, .slice none 0 0]] w fun e w' => e = .returned (.int .i64 0) ∧ ∃ (m : Msg) (R' : Nat → Prop), Two w0 w' b c mb (mc ++ [m]) pc ub (uc + 1) Rb R' kb (kc ++ [k]) := by
  obtain ⟨e1, e2⟩ := numT_err k h1 h2
  have hw := h.nc.wds
  refine (putB (numT k) 0 (T := fun _ => False) h.hc (numT_in k h1 h2 w) (numT_on k _) (fun q hq => hq.elim) (numT_small k) (by simp [numT, cnT, cnA]) e1 e2 (by omega) (by omega) (by omega) (by omega)).mono ?_
  rintro e w' ⟨rfl, m, R', hx, hs, hwd, hm, hR, ht⟩
  exact ⟨rfl, m, R', h.putc hx hs hwd hm hR ht⟩
theorem putb_num (h : Two w0 w b c mb mc pc ub uc Rb Rc kb kc) (k : Int) (h1 : 0 ≤ k) (h2 : k ≤ 1000) (hf : 2 * mb.length + 2 ≤ 4) (hu : ub ≤ 1000) : Calls Try.prog 9 #[.pointer (some ⟨b, 0, none⟩), .agg #[.int .i64 1, .int .i64 k, .float .f64 0, .string ⟨#[]⟩, .slice none 0 0]] w fun e w' => e = .returned (.int .i64 0) ∧ ∃ (m : Msg) (R' : Nat → Prop), Two w0 w' b c (mb ++ [m]) mc pc (ub + 1) uc R' Rc (kb ++ [k]) kc := by
  obtain ⟨e1, e2⟩ := numT_err k h1 h2
  have hw := h.nb.wds
  refine (putB (numT k) 0 (T := fun _ => False) h.hb (numT_in k h1 h2 w) (numT_on k _) (fun q hq => hq.elim) (numT_small k) (by simp [numT, cnT, cnA]) e1 e2 (by omega) (by omega) (by omega) (by omega)).mono ?_
  rintro e w' ⟨rfl, m, R', hx, hs, hwd, hm, hR, ht⟩
  exact ⟨rfl, m, R', h.putb hx hs hwd hm hR ht⟩
theorem putb_full (h : Two w0 w b c mb mc pc ub uc Rb Rc kb kc) (k : Int) (h1 : 0 ≤ k) (h2 : k ≤ 1000) (hf : mb.length = 2) : Calls Try.prog 9 #[.pointer (some ⟨b, 0, none⟩), .agg #[.int .i64 1, .int .i64 k, .float .f64 0, .string ⟨#[]⟩, .slice none 0 0]] w fun e w' => e = .returned (.int .i64 12) ∧ Below w.heap.size w w' := by
  obtain ⟨e1, e2⟩ := numT_err k h1 h2
  have hw := h.nb.wds
  refine (putB_full (numT k) 0 h.hb (numT_in k h1 h2 w) (numT_small k) e1 e2 (by omega) (by omega) (by omega) (by omega)).mono ?_
  rintro e w' ⟨rfl, hb⟩
  exact ⟨rfl, hb⟩
theorem nextc_num (h : Two w0 w b c mb mc pc ub uc Rb Rc kb kc) {n : Int} (hn : kc[pc]? = some n) : Calls Try.prog 10 #[.pointer (some ⟨c, 0, none⟩)] w fun e w' => (∃ a' c', e = .returned (.tuple #[.agg #[.int .i64 1, .int .i64 n, .float .f64 0, .string ⟨#[]⟩, .slice a' 0 c'], .bool true])) ∧ Two w0 w' b c mb mc (pc + 1) ub uc Rb Rc kb kc ∧ But (BS c mc) w w' := by
  rw [← h.nc.1, List.getElem?_map] at hn
  obtain ⟨m, hm, rfl⟩ := Option.map_eq_some_iff.1 hn
  obtain ⟨s1, s2, s3⟩ := h.nc.small (List.mem_of_getElem? hm)
  refine (nextB h.hc hm s1 s2).mono ?_
  rintro e w' ⟨k', n', f', s', a', c', kids', rfl, hs, _, hx, ht⟩
  rw [s3] at hs
  obtain ⟨a2, c2, e⟩ := sm_num (k := m.n) (t := .mk k' n' f' s' a' c' kids') (by unfold numT; simpa [Sm] using hs)
  injection e with e1 e2 e3 e4 e5 e6 e7
  subst e1 e2 e3 e4 e7
  exact ⟨⟨a', c', rfl⟩, h.turnc hx (fun x hx => hx) h.nc ht, ht⟩
theorem map_er {α β : Type} (f : α → β) : ∀ (l : List α) (i : Nat), (l.eraseIdx i).map f = (l.map f).eraseIdx i
  | [], _ => rfl
  | _ :: _, 0 => rfl
  | x :: r, i + 1 => by simp [map_er f r i]
theorem takec_num (h : Two w0 w b c mb mc (pc + 1) ub uc Rb Rc kb kc) {n : Int} (hn : kc[pc]? = some n) (hl : mc.length ≤ 100) : Calls Try.prog 12 #[.pointer (some ⟨c, 0, none⟩)] w fun e w' => (∃ a' c', e = .returned (.tuple #[.agg #[.int .i64 1, .int .i64 n, .float .f64 0, .string ⟨#[]⟩, .slice a' 0 c'], .int .i64 0])) ∧ Two w0 w' b c mb (mc.eraseIdx pc) 0 ub uc Rb Rc kb (kc.eraseIdx pc) := by
  have hw := h.nc.wds
  have hk := h.nc.1
  rw [← h.nc.1, List.getElem?_map] at hn
  obtain ⟨m, hm, rfl⟩ := Option.map_eq_some_iff.1 hn
  obtain ⟨s1, s2, s3⟩ := h.nc.small (List.mem_of_getElem? hm)
  refine (takeB h.hc hm s1 s2 (by omega) (by omega)).mono ?_
  rintro e w' ⟨k', n', f', s', a', c', kids', rfl, hs, _, hx, ht⟩
  rw [s3] at hs
  obtain ⟨a2, c2, e⟩ := sm_num (k := m.n) (t := .mk k' n' f' s' a' c' kids') (by unfold numT; simpa [Sm] using hs)
  injection e with e1 e2 e3 e4 e5 e6 e7
  subst e1 e2 e3 e4 e7
  exact ⟨⟨a', c', rfl⟩, h.turnc hx (fun x hx => List.mem_of_mem_eraseIdx hx) ⟨by rw [map_er, hk], fun x hx => h.nc.2 x (List.mem_of_mem_eraseIdx hx)⟩ ht⟩

set_option maxHeartbeats 2000000 in
set_option maxRecDepth 100000 in
theorem known12_any (w : World) : Calls Try.prog 5 #[] w fun e w' => e = .returned (.bool true) ∧ Below w.heap.size w w' := by
  have hT0 : Two w ((w.alloc (.cells #[.pointer none, .pointer none, .pointer none, .int .i64 0, .int .i64 0, .int .i64 4, .int .i64 0] BT)).alloc (.cells #[.pointer none, .pointer none, .pointer none, .int .i64 0, .int .i64 0, .int .i64 100, .int .i64 0] BT)) w.heap.size (w.heap.size + 1) [] [] 0 0 0 (fun _ => False) (fun _ => False) [] [] := by
    have hnb : ∀ {x q : Nat}, BS x [] q → q = x := by
      rintro x q (e | ⟨y, hy, _⟩)
      · exact e
      · simp at hy
    refine ⟨(bx_new w 4 _ rfl).keep (below_new _ _), bx_new _ 100 _ (by simp), ?_, ?_, ⟨rfl, fun m h => by simp at h⟩, ⟨rfl, fun m h => by simp at h⟩, ?_, (below_new w _).trans ((below_new _ _).mono (by simp))⟩
    · rintro q (h | h) h2
      · have := hnb h; have := hnb h2; omega
      · exact h.elim
    · rintro q (h | h) h2
      · have := hnb h; have := hnb h2; omega
      · exact h.elim
    · rintro q (h | h)
      · have := hnb h; omega
      · have := hnb h; omega
  have HT0 := hidb hT0
  clear hT0
  go_enter Try.func5, Try.ntmps5
  go_wp2_with (first
    | (go_at_call 7; refine (newB _ (by decide) (by decide) _).mono ?_; rintro e w1 ⟨rfl, rfl⟩)
    | (go_at_call 17; refine (iNum_any _ _).mono ?_; rintro e w1 ⟨rfl, hb1⟩; have HT1 := hidb (HT0.out.keep hb1); clear hb1 HT0)
    | (go_at_call 9; refine (putb_num HT1.out 1 (by omega) (by omega) (by simp) (by omega)).mono ?_; rintro e w2 ⟨rfl, m1, R1, h2⟩; have HT2 := hidb h2; clear h2 HT1)
    | (go_at_call 17; refine (iNum_any _ _).mono ?_; rintro e w3 ⟨rfl, hb1⟩; have HT3 := hidb (HT2.out.keep hb1); clear hb1 HT2)
    | (go_at_call 9; refine (putb_num HT3.out 1 (by omega) (by omega) (by simp) (by omega)).mono ?_; rintro e w4 ⟨rfl, m2, R2, h2⟩; have HT4 := hidb h2; clear h2 HT3))
  generalize hmb : ([] ++ [m1] ++ [m2] : List Msg) = mb at *
  have hml : mb.length = 2 := by rw [← hmb]; rfl
  generalize hb : w.heap.size = b at *
  generalize hc : b + 1 = c at *
  clear hmb
  go_loopw [5] (fun iv wr => ∃ (j : Nat) (mc : List Msg) (Rc : Nat → Prop), j ≤ 3 ∧ iv = .int .i64 ((j : Int) + 1) ∧ mc.length = j ∧ Two w wr b c mb mc 0 2 j R2 Rc [1, 1] ((List.range j).map fun i : Nat => (i : Int) + 1)) (fun iv _ => 4 - (RowKit.intOf iv).toNat)
  case atStart => exact ⟨0, [], _, by omega, rfl, rfl, HT4.out⟩
  case round =>
  obtain ⟨j, mc, Rc, hj, rfl, hl, hT⟩ := hrel
  have HT := hidb hT
  clear hT HT4
  by_cases hj3 : j < 3
  · have hjb : (j : Int) + 1 < 4 := by omega
    have hjw : IntKind.i64.wrap ((j : Int) + 1 + 1) = ((j + 1 : Nat) : Int) + 1 := by rw [IntKind.wrap_i64]; omega
    have HLL := hidb hl
    clear hl
    go_wp2_with (first
      | (go_at_call 17; refine (iNum_any _ _).mono ?_; rintro e w5 ⟨rfl, hb1⟩; have HT5 := hidb (HT.out.keep hb1); clear hb1)
      | (go_at_call 9; refine (putc_num HT5.out ((j : Int) + 1) (by omega) (by omega) (by have := HLL.out; omega) (by omega)).mono ?_; rintro e w6 ⟨rfl, m6, R6, h6⟩; have HT6 := hidb h6; clear h6 HT5))
    go_roundw
    case rel => exact ⟨j + 1, mc ++ [m6], R6, by omega, by go_num, by simp [HLL.out], by have := HT6.out; rw [List.range_succ, List.map_append]; exact this⟩
    case measure => simp [RowKit.intOf]; omega
  · have hjn : ¬ (j : Int) + 1 < 4 := by omega
    obtain rfl : j = 3 := by omega
    have hk0 : ((List.range 3).map fun i : Nat => (i : Int) + 1) = [1, 2, 3] := rfl
    rw [hk0] at HT
    have HLL := hidb hl
    clear hl hk0
    go_wp2_with (first
      | (go_at_call 10; refine (nextc_num (n := 1) HT.out rfl).mono ?_; rintro e w7 ⟨⟨a7, c7, rfl⟩, h7, -⟩; have HT7 := hidb h7; clear h7 HT)
      | (go_at_call 10; refine (nextc_num (n := 2) HT7.out rfl).mono ?_; rintro e w8 ⟨⟨a8, c8, rfl⟩, h8, -⟩; have HT8 := hidb h8; clear h8 HT7)
      | (go_at_call 12; refine (takec_num (pc := 1) (n := 2) HT8.out rfl (by have := HLL.out; omega)).mono ?_; rintro e w9 ⟨⟨a9, c9, rfl⟩, h9⟩; have HT9 := hidb (h9.keep (below_new w9 (.cells #[.int .i64 1, .int .i64 2, .float .f64 0, .string ⟨#[]⟩, .slice a9 0 c9] 27))); have BX9 := Box.new w9 27 (.int .i64 1) (.int .i64 2) (.float .f64 0) (.string ⟨#[]⟩) (.slice a9 0 c9); have hbs : ¬ BS c (mc.eraseIdx 1) w9.heap.size := (fun h => by have := h9.hc.lt (.inl h); omega); have HBS := hidb hbs; have HX9 := hidb BX9.c1; have HL9 := hidb BX9.lt; clear h9 HT8 hbs BX9)
      | (go_at_call 10; refine (nextc_num (n := 1) HT9.out rfl).mono ?_; rintro e w10 ⟨⟨a10, c10, rfl⟩, h10, hb10⟩; have HT10 := hidb (h10.keep (below_new w10 (.cells #[.int .i64 1, .int .i64 1, .float .f64 0, .string ⟨#[]⟩, .slice a10 0 c10] 27))); have x1 := (hb10.cell (p := ⟨w9.heap.size, 1, none⟩) HL9.out HBS.out).trans HX9.out; have y1 := (Box.new w10 27 (.int .i64 1) (.int .i64 1) (.float .f64 0) (.string ⟨#[]⟩) (.slice a10 0 c10)).c1; have x1' := ((below_new w10 (.cells #[.int .i64 1, .int .i64 1, .float .f64 0, .string ⟨#[]⟩, .slice a10 0 c10] 27)).cell (World.block_lt_of_cell? _ _ x1)).trans x1; have HX10 := hidb (And.intro x1' y1); clear h10 hb10 HT9 x1 x1' y1)
      | (go_at_call 17; refine (iNum_any _ _).mono ?_; rintro e w11 ⟨rfl, hb11⟩; have HT11 := hidb (HT10.out.keep hb11); have HX11 := hidb (And.intro ((hb11.cell (World.block_lt_of_cell? _ _ HX10.out.1)).trans HX10.out.1) ((hb11.cell (World.block_lt_of_cell? _ _ HX10.out.2)).trans HX10.out.2)); clear hb11 HT10 HX10)
      | (go_at_call 9; refine (putb_full HT11.out 1 (by omega) (by omega) hml).mono ?_; rintro e w12 ⟨rfl, hb12⟩; have HT12 := hidb (HT11.out.keep hb12); have hx12 := (hb12.cell (World.block_lt_of_cell? _ _ HX11.out.1)).trans HX11.out.1; have hy12 := (hb12.cell (World.block_lt_of_cell? _ _ HX11.out.2)).trans HX11.out.2; have hwd := HT12.out.nb.wds; have HWD : Hid (wds mb = 4) := hidb (by omega); have HLE : Hid ((mc.eraseIdx 1).length = 2) := hidb (by rw [List.length_eraseIdx, HLL.out]; rfl); clear hwd hb12 HT11 HX11)
      | (go_at_call 18; refine (wordsB HT12.out.hb).mono ?_; rintro e w13 ⟨rfl, hw13⟩; obtain rfl := hw13.symm; rw [HWD.out])
      | (go_at_call 13; refine (lenB HT12.out.hc).mono ?_; rintro e w14 ⟨rfl, hw14⟩; obtain rfl := hw14.symm; rw [HLE.out]))
    go_ret
    exact ⟨rfl, HT12.out.bel⟩
end Go.Proofs.Ytggpbfmdhenjdaa


