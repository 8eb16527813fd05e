import Derived.Test.YtogahhbckfnllaaG21
import Derived.Test.YtogahhbckfnllaaG23
import Derived.Test.YtogahhbckfnllaaG07
/- Are acts few? -/
namespace Go.Proofs.Ytogahhbckfnllaa
open Go.RowKit Go.Deep
attribute [local go_sem] store_float f64bits
attribute [local go_sem ↓] Go.wp_at_zero Go.wp_at_succ

theorem few_cn : ∀ (t : Tr) (left deep : Int), 0 ≤ fewT t left deep → fewT t left deep = left - cnT t := by
  refine Tr.ind fun k n f s a c kids hk => ?_
  have hall : ∀ left deep, 0 ≤ fewAll kids left deep → fewAll kids left deep = left - cnA kids := by
    induction kids with
    | nil => intro left deep h0; simp [fewAll, cnA]
    | cons t r ih =>
      intro left deep h0
      simp only [fewAll] at h0 ⊢
      by_cases hl : left < 0
      · rw [if_pos hl] at h0; omega
      · rw [if_neg hl] at h0 ⊢
        have hn : 0 ≤ fewT t left deep := by
          by_cases hz : fewT t left deep < 0
          · rw [fewAll_stop _ _ _ hz] at h0; omega
          · omega
        have g := hk t (List.mem_cons_self ..) left deep hn
        have q := ih (fun u hu => hk u (List.mem_cons_of_mem _ hu)) (fewT t left deep) deep h0
        rw [q, g]
        simp only [cnA]
        omega
  intro left deep h0
  simp only [fewT] at h0 ⊢
  by_cases hc : left < 0 ∨ deep < 0
  · rw [if_pos hc] at h0; omega
  · rw [if_neg hc] at h0 ⊢
    rw [hall (left - 1) (deep - 1) h0]
    simp only [cnT]
    omega

theorem few_range : ∀ (t : Tr) (left deep : Int), 0 ≤ left → -1 ≤ fewT t left deep ∧ fewT t left deep ≤ left := by
  refine Tr.ind fun k n f s a c kids hk => ?_
  have hall : ∀ left deep, -1 ≤ left → -1 ≤ fewAll kids left deep ∧ fewAll kids left deep ≤ left := by
    induction kids with
    | nil => intro left deep h; simp [fewAll]; omega
    | cons t r ih =>
      intro left deep h
      simp only [fewAll]
      by_cases hl : left < 0
      · rw [if_pos hl]; omega
      · rw [if_neg hl]
        have g := hk t (List.mem_cons_self ..) left deep (by omega)
        have q := ih (fun u hu => hk u (List.mem_cons_of_mem _ hu)) (fewT t left deep) deep g.1
        omega
  intro left deep h
  simp only [fewT]
  by_cases hc : left < 0 ∨ deep < 0
  · rw [if_pos hc]; omega
  · rw [if_neg hc]
    have := hall (left - 1) (deep - 1) (by omega)
    omega

/-- What few says of each. -/
theorem few_each {ts : List Tr} (h : 0 ≤ fewAll ts 60000 1000) {t : Tr} (ht : t ∈ ts) : Small t ∧ cnT t ≤ 60001 := by
  have e : fewT (.mk 0 0 0 ⟨#[]⟩ none 0 ts) 60001 1001 = fewAll ts 60000 1000 := by simp [fewT]
  have h1 := (few_small (.mk 0 0 0 ⟨#[]⟩ none 0 ts) 60001 1001 (by omega) (by rw [e]; exact h)).1
  have h2 := few_cn (.mk 0 0 0 ⟨#[]⟩ none 0 ts) 60001 1001 (by rw [e]; exact h)
  rw [e] at h2
  simp only [Small] at h1
  refine ⟨smallAll_get h1.2 ht, ?_⟩
  have h3 : ∀ l : List Tr, t ∈ l → cnT t ≤ cnA l := by
    intro l
    induction l with
    | nil => intro h; simp at h
    | cons u r ih =>
      intro h
      simp only [cnA]
      rcases List.mem_cons.1 h with rfl | h
      · omega
      · have := ih h; omega
  have := h3 ts ht
  simp only [cnT] at h2
  omega

/-- A row of acts that only put. -/
def ActRow (w : World) (q : Option Addr) (ts : List Tr) : Prop := ∀ (k : Nat) (t : Tr), ts[k]? = some t → ∃ g, q = some ⟨g, 0, none⟩ ∧ (∀ j, j < 5 → w.cell? ⟨g, k * 6 + 1 + j, none⟩ = t.cells[j]?) ∧ t.In w 0

theorem ActRow.keep {w w' : World} {q : Option Addr} {ts : List Tr} (h : ActRow w q ts) (hb : Below w.heap.size w w') : ActRow w' q ts := by
  intro k t ht
  obtain ⟨g, e, hc, hin⟩ := h k t ht
  refine ⟨g, e, fun j hj => ?_, in_below hb hin⟩
  obtain ⟨k', n', f', s', a', c', kids'⟩ := t
  have hc0 := hc 0 (by omega)
  have hlt : g < w.heap.size := World.block_lt_of_cell? w ⟨g, k * 6 + 1 + 0, none⟩ (hc0.trans rfl)
  exact (hb.cell (p := ⟨g, k * 6 + 1 + j, none⟩) hlt).trans (hc j hj)

theorem fewAll_drop {ts : List Tr} {k : Nat} {t : Tr} (h : ts[k]? = some t) {left : Int} (hl : ¬ left < 0) : fewAll (ts.drop k) left 1000 = fewAll (ts.drop (k + 1)) (fewT t left 1000) 1000 := by
  rw [drop_one h]
  simp only [fewAll]
  rw [if_neg hl]

set_option maxHeartbeats 1000000 in
set_option maxRecDepth 100000 in
theorem few12_any (q : Option Addr) (c : Nat) (ts : List Tr) (w : World) (h : ActRow w q ts) (hl : ts.length ≤ 1000000000000) : Calls Try.prog 5 #[.slice q ts.length c] w fun e w' => e = .returned (.bool (decide (ts.length ≤ 400) && decide (0 ≤ fewAll ts 60000 1000))) ∧ Below w.heap.size w w' := by
  have HA := hidb h
  have HF := hidb (fun (t : Tr) (left : Int) W (hin : t.In W 0) h1 h2 => few_any t left 1000 W hin h1 h2 (by decide) (by decide))
  clear h
  go_enter Try.func5, Try.ntmps5
  go_wp2_with fail
  go_loopw [3, 4] (fun lv iv wr => ∃ (k : Nat) (left : Int), k ≤ ts.length ∧ iv = .int .i64 k ∧ lv = .int .i64 left ∧ -1 ≤ left ∧ left ≤ 60000 ∧ fewAll ts 60000 1000 = fewAll (ts.drop k) left 1000 ∧ Below w.heap.size w wr) (fun _ iv _ => ts.length - (RowKit.intOf iv).toNat)
  case atStart => exact ⟨0, 60000, by omega, rfl, rfl, by omega, by omega, rfl, Below.refl _ _⟩
  case round =>
  obtain ⟨k, left, hk, rfl, rfl, hl1, hl2, he, hb⟩ := hrel
  have HB := hidb hb
  have HE := hidb he
  clear he hb
  have hkw : IntKind.i64.wrap ((k : Int) + 1) = (k : Int) + 1 := by rw [IntKind.wrap_i64]; omega
  by_cases hlt : left < 0
  · have hln : ¬ (0 : Int) ≤ left := by omega
    have HFd : Hid (decide (0 ≤ fewAll ts 60000 1000) = false) := hidb (by rw [HE.out, fewAll_stop _ _ _ hlt]; simp; omega)
    by_cases hkl : k < ts.length
    · have hkb : (k : Int) < (ts.length : Int) := by omega
      go_wp2_with fail
      all_goals go_ret
      all_goals (refine ⟨?_, HB.out⟩; rw [HFd.out]; first | (simp; done) | (simp; omega))
    · have hkb : ¬ (k : Int) < (ts.length : Int) := by omega
      go_wp2_with fail
      all_goals go_ret
      all_goals (refine ⟨?_, HB.out⟩; rw [HFd.out]; first | (simp; done) | (simp; omega))
  have hl0 : (0 : Int) ≤ left := by omega
  by_cases hkl : k < ts.length
  · have hkb : (k : Int) < (ts.length : Int) := by omega
    have hkz : (0 : Int) ≤ (k : Int) := by omega
    obtain ⟨t, ht⟩ : ∃ t, ts[k]? = some t := ⟨_, List.getElem?_eq_getElem hkl⟩
    obtain ⟨g, rfl, hc, hin⟩ := HA.out.keep HB.out k t ht
    obtain ⟨fb1, fb2⟩ := few_range t left 1000 hl0
    have HD := hidb (fewAll_drop ht hlt)
    have FC := hidb (HF.out t left wr hin (by omega) (by omega))
    have FC2 := hidb (HF.out t left wr.drew (in_below ((Below.refl _ _).drew) hin) (by omega) (by omega))
    generalize fewT t left 1000 = L2 at *
    obtain ⟨k', n', f', s', a', c', kids'⟩ := t
    have c0 : wr.cell? ⟨g, k * 6 + 1, none⟩ = some (.int .i64 k') := hc 0 (by omega)
    have c1 : wr.cell? ⟨g, k * 6 + 1 + 1, none⟩ = some (.int .i64 n') := hc 1 (by omega)
    have c2 : wr.cell? ⟨g, k * 6 + 1 + 2, none⟩ = some (.float .f64 f') := hc 2 (by omega)
    have c3 : wr.cell? ⟨g, k * 6 + 1 + 3, none⟩ = some (.string s') := hc 3 (by omega)
    have c4 : wr.cell? ⟨g, k * 6 + 1 + 4, none⟩ = some (.slice a' kids'.length c') := hc 4 (by omega)
    simp only [Tr.val, Tr.cells] at FC FC2
    clear hc hin ht hlt
    go_wp2_with (first
      | (go_at_call 17; refine FC.out.mono ?_; rintro e w2 ⟨rfl, hb2⟩; have HB2 := hidb (HB.out.trans (hb2.mono HB.out.size)); clear hb2))
    go_roundw
    case rel => exact ⟨k + 1, L2, by omega, by go_num, rfl, fb1, by omega, by rw [HE.out, HD.out], HB2.out⟩
    case measure => simp [RowKit.intOf]; omega
  · have hkb : ¬ (k : Int) < (ts.length : Int) := by omega
    have HFd : Hid (decide (0 ≤ fewAll ts 60000 1000) = true) := hidb (by
      have e : fewAll ts 60000 1000 = left := by rw [HE.out, List.drop_of_length_le (by omega)]; rfl
      rw [e]
      exact decide_eq_true hl0)
    go_wp2_with fail
    all_goals go_ret
    all_goals (refine ⟨?_, HB.out⟩; rw [HFd.out]; first | (simp; done) | (simp; omega))
end Go.Proofs.Ytogahhbckfnllaa


/- InboxTakes. -/
namespace Go.Proofs.Ytogahhbckfnllaa
open Go.RowKit Go.Deep
attribute [local go_sem] store_float f64bits
attribute [local go_sem ↓] Go.wp_at_zero Go.wp_at_succ

abbrev AT : Nat := 38
theorem infoA : ∃ i0, Try.prog.info? AT = some i0 ∧ i0.zero = some (.agg #[.int .i64 0, .int .i64 0, .int .i64 0, .float .f64 0, .string ⟨#[]⟩, .slice none 0 0]) ∧ i0.size = 6 ∧ i0.bytes = 72 := info_parts (show (Try.prog.info? AT).map (fun i => (i.zero, i.size, i.bytes)) = some (some (.agg #[.int .i64 0, .int .i64 0, .int .i64 0, .float .f64 0, .string ⟨#[]⟩, .slice none 0 0]), 6, 72) by kernel_rfl)

/-- Acts as cells. -/
def acs (ts : List Tr) : List Value := ts.flatMap fun t => .int .i64 0 :: t.cells
theorem acs_append (a b : List Tr) : acs (a ++ b) = acs a ++ acs b := by simp [acs]
theorem acs_at : ∀ (ts : List Tr) (k : Nat) (t : Tr), ts[k]? = some t → ∀ j, j < 5 → (acs ts)[k * 6 + 1 + j]? = t.cells[j]?
  | [], k, t, h, _, _ => by simp at h
  | u :: r, 0, t, h, j, hj => by
    simp at h
    subst h
    obtain ⟨k', n', f', s', a', c', kids'⟩ := u
    have : j = 0 ∨ j = 1 ∨ j = 2 ∨ j = 3 ∨ j = 4 := by omega
    rcases this with rfl | rfl | rfl | rfl | rfl <;> rfl
  | u :: r, k + 1, t, h, j, hj => by
    have h1 := acs_at r k t (by simpa using h) j hj
    have e : acs (u :: r) = (.int .i64 0 :: u.cells) ++ acs r := by simp [acs]
    have hl : (Value.int .i64 0 :: u.cells).length = 6 := by obtain ⟨k', n', f', s', a', c', kids'⟩ := u; rfl
    rw [e, List.getElem?_append_right (by rw [hl]; omega), hl, show (k + 1) * 6 + 1 + j - 6 = k * 6 + 1 + j by omega]
    exact h1
theorem actRow_of {w : World} {C n : Nat} {q : Option Addr} {c : Nat} {ts : List Tr} (h : w.ownsRow C AT 6 (.slice q n c) n (acs ts)) (hin : ∀ t, t ∈ ts → t.In w 0) : ActRow w q ts := by
  intro k t ht
  rcases h.2 with ⟨e, h0⟩ | ⟨g, cap, cur, hv, _⟩
  · have hl := h.1
    subst h0
    have : (acs ts).length = ts.length * 6 := by
      clear h hin ht e hl
      induction ts with
      | nil => rfl
      | cons u r ih => obtain ⟨k', n', f', s', a', c', kids'⟩ := u; have e : acs (Tr.mk k' n' f' s' a' c' kids' :: r) = [.int .i64 0, .int .i64 k', .int .i64 n', .float .f64 f', .string s', .slice a' kids'.length c'] ++ acs r := rfl; rw [e]; simp [ih]; omega
    have := (List.getElem?_eq_some_iff.1 ht).1
    omega
  · have hq : q = some ⟨g, 0, none⟩ := by simpa using (Value.slice.inj hv).1
    subst hq
    refine ⟨g, rfl, fun j hj => ?_, hin t (List.mem_of_getElem? ht)⟩
    have := acs_at ts k t ht j hj
    obtain ⟨k', n', f', s', a', c', kids'⟩ := t
    have hlt : k * 6 + 1 + j < (acs ts).length := by
      have h5 : ([.int .i64 k', .int .i64 n', .float .f64 f', .string s', .slice a' kids'.length c'] : List Value)[j]? = some (([.int .i64 k', .int .i64 n', .float .f64 f', .string s', .slice a' kids'.length c'] : List Value)[j]'hj) := List.getElem?_eq_getElem hj
      exact (List.getElem?_eq_some_iff.1 (this.trans h5)).1
    exact (h.cellAt _ (by have := h.1; omega)).trans this

theorem sm_small : ∀ t t' : Tr, Sm t t' → (Small t → Small t') ∧ cnT t' = cnT t := by
  refine Tr.ind fun k n f s a c kids hk => ?_
  rintro ⟨k', n', f', s', a', c', kids'⟩ h
  unfold Sm at h
  have hl := smA_len h.2.2.2.2
  have hall : ∀ (l l' : List Tr), (∀ t, t ∈ l → t ∈ kids) → SmA l l' → (SmallAll l → SmallAll l') ∧ cnA l' = cnA l := by
    intro l
    induction l with
    | nil =>
      intro l' _ h
      cases l' with
      | nil => exact ⟨fun h => h, rfl⟩
      | cons => unfold SmA at h; exact h.elim
    | cons t r ih =>
      intro l' hm h
      cases l' with
      | nil => unfold SmA at h; exact h.elim
      | cons t' r' =>
        unfold SmA at h
        have h1 := hk t (hm t (by simp)) t' h.1
        have h2 := ih r' (fun u hu => hm u (by simp [hu])) h.2
        simp only [SmallAll, cnA]
        exact ⟨fun h => ⟨h1.1 h.1, h2.1 h.2⟩, by omega⟩
  have := hall kids kids' (fun t h => h) h.2.2.2.2
  simp only [Small, cnT]
  exact ⟨fun h => ⟨by omega, this.1 h.2⟩, by omega⟩

theorem idx_of (x : Int) (L : Nat) (h0 : 0 < L) (h1 : L ≤ 100) : ∃ (y : Int) (n : Nat), n < L ∧ x.tmod (L : Int) = y ∧ ((¬ y < 0 ∧ y = (n : Int)) ∨ (y < 0 ∧ IntKind.i64.wrap (y + (L : Int)) = (n : Int))) := by
  have h2 := Int.tmod_lt_of_pos x (show (0 : Int) < (L : Int) by omega)
  have h3 : -(L : Int) < x.tmod (L : Int) := by
    rcases Int.le_total 0 x with h | h
    · have := Int.tmod_nonneg (L : Int) h; omega
    · have := Int.tmod_lt_of_pos (-x) (show (0 : Int) < (L : Int) by omega)
      rw [Int.neg_tmod] at this
      omega
  generalize x.tmod (L : Int) = y at *
  by_cases h : 0 ≤ y
  · exact ⟨y, y.toNat, by omega, rfl, .inl ⟨by omega, by omega⟩⟩
  · exact ⟨y, (y + L).toNat, by omega, rfl, .inr ⟨by omega, by rw [IntKind.wrap_i64]; omega⟩⟩

/-- A box of copies of the terms. -/
structure TI (w wr : World) (bb : Nat) (ms : List Msg) (ts : List Tr) (place puts : Nat) (R : Nat → Prop) : Prop where
  bx : BX wr bb ms place 16777216 puts R
  len : ms.length = ts.length
  sm : ∀ (i : Nat) (m : Msg) (t : Tr), ms[i]? = some m → ts[i]? = some t → Sm t m.t
  wd : ∀ m : Msg, m ∈ ms → m.wd ≤ 65538
  low : ∀ q, BS bb ms q → w.heap.size ≤ q
  bel : Below w.heap.size w wr

theorem wds_le : ∀ (ms : List Msg), (∀ m : Msg, m ∈ ms → m.wd ≤ 65538) → wds ms ≤ ms.length * 65538
  | [], _ => Nat.zero_le _
  | m :: r, h => by
    have h1 := wds_le r (fun x hx => h x (by simp [hx]))
    have h2 := h m (by simp)
    simp [wds]
    omega

theorem TI.keep {w wr w' : World} {bb place puts : Nat} {ms : List Msg} {ts : List Tr} {R : Nat → Prop} (h : TI w wr bb ms ts place puts R) (hb : Below wr.heap.size wr w') : TI w w' bb ms ts place puts R :=
  ⟨h.bx.keep hb, h.len, h.sm, h.wd, h.low, h.bel.trans (hb.mono h.bel.size)⟩
theorem TI.put {w wr w' : World} {bb puts : Nat} {ms : List Msg} {ts : List Tr} {R R' : Nat → Prop} {m : Msg} {t : Tr} (h : TI w wr bb ms ts 0 puts R) (hx : BX w' bb (ms ++ [m]) 0 16777216 (puts + 1) R') (hs : Sm t m.t) (hw : m.wd ≤ 65538) (hm : wr.heap.size ≤ m.b) (ht : But (BS bb ms) wr w') : TI w w' bb (ms ++ [m]) (ts ++ [t]) 0 (puts + 1) R' := by
  refine ⟨hx, by simp [h.len], fun i x u hi hu => ?_, fun x hx => ?_, fun q hq => ?_, h.bel.trans (ht.below h.bel.size h.low)⟩
  · by_cases e : i < ms.length
    · rw [List.getElem?_append_left e] at hi
      rw [List.getElem?_append_left (by have := h.len; omega)] at hu
      exact h.sm i x u hi hu
    · have hl := (List.getElem?_eq_some_iff.1 hi).1
      simp at hl
      have e2 : i = ms.length := by omega
      subst e2
      simp at hi
      rw [h.len] at hu
      simp at hu
      subst hi hu
      exact hs
  · rcases List.mem_append.1 hx with hx | hx
    · exact h.wd x hx
    · simp at hx; subst hx; exact hw
  · rcases bs_snoc hq with e | e
    · exact h.low q e
    · have := h.bel.size; omega
theorem TI.turn {w wr w' : World} {bb place place' puts : Nat} {ms : List Msg} {ts : List Tr} {R : Nat → Prop} (h : TI w wr bb ms ts place puts R) (hx : BX w' bb ms place' 16777216 puts R) (ht : But (BS bb ms) wr w') : TI w w' bb ms ts place' puts R :=
  ⟨hx, h.len, h.sm, h.wd, h.low, h.bel.trans (ht.below h.bel.size h.low)⟩
theorem TI.take {w wr w' : World} {bb place puts i : Nat} {ms : List Msg} {ts : List Tr} {R : Nat → Prop} (h : TI w wr bb ms ts place puts R) (hi : i < ms.length) (hx : BX w' bb (ms.eraseIdx i) 0 16777216 puts R) (ht : But (BS bb ms) wr w') : TI w w' bb (ms.eraseIdx i) (ts.eraseIdx i) 0 puts R := by
  have hl := h.len
  refine ⟨hx, by rw [List.length_eraseIdx, List.length_eraseIdx, if_pos hi, if_pos (by omega), h.len], fun j m t hm ht => ?_, fun m hm => h.wd m (List.mem_of_mem_eraseIdx hm), ?_, h.bel.trans (ht.below h.bel.size h.low)⟩
  · rw [List.getElem?_eraseIdx] at hm ht
    by_cases e : j < i
    · rw [if_pos e] at hm ht; exact h.sm j m t hm ht
    · rw [if_neg e] at hm ht; exact h.sm (j + 1) m t hm ht
  · rintro q (e | ⟨x, hx, e⟩)
    · exact h.low q (.inl e)
    · exact h.low q (.inr ⟨x, List.mem_of_mem_eraseIdx hx, e⟩)

theorem sm_symm : ∀ t t' : Tr, Sm t t' → Sm t' t := by
  refine Tr.ind fun k n f s a c kids hk => ?_
  rintro ⟨k', n', f', s', a', c', kids'⟩ h
  unfold Sm at h ⊢
  obtain ⟨rfl, rfl, rfl, rfl, h⟩ := h
  refine ⟨rfl, rfl, rfl, rfl, ?_⟩
  have hall : ∀ (l l' : List Tr), (∀ t, t ∈ l → t ∈ kids) → SmA l l' → SmA l' l := by
    intro l
    induction l with
    | nil =>
      intro l' _ h
      cases l' with
      | nil => exact h
      | cons => unfold SmA at h; exact h.elim
    | cons t r ih =>
      intro l' hm h
      cases l' with
      | nil => unfold SmA at h; exact h.elim
      | cons t' r' =>
        unfold SmA at h ⊢
        exact ⟨hk t (hm t (by simp)) t' h.1, ih r' (fun u hu => hm u (by simp [hu])) h.2⟩
  exact hall kids kids' (fun t h => h) h
theorem sm_trans : ∀ t t' t'' : Tr, Sm t t' → Sm t' t'' → Sm t t'' := by
  refine Tr.ind fun k n f s a c kids hk => ?_
  rintro ⟨k', n', f', s', a', c', kids'⟩ ⟨k2, n2, f2, s2, a2, c2, kids2⟩ h h2
  unfold Sm at h h2 ⊢
  obtain ⟨rfl, rfl, rfl, rfl, h⟩ := h
  obtain ⟨rfl, rfl, rfl, rfl, h2⟩ := h2
  refine ⟨rfl, rfl, rfl, rfl, ?_⟩
  have hall : ∀ (l l' l2 : List Tr), (∀ t, t ∈ l → t ∈ kids) → SmA l l' → SmA l' l2 → SmA l l2 := by
    intro l
    induction l with
    | nil =>
      intro l' l2 _ h h2
      cases l' with
      | nil => exact h2
      | cons => unfold SmA at h; exact h.elim
    | cons t r ih =>
      intro l' l2 hm h h2
      cases l' with
      | nil => unfold SmA at h; exact h.elim
      | cons t' r' =>
        cases l2 with
        | nil => unfold SmA at h2; exact h2.elim
        | cons t2 r2 =>
          unfold SmA at h h2 ⊢
          exact ⟨hk t (hm t (by simp)) t' t2 h.1 h2.1, ih r' r2 (fun u hu => hm u (by simp [hu])) h.2 h2.2⟩
  exact hall kids kids' kids2 (fun t h => h) h h2

variable {w wr : World} {bb place puts : Nat} {ms : List Msg} {ts : List Tr} {R : Nat → Prop}

theorem putT (h : TI w wr bb ms ts 0 puts R) {t : Tr} (hin : t.In w 0) (hs : Small t) (hcn : cnT t ≤ 60001) (he : errT t = 0) (hl : ms.length < 100) (hp : puts ≤ 1000) : Calls Try.prog 13 #[.pointer (some ⟨bb, 0, none⟩), t.val] wr fun e w' => e = .returned (.int .i64 0) ∧ ∃ (m : Msg) (R' : Nat → Prop), TI w w' bb (ms ++ [m]) (ts ++ [t]) 0 (puts + 1) R' := by
  have hm0 : ¬ meas t 200 65536 < 0 := by
    intro hlt
    unfold errT at he
    rw [if_pos hlt] at he
    omega
  have hm1 := (meas_bounds t 200 65536).2 (by omega)
  have hwt : wordsT t = ((meas t 200 65536).toNat : Int) := by unfold wordsT; rw [if_pos he]; omega
  have hwd := wds_le ms h.wd
  refine (putB t (meas t 200 65536).toNat (T := fun q => q < w.heap.size) h.bx (in_below h.bel hin) (on_all t hin) (fun q hq hb => by have := h.low q hb; omega) hs (by omega) he hwt (by omega) (by omega) (by omega) (by omega)).mono ?_
  rintro e w' ⟨rfl, m, R', hx, hsm, hw, hmb, _, ht⟩
  exact ⟨rfl, m, R', h.put hx hsm (by omega) hmb ht⟩

theorem nextT (h : TI w wr bb ms ts place puts R) {t : Tr} (ht : ts[place]? = some t) (hs : Small t) (hcn : cnT t ≤ 60001) : Calls Try.prog 15 #[.pointer (some ⟨bb, 0, none⟩)] wr fun e w' => ∃ (k' n' : Int) (f' : Nat) (s' : ByteArray) (a' : Option Addr) (c' : Nat) (kids' : List Tr), e = .returned (.tuple #[.agg #[.int .i64 k', .int .i64 n', .float .f64 f', .string s', .slice a' kids'.length c'], .bool true]) ∧ Sm (.mk k' n' f' s' a' c' kids') t ∧ (Tr.mk k' n' f' s' a' c' kids').In w' 0 ∧ TI w w' bb ms ts (place + 1) puts R := by
  have hl : place < ms.length := by have := (List.getElem?_eq_some_iff.1 ht).1; have := h.len; omega
  obtain ⟨m, hm⟩ : ∃ m, ms[place]? = some m := ⟨_, List.getElem?_eq_getElem hl⟩
  have hsm := h.sm place m t hm ht
  have h2 := sm_small t m.t hsm
  refine (nextB h.bx hm (h2.1 hs) (by omega)).mono ?_
  rintro e w' ⟨k', n', f', s', a', c', kids', rfl, hst, hti, hx, hb⟩
  exact ⟨k', n', f', s', a', c', kids', rfl, sm_symm _ _ (sm_trans _ _ _ hsm hst), in_base (Nat.zero_le _) _ hti, h.turn hx hb⟩
theorem takeT (h : TI w wr bb ms ts (place + 1) puts R) {t : Tr} (ht : ts[place]? = some t) (hs : Small t) (hcn : cnT t ≤ 60001) (hml : ms.length ≤ 100) : Calls Try.prog 16 #[.pointer (some ⟨bb, 0, none⟩)] wr fun e w' => ∃ (k' n' : Int) (f' : Nat) (s' : ByteArray) (a' : Option Addr) (c' : Nat) (kids' : List Tr), e = .returned (.tuple #[.agg #[.int .i64 k', .int .i64 n', .float .f64 f', .string s', .slice a' kids'.length c'], .int .i64 0]) ∧ Sm (.mk k' n' f' s' a' c' kids') t ∧ (Tr.mk k' n' f' s' a' c' kids').In w' 0 ∧ TI w w' bb (ms.eraseIdx place) (ts.eraseIdx place) 0 puts R := by
  have hl : place < ms.length := by have := (List.getElem?_eq_some_iff.1 ht).1; have := h.len; omega
  obtain ⟨m, hm⟩ : ∃ m, ms[place]? = some m := ⟨_, List.getElem?_eq_getElem hl⟩
  have hsm := h.sm place m t hm ht
  have h2 := sm_small t m.t hsm
  have hwd := wds_le ms h.wd
  refine (takeB h.bx hm (h2.1 hs) (by omega) (by omega) (by omega)).mono ?_
  rintro e w' ⟨k', n', f', s', a', c', kids', rfl, hst, hti, hx, hb⟩
  exact ⟨k', n', f', s', a', c', kids', rfl, sm_symm _ _ (sm_trans _ _ _ hsm hst), in_base (Nat.zero_le _) _ hti, h.take hl hx hb⟩

end Go.Proofs.Ytogahhbckfnllaa


