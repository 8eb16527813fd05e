import Derived.Test.YtggpbfmdhenjdaaFw12
import Derived.Test.YtggpbfmdhenjdaaG07
import Derived.Deep.DeepAppendWide
/- InboxTakes. -/
namespace Go.Proofs.Ytggpbfmdhenjdaa
open Go.RowKit Go.Deep
attribute [local go_sem] store_float f64bits
attribute [local go_sem ↓] Go.wp_at_zero Go.wp_at_succ

abbrev AT : Nat := 29
theorem infoA : ∃ i0, Try.prog.info? AT = some i0 ∧ i0.zero = some (.agg #[.int .i64 0, .int .i64 0, .int .i64 0, .float .f64 0, .string ⟨#[]⟩, .slice none 0 0]) ∧ i0.size = 6 ∧ i0.bytes = 72 := info_parts (show (Try.prog.info? AT).map (fun i => (i.zero, i.size, i.bytes)) = some (some (.agg #[.int .i64 0, .int .i64 0, .int .i64 0, .float .f64 0, .string ⟨#[]⟩, .slice none 0 0]), 6, 72) by kernel_rfl)

/-- Acts as cells. -/
def acs (ts : List Tr) : List Value := ts.flatMap fun t => .int .i64 0 :: t.cells
theorem acs_append (a b : List Tr) : acs (a ++ b) = acs a ++ acs b := by simp [acs]
theorem acs_at : ∀ (ts : List Tr) (k : Nat) (t : Tr), ts[k]? = some t → ∀ j, j < 5 → (acs ts)[k * 6 + 1 + j]? = t.cells[j]?
  | [], k, t, h, _, _ => by simp at h
  | u :: r, 0, t, h, j, hj => by
    simp at h
    subst h
    obtain ⟨k', n', f', s', a', c', kids'⟩ := u
    have : j = 0 ∨ j = 1 ∨ j = 2 ∨ j = 3 ∨ j = 4 := by omega
    rcases this with rfl | rfl | rfl | rfl | rfl <;> rfl
  | u :: r, k + 1, t, h, j, hj => by
    have h1 := acs_at r k t (by simpa using h) j hj
    have e : acs (u :: r) = (.int .i64 0 :: u.cells) ++ acs r := by simp [acs]
    have hl : (Value.int .i64 0 :: u.cells).length = 6 := by obtain ⟨k', n', f', s', a', c', kids'⟩ := u; rfl
    rw [e, List.getElem?_append_right (by rw [hl]; omega), hl, show (k + 1) * 6 + 1 + j - 6 = k * 6 + 1 + j by omega]
    exact h1
theorem actRow_of {w : World} {C n : Nat} {q : Option Addr} {c : Nat} {ts : List Tr} (h : w.ownsRow C AT 6 (.slice q n c) n (acs ts)) (hin : ∀ t, t ∈ ts → t.In w 0) : ActRow w q ts := by
  intro k t ht
  rcases h.2 with ⟨e, h0⟩ | ⟨g, cap, cur, hv, _⟩
  · have hl := h.1
    subst h0
    have : (acs ts).length = ts.length * 6 := by
      clear h hin ht e hl
      induction ts with
      | nil => rfl
      | cons u r ih => obtain ⟨k', n', f', s', a', c', kids'⟩ := u; have e : acs (Tr.mk k' n' f' s' a' c' kids' :: r) = [.int .i64 0, .int .i64 k', .int .i64 n', .float .f64 f', .string s', .slice a' kids'.length c'] ++ acs r := rfl; rw [e]; simp [ih]; omega
    have := (List.getElem?_eq_some_iff.1 ht).1
    omega
  · have hq : q = some ⟨g, 0, none⟩ := by simpa using (Value.slice.inj hv).1
    subst hq
    refine ⟨g, rfl, fun j hj => ?_, hin t (List.mem_of_getElem? ht)⟩
    have := acs_at ts k t ht j hj
    obtain ⟨k', n', f', s', a', c', kids'⟩ := t
    have hlt : k * 6 + 1 + j < (acs ts).length := by
      have h5 : ([.int .i64 k', .int .i64 n', .float .f64 f', .string s', .slice a' kids'.length c'] : List Value)[j]? = some (([.int .i64 k', .int .i64 n', .float .f64 f', .string s', .slice a' kids'.length c'] : List Value)[j]'hj) := List.getElem?_eq_getElem hj
      exact (List.getElem?_eq_some_iff.1 (this.trans h5)).1
    exact (h.cellAt _ (by have := h.1; omega)).trans this

theorem sm_small : ∀ t t' : Tr, Sm t t' → (Small t → Small t') ∧ cnT t' = cnT t := by
  refine Tr.ind fun k n f s a c kids hk => ?_
  rintro ⟨k', n', f', s', a', c', kids'⟩ h
  unfold Sm at h
  have hl := smA_len h.2.2.2.2
  have hall : ∀ (l l' : List Tr), (∀ t, t ∈ l → t ∈ kids) → SmA l l' → (SmallAll l → SmallAll l') ∧ cnA l' = cnA l := by
    intro l
    induction l with
    | nil =>
      intro l' _ h
      cases l' with
      | nil => exact ⟨fun h => h, rfl⟩
      | cons => unfold SmA at h; exact h.elim
    | cons t r ih =>
      intro l' hm h
      cases l' with
      | nil => unfold SmA at h; exact h.elim
      | cons t' r' =>
        unfold SmA at h
        have h1 := hk t (hm t (by simp)) t' h.1
        have h2 := ih r' (fun u hu => hm u (by simp [hu])) h.2
        simp only [SmallAll, cnA]
        exact ⟨fun h => ⟨h1.1 h.1, h2.1 h.2⟩, by omega⟩
  have := hall kids kids' (fun t h => h) h.2.2.2.2
  simp only [Small, cnT]
  exact ⟨fun h => ⟨by omega, this.1 h.2⟩, by omega⟩

theorem idx_of (x : Int) (L : Nat) (h0 : 0 < L) (h1 : L ≤ 100) : ∃ (y : Int) (n : Nat), n < L ∧ x.tmod (L : Int) = y ∧ ((¬ y < 0 ∧ y = (n : Int)) ∨ (y < 0 ∧ IntKind.i64.wrap (y + (L : Int)) = (n : Int))) := by
  have h2 := Int.tmod_lt_of_pos x (show (0 : Int) < (L : Int) by omega)
  have h3 : -(L : Int) < x.tmod (L : Int) := by
    rcases Int.le_total 0 x with h | h
    · have := Int.tmod_nonneg (L : Int) h; omega
    · have := Int.tmod_lt_of_pos (-x) (show (0 : Int) < (L : Int) by omega)
      rw [Int.neg_tmod] at this
      omega
  generalize x.tmod (L : Int) = y at *
  by_cases h : 0 ≤ y
  · exact ⟨y, y.toNat, by omega, rfl, .inl ⟨by omega, by omega⟩⟩
  · exact ⟨y, (y + L).toNat, by omega, rfl, .inr ⟨by omega, by rw [IntKind.wrap_i64]; omega⟩⟩

/-- A box of copies of the terms. -/
structure TI (w wr : World) (bb : Nat) (ms : List Msg) (ts : List Tr) (place puts : Nat) (R : Nat → Prop) : Prop where
  bx : BX wr bb ms place 16777216 puts R
  len : ms.length = ts.length
  sm : ∀ (i : Nat) (m : Msg) (t : Tr), ms[i]? = some m → ts[i]? = some t → Sm t m.t
  wd : ∀ m : Msg, m ∈ ms → m.wd ≤ 65538
  low : ∀ q, BS bb ms q → w.heap.size ≤ q
  bel : Below w.heap.size w wr

theorem wds_le : ∀ (ms : List Msg), (∀ m : Msg, m ∈ ms → m.wd ≤ 65538) → wds ms ≤ ms.length * 65538
  | [], _ => Nat.zero_le _
  | m :: r, h => by
    have h1 := wds_le r (fun x hx => h x (by simp [hx]))
    have h2 := h m (by simp)
    simp [wds]
    omega

theorem TI.keep {w wr w' : World} {bb place puts : Nat} {ms : List Msg} {ts : List Tr} {R : Nat → Prop} (h : TI w wr bb ms ts place puts R) (hb : Below wr.heap.size wr w') : TI w w' bb ms ts place puts R :=
  ⟨h.bx.keep hb, h.len, h.sm, h.wd, h.low, h.bel.trans (hb.mono h.bel.size)⟩
theorem TI.put {w wr w' : World} {bb puts : Nat} {ms : List Msg} {ts : List Tr} {R R' : Nat → Prop} {m : Msg} {t : Tr} (h : TI w wr bb ms ts 0 puts R) (hx : BX w' bb (ms ++ [m]) 0 16777216 (puts + 1) R') (hs : Sm t m.t) (hw : m.wd ≤ 65538) (hm : wr.heap.size ≤ m.b) (ht : But (BS bb ms) wr w') : TI w w' bb (ms ++ [m]) (ts ++ [t]) 0 (puts + 1) R' := by
  refine ⟨hx, by simp [h.len], fun i x u hi hu => ?_, fun x hx => ?_, fun q hq => ?_, h.bel.trans (ht.below h.bel.size h.low)⟩
  · by_cases e : i < ms.length
    · rw [List.getElem?_append_left e] at hi
      rw [List.getElem?_append_left (by have := h.len; omega)] at hu
      exact h.sm i x u hi hu
    · have hl := (List.getElem?_eq_some_iff.1 hi).1
      simp at hl
      have e2 : i = ms.length := by omega
      subst e2
      simp at hi
      rw [h.len] at hu
      simp at hu
      subst hi hu
      exact hs
  · rcases List.mem_append.1 hx with hx | hx
    · exact h.wd x hx
    · simp at hx; subst hx; exact hw
  · rcases bs_snoc hq with e | e
    · exact h.low q e
    · have := h.bel.size; omega
theorem TI.turn {w wr w' : World} {bb place place' puts : Nat} {ms : List Msg} {ts : List Tr} {R : Nat → Prop} (h : TI w wr bb ms ts place puts R) (hx : BX w' bb ms place' 16777216 puts R) (ht : But (BS bb ms) wr w') : TI w w' bb ms ts place' puts R :=
  ⟨hx, h.len, h.sm, h.wd, h.low, h.bel.trans (ht.below h.bel.size h.low)⟩
theorem TI.take {w wr w' : World} {bb place puts i : Nat} {ms : List Msg} {ts : List Tr} {R : Nat → Prop} (h : TI w wr bb ms ts place puts R) (hi : i < ms.length) (hx : BX w' bb (ms.eraseIdx i) 0 16777216 puts R) (ht : But (BS bb ms) wr w') : TI w w' bb (ms.eraseIdx i) (ts.eraseIdx i) 0 puts R := by
  have hl := h.len
  refine ⟨hx, by rw [List.length_eraseIdx, List.length_eraseIdx, if_pos hi, if_pos (by omega), h.len], fun j m t hm ht => ?_, fun m hm => h.wd m (List.mem_of_mem_eraseIdx hm), ?_, h.bel.trans (ht.below h.bel.size h.low)⟩
  · rw [List.getElem?_eraseIdx] at hm ht
    by_cases e : j < i
    · rw [if_pos e] at hm ht; exact h.sm j m t hm ht
    · rw [if_neg e] at hm ht; exact h.sm (j + 1) m t hm ht
  · rintro q (e | ⟨x, hx, e⟩)
    · exact h.low q (.inl e)
    · exact h.low q (.inr ⟨x, List.mem_of_mem_eraseIdx hx, e⟩)

theorem sm_symm : ∀ t t' : Tr, Sm t t' → Sm t' t := by
  refine Tr.ind fun k n f s a c kids hk => ?_
  rintro ⟨k', n', f', s', a', c', kids'⟩ h
  unfold Sm at h ⊢
  obtain ⟨rfl, rfl, rfl, rfl, h⟩ := h
  refine ⟨rfl, rfl, rfl, rfl, ?_⟩
  have hall : ∀ (l l' : List Tr), (∀ t, t ∈ l → t ∈ kids) → SmA l l' → SmA l' l := by
    intro l
    induction l with
    | nil =>
      intro l' _ h
      cases l' with
      | nil => exact h
      | cons => unfold SmA at h; exact h.elim
    | cons t r ih =>
      intro l' hm h
      cases l' with
      | nil => unfold SmA at h; exact h.elim
      | cons t' r' =>
        unfold SmA at h ⊢
        exact ⟨hk t (hm t (by simp)) t' h.1, ih r' (fun u hu => hm u (by simp [hu])) h.2⟩
  exact hall kids kids' (fun t h => h) h
theorem sm_trans : ∀ t t' t'' : Tr, Sm t t' → Sm t' t'' → Sm t t'' := by
  refine Tr.ind fun k n f s a c kids hk => ?_
  rintro ⟨k', n', f', s', a', c', kids'⟩ ⟨k2, n2, f2, s2, a2, c2, kids2⟩ h h2
  unfold Sm at h h2 ⊢
  obtain ⟨rfl, rfl, rfl, rfl, h⟩ := h
  obtain ⟨rfl, rfl, rfl, rfl, h2⟩ := h2
  refine ⟨rfl, rfl, rfl, rfl, ?_⟩
  have hall : ∀ (l l' l2 : List Tr), (∀ t, t ∈ l → t ∈ kids) → SmA l l' → SmA l' l2 → SmA l l2 := by
    intro l
    induction l with
    | nil =>
      intro l' l2 _ h h2
      cases l' with
      | nil => exact h2
      | cons => unfold SmA at h; exact h.elim
    | cons t r ih =>
      intro l' l2 hm h h2
      cases l' with
      | nil => unfold SmA at h; exact h.elim
      | cons t' r' =>
        cases l2 with
        | nil => unfold SmA at h2; exact h2.elim
        | cons t2 r2 =>
          unfold SmA at h h2 ⊢
          exact ⟨hk t (hm t (by simp)) t' t2 h.1 h2.1, ih r' r2 (fun u hu => hm u (by simp [hu])) h.2 h2.2⟩
  exact hall kids kids' kids2 (fun t h => h) h h2

variable {w wr : World} {bb place puts : Nat} {ms : List Msg} {ts : List Tr} {R : Nat → Prop}

theorem putT (h : TI w wr bb ms ts 0 puts R) {t : Tr} (hin : t.In w 0) (hs : Small t) (hcn : cnT t ≤ 60001) (he : errT t = 0) (hl : ms.length < 100) (hp : puts ≤ 1000) : Calls Try.prog 9 #[.pointer (some ⟨bb, 0, none⟩), t.val] wr fun e w' => e = .returned (.int .i64 0) ∧ ∃ (m : Msg) (R' : Nat → Prop), TI w w' bb (ms ++ [m]) (ts ++ [t]) 0 (puts + 1) R' := by
  have hm0 : ¬ meas t 200 65536 < 0 := by
    intro hlt
    unfold errT at he
    rw [if_pos hlt] at he
    omega
  have hm1 := (meas_bounds t 200 65536).2 (by omega)
  have hwt : wordsT t = ((meas t 200 65536).toNat : Int) := by unfold wordsT; rw [if_pos he]; omega
  have hwd := wds_le ms h.wd
  refine (putB t (meas t 200 65536).toNat (T := fun q => q < w.heap.size) h.bx (in_below h.bel hin) (on_all t hin) (fun q hq hb => by have := h.low q hb; omega) hs (by omega) he hwt (by omega) (by omega) (by omega) (by omega)).mono ?_
  rintro e w' ⟨rfl, m, R', hx, hsm, hw, hmb, _, ht⟩
  exact ⟨rfl, m, R', h.put hx hsm (by omega) hmb ht⟩

theorem nextT (h : TI w wr bb ms ts place puts R) {t : Tr} (ht : ts[place]? = some t) (hs : Small t) (hcn : cnT t ≤ 60001) : Calls Try.prog 10 #[.pointer (some ⟨bb, 0, none⟩)] wr fun e w' => ∃ (k' n' : Int) (f' : Nat) (s' : ByteArray) (a' : Option Addr) (c' : Nat) (kids' : List Tr), e = .returned (.tuple #[.agg #[.int .i64 k', .int .i64 n', .float .f64 f', .string s', .slice a' kids'.length c'], .bool true]) ∧ Sm (.mk k' n' f' s' a' c' kids') t ∧ (Tr.mk k' n' f' s' a' c' kids').In w' 0 ∧ TI w w' bb ms ts (place + 1) puts R := by
  have hl : place < ms.length := by have := (List.getElem?_eq_some_iff.1 ht).1; have := h.len; omega
  obtain ⟨m, hm⟩ : ∃ m, ms[place]? = some m := ⟨_, List.getElem?_eq_getElem hl⟩
  have hsm := h.sm place m t hm ht
  have h2 := sm_small t m.t hsm
  refine (nextB h.bx hm (h2.1 hs) (by omega)).mono ?_
  rintro e w' ⟨k', n', f', s', a', c', kids', rfl, hst, hti, hx, hb⟩
  exact ⟨k', n', f', s', a', c', kids', rfl, sm_symm _ _ (sm_trans _ _ _ hsm hst), in_base (Nat.zero_le _) _ hti, h.turn hx hb⟩
theorem takeT (h : TI w wr bb ms ts (place + 1) puts R) {t : Tr} (ht : ts[place]? = some t) (hs : Small t) (hcn : cnT t ≤ 60001) (hml : ms.length ≤ 100) : Calls Try.prog 12 #[.pointer (some ⟨bb, 0, none⟩)] wr fun e w' => ∃ (k' n' : Int) (f' : Nat) (s' : ByteArray) (a' : Option Addr) (c' : Nat) (kids' : List Tr), e = .returned (.tuple #[.agg #[.int .i64 k', .int .i64 n', .float .f64 f', .string s', .slice a' kids'.length c'], .int .i64 0]) ∧ Sm (.mk k' n' f' s' a' c' kids') t ∧ (Tr.mk k' n' f' s' a' c' kids').In w' 0 ∧ TI w w' bb (ms.eraseIdx place) (ts.eraseIdx place) 0 puts R := by
  have hl : place < ms.length := by have := (List.getElem?_eq_some_iff.1 ht).1; have := h.len; omega
  obtain ⟨m, hm⟩ : ∃ m, ms[place]? = some m := ⟨_, List.getElem?_eq_getElem hl⟩
  have hsm := h.sm place m t hm ht
  have h2 := sm_small t m.t hsm
  have hwd := wds_le ms h.wd
  refine (takeB h.bx hm (h2.1 hs) (by omega) (by omega) (by omega)).mono ?_
  rintro e w' ⟨k', n', f', s', a', c', kids', rfl, hst, hti, hx, hb⟩
  exact ⟨k', n', f', s', a', c', kids', rfl, sm_symm _ _ (sm_trans _ _ _ hsm hst), in_base (Nat.zero_le _) _ hti, h.take hl hx hb⟩

set_option maxHeartbeats 40000000 in
set_option maxRecDepth 100000 in
theorem inboxTakes_of (a : Option Addr) (c : Nat) (kids : List Tr) (n0 : Int) (w : World) (hin : (Tr.mk 0 0 0 ⟨#[]⟩ a c kids).In w 0) (hsw : ∀ t, t ∈ kids → SmallW t) (hlen : kids.length ≤ 2199023255552) :
    Calls Try.prog 3 #[.slice a kids.length c, .int .i64 n0] w fun e w' => e = .returned (.bool true) ∧ Below w.heap.size w w' := by
  have HIN := hidb hin
  have HSW := hidb hsw
  have KN := hidb (known12_any)
  obtain ⟨i0, hi, hz0, hz1, hz2⟩ := infoA
  clear hin hsw
  go_enter Try.func3, Try.ntmps3
  go_wp2_with (first
    | (go_at_call 5; refine (KN.out _).mono ?_; rintro e w1 ⟨rfl, hb1⟩; have HB1 := hidb hb1; clear hb1))
  have hmw0 : ∀ m : Nat, m ≤ 3000000000000 → IntKind.i64.wrap ((m : Int) + 1) = (m : Int) + 1 := fun m h => by rw [IntKind.wrap_i64]; omega
  have HMW := hidb hmw0
  clear hmw0
  go_loopw [5, 6] (fun av iv wr => ∃ (m : Nat), m ≤ kids.length ∧ iv = .int .i64 m ∧ wr.ownsRow w.heap.size AT 6 av m (acs (kids.take m)) ∧ (∀ (i : Nat) (t : Tr), i < m → kids[i]? = some t → errT t = 0) ∧ Below w.heap.size w wr) (fun _ iv _ => kids.length - (RowKit.intOf iv).toNat)
  case atStart => exact ⟨0, by omega, rfl, World.ownsRow_nil _ _ _ _, fun i t h => by omega, HB1.out⟩
  case round =>
  obtain ⟨m, hm, rfl, hrow, hok, hb⟩ := hrel
  have HB := hidb hb
  have HOK := hidb hok
  have HROW := hidb hrow
  obtain ⟨qa, ca, rfl⟩ := own_sl hrow
  have hmw := HMW.out m (by omega)
  clear hb hok hrow
  by_cases hml : m < kids.length
  · have hmb : (m : Int) < (kids.length : Int) := by omega
    have hmz : (0 : Int) ≤ (m : Int) := by omega
    obtain ⟨b, o, rfl, hat⟩ := kid_at HIN.out (by omega)
    obtain ⟨k', n', f', s', a', c', kids', hu, hin', d0, d1, d2, d3, d4⟩ := hat m hml
    have HU := hidb hu
    have HI' := hidb hin'
    have hbl : b < w.heap.size := World.block_lt_of_cell? _ _ d0
    have c0 := (HB.out.cell hbl).trans d0
    have c1 := (HB.out.cell hbl).trans d1
    have c2 := (HB.out.cell hbl).trans d2
    have c3 := (HB.out.cell hbl).trans d3
    have c4 := (HB.out.cell hbl).trans d4
    have HCC := hidb (And.intro d0 (And.intro d1 (And.intro d2 (And.intro d3 d4))))
    have RT := hidb (fun W hb => rright_t (.mk k' n' f' s' a' c' kids') W (in_below (w := w) hb hin') (HSW.out _ (List.mem_of_getElem? hu)))
    simp only [Tr.val, Tr.cells] at RT
    have HTK : Hid (acs (kids.take m) ++ [.int .i64 0, .int .i64 k', .int .i64 n', .float .f64 f', .string s', .slice a' kids'.length c'] = acs (kids.take (m + 1))) := hidb (by rw [List.take_add_one, hu, acs_append]; rfl)
    clear hat hu hin' d0 d1 d2 d3 d4
    go_wp2_with (first
      | (at_builtin; refine wpList_append_own_wide _ rfl _ _ 24 rfl w.heap.size AT i0 (.agg #[.int .i64 0, .int .i64 0, .int .i64 0, .float .f64 0, .string ⟨#[]⟩, .slice none 0 0]) 6 72 Try.underlying24 hi hz0 hz1 hz2 rfl (by decide) (.slice qa m ca) m (acs (kids.take m)) rfl ?e1 ⟨wr.heap.size, 0, none⟩ 1 1 [.int .i64 0, .int .i64 k', .int .i64 n', .float .f64 f', .string s', .slice a' kids'.length c'] rfl rfl ?e6 ?e2 ?e3 ?e4 ?e5 ?_))
    case e1 => exact HROW.out.alloc _
    case e6 => exact World.news_of_block ((MapKept.heap_alloc wr _).1)
    case e2 => simp [Value.oneCell']
    case e3 => unfold maxLen; omega
    case e4 => omega
    case e5 => have := HB.out.size; simp; omega
    intro v' w4 hown' hgrow hnil
    have HB4 := hidb (grown_up (HB.out.trans ((below_new wr _).mono HB.out.size)) hgrow (fun k hk => (row_lt HROW.out k hk).2))
    rw [HTK.out] at hown'
    have HR4 := hidb hown'
    obtain ⟨qa4, ca4, rfl⟩ := own_sl hown'
    clear hown' hgrow hnil c0 c1 c2 c3 c4
    have c0 := (HB4.out.cell hbl).trans HCC.out.1
    have c1 := (HB4.out.cell hbl).trans HCC.out.2.1
    have c2 := (HB4.out.cell hbl).trans HCC.out.2.2.1
    have c3 := (HB4.out.cell hbl).trans HCC.out.2.2.2.1
    have c4 := (HB4.out.cell hbl).trans HCC.out.2.2.2.2
    by_cases he : errT (.mk k' n' f' s' a' c' kids') = 0
    · have HE := hidb he
      rw [he] at RT
      clear he
      go_wp2_with (first
        | (go_at_call 6; refine (RT.out _ HB4.out).mono ?_; rintro e w5 ⟨rfl, hb5⟩; have HB5 := hidb (HB4.out.trans (hb5.mono HB4.out.size)); have HR5 := hidb (row_but HR4.out (But.of_below (S := fun _ => False) hb5) (fun _ _ h => h)); clear hb5))
      go_roundw
      case rel => exact ⟨m + 1, by omega, by go_num, HR5.out, fun i t hi ht => by
        by_cases e : i = m
        · subst e; rw [HU.out] at ht; cases ht; exact HE.out
        · exact HOK.out i t (by omega) ht, HB5.out⟩
      case measure => simp [RowKit.intOf]; omega
    · have he2 : (errT (.mk k' n' f' s' a' c' kids') == 0) = false := by simpa using he
      rw [he2] at RT
      clear he he2
      go_wp2_with (first
        | (go_at_call 6; refine (RT.out _ HB4.out).mono ?_; rintro e w5 ⟨rfl, hb5⟩; have HB5 := hidb (HB4.out.trans (hb5.mono HB4.out.size)); clear hb5))
      go_ret
      exact ⟨rfl, HB5.out⟩
  obtain rfl : m = kids.length := by omega
  have hmn : ¬ (kids.length : Int) < (kids.length : Int) := by omega
  rw [List.take_length] at HROW
  have FW := hidb (fun W (hb : Below wr.heap.size wr W) => few12_any qa ca kids W ((actRow_of HROW.out (fun t ht => by
    obtain ⟨i, hi⟩ := List.getElem?_of_mem ht
    have hl := (List.getElem?_eq_some_iff.1 hi).1
    obtain ⟨b, o, e, hat⟩ := kid_at HIN.out (by omega)
    obtain ⟨k', n', f', s', a', c', kids', hu, hin', _⟩ := hat i hl
    rw [hi] at hu
    cases hu
    exact in_below HB.out hin')).keep hb) (by omega))
  by_cases hfew : kids.length ≤ 400 ∧ 0 ≤ fewAll kids 60000 1000
  · have hF : (decide (kids.length ≤ 400) && decide (0 ≤ fewAll kids 60000 1000)) = true := by simpa using hfew
    rw [hF] at FW
    have HEA := hidb (fun (t : Tr) (ht : t ∈ kids) => few_each hfew.2 ht)
    clear hF hfew
    by_cases h0 : kids.length = 0
    · have h0i : ((kids.length : Int) == 0) = true := by simp [h0]
      have h0j : ¬ (100 : Int) < (kids.length : Int) := by omega
      clear h0
      go_wp2_with (first
        | (go_at_call 7; refine (newB _ (by decide) (by decide) _).mono ?_; rintro e w3 ⟨rfl, rfl⟩)
        | (go_at_call 8; refine (FW.out _ (below_new wr _)).mono ?_; rintro e w4 ⟨rfl, hb4⟩; have HB4 := hidb (HB.out.trans (((below_new wr _).trans (hb4.mono (by simp))).mono HB.out.size)); clear hb4))
      go_ret
      exact ⟨rfl, HB4.out⟩
    have h0i : ((kids.length : Int) == 0) = false := by simp [h0]
    by_cases h100 : 100 < kids.length
    · have h100i : (100 : Int) < (kids.length : Int) := by omega
      clear h0 h100
      go_wp2_with (first
        | (go_at_call 7; refine (newB _ (by decide) (by decide) _).mono ?_; rintro e w3 ⟨rfl, rfl⟩)
        | (go_at_call 8; refine (FW.out _ (below_new wr _)).mono ?_; rintro e w4 ⟨rfl, hb4⟩; have HB4 := hidb (HB.out.trans (((below_new wr _).trans (hb4.mono (by simp))).mono HB.out.size)); clear hb4))
      go_ret
      exact ⟨rfl, HB4.out⟩
    have h100i : ¬ (100 : Int) < (kids.length : Int) := by omega
    have hL0 : 0 < kids.length := by omega
    have hL1 : kids.length ≤ 100 := by omega
    have HL := hidb (And.intro hL0 hL1)
    obtain ⟨y, nn, hnn, hy, hor⟩ := idx_of n0 kids.length hL0 hL1
    have HNN := hidb hnn
    have h0b : ¬ (kids.length : Int) = 0 := by omega
    have h0c : ¬ kids = [] := by intro e; rw [e] at h0; simp at h0
    clear h100 hL0 hL1 hnn
    have HT0 := hidb (show TI w (wr.alloc (.cells #[.pointer none, .pointer none, .pointer none, .int .i64 0, .int .i64 0, .int .i64 16777216, .int .i64 0] BT)) wr.heap.size [] [] 0 0 (fun _ => False) from ⟨bx_new wr 16777216 _ rfl, rfl, fun i m t h => by simp at h, fun m h => by simp at h, by
      rintro q (e | ⟨x, hx, _⟩)
      · have := HB.out.size; omega
      · simp at hx, HB.out.trans ((below_new wr _).mono HB.out.size)⟩)
    rcases hor with ⟨hy0, hyn⟩ | ⟨hy0, hyn⟩
    · subst hyn
      go_wp2_with (first
        | (go_at_call 7; refine (newB _ (by decide) (by decide) _).mono ?_; rintro e w3 ⟨rfl, rfl⟩)
        | (go_at_call 8; refine (FW.out _ (below_new wr _)).mono ?_; rintro e w4 ⟨rfl, hb4⟩; have HT4 := hidb (HT0.out.keep hb4); clear hb4 HT0))
      generalize wr.heap.size = bb at *
      clear HB HROW FW hml h0i h100i h0b h0c
      go_loopw [9] (fun iv wz => ∃ (k : Nat) (ms : List Msg) (R : Nat → Prop), k ≤ kids.length ∧ iv = .int .i64 k ∧ TI w wz bb ms (kids.take k) 0 k R) (fun iv _ => kids.length - (RowKit.intOf iv).toNat)
      case atStart => exact ⟨0, [], _, by omega, rfl, HT4.out⟩
      case round =>
      obtain ⟨k, ms, R, hk, rfl, hT⟩ := hrel
      have HT := hidb hT
      clear hT HT4
      have hkw := HMW.out k (by omega)
      by_cases hkl : k < kids.length
      · have hkb : (k : Int) < (kids.length : Int) := by omega
        have hkz : (0 : Int) ≤ (k : Int) := by omega
        obtain ⟨b, o, rfl, hat⟩ := kid_at HIN.out (by omega)
        obtain ⟨k', n', f', s', a', c', kids', hu, hin', d0, d1, d2, d3, d4⟩ := hat k hkl
        have hbl : b < w.heap.size := World.block_lt_of_cell? _ _ d0
        have c0 := (HT.out.bel.cell hbl).trans d0
        have c1 := (HT.out.bel.cell hbl).trans d1
        have c2 := (HT.out.bel.cell hbl).trans d2
        have c3 := (HT.out.bel.cell hbl).trans d3
        have c4 := (HT.out.bel.cell hbl).trans d4
        obtain ⟨e1, e2⟩ := HEA.out _ (List.mem_of_getElem? hu)
        have hms : ms.length = k := by have := HT.out.len; rw [List.length_take] at this; omega
        have PT := hidb (putT HT.out hin' e1 e2 (HOK.out k _ hkl hu) (by have := HL.out; omega) (by have := HL.out; omega))
        simp only [Tr.val, Tr.cells] at PT
        have HTK : Hid (kids.take k ++ [Tr.mk k' n' f' s' a' c' kids'] = kids.take (k + 1)) := hidb (by rw [List.take_add_one, hu]; rfl)
        clear hat hu hin' d0 d1 d2 d3 d4 e1 e2 hms
        go_wp2_with (first
          | (go_at_call 9; refine PT.out.mono ?_; rintro e w5 ⟨rfl, m5, R5, h5⟩; rw [HTK.out] at h5; have HT5 := hidb h5; clear h5 PT))
        go_roundw
        case rel => exact ⟨k + 1, _, _, by omega, by go_num, HT5.out⟩
        case measure => simp [RowKit.intOf]; omega
      · have hkb : ¬ (k : Int) < (kids.length : Int) := by omega
        obtain rfl : k = kids.length := by omega
        rw [List.take_length] at HT
        go_wp2_with fail
        clear hkb hkw hkl hk hm
        go_loopw [10] (fun iv wz => ∃ (k : Nat), k ≤ nn + 1 ∧ iv = .int .i64 k ∧ TI w wz bb ms kids k kids.length R) (fun iv _ => nn + 1 - (RowKit.intOf iv).toNat)
        case atStart => exact ⟨0, by omega, rfl, HT.out⟩
        case round =>
        obtain ⟨k, hk, rfl, hT⟩ := hrel
        have HT := hidb hT
        clear hT
        have hkw := HMW.out k (by have := HNN.out; omega)
        by_cases hkl : k ≤ nn
        · have hkb : (k : Int) ≤ (nn : Int) := by omega
          have hkc : (k : Int) < (kids.length : Int) := by have := HNN.out; omega
          have hkz : (0 : Int) ≤ (k : Int) := by omega
          have hkn : k < kids.length := by have := HNN.out; omega
          obtain ⟨b, o, rfl, hat⟩ := kid_at HIN.out (by omega)
          obtain ⟨k', n', f', s', a', c', kids', hu, hin', d0, d1, d2, d3, d4⟩ := hat k hkn
          have hbl : b < w.heap.size := World.block_lt_of_cell? _ _ d0
          have HD := hidb (And.intro d0 (And.intro d1 (And.intro d2 (And.intro d3 d4))))
          obtain ⟨e1, e2⟩ := HEA.out _ (List.mem_of_getElem? hu)
          have NT := hidb (nextT HT.out hu e1 e2)
          have HI' := hidb hin'
          clear hat hu hin' d0 d1 d2 d3 d4 e1 e2
          go_wp2_with (first
            | (go_at_call 10; refine NT.out.mono ?_; rintro e w5 ⟨k2, n2, f2, s2, a2, c2, kids2, rfl, hsm, hti, h5⟩; have HT5 := hidb h5; have HSM := hidb hsm; have HTI := hidb hti; clear h5 hsm hti NT))
          obtain ⟨X5, hX5⟩ : ∃ X, w5.alloc (.cells #[.int .i64 k2, .int .i64 n2, .float .f64 f2, .string s2, .slice a2 kids2.length c2] 27) = X := ⟨_, rfl⟩
          have BX5 := Box.new w5 27 (.int .i64 k2) (.int .i64 n2) (.float .f64 f2) (.string s2) (.slice a2 kids2.length c2)
          have hb0 := below_new w5 (.cells #[.int .i64 k2, .int .i64 n2, .float .f64 f2, .string s2, .slice a2 kids2.length c2] 27)
          rw [hX5] at BX5 hb0
          rw [hX5]
          have HTX := hidb (HT5.out.keep hb0)
          have HXI := hidb (in_below hb0 HTI.out)
          generalize hxb : w5.heap.size = xb at *
          have hxl := BX5.lt
          have HSX : Hid (X5.drew.cell? ⟨xb, 0, none⟩ = some (.int .i64 k2) ∧ X5.drew.cell? ⟨xb, 1, none⟩ = some (.int .i64 n2) ∧ X5.drew.cell? ⟨xb, 2, none⟩ = some (.float .f64 f2) ∧ X5.drew.cell? ⟨xb, 3, none⟩ = some (.string s2) ∧ X5.drew.cell? ⟨xb, 4, none⟩ = some (.slice a2 kids2.length c2) ∧ X5.drew.cell? ⟨b, o + k * 5, none⟩ = some (.int .i64 k') ∧ X5.drew.cell? ⟨b, o + k * 5 + 1, none⟩ = some (.int .i64 n') ∧ X5.drew.cell? ⟨b, o + k * 5 + 2, none⟩ = some (.float .f64 f') ∧ X5.drew.cell? ⟨b, o + k * 5 + 3, none⟩ = some (.string s') ∧ X5.drew.cell? ⟨b, o + k * 5 + 4, none⟩ = some (.slice a' kids'.length c')) := hidb ⟨BX5.c0, BX5.c1, BX5.c2, BX5.c3, BX5.c4, (HTX.out.bel.cell hbl).trans HD.out.1, (HTX.out.bel.cell hbl).trans HD.out.2.1, (HTX.out.bel.cell hbl).trans HD.out.2.2.1, (HTX.out.bel.cell hbl).trans HD.out.2.2.2.1, (HTX.out.bel.cell hbl).trans HD.out.2.2.2.2⟩
          have hbl5 : b < X5.heap.size := Nat.lt_of_lt_of_le hbl HTX.out.bel.size
          have TW := hidb (twin_same _ _ HSM.out X5.drew (in_below ((Below.refl _ _).drew) HXI.out) (in_below ((Below.refl _ _).drew) (in_below HTX.out.bel HI'.out)))
          simp only [Tr.val, Tr.cells] at TW
          clear BX5 hb0 hX5 hxb
          go_region_held3 (fun w' => w'.cell? ⟨xb, 0, none⟩ = some (.int .i64 k2) ∧ w'.cell? ⟨xb, 1, none⟩ = some (.int .i64 n2) ∧ w'.cell? ⟨xb, 2, none⟩ = some (.float .f64 f2) ∧ w'.cell? ⟨xb, 3, none⟩ = some (.string s2) ∧ w'.cell? ⟨xb, 4, none⟩ = some (.slice a2 kids2.length c2) ∧ w'.cell? ⟨b, o + k * 5, none⟩ = some (.int .i64 k') ∧ w'.cell? ⟨b, o + k * 5 + 1, none⟩ = some (.int .i64 n') ∧ w'.cell? ⟨b, o + k * 5 + 2, none⟩ = some (.float .f64 f') ∧ w'.cell? ⟨b, o + k * 5 + 3, none⟩ = some (.string s') ∧ w'.cell? ⟨b, o + k * 5 + 4, none⟩ = some (.slice a' kids'.length c'))
            (first | with_reducible exact HSX.out | with_reducible exact HS6.out) (first
            | (go_at_call 11; refine TW.out.mono ?_; rintro e w6 ⟨rfl, hb6⟩; have HS6 : Hid (w6.cell? ⟨xb, 0, none⟩ = some (.int .i64 k2) ∧ w6.cell? ⟨xb, 1, none⟩ = some (.int .i64 n2) ∧ w6.cell? ⟨xb, 2, none⟩ = some (.float .f64 f2) ∧ w6.cell? ⟨xb, 3, none⟩ = some (.string s2) ∧ w6.cell? ⟨xb, 4, none⟩ = some (.slice a2 kids2.length c2) ∧ w6.cell? ⟨b, o + k * 5, none⟩ = some (.int .i64 k') ∧ w6.cell? ⟨b, o + k * 5 + 1, none⟩ = some (.int .i64 n') ∧ w6.cell? ⟨b, o + k * 5 + 2, none⟩ = some (.float .f64 f') ∧ w6.cell? ⟨b, o + k * 5 + 3, none⟩ = some (.string s') ∧ w6.cell? ⟨b, o + k * 5 + 4, none⟩ = some (.slice a' kids'.length c')) := hidb ⟨(hb6.cell (p := ⟨xb, 0, none⟩) hxl).trans HSX.out.1, (hb6.cell (p := ⟨xb, 1, none⟩) hxl).trans HSX.out.2.1, (hb6.cell (p := ⟨xb, 2, none⟩) hxl).trans HSX.out.2.2.1, (hb6.cell (p := ⟨xb, 3, none⟩) hxl).trans HSX.out.2.2.2.1, (hb6.cell (p := ⟨xb, 4, none⟩) hxl).trans HSX.out.2.2.2.2.1, (hb6.cell hbl5).trans HSX.out.2.2.2.2.2.1, (hb6.cell hbl5).trans HSX.out.2.2.2.2.2.2.1, (hb6.cell hbl5).trans HSX.out.2.2.2.2.2.2.2.1, (hb6.cell hbl5).trans HSX.out.2.2.2.2.2.2.2.2.1, (hb6.cell hbl5).trans HSX.out.2.2.2.2.2.2.2.2.2⟩; have HT6 := hidb (HTX.out.keep (undrew hb6)); clear hb6))
          go_wp2_with fail
          go_roundw
          case rel => exact ⟨k + 1, by omega, by go_num, HT6.out⟩
          case measure => simp [RowKit.intOf]; omega
        · have hkb : ¬ (k : Int) ≤ (nn : Int) := by omega
          obtain rfl : k = nn + 1 := by omega
          have hnc : (nn : Int) < (kids.length : Int) := by have := HNN.out; omega
          have hnz : (0 : Int) ≤ (nn : Int) := by omega
          obtain ⟨b, o, rfl, hat⟩ := kid_at HIN.out (by have := HNN.out; omega)
          obtain ⟨k', n', f', s', a', c', kids', hu, hin', d0, d1, d2, d3, d4⟩ := hat nn HNN.out
          have hbl : b < w.heap.size := World.block_lt_of_cell? _ _ d0
          have HD := hidb (And.intro d0 (And.intro d1 (And.intro d2 (And.intro d3 d4))))
          obtain ⟨e1, e2⟩ := HEA.out _ (List.mem_of_getElem? hu)
          have TT := hidb (takeT HT.out hu e1 e2 (by have := HT.out.len; have := HL.out; omega))
          have HI' := hidb hin'
          have HLE : Hid (ms.length = kids.length) := hidb HT.out.len
          clear hat hu hin' d0 d1 d2 d3 d4 e1 e2
          go_wp2_with (first
            | (go_at_call 12; refine TT.out.mono ?_; rintro e w5 ⟨k2, n2, f2, s2, a2, c2, kids2, rfl, hsm, hti, h5⟩; have HT5 := hidb h5; have HSM := hidb hsm; have HTI := hidb hti; clear h5 hsm hti TT))
          have HLN : Hid (((ms.eraseIdx nn).length : Int) = ((kids.length - 1 : Nat) : Int)) := hidb (by rw [List.length_eraseIdx, if_pos (by have := HLE.out; have := HNN.out; omega), HLE.out])
          have hlw : IntKind.i64.wrap ((kids.length : Int) - 1) = ((kids.length - 1 : Nat) : Int) := by have := HL.out; rw [IntKind.wrap_i64]; omega
          generalize hL1 : ((kids.length - 1 : Nat) : Int) = L1 at *
          have hne : (L1 != L1) = false := by simp
          clear hL1
          obtain ⟨X5, hX5⟩ : ∃ X, w5.alloc (.cells #[.int .i64 k2, .int .i64 n2, .float .f64 f2, .string s2, .slice a2 kids2.length c2] 27) = X := ⟨_, rfl⟩
          have BX5 := Box.new w5 27 (.int .i64 k2) (.int .i64 n2) (.float .f64 f2) (.string s2) (.slice a2 kids2.length c2)
          have hb0 := below_new w5 (.cells #[.int .i64 k2, .int .i64 n2, .float .f64 f2, .string s2, .slice a2 kids2.length c2] 27)
          rw [hX5] at BX5 hb0
          rw [hX5]
          have HTX := hidb (HT5.out.keep hb0)
          have HXI := hidb (in_below hb0 HTI.out)
          generalize hxb : w5.heap.size = xb at *
          have hxl := BX5.lt
          have HSX : Hid (X5.drew.cell? ⟨xb, 0, none⟩ = some (.int .i64 k2) ∧ X5.drew.cell? ⟨xb, 1, none⟩ = some (.int .i64 n2) ∧ X5.drew.cell? ⟨xb, 2, none⟩ = some (.float .f64 f2) ∧ X5.drew.cell? ⟨xb, 3, none⟩ = some (.string s2) ∧ X5.drew.cell? ⟨xb, 4, none⟩ = some (.slice a2 kids2.length c2) ∧ X5.drew.cell? ⟨b, o + nn * 5, none⟩ = some (.int .i64 k') ∧ X5.drew.cell? ⟨b, o + nn * 5 + 1, none⟩ = some (.int .i64 n') ∧ X5.drew.cell? ⟨b, o + nn * 5 + 2, none⟩ = some (.float .f64 f') ∧ X5.drew.cell? ⟨b, o + nn * 5 + 3, none⟩ = some (.string s') ∧ X5.drew.cell? ⟨b, o + nn * 5 + 4, none⟩ = some (.slice a' kids'.length c')) := hidb ⟨BX5.c0, BX5.c1, BX5.c2, BX5.c3, BX5.c4, (HTX.out.bel.cell hbl).trans HD.out.1, (HTX.out.bel.cell hbl).trans HD.out.2.1, (HTX.out.bel.cell hbl).trans HD.out.2.2.1, (HTX.out.bel.cell hbl).trans HD.out.2.2.2.1, (HTX.out.bel.cell hbl).trans HD.out.2.2.2.2⟩
          have hbl5 : b < X5.heap.size := Nat.lt_of_lt_of_le hbl HTX.out.bel.size
          have TW := hidb (twin_same _ _ HSM.out X5.drew (in_below ((Below.refl _ _).drew) HXI.out) (in_below ((Below.refl _ _).drew) (in_below HTX.out.bel HI'.out)))
          simp only [Tr.val, Tr.cells] at TW
          clear BX5 hb0 hX5 hxb
          go_region_held3 (fun w' => w'.cell? ⟨xb, 0, none⟩ = some (.int .i64 k2) ∧ w'.cell? ⟨xb, 1, none⟩ = some (.int .i64 n2) ∧ w'.cell? ⟨xb, 2, none⟩ = some (.float .f64 f2) ∧ w'.cell? ⟨xb, 3, none⟩ = some (.string s2) ∧ w'.cell? ⟨xb, 4, none⟩ = some (.slice a2 kids2.length c2) ∧ w'.cell? ⟨b, o + nn * 5, none⟩ = some (.int .i64 k') ∧ w'.cell? ⟨b, o + nn * 5 + 1, none⟩ = some (.int .i64 n') ∧ w'.cell? ⟨b, o + nn * 5 + 2, none⟩ = some (.float .f64 f') ∧ w'.cell? ⟨b, o + nn * 5 + 3, none⟩ = some (.string s') ∧ w'.cell? ⟨b, o + nn * 5 + 4, none⟩ = some (.slice a' kids'.length c'))
            (first | with_reducible exact HSX.out | with_reducible exact HS6.out) (first
            | (go_at_call 11; refine TW.out.mono ?_; rintro e w6 ⟨rfl, hb6⟩; have HS6 : Hid (w6.cell? ⟨xb, 0, none⟩ = some (.int .i64 k2) ∧ w6.cell? ⟨xb, 1, none⟩ = some (.int .i64 n2) ∧ w6.cell? ⟨xb, 2, none⟩ = some (.float .f64 f2) ∧ w6.cell? ⟨xb, 3, none⟩ = some (.string s2) ∧ w6.cell? ⟨xb, 4, none⟩ = some (.slice a2 kids2.length c2) ∧ w6.cell? ⟨b, o + nn * 5, none⟩ = some (.int .i64 k') ∧ w6.cell? ⟨b, o + nn * 5 + 1, none⟩ = some (.int .i64 n') ∧ w6.cell? ⟨b, o + nn * 5 + 2, none⟩ = some (.float .f64 f') ∧ w6.cell? ⟨b, o + nn * 5 + 3, none⟩ = some (.string s') ∧ w6.cell? ⟨b, o + nn * 5 + 4, none⟩ = some (.slice a' kids'.length c')) := hidb ⟨(hb6.cell (p := ⟨xb, 0, none⟩) hxl).trans HSX.out.1, (hb6.cell (p := ⟨xb, 1, none⟩) hxl).trans HSX.out.2.1, (hb6.cell (p := ⟨xb, 2, none⟩) hxl).trans HSX.out.2.2.1, (hb6.cell (p := ⟨xb, 3, none⟩) hxl).trans HSX.out.2.2.2.1, (hb6.cell (p := ⟨xb, 4, none⟩) hxl).trans HSX.out.2.2.2.2.1, (hb6.cell hbl5).trans HSX.out.2.2.2.2.2.1, (hb6.cell hbl5).trans HSX.out.2.2.2.2.2.2.1, (hb6.cell hbl5).trans HSX.out.2.2.2.2.2.2.2.1, (hb6.cell hbl5).trans HSX.out.2.2.2.2.2.2.2.2.1, (hb6.cell hbl5).trans HSX.out.2.2.2.2.2.2.2.2.2⟩; have HT6 := hidb (HTX.out.keep (undrew hb6)); clear hb6)
            | (go_at_call 13; refine (lenB HT6.out.bx).mono ?_; rintro e w7 ⟨rfl, hw7⟩; obtain rfl := hw7.symm; rw [HLN.out]))
          go_wp2_with fail
          clear HLN hlw hne hbl HD HSM HTI HI' HXI HSX TW hbl5 hxl HT5 HTX HS6 HT
          have HP0 : Hid (TI w w6 bb (ms.eraseIdx nn) (kids.eraseIdx nn) (if 0 ≤ nn then 0 else 0 - 1) kids.length R) := hidb (by rw [if_pos (Nat.zero_le _)]; exact HT6.out)
          go_loopw [14] (fun iv wz => ∃ (k : Nat), k ≤ kids.length ∧ iv = .int .i64 k ∧ TI w wz bb (ms.eraseIdx nn) (kids.eraseIdx nn) (if k ≤ nn then k else k - 1) kids.length R) (fun iv _ => kids.length - (RowKit.intOf iv).toNat)
          case atStart => exact ⟨0, by omega, rfl, HP0.out⟩
          case round =>
          obtain ⟨k, hk, rfl, hT⟩ := hrel
          have HT := hidb hT
          clear hT
          have hkw2 := HMW.out k (by omega)
          by_cases hkl : k < kids.length
          · have hkc : (k : Int) < (kids.length : Int) := by omega
            have hkz : (0 : Int) ≤ (k : Int) := by omega
            by_cases hkn : k = nn
            · subst hkn
              have hke : ((k : Int) == (k : Int)) = true := by simp
              go_wp2_with fail
              go_roundw
              case rel => exact ⟨k + 1, by omega, by go_num, by have := HT.out; rw [if_pos (Nat.le_refl _)] at this; rw [if_neg (by omega), Nat.add_sub_cancel]; exact this⟩
              case measure => simp [RowKit.intOf]; omega
            · have hke : ((k : Int) == (nn : Int)) = false := by simp; omega
              obtain ⟨b2, o2, e, hat⟩ := kid_at HIN.out (by omega)
              obtain ⟨rfl, rfl⟩ : b = b2 ∧ o = o2 := by simpa using e
              obtain ⟨k', n', f', s', a', c', kids', hu, hin', d0, d1, d2, d3, d4⟩ := hat k hkl
              have hbl : b < w.heap.size := World.block_lt_of_cell? _ _ d0
              have HD := hidb (And.intro d0 (And.intro d1 (And.intro d2 (And.intro d3 d4))))
              obtain ⟨e1, e2⟩ := HEA.out _ (List.mem_of_getElem? hu)
              have hpl : (kids.eraseIdx nn)[if k ≤ nn then k else k - 1]? = some (.mk k' n' f' s' a' c' kids') := by
                rw [List.getElem?_eraseIdx]
                by_cases q : k ≤ nn
                · rw [if_pos q, if_pos (by omega)]; exact hu
                · rw [if_neg q, if_neg (by omega), show k - 1 + 1 = k by omega]; exact hu
              have NT := hidb (nextT HT.out hpl e1 e2)
              have HPL : Hid ((if k ≤ nn then k else k - 1) + 1 = if k + 1 ≤ nn then k + 1 else k + 1 - 1) := hidb (by
                by_cases q : k ≤ nn
                · rw [if_pos q, if_pos (by omega)]
                · rw [if_neg q, if_neg (by omega)]; omega)
              have HI' := hidb hin'
              have HKN := hidb hkn
              clear hat hu hin' d0 d1 d2 d3 d4 e1 e2 hpl hkn e
              go_wp2_with (first
                | (go_at_call 10; refine NT.out.mono ?_; rintro e w8 ⟨k2, n2, f2, s2, a2, c2, kids2, rfl, hsm, hti, h8⟩; rw [HPL.out] at h8; have HT5' := hidb h8; have HSM := hidb hsm; have HTI := hidb hti; clear h8 hsm hti NT))
              obtain ⟨X5, hX5⟩ : ∃ X, w8.alloc (.cells #[.int .i64 k2, .int .i64 n2, .float .f64 f2, .string s2, .slice a2 kids2.length c2] 27) = X := ⟨_, rfl⟩
              have BX5 := Box.new w8 27 (.int .i64 k2) (.int .i64 n2) (.float .f64 f2) (.string s2) (.slice a2 kids2.length c2)
              have hb0 := below_new w8 (.cells #[.int .i64 k2, .int .i64 n2, .float .f64 f2, .string s2, .slice a2 kids2.length c2] 27)
              rw [hX5] at BX5 hb0
              rw [hX5]
              have HTX := hidb (HT5'.out.keep hb0)
              have HXI := hidb (in_below hb0 HTI.out)
              generalize hxb : w8.heap.size = xb at *
              have hxl := BX5.lt
              have HSX : Hid (X5.drew.cell? ⟨xb, 0, none⟩ = some (.int .i64 k2) ∧ X5.drew.cell? ⟨xb, 1, none⟩ = some (.int .i64 n2) ∧ X5.drew.cell? ⟨xb, 2, none⟩ = some (.float .f64 f2) ∧ X5.drew.cell? ⟨xb, 3, none⟩ = some (.string s2) ∧ X5.drew.cell? ⟨xb, 4, none⟩ = some (.slice a2 kids2.length c2) ∧ X5.drew.cell? ⟨b, o + k * 5, none⟩ = some (.int .i64 k') ∧ X5.drew.cell? ⟨b, o + k * 5 + 1, none⟩ = some (.int .i64 n') ∧ X5.drew.cell? ⟨b, o + k * 5 + 2, none⟩ = some (.float .f64 f') ∧ X5.drew.cell? ⟨b, o + k * 5 + 3, none⟩ = some (.string s') ∧ X5.drew.cell? ⟨b, o + k * 5 + 4, none⟩ = some (.slice a' kids'.length c')) := hidb ⟨BX5.c0, BX5.c1, BX5.c2, BX5.c3, BX5.c4, (HTX.out.bel.cell hbl).trans HD.out.1, (HTX.out.bel.cell hbl).trans HD.out.2.1, (HTX.out.bel.cell hbl).trans HD.out.2.2.1, (HTX.out.bel.cell hbl).trans HD.out.2.2.2.1, (HTX.out.bel.cell hbl).trans HD.out.2.2.2.2⟩
              have hbl5 : b < X5.heap.size := Nat.lt_of_lt_of_le hbl HTX.out.bel.size
              have TW := hidb (twin_same _ _ HSM.out X5.drew (in_below ((Below.refl _ _).drew) HXI.out) (in_below ((Below.refl _ _).drew) (in_below HTX.out.bel HI'.out)))
              simp only [Tr.val, Tr.cells] at TW
              clear BX5 hb0 hX5 hxb
              go_region_held3 (fun w' => w'.cell? ⟨xb, 0, none⟩ = some (.int .i64 k2) ∧ w'.cell? ⟨xb, 1, none⟩ = some (.int .i64 n2) ∧ w'.cell? ⟨xb, 2, none⟩ = some (.float .f64 f2) ∧ w'.cell? ⟨xb, 3, none⟩ = some (.string s2) ∧ w'.cell? ⟨xb, 4, none⟩ = some (.slice a2 kids2.length c2) ∧ w'.cell? ⟨b, o + k * 5, none⟩ = some (.int .i64 k') ∧ w'.cell? ⟨b, o + k * 5 + 1, none⟩ = some (.int .i64 n') ∧ w'.cell? ⟨b, o + k * 5 + 2, none⟩ = some (.float .f64 f') ∧ w'.cell? ⟨b, o + k * 5 + 3, none⟩ = some (.string s') ∧ w'.cell? ⟨b, o + k * 5 + 4, none⟩ = some (.slice a' kids'.length c'))
                (first | with_reducible exact HSX.out | with_reducible exact HS9.out) (first
                | (go_at_call 11; refine TW.out.mono ?_; rintro e w9 ⟨rfl, hb9⟩; have HS9 : Hid (w9.cell? ⟨xb, 0, none⟩ = some (.int .i64 k2) ∧ w9.cell? ⟨xb, 1, none⟩ = some (.int .i64 n2) ∧ w9.cell? ⟨xb, 2, none⟩ = some (.float .f64 f2) ∧ w9.cell? ⟨xb, 3, none⟩ = some (.string s2) ∧ w9.cell? ⟨xb, 4, none⟩ = some (.slice a2 kids2.length c2) ∧ w9.cell? ⟨b, o + k * 5, none⟩ = some (.int .i64 k') ∧ w9.cell? ⟨b, o + k * 5 + 1, none⟩ = some (.int .i64 n') ∧ w9.cell? ⟨b, o + k * 5 + 2, none⟩ = some (.float .f64 f') ∧ w9.cell? ⟨b, o + k * 5 + 3, none⟩ = some (.string s') ∧ w9.cell? ⟨b, o + k * 5 + 4, none⟩ = some (.slice a' kids'.length c')) := hidb ⟨(hb9.cell (p := ⟨xb, 0, none⟩) hxl).trans HSX.out.1, (hb9.cell (p := ⟨xb, 1, none⟩) hxl).trans HSX.out.2.1, (hb9.cell (p := ⟨xb, 2, none⟩) hxl).trans HSX.out.2.2.1, (hb9.cell (p := ⟨xb, 3, none⟩) hxl).trans HSX.out.2.2.2.1, (hb9.cell (p := ⟨xb, 4, none⟩) hxl).trans HSX.out.2.2.2.2.1, (hb9.cell hbl5).trans HSX.out.2.2.2.2.2.1, (hb9.cell hbl5).trans HSX.out.2.2.2.2.2.2.1, (hb9.cell hbl5).trans HSX.out.2.2.2.2.2.2.2.1, (hb9.cell hbl5).trans HSX.out.2.2.2.2.2.2.2.2.1, (hb9.cell hbl5).trans HSX.out.2.2.2.2.2.2.2.2.2⟩; have HT9 := hidb (HTX.out.keep (undrew hb9)); clear hb9))
              go_wp2_with fail
              go_roundw
              case rel => exact ⟨k + 1, by omega, by go_num, HT9.out⟩
              case measure => simp [RowKit.intOf]; omega
          · have hkc : ¬ (k : Int) < (kids.length : Int) := by omega
            obtain rfl : k = kids.length := by omega
            have HEL : Hid ((ms.eraseIdx nn).length = kids.length - 1) := hidb (by
              rw [List.length_eraseIdx, if_pos (Nat.lt_of_lt_of_eq HNN.out HLE.out.symm), HLE.out])
            have NN := hidb (nextB_none HT.out.bx (by rw [if_neg (Nat.not_le.2 HNN.out), HEL.out]))
            go_wp2_with (first
              | (go_at_call 10; refine NN.out.mono ?_; rintro e w10 ⟨rfl, hb10⟩; have HB10 := hidb (HT.out.bel.trans (hb10.mono HT.out.bel.size)); clear hb10))
            go_ret
            exact ⟨rfl, HB10.out.trans ((below_new w10 _).mono HB10.out.size)⟩
    · go_wp2_with (first
        | (go_at_call 7; refine (newB _ (by decide) (by decide) _).mono ?_; rintro e w3 ⟨rfl, rfl⟩)
        | (go_at_call 8; refine (FW.out _ (below_new wr _)).mono ?_; rintro e w4 ⟨rfl, hb4⟩; have HT4 := hidb (HT0.out.keep hb4); clear hb4 HT0))
      generalize wr.heap.size = bb at *
      clear HB HROW FW hml h0i h100i h0b h0c
      go_loopw [9] (fun iv wz => ∃ (k : Nat) (ms : List Msg) (R : Nat → Prop), k ≤ kids.length ∧ iv = .int .i64 k ∧ TI w wz bb ms (kids.take k) 0 k R) (fun iv _ => kids.length - (RowKit.intOf iv).toNat)
      case atStart => exact ⟨0, [], _, by omega, rfl, HT4.out⟩
      case round =>
      obtain ⟨k, ms, R, hk, rfl, hT⟩ := hrel
      have HT := hidb hT
      clear hT HT4
      have hkw := HMW.out k (by omega)
      by_cases hkl : k < kids.length
      · have hkb : (k : Int) < (kids.length : Int) := by omega
        have hkz : (0 : Int) ≤ (k : Int) := by omega
        obtain ⟨b, o, rfl, hat⟩ := kid_at HIN.out (by omega)
        obtain ⟨k', n', f', s', a', c', kids', hu, hin', d0, d1, d2, d3, d4⟩ := hat k hkl
        have hbl : b < w.heap.size := World.block_lt_of_cell? _ _ d0
        have c0 := (HT.out.bel.cell hbl).trans d0
        have c1 := (HT.out.bel.cell hbl).trans d1
        have c2 := (HT.out.bel.cell hbl).trans d2
        have c3 := (HT.out.bel.cell hbl).trans d3
        have c4 := (HT.out.bel.cell hbl).trans d4
        obtain ⟨e1, e2⟩ := HEA.out _ (List.mem_of_getElem? hu)
        have hms : ms.length = k := by have := HT.out.len; rw [List.length_take] at this; omega
        have PT := hidb (putT HT.out hin' e1 e2 (HOK.out k _ hkl hu) (by have := HL.out; omega) (by have := HL.out; omega))
        simp only [Tr.val, Tr.cells] at PT
        have HTK : Hid (kids.take k ++ [Tr.mk k' n' f' s' a' c' kids'] = kids.take (k + 1)) := hidb (by rw [List.take_add_one, hu]; rfl)
        clear hat hu hin' d0 d1 d2 d3 d4 e1 e2 hms
        go_wp2_with (first
          | (go_at_call 9; refine PT.out.mono ?_; rintro e w5 ⟨rfl, m5, R5, h5⟩; rw [HTK.out] at h5; have HT5 := hidb h5; clear h5 PT))
        go_roundw
        case rel => exact ⟨k + 1, _, _, by omega, by go_num, HT5.out⟩
        case measure => simp [RowKit.intOf]; omega
      · have hkb : ¬ (k : Int) < (kids.length : Int) := by omega
        obtain rfl : k = kids.length := by omega
        rw [List.take_length] at HT
        go_wp2_with fail
        clear hkb hkw hkl hk hm
        go_loopw [10] (fun iv wz => ∃ (k : Nat), k ≤ nn + 1 ∧ iv = .int .i64 k ∧ TI w wz bb ms kids k kids.length R) (fun iv _ => nn + 1 - (RowKit.intOf iv).toNat)
        case atStart => exact ⟨0, by omega, rfl, HT.out⟩
        case round =>
        obtain ⟨k, hk, rfl, hT⟩ := hrel
        have HT := hidb hT
        clear hT
        have hkw := HMW.out k (by have := HNN.out; omega)
        by_cases hkl : k ≤ nn
        · have hkb : (k : Int) ≤ (nn : Int) := by omega
          have hkc : (k : Int) < (kids.length : Int) := by have := HNN.out; omega
          have hkz : (0 : Int) ≤ (k : Int) := by omega
          have hkn : k < kids.length := by have := HNN.out; omega
          obtain ⟨b, o, rfl, hat⟩ := kid_at HIN.out (by omega)
          obtain ⟨k', n', f', s', a', c', kids', hu, hin', d0, d1, d2, d3, d4⟩ := hat k hkn
          have hbl : b < w.heap.size := World.block_lt_of_cell? _ _ d0
          have HD := hidb (And.intro d0 (And.intro d1 (And.intro d2 (And.intro d3 d4))))
          obtain ⟨e1, e2⟩ := HEA.out _ (List.mem_of_getElem? hu)
          have NT := hidb (nextT HT.out hu e1 e2)
          have HI' := hidb hin'
          clear hat hu hin' d0 d1 d2 d3 d4 e1 e2
          go_wp2_with (first
            | (go_at_call 10; refine NT.out.mono ?_; rintro e w5 ⟨k2, n2, f2, s2, a2, c2, kids2, rfl, hsm, hti, h5⟩; have HT5 := hidb h5; have HSM := hidb hsm; have HTI := hidb hti; clear h5 hsm hti NT))
          obtain ⟨X5, hX5⟩ : ∃ X, w5.alloc (.cells #[.int .i64 k2, .int .i64 n2, .float .f64 f2, .string s2, .slice a2 kids2.length c2] 27) = X := ⟨_, rfl⟩
          have BX5 := Box.new w5 27 (.int .i64 k2) (.int .i64 n2) (.float .f64 f2) (.string s2) (.slice a2 kids2.length c2)
          have hb0 := below_new w5 (.cells #[.int .i64 k2, .int .i64 n2, .float .f64 f2, .string s2, .slice a2 kids2.length c2] 27)
          rw [hX5] at BX5 hb0
          rw [hX5]
          have HTX := hidb (HT5.out.keep hb0)
          have HXI := hidb (in_below hb0 HTI.out)
          generalize hxb : w5.heap.size = xb at *
          have hxl := BX5.lt
          have HSX : Hid (X5.drew.cell? ⟨xb, 0, none⟩ = some (.int .i64 k2) ∧ X5.drew.cell? ⟨xb, 1, none⟩ = some (.int .i64 n2) ∧ X5.drew.cell? ⟨xb, 2, none⟩ = some (.float .f64 f2) ∧ X5.drew.cell? ⟨xb, 3, none⟩ = some (.string s2) ∧ X5.drew.cell? ⟨xb, 4, none⟩ = some (.slice a2 kids2.length c2) ∧ X5.drew.cell? ⟨b, o + k * 5, none⟩ = some (.int .i64 k') ∧ X5.drew.cell? ⟨b, o + k * 5 + 1, none⟩ = some (.int .i64 n') ∧ X5.drew.cell? ⟨b, o + k * 5 + 2, none⟩ = some (.float .f64 f') ∧ X5.drew.cell? ⟨b, o + k * 5 + 3, none⟩ = some (.string s') ∧ X5.drew.cell? ⟨b, o + k * 5 + 4, none⟩ = some (.slice a' kids'.length c')) := hidb ⟨BX5.c0, BX5.c1, BX5.c2, BX5.c3, BX5.c4, (HTX.out.bel.cell hbl).trans HD.out.1, (HTX.out.bel.cell hbl).trans HD.out.2.1, (HTX.out.bel.cell hbl).trans HD.out.2.2.1, (HTX.out.bel.cell hbl).trans HD.out.2.2.2.1, (HTX.out.bel.cell hbl).trans HD.out.2.2.2.2⟩
          have hbl5 : b < X5.heap.size := Nat.lt_of_lt_of_le hbl HTX.out.bel.size
          have TW := hidb (twin_same _ _ HSM.out X5.drew (in_below ((Below.refl _ _).drew) HXI.out) (in_below ((Below.refl _ _).drew) (in_below HTX.out.bel HI'.out)))
          simp only [Tr.val, Tr.cells] at TW
          clear BX5 hb0 hX5 hxb
          go_region_held3 (fun w' => w'.cell? ⟨xb, 0, none⟩ = some (.int .i64 k2) ∧ w'.cell? ⟨xb, 1, none⟩ = some (.int .i64 n2) ∧ w'.cell? ⟨xb, 2, none⟩ = some (.float .f64 f2) ∧ w'.cell? ⟨xb, 3, none⟩ = some (.string s2) ∧ w'.cell? ⟨xb, 4, none⟩ = some (.slice a2 kids2.length c2) ∧ w'.cell? ⟨b, o + k * 5, none⟩ = some (.int .i64 k') ∧ w'.cell? ⟨b, o + k * 5 + 1, none⟩ = some (.int .i64 n') ∧ w'.cell? ⟨b, o + k * 5 + 2, none⟩ = some (.float .f64 f') ∧ w'.cell? ⟨b, o + k * 5 + 3, none⟩ = some (.string s') ∧ w'.cell? ⟨b, o + k * 5 + 4, none⟩ = some (.slice a' kids'.length c'))
            (first | with_reducible exact HSX.out | with_reducible exact HS6.out) (first
            | (go_at_call 11; refine TW.out.mono ?_; rintro e w6 ⟨rfl, hb6⟩; have HS6 : Hid (w6.cell? ⟨xb, 0, none⟩ = some (.int .i64 k2) ∧ w6.cell? ⟨xb, 1, none⟩ = some (.int .i64 n2) ∧ w6.cell? ⟨xb, 2, none⟩ = some (.float .f64 f2) ∧ w6.cell? ⟨xb, 3, none⟩ = some (.string s2) ∧ w6.cell? ⟨xb, 4, none⟩ = some (.slice a2 kids2.length c2) ∧ w6.cell? ⟨b, o + k * 5, none⟩ = some (.int .i64 k') ∧ w6.cell? ⟨b, o + k * 5 + 1, none⟩ = some (.int .i64 n') ∧ w6.cell? ⟨b, o + k * 5 + 2, none⟩ = some (.float .f64 f') ∧ w6.cell? ⟨b, o + k * 5 + 3, none⟩ = some (.string s') ∧ w6.cell? ⟨b, o + k * 5 + 4, none⟩ = some (.slice a' kids'.length c')) := hidb ⟨(hb6.cell (p := ⟨xb, 0, none⟩) hxl).trans HSX.out.1, (hb6.cell (p := ⟨xb, 1, none⟩) hxl).trans HSX.out.2.1, (hb6.cell (p := ⟨xb, 2, none⟩) hxl).trans HSX.out.2.2.1, (hb6.cell (p := ⟨xb, 3, none⟩) hxl).trans HSX.out.2.2.2.1, (hb6.cell (p := ⟨xb, 4, none⟩) hxl).trans HSX.out.2.2.2.2.1, (hb6.cell hbl5).trans HSX.out.2.2.2.2.2.1, (hb6.cell hbl5).trans HSX.out.2.2.2.2.2.2.1, (hb6.cell hbl5).trans HSX.out.2.2.2.2.2.2.2.1, (hb6.cell hbl5).trans HSX.out.2.2.2.2.2.2.2.2.1, (hb6.cell hbl5).trans HSX.out.2.2.2.2.2.2.2.2.2⟩; have HT6 := hidb (HTX.out.keep (undrew hb6)); clear hb6))
          go_wp2_with fail
          go_roundw
          case rel => exact ⟨k + 1, by omega, by go_num, HT6.out⟩
          case measure => simp [RowKit.intOf]; omega
        · have hkb : ¬ (k : Int) ≤ (nn : Int) := by omega
          obtain rfl : k = nn + 1 := by omega
          have hnc : (nn : Int) < (kids.length : Int) := by have := HNN.out; omega
          have hnz : (0 : Int) ≤ (nn : Int) := by omega
          obtain ⟨b, o, rfl, hat⟩ := kid_at HIN.out (by have := HNN.out; omega)
          obtain ⟨k', n', f', s', a', c', kids', hu, hin', d0, d1, d2, d3, d4⟩ := hat nn HNN.out
          have hbl : b < w.heap.size := World.block_lt_of_cell? _ _ d0
          have HD := hidb (And.intro d0 (And.intro d1 (And.intro d2 (And.intro d3 d4))))
          obtain ⟨e1, e2⟩ := HEA.out _ (List.mem_of_getElem? hu)
          have TT := hidb (takeT HT.out hu e1 e2 (by have := HT.out.len; have := HL.out; omega))
          have HI' := hidb hin'
          have HLE : Hid (ms.length = kids.length) := hidb HT.out.len
          clear hat hu hin' d0 d1 d2 d3 d4 e1 e2
          go_wp2_with (first
            | (go_at_call 12; refine TT.out.mono ?_; rintro e w5 ⟨k2, n2, f2, s2, a2, c2, kids2, rfl, hsm, hti, h5⟩; have HT5 := hidb h5; have HSM := hidb hsm; have HTI := hidb hti; clear h5 hsm hti TT))
          have HLN : Hid (((ms.eraseIdx nn).length : Int) = ((kids.length - 1 : Nat) : Int)) := hidb (by rw [List.length_eraseIdx, if_pos (by have := HLE.out; have := HNN.out; omega), HLE.out])
          have hlw : IntKind.i64.wrap ((kids.length : Int) - 1) = ((kids.length - 1 : Nat) : Int) := by have := HL.out; rw [IntKind.wrap_i64]; omega
          generalize hL1 : ((kids.length - 1 : Nat) : Int) = L1 at *
          have hne : (L1 != L1) = false := by simp
          clear hL1
          obtain ⟨X5, hX5⟩ : ∃ X, w5.alloc (.cells #[.int .i64 k2, .int .i64 n2, .float .f64 f2, .string s2, .slice a2 kids2.length c2] 27) = X := ⟨_, rfl⟩
          have BX5 := Box.new w5 27 (.int .i64 k2) (.int .i64 n2) (.float .f64 f2) (.string s2) (.slice a2 kids2.length c2)
          have hb0 := below_new w5 (.cells #[.int .i64 k2, .int .i64 n2, .float .f64 f2, .string s2, .slice a2 kids2.length c2] 27)
          rw [hX5] at BX5 hb0
          rw [hX5]
          have HTX := hidb (HT5.out.keep hb0)
          have HXI := hidb (in_below hb0 HTI.out)
          generalize hxb : w5.heap.size = xb at *
          have hxl := BX5.lt
          have HSX : Hid (X5.drew.cell? ⟨xb, 0, none⟩ = some (.int .i64 k2) ∧ X5.drew.cell? ⟨xb, 1, none⟩ = some (.int .i64 n2) ∧ X5.drew.cell? ⟨xb, 2, none⟩ = some (.float .f64 f2) ∧ X5.drew.cell? ⟨xb, 3, none⟩ = some (.string s2) ∧ X5.drew.cell? ⟨xb, 4, none⟩ = some (.slice a2 kids2.length c2) ∧ X5.drew.cell? ⟨b, o + nn * 5, none⟩ = some (.int .i64 k') ∧ X5.drew.cell? ⟨b, o + nn * 5 + 1, none⟩ = some (.int .i64 n') ∧ X5.drew.cell? ⟨b, o + nn * 5 + 2, none⟩ = some (.float .f64 f') ∧ X5.drew.cell? ⟨b, o + nn * 5 + 3, none⟩ = some (.string s') ∧ X5.drew.cell? ⟨b, o + nn * 5 + 4, none⟩ = some (.slice a' kids'.length c')) := hidb ⟨BX5.c0, BX5.c1, BX5.c2, BX5.c3, BX5.c4, (HTX.out.bel.cell hbl).trans HD.out.1, (HTX.out.bel.cell hbl).trans HD.out.2.1, (HTX.out.bel.cell hbl).trans HD.out.2.2.1, (HTX.out.bel.cell hbl).trans HD.out.2.2.2.1, (HTX.out.bel.cell hbl).trans HD.out.2.2.2.2⟩
          have hbl5 : b < X5.heap.size := Nat.lt_of_lt_of_le hbl HTX.out.bel.size
          have TW := hidb (twin_same _ _ HSM.out X5.drew (in_below ((Below.refl _ _).drew) HXI.out) (in_below ((Below.refl _ _).drew) (in_below HTX.out.bel HI'.out)))
          simp only [Tr.val, Tr.cells] at TW
          clear BX5 hb0 hX5 hxb
          go_region_held3 (fun w' => w'.cell? ⟨xb, 0, none⟩ = some (.int .i64 k2) ∧ w'.cell? ⟨xb, 1, none⟩ = some (.int .i64 n2) ∧ w'.cell? ⟨xb, 2, none⟩ = some (.float .f64 f2) ∧ w'.cell? ⟨xb, 3, none⟩ = some (.string s2) ∧ w'.cell? ⟨xb, 4, none⟩ = some (.slice a2 kids2.length c2) ∧ w'.cell? ⟨b, o + nn * 5, none⟩ = some (.int .i64 k') ∧ w'.cell? ⟨b, o + nn * 5 + 1, none⟩ = some (.int .i64 n') ∧ w'.cell? ⟨b, o + nn * 5 + 2, none⟩ = some (.float .f64 f') ∧ w'.cell? ⟨b, o + nn * 5 + 3, none⟩ = some (.string s') ∧ w'.cell? ⟨b, o + nn * 5 + 4, none⟩ = some (.slice a' kids'.length c'))
            (first | with_reducible exact HSX.out | with_reducible exact HS6.out) (first
            | (go_at_call 11; refine TW.out.mono ?_; rintro e w6 ⟨rfl, hb6⟩; have HS6 : Hid (w6.cell? ⟨xb, 0, none⟩ = some (.int .i64 k2) ∧ w6.cell? ⟨xb, 1, none⟩ = some (.int .i64 n2) ∧ w6.cell? ⟨xb, 2, none⟩ = some (.float .f64 f2) ∧ w6.cell? ⟨xb, 3, none⟩ = some (.string s2) ∧ w6.cell? ⟨xb, 4, none⟩ = some (.slice a2 kids2.length c2) ∧ w6.cell? ⟨b, o + nn * 5, none⟩ = some (.int .i64 k') ∧ w6.cell? ⟨b, o + nn * 5 + 1, none⟩ = some (.int .i64 n') ∧ w6.cell? ⟨b, o + nn * 5 + 2, none⟩ = some (.float .f64 f') ∧ w6.cell? ⟨b, o + nn * 5 + 3, none⟩ = some (.string s') ∧ w6.cell? ⟨b, o + nn * 5 + 4, none⟩ = some (.slice a' kids'.length c')) := hidb ⟨(hb6.cell (p := ⟨xb, 0, none⟩) hxl).trans HSX.out.1, (hb6.cell (p := ⟨xb, 1, none⟩) hxl).trans HSX.out.2.1, (hb6.cell (p := ⟨xb, 2, none⟩) hxl).trans HSX.out.2.2.1, (hb6.cell (p := ⟨xb, 3, none⟩) hxl).trans HSX.out.2.2.2.1, (hb6.cell (p := ⟨xb, 4, none⟩) hxl).trans HSX.out.2.2.2.2.1, (hb6.cell hbl5).trans HSX.out.2.2.2.2.2.1, (hb6.cell hbl5).trans HSX.out.2.2.2.2.2.2.1, (hb6.cell hbl5).trans HSX.out.2.2.2.2.2.2.2.1, (hb6.cell hbl5).trans HSX.out.2.2.2.2.2.2.2.2.1, (hb6.cell hbl5).trans HSX.out.2.2.2.2.2.2.2.2.2⟩; have HT6 := hidb (HTX.out.keep (undrew hb6)); clear hb6)
            | (go_at_call 13; refine (lenB HT6.out.bx).mono ?_; rintro e w7 ⟨rfl, hw7⟩; obtain rfl := hw7.symm; rw [HLN.out]))
          go_wp2_with fail
          clear HLN hlw hne hbl HD HSM HTI HI' HXI HSX TW hbl5 hxl HT5 HTX HS6 HT
          have HP0 : Hid (TI w w6 bb (ms.eraseIdx nn) (kids.eraseIdx nn) (if 0 ≤ nn then 0 else 0 - 1) kids.length R) := hidb (by rw [if_pos (Nat.zero_le _)]; exact HT6.out)
          go_loopw [14] (fun iv wz => ∃ (k : Nat), k ≤ kids.length ∧ iv = .int .i64 k ∧ TI w wz bb (ms.eraseIdx nn) (kids.eraseIdx nn) (if k ≤ nn then k else k - 1) kids.length R) (fun iv _ => kids.length - (RowKit.intOf iv).toNat)
          case atStart => exact ⟨0, by omega, rfl, HP0.out⟩
          case round =>
          obtain ⟨k, hk, rfl, hT⟩ := hrel
          have HT := hidb hT
          clear hT
          have hkw2 := HMW.out k (by omega)
          by_cases hkl : k < kids.length
          · have hkc : (k : Int) < (kids.length : Int) := by omega
            have hkz : (0 : Int) ≤ (k : Int) := by omega
            by_cases hkn : k = nn
            · subst hkn
              have hke : ((k : Int) == (k : Int)) = true := by simp
              go_wp2_with fail
              go_roundw
              case rel => exact ⟨k + 1, by omega, by go_num, by have := HT.out; rw [if_pos (Nat.le_refl _)] at this; rw [if_neg (by omega), Nat.add_sub_cancel]; exact this⟩
              case measure => simp [RowKit.intOf]; omega
            · have hke : ((k : Int) == (nn : Int)) = false := by simp; omega
              obtain ⟨b2, o2, e, hat⟩ := kid_at HIN.out (by omega)
              obtain ⟨rfl, rfl⟩ : b = b2 ∧ o = o2 := by simpa using e
              obtain ⟨k', n', f', s', a', c', kids', hu, hin', d0, d1, d2, d3, d4⟩ := hat k hkl
              have hbl : b < w.heap.size := World.block_lt_of_cell? _ _ d0
              have HD := hidb (And.intro d0 (And.intro d1 (And.intro d2 (And.intro d3 d4))))
              obtain ⟨e1, e2⟩ := HEA.out _ (List.mem_of_getElem? hu)
              have hpl : (kids.eraseIdx nn)[if k ≤ nn then k else k - 1]? = some (.mk k' n' f' s' a' c' kids') := by
                rw [List.getElem?_eraseIdx]
                by_cases q : k ≤ nn
                · rw [if_pos q, if_pos (by omega)]; exact hu
                · rw [if_neg q, if_neg (by omega), show k - 1 + 1 = k by omega]; exact hu
              have NT := hidb (nextT HT.out hpl e1 e2)
              have HPL : Hid ((if k ≤ nn then k else k - 1) + 1 = if k + 1 ≤ nn then k + 1 else k + 1 - 1) := hidb (by
                by_cases q : k ≤ nn
                · rw [if_pos q, if_pos (by omega)]
                · rw [if_neg q, if_neg (by omega)]; omega)
              have HI' := hidb hin'
              have HKN := hidb hkn
              clear hat hu hin' d0 d1 d2 d3 d4 e1 e2 hpl hkn e
              go_wp2_with (first
                | (go_at_call 10; refine NT.out.mono ?_; rintro e w8 ⟨k2, n2, f2, s2, a2, c2, kids2, rfl, hsm, hti, h8⟩; rw [HPL.out] at h8; have HT5' := hidb h8; have HSM := hidb hsm; have HTI := hidb hti; clear h8 hsm hti NT))
              obtain ⟨X5, hX5⟩ : ∃ X, w8.alloc (.cells #[.int .i64 k2, .int .i64 n2, .float .f64 f2, .string s2, .slice a2 kids2.length c2] 27) = X := ⟨_, rfl⟩
              have BX5 := Box.new w8 27 (.int .i64 k2) (.int .i64 n2) (.float .f64 f2) (.string s2) (.slice a2 kids2.length c2)
              have hb0 := below_new w8 (.cells #[.int .i64 k2, .int .i64 n2, .float .f64 f2, .string s2, .slice a2 kids2.length c2] 27)
              rw [hX5] at BX5 hb0
              rw [hX5]
              have HTX := hidb (HT5'.out.keep hb0)
              have HXI := hidb (in_below hb0 HTI.out)
              generalize hxb : w8.heap.size = xb at *
              have hxl := BX5.lt
              have HSX : Hid (X5.drew.cell? ⟨xb, 0, none⟩ = some (.int .i64 k2) ∧ X5.drew.cell? ⟨xb, 1, none⟩ = some (.int .i64 n2) ∧ X5.drew.cell? ⟨xb, 2, none⟩ = some (.float .f64 f2) ∧ X5.drew.cell? ⟨xb, 3, none⟩ = some (.string s2) ∧ X5.drew.cell? ⟨xb, 4, none⟩ = some (.slice a2 kids2.length c2) ∧ X5.drew.cell? ⟨b, o + k * 5, none⟩ = some (.int .i64 k') ∧ X5.drew.cell? ⟨b, o + k * 5 + 1, none⟩ = some (.int .i64 n') ∧ X5.drew.cell? ⟨b, o + k * 5 + 2, none⟩ = some (.float .f64 f') ∧ X5.drew.cell? ⟨b, o + k * 5 + 3, none⟩ = some (.string s') ∧ X5.drew.cell? ⟨b, o + k * 5 + 4, none⟩ = some (.slice a' kids'.length c')) := hidb ⟨BX5.c0, BX5.c1, BX5.c2, BX5.c3, BX5.c4, (HTX.out.bel.cell hbl).trans HD.out.1, (HTX.out.bel.cell hbl).trans HD.out.2.1, (HTX.out.bel.cell hbl).trans HD.out.2.2.1, (HTX.out.bel.cell hbl).trans HD.out.2.2.2.1, (HTX.out.bel.cell hbl).trans HD.out.2.2.2.2⟩
              have hbl5 : b < X5.heap.size := Nat.lt_of_lt_of_le hbl HTX.out.bel.size
              have TW := hidb (twin_same _ _ HSM.out X5.drew (in_below ((Below.refl _ _).drew) HXI.out) (in_below ((Below.refl _ _).drew) (in_below HTX.out.bel HI'.out)))
              simp only [Tr.val, Tr.cells] at TW
              clear BX5 hb0 hX5 hxb
              go_region_held3 (fun w' => w'.cell? ⟨xb, 0, none⟩ = some (.int .i64 k2) ∧ w'.cell? ⟨xb, 1, none⟩ = some (.int .i64 n2) ∧ w'.cell? ⟨xb, 2, none⟩ = some (.float .f64 f2) ∧ w'.cell? ⟨xb, 3, none⟩ = some (.string s2) ∧ w'.cell? ⟨xb, 4, none⟩ = some (.slice a2 kids2.length c2) ∧ w'.cell? ⟨b, o + k * 5, none⟩ = some (.int .i64 k') ∧ w'.cell? ⟨b, o + k * 5 + 1, none⟩ = some (.int .i64 n') ∧ w'.cell? ⟨b, o + k * 5 + 2, none⟩ = some (.float .f64 f') ∧ w'.cell? ⟨b, o + k * 5 + 3, none⟩ = some (.string s') ∧ w'.cell? ⟨b, o + k * 5 + 4, none⟩ = some (.slice a' kids'.length c'))
                (first | with_reducible exact HSX.out | with_reducible exact HS9.out) (first
                | (go_at_call 11; refine TW.out.mono ?_; rintro e w9 ⟨rfl, hb9⟩; have HS9 : Hid (w9.cell? ⟨xb, 0, none⟩ = some (.int .i64 k2) ∧ w9.cell? ⟨xb, 1, none⟩ = some (.int .i64 n2) ∧ w9.cell? ⟨xb, 2, none⟩ = some (.float .f64 f2) ∧ w9.cell? ⟨xb, 3, none⟩ = some (.string s2) ∧ w9.cell? ⟨xb, 4, none⟩ = some (.slice a2 kids2.length c2) ∧ w9.cell? ⟨b, o + k * 5, none⟩ = some (.int .i64 k') ∧ w9.cell? ⟨b, o + k * 5 + 1, none⟩ = some (.int .i64 n') ∧ w9.cell? ⟨b, o + k * 5 + 2, none⟩ = some (.float .f64 f') ∧ w9.cell? ⟨b, o + k * 5 + 3, none⟩ = some (.string s') ∧ w9.cell? ⟨b, o + k * 5 + 4, none⟩ = some (.slice a' kids'.length c')) := hidb ⟨(hb9.cell (p := ⟨xb, 0, none⟩) hxl).trans HSX.out.1, (hb9.cell (p := ⟨xb, 1, none⟩) hxl).trans HSX.out.2.1, (hb9.cell (p := ⟨xb, 2, none⟩) hxl).trans HSX.out.2.2.1, (hb9.cell (p := ⟨xb, 3, none⟩) hxl).trans HSX.out.2.2.2.1, (hb9.cell (p := ⟨xb, 4, none⟩) hxl).trans HSX.out.2.2.2.2.1, (hb9.cell hbl5).trans HSX.out.2.2.2.2.2.1, (hb9.cell hbl5).trans HSX.out.2.2.2.2.2.2.1, (hb9.cell hbl5).trans HSX.out.2.2.2.2.2.2.2.1, (hb9.cell hbl5).trans HSX.out.2.2.2.2.2.2.2.2.1, (hb9.cell hbl5).trans HSX.out.2.2.2.2.2.2.2.2.2⟩; have HT9 := hidb (HTX.out.keep (undrew hb9)); clear hb9))
              go_wp2_with fail
              go_roundw
              case rel => exact ⟨k + 1, by omega, by go_num, HT9.out⟩
              case measure => simp [RowKit.intOf]; omega
          · have hkc : ¬ (k : Int) < (kids.length : Int) := by omega
            obtain rfl : k = kids.length := by omega
            have HEL : Hid ((ms.eraseIdx nn).length = kids.length - 1) := hidb (by
              rw [List.length_eraseIdx, if_pos (Nat.lt_of_lt_of_eq HNN.out HLE.out.symm), HLE.out])
            have NN := hidb (nextB_none HT.out.bx (by rw [if_neg (Nat.not_le.2 HNN.out), HEL.out]))
            go_wp2_with (first
              | (go_at_call 10; refine NN.out.mono ?_; rintro e w10 ⟨rfl, hb10⟩; have HB10 := hidb (HT.out.bel.trans (hb10.mono HT.out.bel.size)); clear hb10))
            go_ret
            exact ⟨rfl, HB10.out.trans ((below_new w10 _).mono HB10.out.size)⟩
  · have hF : (decide (kids.length ≤ 400) && decide (0 ≤ fewAll kids 60000 1000)) = false := by simpa using fun h => by simpa using fun h2 => hfew ⟨h, h2⟩
    rw [hF] at FW
    clear hF hfew
    go_wp2_with (first
      | (go_at_call 7; refine (newB _ (by decide) (by decide) _).mono ?_; rintro e w3 ⟨rfl, rfl⟩)
      | (go_at_call 8; refine (FW.out _ (below_new wr _)).mono ?_; rintro e w4 ⟨rfl, hb4⟩; have HB4 := hidb (HB.out.trans (((below_new wr _).trans (hb4.mono (by simp))).mono HB.out.size)); clear hb4))
    go_ret
    exact ⟨rfl, HB4.out⟩
end Go.Proofs.Ytggpbfmdhenjdaa


