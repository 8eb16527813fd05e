import Derived.Test.YtogahhbckfnllaaG39
/- Each act on both boxes, one behind the other. -/
namespace Go.Proofs.Ytogahhbckfnllaa
open Go.RowKit Go.Lib Go.Deep
attribute [local go_sem] store_float f64bits
attribute [local go_sem ↓] Go.wp_at_zero Go.wp_at_succ
variable {w w' : World} {bb rb place most puts : Nat} {lv : Value} {ms : List Msg} {ds : List Tr} {R T : Nat → Prop}

theorem PB.ry (h : PB w bb rb lv ms ds place most puts R T) {w1 w1' : World} (hb1 : But (BS bb ms) w w1) (hbe : Below w1.heap.size w1 w1') : RY w1' rb lv ds place (wds ms) most T :=
  (h.hr.but hb1 (fun q hq => h.d1 q (.inl hq)) (fun q hq => h.d1 q (.inr hq))).keep hbe

theorem put_two (h : PB w bb rb lv ms ds place most puts R T) {t : Tr} {O : Nat → Prop} (hin : t.In w 0) (hon : t.On O) (hO : ∀ q, O q → q < w.heap.size ∧ ¬ PS bb rb ms lv q) (hs : Small t) (hcn : cnT t ≤ 60001) (hl : ms.length ≤ 1000) (hp : puts ≤ 1000) :
    ∃ (er : Int) (Q1 : World → Prop), Calls Try.prog 13 #[.pointer (some ⟨bb, 0, none⟩), t.val] w (fun e w' => e = .returned (.int .i64 er) ∧ Q1 w' ∧ But (BS bb ms) w w') ∧
      ∀ w1 w1', Q1 w1 → But (BS bb ms) w w1 → Below w1.heap.size w1 w1' → Calls Try.prog 18 #[.pointer (some ⟨rb, 0, none⟩), t.val] w1' (fun e w2 => e = .returned (.int .i64 er) ∧ Nxt w bb rb lv ms most puts w2 ∧ But (RS rb lv) w1' w2) := by
  have htw : ∀ w1 w1', But (BS bb ms) w w1 → Below w1.heap.size w1 w1' → t.In w1' 0 := fun w1 w1' hb1 hbe => in_below hbe (in_on (S := O) (fun q hq => hb1.block q (hO q hq).1 (fun e => (hO q hq).2 (.inl e))) t hin hon)
  have hsw := small_W t hs
  have hfit := h.fit
  by_cases he : errT t = 0
  · obtain ⟨W2, hw2, hW2⟩ := words_nat he
    by_cases hf : wds ms + (W2 + 2) ≤ most
    · refine ⟨0, fun w' => ∃ (m : Msg) (R' : Nat → Prop), BX w' bb (ms ++ [m]) place most (puts + 1) R' ∧ Sm t m.t ∧ (m.wd = W2 + 2 ∧ m.num = puts + 1) ∧ w.heap.size ≤ m.b ∧ (∀ q, R' q → R q ∨ w.heap.size ≤ q), ?_, ?_⟩
      · refine (putBN t W2 h.hb hin hon (fun q hq e => (hO q hq).2 (.inl e)) hs (by omega) he hw2 hf hfit.2 (by omega) (by omega)).mono ?_
        rintro e w' ⟨rfl, m, R', a1, a2, a3, a4, a5, a6⟩
        exact ⟨rfl, ⟨m, R', a1, a2, a3, a4, a5⟩, a6⟩
      · rintro w1 w1' ⟨m, R', a1, a2, a3, a4, a5⟩ hb1 hbe
        refine (ry_put t W2 (h.ry hb1 hbe) (htw w1 w1' hb1 hbe) hon (fun q hq e => (hO q hq).2 (.inr (.inl e))) hsw he hw2 hW2 hf hfit.2 hs (by have := h.len; omega)).mono ?_
        rintro e w2 ⟨rfl, lv', t', T', b1, b2, b3, b4, b5⟩
        exact ⟨rfl, h.put a1 a2 a3 a4 a5 hb1 hbe b1 b2 b3 b4 b5 he hw2 hs hcn hf, b5⟩
    · refine ⟨12, fun w' => Below w.heap.size w w', ?_, ?_⟩
      · refine (putB_full t W2 h.hb hin hs he hw2 hW2 (by omega) hfit.2 hfit.1).mono ?_
        rintro e w' ⟨rfl, hb⟩
        exact ⟨rfl, hb, But.of_below hb⟩
      · intro w1 w1' hq hb1 hbe
        refine (ry_put_full t W2 (h.ry hb1 hbe) (htw w1 w1' hb1 hbe) hsw he hw2 hW2 (by omega) hfit.2 hfit.1).mono ?_
        rintro e w2 ⟨rfl, hb⟩
        exact ⟨rfl, h.same ((hq.trans (hbe.mono hq.size)).trans (hb.mono (Nat.le_trans hq.size hbe.size))), But.of_below hb⟩
  · have he' : (errT t == 0) = false := by simpa using he
    refine ⟨errT t, fun w' => Below w.heap.size w w', ?_, ?_⟩
    · refine (putB_err t hin hs he').mono ?_
      rintro e w' ⟨rfl, hb⟩
      exact ⟨rfl, hb, But.of_below hb⟩
    · intro w1 w1' hq hb1 hbe
      refine (ry_put_err t (htw w1 w1' hb1 hbe) hsw he').mono ?_
      rintro e w2 ⟨rfl, hb⟩
      exact ⟨rfl, h.same ((hq.trans (hbe.mono hq.size)).trans (hb.mono (Nat.le_trans hq.size hbe.size))), But.of_below hb⟩

/-- Two calls that tell a term and something, the same both times. -/
def TwoT {α : Type} (F : α → Value) (w : World) (bb rb : Nat) (lv : Value) (ms : List Msg) (most puts : Nat) (f1 : Nat) (a1 : Array Value) (f2 : Nat) (a2 : Array Value) : Prop :=
  ∃ (fl : α) (Q1 : Tr → World → Prop), Calls Try.prog f1 a1 w (fun e w' => ∃ (k n : Int) (f : Nat) (s : ByteArray) (a : Option Addr) (c : Nat) (kids : List Tr), e = .returned (.tuple #[.agg #[.int .i64 k, .int .i64 n, .float .f64 f, .string s, .slice a kids.length c], F fl]) ∧ Q1 (.mk k n f s a c kids) w' ∧ But (BS bb ms) w w') ∧
    ∀ t1 w1 w1', Q1 t1 w1 → But (BS bb ms) w w1 → Below w1.heap.size w1 w1' → Calls Try.prog f2 a2 w1' (fun e w2 => ∃ (k n : Int) (f : Nat) (s : ByteArray) (a : Option Addr) (c : Nat) (kids : List Tr), e = .returned (.tuple #[.agg #[.int .i64 k, .int .i64 n, .float .f64 f, .string s, .slice a kids.length c], F fl]) ∧ Sm t1 (.mk k n f s a c kids) ∧ t1.In w2 0 ∧ (Tr.mk k n f s a c kids).In w2 0 ∧ Nxt w bb rb lv ms most puts w2 ∧ But (RS rb lv) w1' w2)

theorem zero_in (W : World) : (Tr.mk 0 0 0 ⟨#[]⟩ none 0 []).In W 0 := by
  unfold Tr.In
  exact ⟨⟨by decide, by decide, by decide, by show (0 : Nat) ≤ maxLen; exact Nat.zero_le _, Nat.le_refl _, Nat.zero_le _, fun _ => rfl⟩, fun ad h => by simp at h⟩
theorem zero_sm : Sm (Tr.mk 0 0 0 ⟨#[]⟩ none 0 []) (Tr.mk 0 0 0 ⟨#[]⟩ none 0 []) := by unfold Sm; exact ⟨rfl, rfl, rfl, rfl, by unfold SmA; trivial⟩

/-- Neither has anything to tell. -/
theorem two_none {α : Type} {F : α → Value} (h : PB w bb rb lv ms ds place most puts R T) (fl : α) {f1 f2 : Nat} {a1 a2 : Array Value} (h1 : Calls Try.prog f1 a1 w fun e w' => e = .returned (.tuple #[zV, F fl]) ∧ Below w.heap.size w w') (h2 : ∀ W, RY W rb lv ds place (wds ms) most T → Below w.heap.size w W → Calls Try.prog f2 a2 W fun e w' => e = .returned (.tuple #[zV, F fl]) ∧ Below W.heap.size W w') :
    TwoT F w bb rb lv ms most puts f1 a1 f2 a2 := by
  refine ⟨fl, fun t w' => t = .mk 0 0 0 ⟨#[]⟩ none 0 [] ∧ Below w.heap.size w w', h1.mono ?_, ?_⟩
  · rintro e w' ⟨rfl, hb⟩
    exact ⟨0, 0, 0, ⟨#[]⟩, none, 0, [], rfl, ⟨rfl, hb⟩, But.of_below hb⟩
  · rintro t1 w1 w1' ⟨rfl, hq⟩ hb1 hbe
    refine (h2 w1' (h.ry hb1 hbe) (hq.trans (hbe.mono hq.size))).mono ?_
    rintro e w2 ⟨rfl, hb⟩
    exact ⟨0, 0, 0, ⟨#[]⟩, none, 0, [], rfl, zero_sm, zero_in _, zero_in _, h.same ((hq.trans (hbe.mono hq.size)).trans (hb.mono (Nat.le_trans hq.size hbe.size))), But.of_below hb⟩

theorem PB.pair (h : PB w bb rb lv ms ds place most puts R T) {i : Nat} {m : Msg} (hm : ms[i]? = some m) : ∃ (k n : Int) (f : Nat) (s : ByteArray) (a : Option Addr) (c : Nat) (kids : List Tr), ds[i]? = some (.mk k n f s a c kids) ∧ Sm m.t (.mk k n f s a c kids) ∧ (Tr.mk k n f s a c kids).In w 0 ∧ (Tr.mk k n f s a c kids).On T ∧ SmallW (.mk k n f s a c kids) ∧ wordsT (.mk k n f s a c kids) + 2 = (m.wd : Int) ∧ m.wd ≤ wds ms := by
  obtain ⟨t, ht⟩ : ∃ t, ds[i]? = some t := ⟨_, List.getElem?_eq_getElem (by have := (List.getElem?_eq_some_iff.1 hm).1; have := h.len; omega)⟩
  obtain ⟨k, n, f, s, a, c, kids⟩ := t
  have hs := h.sm i m _ hm ht
  have hg := h.gd m (List.mem_of_getElem? hm)
  have htr := h.hr.tr _ (List.mem_of_getElem? ht)
  have := wds_erase ms i m hm
  exact ⟨k, n, f, s, a, c, kids, ht, hs, htr.1, htr.2, small_W _ ((sm_small _ _ hs).1 hg.2.2.1), by rw [words_sm hs]; exact hg.1, by omega⟩

theorem RY.tell_in (h : PB w bb rb lv ms ds place most puts R T) {w1 w1' w2 : World} {S : Nat → Prop} {t t1 : Tr} (hb1 : But (BS bb ms) w w1) (hbe : Below w1.heap.size w1 w1') (hb2 : But S w1' w2) (hS : ∀ q, S q → RS rb lv q) (hin : t.In w 0) (hon : t.On T) (h1 : t1.In w1 w.heap.size) : t1.In w2 0 ∧ t.In w2 0 := by
  have hz1 := hb1.size
  have hz2 := hbe.size
  refine ⟨?_, ?_⟩
  · have h2 : t1.In w1' w.heap.size := in_below hbe h1
    exact in_on (S := fun q => w.heap.size ≤ q ∧ q < w1'.heap.size) (fun q hq => hb2.block q hq.2 (fun e => by have := h.hr.lt (.inl (hS q e)); omega)) _ (in_base (Nat.zero_le _) _ h2) (on_mono (fun q hq => ⟨hq.2, hq.1⟩) _ (on_in _ h2))
  · exact in_on (S := T) (fun q hq => by
      have hq1 := h.hr.lt (.inr hq)
      have e1 := hb1.block q hq1 (h.d1 q (.inr hq))
      have e2 := hbe.block q (by omega)
      have e3 := hb2.block q (by omega) (fun e => by rcases hS q e with e | e; exact (h.hr.far q hq).2.2 e; exact (h.hr.far q hq).2.1 e)
      rw [e3, e2, e1]) _ hin hon
end Go.Proofs.Ytogahhbckfnllaa


/- Next, Take, Drop on both boxes. -/
namespace Go.Proofs.Ytogahhbckfnllaa
open Go.RowKit Go.Lib Go.Deep
attribute [local go_sem] store_float f64bits
attribute [local go_sem ↓] Go.wp_at_zero Go.wp_at_succ
variable {w w' : World} {bb rb place most puts : Nat} {lv : Value} {ms : List Msg} {ds : List Tr} {R T : Nat → Prop}

set_option maxHeartbeats 400000 in
set_option maxRecDepth 100000 in
theorem takeB_none (h : BX w bb ms 0 most puts R) : Calls Try.prog 16 #[.pointer (some ⟨bb, 0, none⟩)] w fun e w' => e = .returned (.tuple #[zV, .int .i64 5]) ∧ Below w.heap.size w w' := by
  have hX := h.keep (below_new w zT)
  obtain ⟨c2, -⟩ := hX.box.1 2 _ rfl
  have hp : prv ms 0 = none := by unfold prv; rw [if_pos rfl]
  rw [hp] at c2
  simp only [pt, Option.map_none] at c2
  have HBN := hidb (below_new w zT)
  obtain ⟨r0, r1, r2, r3, r4, g0, g1, g2, g3, g4, -⟩ := Box.new w 36 (.int .i64 0) (.int .i64 0) (.float .f64 0) (.string ⟨#[]⟩) (.slice none 0 0)
  clear h hX hp
  go_enter Try.func16, Try.ntmps16
  go_wp2_with fail
  exact bodyPost_ret (v := .tuple #[zV, .int .i64 5]) (by simp [results, Try.results16, go_sem, r0, r1, r2, r3, r4]) rfl ⟨rfl, by (repeat (first | exact HBN.out | exact HBN.out.drew | refine Below.setCell ?_ (by simp) _ | refine Below.drew ?_))⟩

theorem next_two (h : PB w bb rb lv ms ds place most puts R T) (hl : ms.length ≤ 1000) : TwoT Value.bool w bb rb lv ms most puts 15 #[.pointer (some ⟨bb, 0, none⟩)] 19 #[.pointer (some ⟨rb, 0, none⟩)] := by
  have hlen := h.len
  by_cases hp : place < ms.length
  · obtain ⟨m, hm⟩ : ∃ m, ms[place]? = some m := ⟨_, List.getElem?_eq_getElem hp⟩
    obtain ⟨k, n, f, s, a, c, kids, hd, hs, hin, hon, hsw, hw, hle⟩ := h.pair hm
    have hg := h.gd m (List.mem_of_getElem? hm)
    refine ⟨true, fun t w' => Sm m.t t ∧ t.In w' w.heap.size ∧ BX w' bb ms (place + 1) most puts R, (nextB h.hb hm hg.2.2.1 (by omega)).mono ?_, ?_⟩
    · rintro e w' ⟨k', n', f', s', a', c', kids', rfl, a1, a2, a3, a4⟩
      exact ⟨k', n', f', s', a', c', kids', rfl, ⟨a1, a2, a3⟩, a4⟩
    · rintro t1 w1 w1' ⟨a1, a2, a3⟩ hb1 hbe
      refine (ry_next (h.ry hb1 hbe) hd (by omega)).mono ?_
      rintro e w2 ⟨rfl, b1, b2⟩
      have hti := RY.tell_in h hb1 hbe b2 (fun _ e => e) hin hon a2
      exact ⟨k, n, f, s, a, c, kids, rfl, sm_trans _ _ _ (sm_symm _ _ a1) hs, hti.1, hti.2, h.turn a3 hb1 hbe b1 b2, b2⟩
  · have hpl := h.hb.pl
    exact two_none h false (nextB_none h.hb (by omega)) (fun W hW _ => ry_next_none hW (by omega))

theorem take_two (h : PB w bb rb lv ms ds place most puts R T) (hl : ms.length ≤ 1000) : TwoT (Value.int .i64) w bb rb lv ms most puts 16 #[.pointer (some ⟨bb, 0, none⟩)] 20 #[.pointer (some ⟨rb, 0, none⟩)] := by
  have hlen := h.len
  have hpl := h.hb.pl
  have hfit := h.fit
  cases place with
  | zero => exact two_none h 5 (takeB_none h.hb) (fun W hW _ => ry_take_none hW)
  | succ i =>
    obtain ⟨m, hm⟩ : ∃ m, ms[i]? = some m := ⟨_, List.getElem?_eq_getElem (by omega)⟩
    obtain ⟨k, n, f, s, a, c, kids, hd, hs, hin, hon, hsw, hw, hle⟩ := h.pair hm
    have hg := h.gd m (List.mem_of_getElem? hm)
    refine ⟨0, fun t w' => Sm m.t t ∧ t.In w' w.heap.size ∧ BX w' bb (ms.eraseIdx i) 0 most puts R, (takeB h.hb hm hg.2.2.1 (by omega) (by omega) (by omega)).mono ?_, ?_⟩
    · rintro e w' ⟨k', n', f', s', a', c', kids', rfl, a1, a2, a3, a4⟩
      exact ⟨k', n', f', s', a', c', kids', rfl, ⟨a1, a2, a3⟩, a4⟩
    · rintro t1 w1 w1' ⟨a1, a2, a3⟩ hb1 hbe
      refine (ry_take (h.ry hb1 hbe) hd hsw hw hle (by omega) (by omega)).mono ?_
      rintro e w2 ⟨rfl, lv', b1, b2, b3⟩
      have hti := RY.tell_in h hb1 hbe b3 (fun _ e => .inl e) hin hon a2
      exact ⟨k, n, f, s, a, c, kids, rfl, sm_trans _ _ _ (sm_symm _ _ a1) hs, hti.1, hti.2, h.less hm a3 hb1 hbe b1 b2 b3, b3.mono (fun _ _ e => .inl e)⟩

theorem wind_two (h : PB w bb rb lv ms ds place most puts R T) : ∃ Q1 : World → Prop, Calls Try.prog 21 #[.pointer (some ⟨bb, 0, none⟩)] w (fun e w' => e = .returned (.tuple #[]) ∧ Q1 w' ∧ But (BS bb ms) w w') ∧
    ∀ w1 w1', Q1 w1 → But (BS bb ms) w w1 → Below w1.heap.size w1 w1' → Calls Try.prog 22 #[.pointer (some ⟨rb, 0, none⟩)] w1' (fun e w2 => e = .returned (.tuple #[]) ∧ Nxt w bb rb lv ms most puts w2) := by
  refine ⟨fun w' => BX w' bb ms 0 most puts R, (rewindB h.hb).mono ?_, ?_⟩
  · rintro e w' ⟨rfl, rfl⟩
    exact ⟨rfl, h.hb.wind, (But.refl _ w).setCell (p := ⟨bb, 2, none⟩) (fun _ => .inl rfl) _⟩
  · intro w1 w1' hq hb1 hbe
    refine (ry_rewind (h.ry hb1 hbe)).mono ?_
    rintro e w2 ⟨rfl, b1, b2⟩
    exact ⟨rfl, h.turn hq hb1 hbe b1 b2⟩

theorem drop_two (h : PB w bb rb lv ms ds place most puts R T) (hl : ms.length ≤ 1000) {xb : Nat} {op : Int} {x : Tr} {O : Nat → Prop} (hx : XA w xb op x O) (hxb : ∀ q, (q = xb ∨ O q) → ¬ BS bb ms q) {q : Option Addr} {c0 : Nat} {bs : List Bool} (hbs : BRow w q bs) (hq : ∀ g, q = some ⟨g, 0, none⟩ → ¬ BS bb ms g) (hblen : bs.length = ds.length) (hbv : ∀ (j : Nat) (t : Tr), ds[j]? = some t → bs[j]? = some (idT t x)) :
    TwoT Value.bool w bb rb lv ms most puts 24 #[.pointer (some ⟨bb, 0, none⟩), .func (.func 25) #[] #[.pointer (some ⟨xb, 0, none⟩)]] 26 #[.pointer (some ⟨rb, 0, none⟩), .slice q bs.length c0] := by
  have hlen := h.len
  have hpl := h.hb.pl
  have hfit := h.fit
  have hbw : ∀ w1 w1', But (BS bb ms) w w1 → Below w1.heap.size w1 w1' → BRow w1' q bs := fun w1 w1' hb1 hbe j b hj => by
    obtain ⟨g, e, hc⟩ := hbs j b hj
    have hg := World.block_lt_of_cell? _ _ hc
    have hc1 := (hb1.cell (p := ⟨g, j, none⟩) hg (hq g e)).trans hc
    exact ⟨g, e, (hbe.cell (p := ⟨g, j, none⟩) (World.block_lt_of_cell? _ _ hc1)).trans hc1⟩
  have hid : ∀ (j : Nat) (y : Msg), ms[j]? = some y → bs[j]? = some (idT y.t x) := fun j y hy => by
    obtain ⟨t, ht⟩ : ∃ t, ds[j]? = some t := ⟨_, List.getElem?_eq_getElem (by have := (List.getElem?_eq_some_iff.1 hy).1; omega)⟩
    rw [hbv j t ht, idT_sm _ _ x (h.sm j y t hy ht)]
  by_cases hex : ∃ (i : Nat) (m : Msg), ms[i]? = some m ∧ idT m.t x = true ∧ ∀ (j : Nat) (y : Msg), j < i → ms[j]? = some y → idT y.t x = false
  · obtain ⟨i, m, hm, hi, hno⟩ := hex
    obtain ⟨k, n, f, s, a, c, kids, hd, hs, hin, hon, hsw, hw, hle⟩ := h.pair hm
    refine ⟨true, fun t w' => Sm m.t t ∧ t.In w' w.heap.size ∧ BX w' bb (ms.eraseIdx i) (rmP place i) most puts R, (dropB h.hb hx hxb (by omega) (by omega) h.num (fun m hm => ⟨(h.gd m hm).2.2.1, by have := (h.gd m hm).2.2.2; omega⟩)).mono ?_, ?_⟩
    · rintro e w' (⟨i', m', a1, a2, a3, k', n', f', s', a', c', kids', rfl, a4, a5, a6, a7⟩ | ⟨a1, -, -⟩)
      · have hii : i' = i := by
          rcases Nat.lt_trichotomy i' i with e | e | e
          · have := hno i' m' e a1; rw [a2] at this; cases this
          · exact e
          · have := a3 i m e hm; rw [hi] at this; cases this
        subst hii
        rw [hm] at a1
        cases a1
        exact ⟨k', n', f', s', a', c', kids', rfl, ⟨a4, a5, a6⟩, a7⟩
      · have := a1 m (List.mem_of_getElem? hm); rw [hi] at this; cases this
    · rintro t1 w1 w1' ⟨a1, a2, a3⟩ hb1 hbe
      refine (ry_drop (h.ry hb1 hbe) (hbw w1 w1' hb1 hbe) hblen (i := i) (by rw [hid i m hm, hi]) (fun j hj => ?_) hd hsw hw hle (by omega) (by omega) (by omega)).mono ?_
      · obtain ⟨y, hy⟩ : ∃ y, ms[j]? = some y := ⟨_, List.getElem?_eq_getElem (by have := (List.getElem?_eq_some_iff.1 hm).1; omega)⟩
        rw [hid j y hy, hno j y hj hy]
      · rintro e w2 ⟨rfl, lv', b1, b2, b3⟩
        have hti := RY.tell_in h hb1 hbe b3 (fun _ e => .inl e) hin hon a2
        exact ⟨k, n, f, s, a, c, kids, rfl, sm_trans _ _ _ (sm_symm _ _ a1) hs, hti.1, hti.2, h.less hm a3 hb1 hbe b1 b2 b3, b3.mono (fun _ _ e => .inl e)⟩
  · have hall : ∀ (i : Nat) (m : Msg), ms[i]? = some m → idT m.t x = false := by
      intro i
      induction i using Nat.strongRecOn with
      | ind i ih =>
        intro m hm
        cases hr : idT m.t x with
        | false => rfl
        | true => exact absurd ⟨i, m, hm, hr, fun j y hj hy => ih j hj y hy⟩ hex
    refine two_none h false ((dropB h.hb hx hxb (by omega) (by omega) h.num (fun m hm => ⟨(h.gd m hm).2.2.1, by have := (h.gd m hm).2.2.2; omega⟩)).mono ?_) ?_
    · rintro e w' (⟨i', m', a1, a2, -⟩ | ⟨-, rfl, a3⟩)
      · rw [hall i' m' a1] at a2; cases a2
      · exact ⟨rfl, a3⟩
    · intro W hW hbW
      refine ry_drop_none hW (hbs.keep hbW) hblen (fun b hb => ?_) (by omega)
      obtain ⟨j, hj⟩ := List.getElem?_of_mem hb
      obtain ⟨y, hy⟩ : ∃ y, ms[j]? = some y := ⟨_, List.getElem?_eq_getElem (by have := (List.getElem?_eq_some_iff.1 hj).1; omega)⟩
      have := hid j y hy
      rw [hj, hall j y hy] at this
      cases this
      rfl
end Go.Proofs.Ytogahhbckfnllaa


