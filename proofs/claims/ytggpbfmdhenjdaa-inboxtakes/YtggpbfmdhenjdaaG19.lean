import Derived.Test.YtggpbfmdhenjdaaG18
/- Next, walked. -/
namespace Go.Proofs.Ytggpbfmdhenjdaa
open Go.RowKit Go.Deep
attribute [local go_sem] store_float f64bits
attribute [local go_sem ↓] Go.wp_at_zero Go.wp_at_succ
variable {w : World} {bb place most puts : Nat} {ms : List Msg} {R : Nat → Prop}

/-- One more is looked at. -/
theorem BX.look (h : BX w bb ms place most puts R) {m : Msg} (hm : ms[place]? = some m) : BX (w.setCell ⟨bb, 2, none⟩ (.pointer (some ⟨m.b, 0, none⟩))) bb ms (place + 1) most puts R := by
  have hp : prv ms (place + 1) = some m.b := by unfold prv; rw [if_neg (by omega), Nat.add_sub_cancel, hm]; rfl
  have hb := h.box.set (i := 2) (by simp) (.pointer (some ⟨m.b, 0, none⟩))
  refine ⟨?_, fun i x hx => (h.msg i x hx).other (fun e => h.nb x (List.mem_of_getElem? hx) e.symm) _, h.nd, h.nb, fun x hx => ⟨in_set1 (h.tr x hx).1 (h.tr x hx).2 (fun e => (h.far _ e).2.1 rfl) _, (h.tr x hx).2⟩, fun q hq => ⟨by simpa [World.setCell] using (h.far q hq).1, (h.far q hq).2⟩, (List.getElem?_eq_some_iff.1 hm).1⟩
  rw [hp]
  exact hb
theorem BX.wind (h : BX w bb ms place most puts R) : BX (w.setCell ⟨bb, 2, none⟩ (.pointer none)) bb ms 0 most puts R := by
  have hb := h.box.set (i := 2) (by simp) (.pointer none)
  exact ⟨hb, fun i x hx => (h.msg i x hx).other (fun e => h.nb x (List.mem_of_getElem? hx) e.symm) _, h.nd, h.nb, fun x hx => ⟨in_set1 (h.tr x hx).1 (h.tr x hx).2 (fun e => (h.far _ e).2.1 rfl) _, (h.tr x hx).2⟩, fun q hq => ⟨by simpa [World.setCell] using (h.far q hq).1, (h.far q hq).2⟩, Nat.zero_le _⟩

/-- Copy, its answer written out. -/
theorem copy_out {k n : Int} {f : Nat} {s : ByteArray} {a : Option Addr} {c : Nat} {kids : List Tr} {W : World} (hin : (Tr.mk k n f s a c kids).In W 0) (hs : Small (.mk k n f s a c kids)) (hcn : cnT (.mk k n f s a c kids) ≤ 1000000000) :
    Calls Try.prog 23 #[.agg #[.int .i64 k, .int .i64 n, .float .f64 f, .string s, .slice a kids.length c]] W fun e w' => ∃ (k' n' : Int) (f' : Nat) (s' : ByteArray) (a' : Option Addr) (c' : Nat) (kids' : List Tr), e = .returned (.agg #[.int .i64 k', .int .i64 n', .float .f64 f', .string s', .slice a' kids'.length c']) ∧ Sm (.mk k n f s a c kids) (.mk k' n' f' s' a' c' kids') ∧ (Tr.mk k' n' f' s' a' c' kids').In w' W.heap.size ∧ Below W.heap.size W w' :=
  (copy_any _ W hin hs hcn).mono (by rintro e w' ⟨⟨k', n', f', s', a', c', kids'⟩, rfl, h⟩; exact ⟨k', n', f', s', a', c', kids', rfl, h⟩)

abbrev zT : Obj := .cells #[.int .i64 0, .int .i64 0, .float .f64 0, .string ⟨#[]⟩, .slice none 0 0] 27
abbrev zV : Value := .agg #[.int .i64 0, .int .i64 0, .float .f64 0, .string ⟨#[]⟩, .slice none 0 0]

set_option maxHeartbeats 400000 in
set_option maxRecDepth 100000 in
theorem nextB_none (h : BX w bb ms place most puts R) (hpl : place = ms.length) : Calls Try.prog 10 #[.pointer (some ⟨bb, 0, none⟩)] w fun e w' => e = .returned (.tuple #[zV, .bool false]) ∧ Below w.heap.size w w' := by
  subst hpl
  have hbl := h.box.2
  have HBN := hidb (below_new w zT)
  obtain ⟨r0, r1, r2, r3, r4, g0, g1, g2, g3, g4, -⟩ := Box.new w 27 (.int .i64 0) (.int .i64 0) (.float .f64 0) (.string ⟨#[]⟩) (.slice none 0 0)
  have hX := h.keep (below_new w zT)
  by_cases h0 : ms.length = 0
  · have hms : ms = [] := List.length_eq_zero_iff.1 h0
    subst hms
    have c0 := (hX.box.1 0 _ rfl).1
    have c2 := (hX.box.1 2 _ rfl).1
    simp only [hd, prv, pt, List.length_nil, if_true, List.getElem?_nil, Option.map_none] at c0 c2
    clear h h0 hX
    go_enter Try.func10, Try.ntmps10
    go_wp2_with fail
    exact bodyPost_ret (v := .tuple #[zV, .bool false]) (by simp [results, Try.results10, go_sem, r0, r1, r2, r3, r4]) rfl ⟨rfl, by (repeat (first | exact HBN.out | refine Below.setCell ?_ (by simp) _))⟩
  · obtain ⟨x, hx⟩ : ∃ x, ms[ms.length - 1]? = some x := ⟨_, List.getElem?_eq_getElem (by omega)⟩
    have c0 := (hX.box.1 0 _ rfl).1
    generalize pt (hd ms) = P0 at c0
    have c2 := (hX.box.1 2 _ rfl).1
    have c1 := ((hX.msg _ x hx).1 1 _ rfl).1
    have hp : prv ms ms.length = some x.b := by unfold prv; rw [if_neg h0, hx]; rfl
    have hn : nxt ms (ms.length - 1) = none := by unfold nxt; rw [show ms.length - 1 + 1 = ms.length by omega]; simp
    rw [hp] at c2
    rw [hn] at c1
    simp only [pt, Option.map_some, Option.map_none] at c1 c2
    clear h h0 hX hp hn hx
    go_enter Try.func10, Try.ntmps10
    go_wp2_with fail
    exact bodyPost_ret (v := .tuple #[zV, .bool false]) (by simp [results, Try.results10, go_sem, r0, r1, r2, r3, r4]) rfl ⟨rfl, by (repeat (first | exact HBN.out | refine Below.setCell ?_ (by simp) _))⟩

theorem next_fin {w w4 : World} {C : Nat} {u0 u1 u2 u3 u4 : Value} {t : Tr} (h : BX w4 bb ms place most puts R) (hin : t.In w4 C) (hb : But (BS bb ms) w w4) (hR : ∀ q, R q → q ≠ w.heap.size) (hB : ∀ q, BS bb ms q → q ≠ w.heap.size) (hC : w.heap.size < C) :
    t.In (((((w4.setCell ⟨w.heap.size, 0, none⟩ u0).setCell ⟨w.heap.size, 1, none⟩ u1).setCell ⟨w.heap.size, 2, none⟩ u2).setCell ⟨w.heap.size, 3, none⟩ u3).setCell ⟨w.heap.size, 4, none⟩ u4) w.heap.size ∧ BX (((((w4.setCell ⟨w.heap.size, 0, none⟩ u0).setCell ⟨w.heap.size, 1, none⟩ u1).setCell ⟨w.heap.size, 2, none⟩ u2).setCell ⟨w.heap.size, 3, none⟩ u3).setCell ⟨w.heap.size, 4, none⟩ u4) bb ms place most puts R ∧ But (BS bb ms) w (((((w4.setCell ⟨w.heap.size, 0, none⟩ u0).setCell ⟨w.heap.size, 1, none⟩ u1).setCell ⟨w.heap.size, 2, none⟩ u2).setCell ⟨w.heap.size, 3, none⟩ u3).setCell ⟨w.heap.size, 4, none⟩ u4) := by
  refine ⟨in_base (Nat.le_of_lt hC) _ (in_set (in_set (in_set (in_set (in_set hin hC _) hC _) hC _) hC _) hC _), ?_, ?_⟩
  · have hb2 : But (fun q => q = w.heap.size) w4 (((((w4.setCell ⟨w.heap.size, 0, none⟩ u0).setCell ⟨w.heap.size, 1, none⟩ u1).setCell ⟨w.heap.size, 2, none⟩ u2).setCell ⟨w.heap.size, 3, none⟩ u3).setCell ⟨w.heap.size, 4, none⟩ u4) := (((((But.refl (fun q => q = w.heap.size) w4).setCell (p := ⟨w.heap.size, 0, none⟩) (fun _ => rfl) _).setCell (p := ⟨w.heap.size, 1, none⟩) (fun _ => rfl) _).setCell (p := ⟨w.heap.size, 2, none⟩) (fun _ => rfl) _).setCell (p := ⟨w.heap.size, 3, none⟩) (fun _ => rfl) _).setCell (p := ⟨w.heap.size, 4, none⟩) (fun _ => rfl) _
    exact h.but hb2 hB hR
  · exact ((((hb.setCell (p := ⟨w.heap.size, 0, none⟩) (fun h => absurd h (Nat.lt_irrefl _)) _).setCell (p := ⟨w.heap.size, 1, none⟩) (fun h => absurd h (Nat.lt_irrefl _)) _).setCell (p := ⟨w.heap.size, 2, none⟩) (fun h => absurd h (Nat.lt_irrefl _)) _).setCell (p := ⟨w.heap.size, 3, none⟩) (fun h => absurd h (Nat.lt_irrefl _)) _).setCell (p := ⟨w.heap.size, 4, none⟩) (fun h => absurd h (Nat.lt_irrefl _)) _

set_option maxHeartbeats 1000000 in
set_option maxRecDepth 100000 in
theorem nextB (h : BX w bb ms place most puts R) {m : Msg} (hm : ms[place]? = some m) (hs : Small m.t) (hcn : cnT m.t ≤ 1000000000) : Calls Try.prog 10 #[.pointer (some ⟨bb, 0, none⟩)] w fun e w' => ∃ (k' n' : Int) (f' : Nat) (s' : ByteArray) (a' : Option Addr) (c' : Nat) (kids' : List Tr), e = .returned (.tuple #[.agg #[.int .i64 k', .int .i64 n', .float .f64 f', .string s', .slice a' kids'.length c'], .bool true]) ∧ Sm m.t (.mk k' n' f' s' a' c' kids') ∧ (Tr.mk k' n' f' s' a' c' kids').In w' w.heap.size ∧ BX w' bb ms (place + 1) most puts R ∧ But (BS bb ms) w w' := by
  have hbl := h.box.2
  have hml := (h.msg _ m hm).2
  have hmb := h.nb m (List.mem_of_getElem? hm)
  have hX := h.keep (below_new w zT)
  have hW := h.look hm
  have hsz : (w.setCell ⟨bb, 2, none⟩ (.pointer (some ⟨m.b, 0, none⟩))).heap.size = w.heap.size := by simp [World.setCell]
  have HL := hidb (hW.keep (below_new _ zT))
  have HT := HL.out.tr m (List.mem_of_getElem? hm)
  have CP := hidb (fun W hb => copy_out (W := W) (in_below hb HT.1) hs hcn)
  have BZ := Box.new (w.setCell ⟨bb, 2, none⟩ (.pointer (some ⟨m.b, 0, none⟩))) 27 (.int .i64 0) (.int .i64 0) (.float .f64 0) (.string ⟨#[]⟩) (.slice none 0 0)
  rw [hsz] at BZ
  have HBZ := hidb BZ
  obtain ⟨c2, f2⟩ := hX.box.1 2 _ rfl
  have m2 := ((HL.out.msg _ m hm).1 2 _ rfl).1
  have m3 := ((HL.out.msg _ m hm).1 3 _ rfl).1
  have m4 := ((HL.out.msg _ m hm).1 4 _ rfl).1
  have m5 := ((HL.out.msg _ m hm).1 5 _ rfl).1
  have m6 := ((HL.out.msg _ m hm).1 6 _ rfl).1
  have hwb : ¬ w.heap.size = bb := by omega
  have hwm : ¬ w.heap.size = m.b := by omega
  have HBT : Hid (But (BS bb ms) w ((w.setCell ⟨bb, 2, none⟩ (.pointer (some ⟨m.b, 0, none⟩))).alloc zT)) := hidb (((But.refl (BS bb ms) w).setCell (p := ⟨bb, 2, none⟩) (fun _ => .inl rfl) _).trans (But.of_below (below_new _ zT)))
  have HFR : Hid (∀ q, R q → q ≠ w.heap.size) := hidb (fun q hq => by have := (h.far q hq).1; omega)
  have HBS : Hid (∀ q, BS bb ms q → q ≠ w.heap.size) := hidb (by
    rintro q (e | ⟨x, hx, e⟩)
    · omega
    · obtain ⟨i, hi⟩ := List.getElem?_of_mem hx
      have := (h.msg i x hi).2
      omega)
  have HSZ : Hid (w.heap.size < ((w.setCell ⟨bb, 2, none⟩ (.pointer (some ⟨m.b, 0, none⟩))).alloc zT).heap.size) := hidb (by simp [World.setCell])
  clear BZ hW
  by_cases h0 : place = 0
  · subst h0
    have c0 := (hX.box.1 0 _ rfl).1
    have hh : hd ms = some m.b := by unfold hd; rw [hm]; rfl
    rw [hh] at c0
    simp only [prv, pt, if_true, Option.map_some, Option.map_none] at c0 c2
    clear h hX hh hm hs hcn HT
    go_enter Try.func10, Try.ntmps10
    go_wp2_with (first
      | (go_at_call 23; refine (CP.out _ (Below.refl _ _)).mono ?_; rintro e w4 ⟨k', n', f', s', a', c', kids', rfl, hst, hti, hb4⟩; obtain ⟨r0, r1, r2, r3, r4, g0, g1, g2, g3, g4, -⟩ := HBZ.out.keep hb4; have HK4 := hidb (HL.out.keep hb4); have HTI := hidb hti; have HST := hidb hst; have HB4 := hidb (HBT.out.trans (But.of_below (S := BS bb ms) hb4)); clear hti hst hb4))
    have HF := hidb (next_fin (u0 := .int .i64 k') (u1 := .int .i64 n') (u2 := .float .f64 f') (u3 := .string s') (u4 := .slice a' kids'.length c') HK4.out HTI.out HB4.out HFR.out HBS.out HSZ.out)
    exact bodyPost_ret (v := .tuple #[.agg #[.int .i64 k', .int .i64 n', .float .f64 f', .string s', .slice a' kids'.length c'], .bool true]) (by simp [results, Try.results10, go_sem, r0, r1, r2, r3, r4]) rfl ⟨k', n', f', s', a', c', kids', rfl, HST.out, HF.out.1, HF.out.2.1, HF.out.2.2⟩
  · obtain ⟨x, hx⟩ : ∃ x, ms[place - 1]? = some x := ⟨_, List.getElem?_eq_getElem (by have := (List.getElem?_eq_some_iff.1 hm).1; omega)⟩
    have c0 := (hX.box.1 0 _ rfl).1
    generalize pt (hd ms) = P0 at c0
    have c1 := ((hX.msg _ x hx).1 1 _ rfl).1
    have hp : prv ms place = some x.b := by unfold prv; rw [if_neg h0, hx]; rfl
    have hn : nxt ms (place - 1) = some m.b := by unfold nxt; rw [show place - 1 + 1 = place by omega, hm]; rfl
    rw [hp] at c2
    rw [hn] at c1
    simp only [pt, Option.map_some] at c1 c2
    clear h h0 hX hp hn hx hm hs hcn HT
    go_enter Try.func10, Try.ntmps10
    go_wp2_with (first
      | (go_at_call 23; refine (CP.out _ (Below.refl _ _)).mono ?_; rintro e w4 ⟨k', n', f', s', a', c', kids', rfl, hst, hti, hb4⟩; obtain ⟨r0, r1, r2, r3, r4, g0, g1, g2, g3, g4, -⟩ := HBZ.out.keep hb4; have HK4 := hidb (HL.out.keep hb4); have HTI := hidb hti; have HST := hidb hst; have HB4 := hidb (HBT.out.trans (But.of_below (S := BS bb ms) hb4)); clear hti hst hb4))
    have HF := hidb (next_fin (u0 := .int .i64 k') (u1 := .int .i64 n') (u2 := .float .f64 f') (u3 := .string s') (u4 := .slice a' kids'.length c') HK4.out HTI.out HB4.out HFR.out HBS.out HSZ.out)
    exact bodyPost_ret (v := .tuple #[.agg #[.int .i64 k', .int .i64 n', .float .f64 f', .string s', .slice a' kids'.length c'], .bool true]) (by simp [results, Try.results10, go_sem, r0, r1, r2, r3, r4]) rfl ⟨k', n', f', s', a', c', kids', rfl, HST.out, HF.out.1, HF.out.2.1, HF.out.2.2⟩
end Go.Proofs.Ytggpbfmdhenjdaa


/- A message less: the blocks. -/
namespace Go.Proofs.Ytggpbfmdhenjdaa
open Go.RowKit Go.Deep
variable {w : World} {bb place most puts : Nat} {ms : List Msg} {R : Nat → Prop}

theorem BX.apart (h : BX w bb ms place most puts R) {i j : Nat} {x y : Msg} (hi : ms[i]? = some x) (hj : ms[j]? = some y) (hne : i ≠ j) : x.b ≠ y.b := by
  intro e
  have n1 : (ms.map Msg.b)[i]? = some x.b := by simp [hi]
  have n2 : (ms.map Msg.b)[j]? = some y.b := by simp [hj]
  have l1 := (List.getElem?_eq_some_iff.1 n1)
  have l2 := (List.getElem?_eq_some_iff.1 n2)
  exact hne ((List.getElem_inj (h₀ := l1.1) (h₁ := l2.1) h.nd).1 (l1.2.trans (e.trans l2.2.symm)))

theorem wds_erase : ∀ (ms : List Msg) (i : Nat) (m : Msg), ms[i]? = some m → wds (ms.eraseIdx i) + m.wd = wds ms
  | [], i, m, h => by simp at h
  | x :: r, 0, m, h => by simp at h; subst h; simp [wds]; omega
  | x :: r, i + 1, m, h => by
    have := wds_erase r i m (by simpa using h)
    simp [wds]
    omega

/-- The neighbours: none, or messages. -/
theorem prv_cases (ms : List Msg) (i : Nat) : (prv ms i = none ∧ (i = 0 ∨ ms.length ≤ i - 1)) ∨ ∃ x, 0 < i ∧ ms[i - 1]? = some x ∧ prv ms i = some x.b := by
  unfold prv
  by_cases h : i = 0
  · exact .inl ⟨by rw [if_pos h], .inl h⟩
  · rw [if_neg h]
    cases hx : ms[i - 1]? with
    | none => exact .inl ⟨rfl, .inr (by simpa using hx)⟩
    | some x => exact .inr ⟨x, by omega, rfl, rfl⟩
theorem nxt_cases (ms : List Msg) (i : Nat) : (nxt ms i = none ∧ ms.length ≤ i + 1) ∨ ∃ x, ms[i + 1]? = some x ∧ nxt ms i = some x.b := by
  unfold nxt
  cases hx : ms[i + 1]? with
  | none => exact .inl ⟨rfl, by simpa using hx⟩
  | some x => exact .inr ⟨x, rfl, rfl⟩

theorem er_lt (ms : List Msg) {i j : Nat} (h : j < i) : (ms.eraseIdx i)[j]? = ms[j]? := by rw [List.getElem?_eraseIdx, if_pos h]
theorem er_ge (ms : List Msg) {i j : Nat} (h : i ≤ j) : (ms.eraseIdx i)[j]? = ms[j + 1]? := by rw [List.getElem?_eraseIdx, if_neg (by omega)]
theorem prv_er_le (ms : List Msg) {i j : Nat} (h : j ≤ i) : prv (ms.eraseIdx i) j = prv ms j := by
  unfold prv
  split
  · rfl
  · rw [er_lt _ (by omega)]
theorem prv_er_gt (ms : List Msg) {i j : Nat} (h : i < j) : prv (ms.eraseIdx i) j = prv ms (j + 1) := by
  unfold prv
  rw [if_neg (by omega), if_neg (by omega), er_ge _ (by omega), show j - 1 + 1 = j + 1 - 1 by omega]
theorem nxt_er_lt (ms : List Msg) {i j : Nat} (h : j + 1 < i) : nxt (ms.eraseIdx i) j = nxt ms j := by unfold nxt; rw [er_lt _ h]
theorem nxt_er_ge (ms : List Msg) {i j : Nat} (h : i ≤ j + 1) : nxt (ms.eraseIdx i) j = nxt ms (j + 1) := by unfold nxt; rw [er_ge _ h]

/-- What the blocks are behind remove. -/
def rmW (w : World) (bb : Nat) (ms : List Msg) (i : Nat) (m : Msg) : World :=
  ((((w.setCell (jA bb (prv ms i)) (pt (nxt ms i))).setCell (jB bb (nxt ms i)) (pt (prv ms i))).setCell ⟨bb, 3, none⟩ (.int .i64 ((ms.length - 1 : Nat) : Int))).setCell ⟨bb, 4, none⟩ (.int .i64 ((wds ms - m.wd : Nat) : Int))).setCell ⟨m.b, 9, none⟩ (.bool true)

set_option maxHeartbeats 1000000 in
theorem BX.erased (h : BX w bb ms place most puts R) {i : Nat} {m : Msg} (hm : ms[i]? = some m) (hpl : place ≤ i) : BX (rmW w bb ms i m) bb (ms.eraseIdx i) place most puts R := by
  have hil : i < ms.length := (List.getElem?_eq_some_iff.1 hm).1
  have hmb := h.nb m (List.mem_of_getElem? hm)
  have hmm := List.mem_of_getElem? hm
  have hsub : ∀ x, x ∈ ms.eraseIdx i → x ∈ ms := fun x hx => List.mem_of_mem_eraseIdx hx
  have hlen : (ms.eraseIdx i).length = ms.length - 1 := by rw [List.length_eraseIdx, if_pos hil]
  have hwd := wds_erase ms i m hm
  have hA : ∀ q, R q → (jA bb (prv ms i)).block ≠ q := by
    intro q hq e
    rcases prv_cases ms i with ⟨e1, _⟩ | ⟨x, _, hx, e1⟩
    · rw [e1] at e; exact (h.far q hq).2.1 e.symm
    · rw [e1] at e; exact (h.far q hq).2.2 x (List.mem_of_getElem? hx) e.symm
  have hB : ∀ q, R q → (jB bb (nxt ms i)).block ≠ q := by
    intro q hq e
    rcases nxt_cases ms i with ⟨e1, _⟩ | ⟨x, hx, e1⟩
    · rw [e1] at e; exact (h.far q hq).2.1 e.symm
    · rw [e1] at e; exact (h.far q hq).2.2 x (List.mem_of_getElem? hx) e.symm
  refine ⟨?_, ?_, ?_, fun x hx => h.nb x (hsub x hx), ?_, ?_, by omega⟩
  · unfold rmW
    refine At.other ?_ hmb _
    rw [hlen, prv_er_le ms hpl, show wds (ms.eraseIdx i) = wds ms - m.wd by omega]
    have e0 : hd (ms.eraseIdx i) = if i = 0 then nxt ms i else hd ms := by
      unfold hd nxt
      split
      · rename_i h0; subst h0; rw [er_ge _ (Nat.le_refl _)]
      · rw [er_lt _ (by omega)]
    have e1 : prv (ms.eraseIdx i) (ms.length - 1) = if i + 1 = ms.length then prv ms i else prv ms ms.length := by
      split
      · rename_i h1; rw [show ms.length - 1 = i by omega, prv_er_le ms (Nat.le_refl _)]
      · rw [prv_er_gt ms (by omega), show ms.length - 1 + 1 = ms.length by omega]
    rw [e0, e1]
    have hb := h.box
    have hb1 : At (w.setCell (jA bb (prv ms i)) (pt (nxt ms i))) bb [pt (if i = 0 then nxt ms i else hd ms), pt (prv ms ms.length), pt (prv ms place), .int .i64 (ms.length : Int), .int .i64 (wds ms : Int), .int .i64 (most : Int), .int .i64 (puts : Int)] := by
      rcases prv_cases ms i with ⟨q, h0⟩ | ⟨x, h0, hx, q⟩
      · have h0 : i = 0 := by omega
        rw [q, if_pos h0]
        exact hb.set (i := 0) (by simp) (pt (nxt ms i))
      · rw [q, if_neg (by omega)]
        exact hb.other (p := ⟨x.b, 1, none⟩) (h.nb x (List.mem_of_getElem? hx)) _
    have hb2 : At ((w.setCell (jA bb (prv ms i)) (pt (nxt ms i))).setCell (jB bb (nxt ms i)) (pt (prv ms i))) bb [pt (if i = 0 then nxt ms i else hd ms), pt (if i + 1 = ms.length then prv ms i else prv ms ms.length), pt (prv ms place), .int .i64 (ms.length : Int), .int .i64 (wds ms : Int), .int .i64 (most : Int), .int .i64 (puts : Int)] := by
      rcases nxt_cases ms i with ⟨q, h0⟩ | ⟨x, hx, q⟩
      · have h0 : i + 1 = ms.length := by omega
        rw [if_pos h0]
        have := hb1.set (i := 1) (by simp) (pt (prv ms i))
        rw [q] at this ⊢
        exact this
      · have hx' := (List.getElem?_eq_some_iff.1 hx).1
        rw [if_neg (show ¬ i + 1 = ms.length by omega)]
        have := hb1.other (p := ⟨x.b, 0, none⟩) (h.nb x (List.mem_of_getElem? hx)) (pt (prv ms i))
        rw [q] at this ⊢
        exact this
    exact (hb2.set (i := 3) (by simp) (.int .i64 ((ms.length - 1 : Nat) : Int))).set (i := 4) (by simp) (.int .i64 ((wds ms - m.wd : Nat) : Int))
  · intro j y hy
    unfold rmW
    by_cases hji : j < i
    · rw [er_lt _ hji] at hy
      have hyb := h.nb y (List.mem_of_getElem? hy)
      have hym := h.apart hy hm (by omega)
      rw [prv_er_le ms (by omega)]
      have h0 := h.msg j y hy
      refine At.other (At.other (At.other ?_ (fun e => hyb e.symm) _) (fun e => hyb e.symm) _) (fun e => hym e.symm) _
      have hjB : (jB bb (nxt ms i)).block ≠ y.b := by
        rcases nxt_cases ms i with ⟨q, _⟩ | ⟨x, hx, q⟩
        · rw [q]; exact fun e => hyb e.symm
        · rw [q]; exact h.apart hx hy (by omega)
      refine At.other ?_ hjB _
      by_cases hj1 : j + 1 = i
      · have hp : prv ms i = some y.b := by unfold prv; rw [if_neg (by omega), show i - 1 = j by omega, hy]; rfl
        rw [nxt_er_ge ms (by omega), hp, hj1]
        exact h0.set (i := 1) (by simp [Msg.cells]) (pt (nxt ms i))
      · rw [nxt_er_lt ms (by omega)]
        refine At.other h0 ?_ _
        rcases prv_cases ms i with ⟨q, _⟩ | ⟨x, h1, hx, q⟩
        · rw [q]; exact fun e => hyb e.symm
        · rw [q]; exact h.apart hx hy (by omega)
    · rw [er_ge _ (by omega)] at hy
      have hyb := h.nb y (List.mem_of_getElem? hy)
      have hym := h.apart hy hm (by omega)
      rw [nxt_er_ge ms (by omega)]
      have h0 := h.msg (j + 1) y hy
      refine At.other (At.other (At.other ?_ (fun e => hyb e.symm) _) (fun e => hyb e.symm) _) (fun e => hym e.symm) _
      have hjA : (jA bb (prv ms i)).block ≠ y.b := by
        rcases prv_cases ms i with ⟨q, _⟩ | ⟨x, h1, hx, q⟩
        · rw [q]; exact fun e => hyb e.symm
        · rw [q]; exact h.apart hx hy (by omega)
      by_cases hj1 : j = i
      · subst hj1
        have hn : nxt ms j = some y.b := by unfold nxt; rw [hy]; rfl
        rw [prv_er_le ms (Nat.le_refl _)]
        have := (h0.other hjA (pt (nxt ms j))).set (i := 0) (by simp [Msg.cells]) (pt (prv ms j))
        rw [hn] at this ⊢
        exact this
      · rw [prv_er_gt ms (by omega)]
        refine (h0.other hjA _).other ?_ _
        rcases nxt_cases ms i with ⟨q, _⟩ | ⟨x, hx, q⟩
        · rw [q]; exact fun e => hyb e.symm
        · rw [q]; exact h.apart hx hy (by omega)
  · exact ((List.eraseIdx_sublist ms i).map Msg.b).nodup h.nd
  · intro x hx
    have t := h.tr x (hsub x hx)
    have n1 : ¬ R m.b := fun e => (h.far _ e).2.2 m hmm rfl
    have n2 : ¬ R bb := fun e => (h.far _ e).2.1 rfl
    exact ⟨in_set1 (in_set1 (in_set1 (in_set1 (in_set1 t.1 t.2 (fun e => hA _ e rfl) _) t.2 (fun e => hB _ e rfl) _) t.2 n2 _) t.2 n2 _) t.2 n1 _, t.2⟩
  · intro q hq
    obtain ⟨a1, a2, a3⟩ := h.far q hq
    exact ⟨by simpa [rmW, World.setCell] using a1, a2, fun x hx => a3 x (hsub x hx)⟩
end Go.Proofs.Ytggpbfmdhenjdaa


