/- Next, walked. -/
import Derived.Test.YtapjnnbcphpokaaIb4
namespace Go.Proofs.Ytapjnnbcphpokaa
open Go.RowKit Go.Deep
attribute [local go_sem] store_float f64bits
attribute [local go_sem ↓] Go.wp_at_zero Go.wp_at_succ
variable {w : World} {bb place most puts : Nat} {ms : List Msg} {R : Nat → Prop}

/-- One more is looked at. -/
theorem BX.look (h : BX w bb ms place most puts R) {m : Msg} (hm : ms[place]? = some m) : BX (w.setCell ⟨bb, 2, none⟩ (.pointer (some ⟨m.b, 0, none⟩))) bb ms (place + 1) most puts R := by
  have hp : prv ms (place + 1) = some m.b := by unfold prv; rw [if_neg (by omega), Nat.add_sub_cancel, hm]; rfl
  have hb := h.box.set (i := 2) (by simp) (.pointer (some ⟨m.b, 0, none⟩))
  refine ⟨?_, fun i x hx => (h.msg i x hx).other (fun e => h.nb x (List.mem_of_getElem? hx) e.symm) _, h.nd, h.nb, fun x hx => ⟨in_set1 (h.tr x hx).1 (h.tr x hx).2 (fun e => (h.far _ e).2.1 rfl) _, (h.tr x hx).2⟩, fun q hq => ⟨by simpa [World.setCell] using (h.far q hq).1, (h.far q hq).2⟩, (List.getElem?_eq_some_iff.1 hm).1⟩
  rw [hp]
  exact hb
theorem BX.wind (h : BX w bb ms place most puts R) : BX (w.setCell ⟨bb, 2, none⟩ (.pointer none)) bb ms 0 most puts R := by
  have hb := h.box.set (i := 2) (by simp) (.pointer none)
  exact ⟨hb, fun i x hx => (h.msg i x hx).other (fun e => h.nb x (List.mem_of_getElem? hx) e.symm) _, h.nd, h.nb, fun x hx => ⟨in_set1 (h.tr x hx).1 (h.tr x hx).2 (fun e => (h.far _ e).2.1 rfl) _, (h.tr x hx).2⟩, fun q hq => ⟨by simpa [World.setCell] using (h.far q hq).1, (h.far q hq).2⟩, Nat.zero_le _⟩

/-- Copy, its answer written out. -/
theorem copy_out {k n : Int} {f : Nat} {s : ByteArray} {a : Option Addr} {c : Nat} {kids : List Tr} {W : World} (hin : (Tr.mk k n f s a c kids).In W 0) (hs : Small (.mk k n f s a c kids)) (hcn : cnT (.mk k n f s a c kids) ≤ 1000000000) :
    Calls Try.prog 34 #[.agg #[.int .i64 k, .int .i64 n, .float .f64 f, .string s, .slice a kids.length c]] W fun e w' => ∃ (k' n' : Int) (f' : Nat) (s' : ByteArray) (a' : Option Addr) (c' : Nat) (kids' : List Tr), e = .returned (.agg #[.int .i64 k', .int .i64 n', .float .f64 f', .string s', .slice a' kids'.length c']) ∧ Sm (.mk k n f s a c kids) (.mk k' n' f' s' a' c' kids') ∧ (Tr.mk k' n' f' s' a' c' kids').In w' W.heap.size ∧ Below W.heap.size W w' :=
  (copy_any _ W hin hs hcn).mono (by rintro e w' ⟨⟨k', n', f', s', a', c', kids'⟩, rfl, h⟩; exact ⟨k', n', f', s', a', c', kids', rfl, h⟩)

abbrev zT : Obj := .cells #[.int .i64 0, .int .i64 0, .float .f64 0, .string ⟨#[]⟩, .slice none 0 0] 36
abbrev zV : Value := .agg #[.int .i64 0, .int .i64 0, .float .f64 0, .string ⟨#[]⟩, .slice none 0 0]

set_option maxHeartbeats 400000 in
set_option maxRecDepth 100000 in
theorem nextB_none (h : BX w bb ms place most puts R) (hpl : place = ms.length) : Calls Try.prog 17 #[.pointer (some ⟨bb, 0, none⟩)] w fun e w' => e = .returned (.tuple #[zV, .bool false]) ∧ Below w.heap.size w w' := by
  subst hpl
  have hbl := h.box.2
  have HBN := hidb (below_new w zT)
  obtain ⟨r0, r1, r2, r3, r4, g0, g1, g2, g3, g4, -⟩ := Box.new w 36 (.int .i64 0) (.int .i64 0) (.float .f64 0) (.string ⟨#[]⟩) (.slice none 0 0)
  have hX := h.keep (below_new w zT)
  by_cases h0 : ms.length = 0
  · have hms : ms = [] := List.length_eq_zero_iff.1 h0
    subst hms
    have c0 := (hX.box.1 0 _ rfl).1
    have c2 := (hX.box.1 2 _ rfl).1
    simp only [hd, prv, pt, List.length_nil, if_true, List.getElem?_nil, Option.map_none] at c0 c2
    clear h h0 hX
    go_enter Try.func17, Try.ntmps17
    go_wp2_with fail
    exact bodyPost_ret (v := .tuple #[zV, .bool false]) (by simp [results, Try.results17, go_sem, r0, r1, r2, r3, r4]) rfl ⟨rfl, by (repeat (first | exact HBN.out | refine Below.setCell ?_ (by simp) _))⟩
  · obtain ⟨x, hx⟩ : ∃ x, ms[ms.length - 1]? = some x := ⟨_, List.getElem?_eq_getElem (by omega)⟩
    have c0 := (hX.box.1 0 _ rfl).1
    generalize pt (hd ms) = P0 at c0
    have c2 := (hX.box.1 2 _ rfl).1
    have c1 := ((hX.msg _ x hx).1 1 _ rfl).1
    have hp : prv ms ms.length = some x.b := by unfold prv; rw [if_neg h0, hx]; rfl
    have hn : nxt ms (ms.length - 1) = none := by unfold nxt; rw [show ms.length - 1 + 1 = ms.length by omega]; simp
    rw [hp] at c2
    rw [hn] at c1
    simp only [pt, Option.map_some, Option.map_none] at c1 c2
    clear h h0 hX hp hn hx
    go_enter Try.func17, Try.ntmps17
    go_wp2_with fail
    exact bodyPost_ret (v := .tuple #[zV, .bool false]) (by simp [results, Try.results17, go_sem, r0, r1, r2, r3, r4]) rfl ⟨rfl, by (repeat (first | exact HBN.out | refine Below.setCell ?_ (by simp) _))⟩

theorem next_fin {w w4 : World} {C : Nat} {u0 u1 u2 u3 u4 : Value} {t : Tr} (h : BX w4 bb ms place most puts R) (hin : t.In w4 C) (hb : But (BS bb ms) w w4) (hR : ∀ q, R q → q ≠ w.heap.size) (hB : ∀ q, BS bb ms q → q ≠ w.heap.size) (hC : w.heap.size < C) :
    t.In (((((w4.setCell ⟨w.heap.size, 0, none⟩ u0).setCell ⟨w.heap.size, 1, none⟩ u1).setCell ⟨w.heap.size, 2, none⟩ u2).setCell ⟨w.heap.size, 3, none⟩ u3).setCell ⟨w.heap.size, 4, none⟩ u4) w.heap.size ∧ BX (((((w4.setCell ⟨w.heap.size, 0, none⟩ u0).setCell ⟨w.heap.size, 1, none⟩ u1).setCell ⟨w.heap.size, 2, none⟩ u2).setCell ⟨w.heap.size, 3, none⟩ u3).setCell ⟨w.heap.size, 4, none⟩ u4) bb ms place most puts R ∧ But (BS bb ms) w (((((w4.setCell ⟨w.heap.size, 0, none⟩ u0).setCell ⟨w.heap.size, 1, none⟩ u1).setCell ⟨w.heap.size, 2, none⟩ u2).setCell ⟨w.heap.size, 3, none⟩ u3).setCell ⟨w.heap.size, 4, none⟩ u4) := by
  refine ⟨in_base (Nat.le_of_lt hC) _ (in_set (in_set (in_set (in_set (in_set hin hC _) hC _) hC _) hC _) hC _), ?_, ?_⟩
  · have hb2 : But (fun q => q = w.heap.size) w4 (((((w4.setCell ⟨w.heap.size, 0, none⟩ u0).setCell ⟨w.heap.size, 1, none⟩ u1).setCell ⟨w.heap.size, 2, none⟩ u2).setCell ⟨w.heap.size, 3, none⟩ u3).setCell ⟨w.heap.size, 4, none⟩ u4) := (((((But.refl (fun q => q = w.heap.size) w4).setCell (p := ⟨w.heap.size, 0, none⟩) (fun _ => rfl) _).setCell (p := ⟨w.heap.size, 1, none⟩) (fun _ => rfl) _).setCell (p := ⟨w.heap.size, 2, none⟩) (fun _ => rfl) _).setCell (p := ⟨w.heap.size, 3, none⟩) (fun _ => rfl) _).setCell (p := ⟨w.heap.size, 4, none⟩) (fun _ => rfl) _
    exact h.but hb2 hB hR
  · exact ((((hb.setCell (p := ⟨w.heap.size, 0, none⟩) (fun h => absurd h (Nat.lt_irrefl _)) _).setCell (p := ⟨w.heap.size, 1, none⟩) (fun h => absurd h (Nat.lt_irrefl _)) _).setCell (p := ⟨w.heap.size, 2, none⟩) (fun h => absurd h (Nat.lt_irrefl _)) _).setCell (p := ⟨w.heap.size, 3, none⟩) (fun h => absurd h (Nat.lt_irrefl _)) _).setCell (p := ⟨w.heap.size, 4, none⟩) (fun h => absurd h (Nat.lt_irrefl _)) _

set_option maxHeartbeats 1000000 in
set_option maxRecDepth 100000 in
theorem nextB (h : BX w bb ms place most puts R) {m : Msg} (hm : ms[place]? = some m) (hs : Small m.t) (hcn : cnT m.t ≤ 1000000000) : Calls Try.prog 17 #[.pointer (some ⟨bb, 0, none⟩)] w fun e w' => ∃ (k' n' : Int) (f' : Nat) (s' : ByteArray) (a' : Option Addr) (c' : Nat) (kids' : List Tr), e = .returned (.tuple #[.agg #[.int .i64 k', .int .i64 n', .float .f64 f', .string s', .slice a' kids'.length c'], .bool true]) ∧ Sm m.t (.mk k' n' f' s' a' c' kids') ∧ (Tr.mk k' n' f' s' a' c' kids').In w' w.heap.size ∧ BX w' bb ms (place + 1) most puts R ∧ But (BS bb ms) w w' := by
  have hbl := h.box.2
  have hml := (h.msg _ m hm).2
  have hmb := h.nb m (List.mem_of_getElem? hm)
  have hX := h.keep (below_new w zT)
  have hW := h.look hm
  have hsz : (w.setCell ⟨bb, 2, none⟩ (.pointer (some ⟨m.b, 0, none⟩))).heap.size = w.heap.size := by simp [World.setCell]
  have HL := hidb (hW.keep (below_new _ zT))
  have HT := HL.out.tr m (List.mem_of_getElem? hm)
  have CP := hidb (fun W hb => copy_out (W := W) (in_below hb HT.1) hs hcn)
  have BZ := Box.new (w.setCell ⟨bb, 2, none⟩ (.pointer (some ⟨m.b, 0, none⟩))) 36 (.int .i64 0) (.int .i64 0) (.float .f64 0) (.string ⟨#[]⟩) (.slice none 0 0)
  rw [hsz] at BZ
  have HBZ := hidb BZ
  obtain ⟨c2, f2⟩ := hX.box.1 2 _ rfl
  have m2 := ((HL.out.msg _ m hm).1 2 _ rfl).1
  have m3 := ((HL.out.msg _ m hm).1 3 _ rfl).1
  have m4 := ((HL.out.msg _ m hm).1 4 _ rfl).1
  have m5 := ((HL.out.msg _ m hm).1 5 _ rfl).1
  have m6 := ((HL.out.msg _ m hm).1 6 _ rfl).1
  have hwb : ¬ w.heap.size = bb := by omega
  have hwm : ¬ w.heap.size = m.b := by omega
  have HBT : Hid (But (BS bb ms) w ((w.setCell ⟨bb, 2, none⟩ (.pointer (some ⟨m.b, 0, none⟩))).alloc zT)) := hidb (((But.refl (BS bb ms) w).setCell (p := ⟨bb, 2, none⟩) (fun _ => .inl rfl) _).trans (But.of_below (below_new _ zT)))
  have HFR : Hid (∀ q, R q → q ≠ w.heap.size) := hidb (fun q hq => by have := (h.far q hq).1; omega)
  have HBS : Hid (∀ q, BS bb ms q → q ≠ w.heap.size) := hidb (by
    rintro q (e | ⟨x, hx, e⟩)
    · omega
    · obtain ⟨i, hi⟩ := List.getElem?_of_mem hx
      have := (h.msg i x hi).2
      omega)
  have HSZ : Hid (w.heap.size < ((w.setCell ⟨bb, 2, none⟩ (.pointer (some ⟨m.b, 0, none⟩))).alloc zT).heap.size) := hidb (by simp [World.setCell])
  clear BZ hW
  by_cases h0 : place = 0
  · subst h0
    have c0 := (hX.box.1 0 _ rfl).1
    have hh : hd ms = some m.b := by unfold hd; rw [hm]; rfl
    rw [hh] at c0
    simp only [prv, pt, if_true, Option.map_some, Option.map_none] at c0 c2
    clear h hX hh hm hs hcn HT
    go_enter Try.func17, Try.ntmps17
    go_wp2_with (first
      | (go_at_call 34; refine (CP.out _ (Below.refl _ _)).mono ?_; rintro e w4 ⟨k', n', f', s', a', c', kids', rfl, hst, hti, hb4⟩; obtain ⟨r0, r1, r2, r3, r4, g0, g1, g2, g3, g4, -⟩ := HBZ.out.keep hb4; have HK4 := hidb (HL.out.keep hb4); have HTI := hidb hti; have HST := hidb hst; have HB4 := hidb (HBT.out.trans (But.of_below (S := BS bb ms) hb4)); clear hti hst hb4))
    have HF := hidb (next_fin (u0 := .int .i64 k') (u1 := .int .i64 n') (u2 := .float .f64 f') (u3 := .string s') (u4 := .slice a' kids'.length c') HK4.out HTI.out HB4.out HFR.out HBS.out HSZ.out)
    exact bodyPost_ret (v := .tuple #[.agg #[.int .i64 k', .int .i64 n', .float .f64 f', .string s', .slice a' kids'.length c'], .bool true]) (by simp [results, Try.results17, go_sem, r0, r1, r2, r3, r4]) rfl ⟨k', n', f', s', a', c', kids', rfl, HST.out, HF.out.1, HF.out.2.1, HF.out.2.2⟩
  · obtain ⟨x, hx⟩ : ∃ x, ms[place - 1]? = some x := ⟨_, List.getElem?_eq_getElem (by have := (List.getElem?_eq_some_iff.1 hm).1; omega)⟩
    have c0 := (hX.box.1 0 _ rfl).1
    generalize pt (hd ms) = P0 at c0
    have c1 := ((hX.msg _ x hx).1 1 _ rfl).1
    have hp : prv ms place = some x.b := by unfold prv; rw [if_neg h0, hx]; rfl
    have hn : nxt ms (place - 1) = some m.b := by unfold nxt; rw [show place - 1 + 1 = place by omega, hm]; rfl
    rw [hp] at c2
    rw [hn] at c1
    simp only [pt, Option.map_some] at c1 c2
    clear h h0 hX hp hn hx hm hs hcn HT
    go_enter Try.func17, Try.ntmps17
    go_wp2_with (first
      | (go_at_call 34; refine (CP.out _ (Below.refl _ _)).mono ?_; rintro e w4 ⟨k', n', f', s', a', c', kids', rfl, hst, hti, hb4⟩; obtain ⟨r0, r1, r2, r3, r4, g0, g1, g2, g3, g4, -⟩ := HBZ.out.keep hb4; have HK4 := hidb (HL.out.keep hb4); have HTI := hidb hti; have HST := hidb hst; have HB4 := hidb (HBT.out.trans (But.of_below (S := BS bb ms) hb4)); clear hti hst hb4))
    have HF := hidb (next_fin (u0 := .int .i64 k') (u1 := .int .i64 n') (u2 := .float .f64 f') (u3 := .string s') (u4 := .slice a' kids'.length c') HK4.out HTI.out HB4.out HFR.out HBS.out HSZ.out)
    exact bodyPost_ret (v := .tuple #[.agg #[.int .i64 k', .int .i64 n', .float .f64 f', .string s', .slice a' kids'.length c'], .bool true]) (by simp [results, Try.results17, go_sem, r0, r1, r2, r3, r4]) rfl ⟨k', n', f', s', a', c', kids', rfl, HST.out, HF.out.1, HF.out.2.1, HF.out.2.2⟩
end Go.Proofs.Ytapjnnbcphpokaa
