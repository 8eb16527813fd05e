import Derived.Test.YtogahhbckfnllaaG29
import Derived.Test.YtogahhbckfnllaaG32
/- A message more in the document's row: the blocks. -/
namespace Go.Proofs.Ytogahhbckfnllaa
open Go.RowKit Go.Lib Go.Deep
variable {w w' W : World} {rb place words most : Nat} {lv : Value} {ds : List Tr} {T T2 : Nat → Prop}

theorem own_pos {w : World} {base : Nat} {e : TypeId} {v : Value} {n : Nat} {xs : List Value} (h : w.ownsRow base e 5 v (n + 1) xs) : ∃ g c, v = .slice (some ⟨g, 0, none⟩) (n + 1) c := by
  rcases h.2 with ⟨e, h0⟩ | ⟨g, cap, cur, hv, _⟩
  · cases h0
  · exact ⟨g, cap, hv⟩
theorem ry_grow (h : RY w rb lv ds place words most T) {g c : Nat} {z0 z1 z2 z3 z4 : Value} (how : w'.ownsRow (rb + 1) 36 5 (.slice (some ⟨g, 0, none⟩) (ds.length + 1) c) (ds.length + 1) (ds.flatMap Tr.cells ++ [z0, z1, z2, z3, z4])) (hg : w.grownBy w' lv.ownBlock) :
    Fv w' g (ds.length * 5) z0 z1 z2 z3 z4 ∧ rb + 1 ≤ g ∧ w'.cell? ⟨rb, 0, none⟩ = some lv ∧ w'.frozen? ⟨rb, 0, none⟩ = false := by
  have hz : ∀ i, i < 5 → w'.cell? ⟨g, ds.length * 5 + i, none⟩ = ([z0, z1, z2, z3, z4] : List Value)[i]? := fun i hi => by
    rw [how.cellAt (ds.length * 5 + i) (by omega), List.getElem?_append_right (by rw [flat_len]; omega), flat_len, show ds.length * 5 + i - ds.length * 5 = i by omega]
  have hr := ownsRow_lt how g rfl
  have hb := grown_but hg
  have hn : ¬ lv.ownBlock = some rb := fun e => by have := (ownsRow_lt h.row rb e).1; omega
  have hc := h.box.1 0 _ rfl
  exact ⟨⟨hz 0 (by omega), hz 1 (by omega), hz 2 (by omega), hz 3 (by omega), hz 4 (by omega), how.frozenAt _, how.frozenAt _, how.frozenAt _, how.frozenAt _, how.frozenAt _⟩, hr.1,
    (hb.cell (p := ⟨rb, 0, none⟩) h.box.2 hn).trans hc.1, (hb.frozen (p := ⟨rb, 0, none⟩) h.box.2 hn).trans hc.2⟩

theorem ry_done {v' : Value} {t' : Tr} (h : RY w rb lv ds place words most T) (hb : But (RS rb lv) w W) (hbox : At W rb [v', .int .i64 (place : Int), .int .i64 (words : Int), .int .i64 (most : Int)]) (hrow : W.ownsRow (rb + 1) 36 5 v' (ds.length + 1) (ds.flatMap Tr.cells ++ t'.cells)) (ht : t'.In w 0 ∧ t'.On T2) (hT2 : ∀ q, T2 q → q < w.heap.size ∧ lv.ownBlock ≠ some q ∧ q ≠ rb) (hv : v'.ownBlock = lv.ownBlock ∨ v'.ownBlock = some w.heap.size) :
    RY W rb v' (ds ++ [t']) place words most (fun q => T q ∨ T2 q) := by
  have hnT : ∀ q, (T q ∨ T2 q) → ¬ RS rb lv q ∧ q < w.heap.size ∧ lv.ownBlock ≠ some q ∧ q ≠ rb := by
    rintro q (hq | hq)
    · obtain ⟨a1, a2, a3⟩ := h.far q hq
      exact ⟨fun e => e.elim a3 a2, a1, a2, a3⟩
    · obtain ⟨a1, a2, a3⟩ := hT2 q hq
      exact ⟨fun e => e.elim a3 a2, a1, a2, a3⟩
  refine ⟨hbox, ?_, ?_, ?_⟩
  · rw [List.length_append, List.flatMap_append]
    simpa using hrow
  · intro t htm
    have hk : t.In w 0 ∧ t.On (fun q => T q ∨ T2 q) := by
      rcases List.mem_append.1 htm with hm | hm
      · exact ⟨(h.tr t hm).1, on_mono (fun q hq => .inl hq) t (h.tr t hm).2⟩
      · obtain rfl : t = t' := by simpa using hm
        exact ⟨ht.1, on_mono (fun q hq => .inr hq) t ht.2⟩
    exact ⟨in_on (S := fun q => T q ∨ T2 q) (fun b q => hb.block b (hnT b q).2.1 (hnT b q).1) t hk.1 hk.2, hk.2⟩
  · intro q hq
    obtain ⟨-, a1, a2, a3⟩ := hnT q hq
    refine ⟨Nat.lt_of_lt_of_le a1 hb.size, fun e => ?_, a3⟩
    rcases hv with e' | e'
    · exact a2 (e' ▸ e)
    · rw [e'] at e; cases e; omega

/-- The element is stored, then the row; or the row first. -/
theorem ry_both {g c : Nat} {z0 z1 z2 z3 z4 : Value} {k' n' : Int} {f' : Nat} {s' : ByteArray} {a' : Option Addr} {c' : Nat} {kids' : List Tr} (h : RY w rb lv ds place words most T) (how : w'.ownsRow (rb + 1) 36 5 (.slice (some ⟨g, 0, none⟩) (ds.length + 1) c) (ds.length + 1) (ds.flatMap Tr.cells ++ [z0, z1, z2, z3, z4])) (hg : w.grownBy w' lv.ownBlock) (hv : (Value.slice (some ⟨g, 0, none⟩) (ds.length + 1) c).ownBlock = lv.ownBlock ∨ (Value.slice (some ⟨g, 0, none⟩) (ds.length + 1) c).ownBlock = some w.heap.size)
    (ht : (Tr.mk k' n' f' s' a' c' kids').In w 0 ∧ (Tr.mk k' n' f' s' a' c' kids').On T2) (hT2 : ∀ q, T2 q → q < w.heap.size ∧ lv.ownBlock ≠ some q ∧ q ≠ rb) :
    (RY ((set5o w' g (ds.length * 5) (.int .i64 k') (.int .i64 n') (.float .f64 f') (.string s') (.slice a' kids'.length c')).setCell ⟨rb, 0, none⟩ (.slice (some ⟨g, 0, none⟩) (ds.length + 1) c)) rb (.slice (some ⟨g, 0, none⟩) (ds.length + 1) c) (ds ++ [.mk k' n' f' s' a' c' kids']) place words most (fun q => T q ∨ T2 q) ∧ But (RS rb lv) w ((set5o w' g (ds.length * 5) (.int .i64 k') (.int .i64 n') (.float .f64 f') (.string s') (.slice a' kids'.length c')).setCell ⟨rb, 0, none⟩ (.slice (some ⟨g, 0, none⟩) (ds.length + 1) c))) ∧
    (RY (set5o (w'.setCell ⟨rb, 0, none⟩ (.slice (some ⟨g, 0, none⟩) (ds.length + 1) c)) g (ds.length * 5) (.int .i64 k') (.int .i64 n') (.float .f64 f') (.string s') (.slice a' kids'.length c')) rb (.slice (some ⟨g, 0, none⟩) (ds.length + 1) c) (ds ++ [.mk k' n' f' s' a' c' kids']) place words most (fun q => T q ∨ T2 q) ∧ But (RS rb lv) w (set5o (w'.setCell ⟨rb, 0, none⟩ (.slice (some ⟨g, 0, none⟩) (ds.length + 1) c)) g (ds.length * 5) (.int .i64 k') (.int .i64 n') (.float .f64 f') (.string s') (.slice a' kids'.length c'))) := by
  have hr := ownsRow_lt how g rfl
  have hgb : But (RS rb lv) w w' := (grown_but hg).mono (fun q _ hq => .inr hq)
  have hgs : ∀ q, q = g → RS rb lv q ∨ w.heap.size ≤ q := fun q e => by
    subst e
    rcases hv with e | e
    · exact .inl (.inr (e ▸ rfl))
    · refine .inr ?_; simp [Value.ownBlock] at e; omega
  have hn : ¬ lv.ownBlock = some rb := fun e => by have := (ownsRow_lt h.row rb e).1; omega
  have hbx : At w' rb [lv, .int .i64 (place : Int), .int .i64 (words : Int), .int .i64 (most : Int)] := h.box.but (grown_but hg) hn
  have hgne : g ≠ rb := by omega
  have b1 : But (RS rb lv) w ((set5o w' g (ds.length * 5) (.int .i64 k') (.int .i64 n') (.float .f64 f') (.string s') (.slice a' kids'.length c')).setCell ⟨rb, 0, none⟩ (.slice (some ⟨g, 0, none⟩) (ds.length + 1) c)) := (hgb.new (set5o_but ..) hgs).setCell (p := ⟨rb, 0, none⟩) (fun _ => .inl rfl) _
  have b2 : But (RS rb lv) w (set5o (w'.setCell ⟨rb, 0, none⟩ (.slice (some ⟨g, 0, none⟩) (ds.length + 1) c)) g (ds.length * 5) (.int .i64 k') (.int .i64 n') (.float .f64 f') (.string s') (.slice a' kids'.length c')) := (hgb.setCell (p := ⟨rb, 0, none⟩) (fun _ => .inl rfl) _).new (set5o_but ..) hgs
  exact ⟨⟨ry_done h b1 ((hbx.but (set5o_but w' g _ _ _ _ _ _) (fun e => hgne e.symm)).set (i := 0) (by simp) _) (row_set (row5 how (flat_len ds) _ _ _ _ _) hgne _) ht hT2 hv, b1⟩,
    ⟨ry_done h b2 ((hbx.set (i := 0) (by simp) (.slice (some ⟨g, 0, none⟩) (ds.length + 1) c)).but (set5o_but ..) (fun e => hgne e.symm)) (row5 (row_set how hgne _) (flat_len ds) _ _ _ _ _) ht hT2 hv, b2⟩⟩
end Go.Proofs.Ytogahhbckfnllaa


/- The document's Put. -/
namespace Go.Proofs.Ytogahhbckfnllaa
open Go.RowKit Go.Lib Go.Deep
attribute [local go_sem] store_float f64bits
attribute [local go_sem ↓] Go.wp_at_zero Go.wp_at_succ
variable {w w' : World} {rb place words most : Nat} {lv : Value} {ds : List Tr} {T : Nat → Prop}

theorem rcopy_out {k n : Int} {f : Nat} {s : ByteArray} {a : Option Addr} {c : Nat} {kids : List Tr} {W : World} (hin : (Tr.mk k n f s a c kids).In W 0) (hs : Small (.mk k n f s a c kids)) :
    Calls Try.prog 36 #[.agg #[.int .i64 k, .int .i64 n, .float .f64 f, .string s, .slice a kids.length c]] W fun e w' => ∃ (k' n' : Int) (f' : Nat) (s' : ByteArray) (a' : Option Addr) (c' : Nat) (kids' : List Tr), e = .returned (.agg #[.int .i64 k', .int .i64 n', .float .f64 f', .string s', .slice a' kids'.length c']) ∧ Sm (.mk k n f s a c kids) (.mk k' n' f' s' a' c' kids') ∧ (Tr.mk k' n' f' s' a' c' kids').In w' W.heap.size ∧ Below W.heap.size W w' :=
  (rcopy_any _ W hin hs).mono (by rintro e w' ⟨⟨k', n', f', s', a', c', kids'⟩, rfl, h⟩; exact ⟨k', n', f', s', a', c', kids', rfl, h⟩)
theorem ent_rcopy : Ent 36 := by
  intro args w
  kernel_rfl

set_option maxHeartbeats 400000 in
set_option maxRecDepth 100000 in
theorem ry_put_err (t : Tr) (hin : t.In w 0) (hsw : SmallW t) (he : (errT t == 0) = false) : Calls Try.prog 18 #[.pointer (some ⟨rb, 0, none⟩), t.val] w fun e w' => e = .returned (.int .i64 (errT t)) ∧ Below w.heap.size w w' := by
  have CK := hidb (fun W hb => rcheck_t t W (in_below (w := w) hb hin) hsw)
  generalize errT t = E at *
  obtain ⟨k, n, f, s, a, c, kids⟩ := t
  clear hin hsw
  show Calls Try.prog 18 #[.pointer (some ⟨rb, 0, none⟩), .agg #[.int .i64 k, .int .i64 n, .float .f64 f, .string s, .slice a kids.length c]] w _
  go_enter Try.func18, Try.ntmps18
  go_wp2_with (first
    | (go_at_call 34; refine (CK.out _ (below_new w _)).mono ?_; rintro e w1 ⟨rfl, hb1⟩; have HB2 := hidb (box_then (Below.refl _ _) hb1); clear hb1 CK))
  go_ret
  exact ⟨rfl, box_below HB2.out⟩

set_option maxHeartbeats 1000000 in
set_option maxRecDepth 100000 in
theorem ry_put_full (t : Tr) (W2 : Nat) (h : RY w rb lv ds place words most T) (hin : t.In w 0) (hsw : SmallW t) (he : errT t = 0) (hw2 : wordsT t = (W2 : Int)) (hW2 : W2 ≤ 65536) (hfit : most < words + (W2 + 2)) (hmost : most ≤ 16777216) (hwd : words ≤ most) :
    Calls Try.prog 18 #[.pointer (some ⟨rb, 0, none⟩), t.val] w fun e w' => e = .returned (.int .i64 12) ∧ Below w.heap.size w w' := by
  have CK := hidb (fun W hb => rcheck_t t W (in_below (w := w) hb hin) hsw)
  have SZ := hidb (fun W hb => rsize_any t W (in_below (w := w) hb hin) hsw)
  rw [he] at CK
  rw [hw2] at SZ
  have hww : IntKind.i64.wrap ((words : Int) + ((W2 : Int) + 2)) = (words : Int) + ((W2 : Int) + 2) := by rw [IntKind.wrap_i64]; omega
  have hd : decide ((most : Int) < (words : Int) + ((W2 : Int) + 2)) = true := by simp; omega
  have HH := hidb h
  obtain ⟨k, n, f, s, a, c, kids⟩ := t
  have HA : Hid (∀ W, Below (w.heap.size + 1) (w.alloc (.cells #[.int .i64 k, .int .i64 n, .float .f64 f, .string s, .slice a kids.length c] 36)) W → W.cell? ⟨rb, 2, none⟩ = some (.int .i64 (words : Int)) ∧ W.cell? ⟨rb, 3, none⟩ = some (.int .i64 (most : Int)) ∧ W.cell? ⟨w.heap.size, 0, none⟩ = some (.int .i64 k) ∧ W.cell? ⟨w.heap.size, 1, none⟩ = some (.int .i64 n) ∧ W.cell? ⟨w.heap.size, 2, none⟩ = some (.float .f64 f) ∧ W.cell? ⟨w.heap.size, 3, none⟩ = some (.string s) ∧ W.cell? ⟨w.heap.size, 4, none⟩ = some (.slice a kids.length c)) := hidb (fun W hb => by
    obtain ⟨d0, d1, d2, d3, d4⟩ := box_at hb
    have hr := HH.out.keep (box_below hb)
    exact ⟨(hr.box.1 2 _ rfl).1, (hr.box.1 3 _ rfl).1, d0, d1, d2, d3, d4⟩)
  clear hin hsw he hw2 h
  show Calls Try.prog 18 #[.pointer (some ⟨rb, 0, none⟩), .agg #[.int .i64 k, .int .i64 n, .float .f64 f, .string s, .slice a kids.length c]] w _
  go_enter Try.func18, Try.ntmps18
  go_wp2_with (first
    | (go_at_call 34; refine (CK.out _ (below_new w _)).mono ?_; rintro e w1 ⟨rfl, hb1⟩; have HB2 := hidb (box_then (Below.refl _ _) hb1); clear hb1 CK))
  have HS0 := hidb (HA.out w1.drew HB2.out.drew)
  have S1 := hidb (SZ.out w1.drew (box_below HB2.out).drew)
  simp only [Tr.val, Tr.cells] at S1
  go_region_held3 (fun w' => w'.cell? ⟨rb, 2, none⟩ = some (.int .i64 (words : Int)) ∧ w'.cell? ⟨rb, 3, none⟩ = some (.int .i64 (most : Int)) ∧ w'.cell? ⟨w.heap.size, 0, none⟩ = some (.int .i64 k) ∧ w'.cell? ⟨w.heap.size, 1, none⟩ = some (.int .i64 n) ∧ w'.cell? ⟨w.heap.size, 2, none⟩ = some (.float .f64 f) ∧ w'.cell? ⟨w.heap.size, 3, none⟩ = some (.string s) ∧ w'.cell? ⟨w.heap.size, 4, none⟩ = some (.slice a kids.length c))
    (first | with_reducible exact HS0.out | with_reducible exact HS4.out) (first
    | (go_at_call 35; refine S1.out.mono ?_; rintro e w4 ⟨rfl, hb4⟩; have HB4 := hidb (HB2.out.drew.trans (hb4.mono (by have := HB2.out.size; simpa using this))); have HS4 := hidb (HA.out w4 HB4.out); clear hb4))
  go_wp2_with fail
  all_goals go_ret
  all_goals exact ⟨rfl, box_below HB4.out⟩
set_option maxHeartbeats 1000000 in
set_option maxRecDepth 100000 in
theorem ry_put (t : Tr) (W2 : Nat) (h : RY w rb lv ds place words most T) {O : Nat → Prop} (hin : t.In w 0) (hon : t.On O) (hO : ∀ q, O q → q ≠ rb) (hsw : SmallW t) (he : errT t = 0) (hw2 : wordsT t = (W2 : Int)) (hW2 : W2 ≤ 65536) (hfit : words + (W2 + 2) ≤ most) (hmost : most ≤ 16777216) (hsm : Small t) (hl : ds.length ≤ 1000000) :
    Calls Try.prog 18 #[.pointer (some ⟨rb, 0, none⟩), t.val] w fun e w' => e = .returned (.int .i64 0) ∧ ∃ (lv' : Value) (t' : Tr) (T' : Nat → Prop), RY w' rb lv' (ds ++ [t']) place (words + (W2 + 2)) most T' ∧ Sm t t' ∧ (∀ q, T' q → T q ∨ w.heap.size ≤ q) ∧ (∀ q, lv'.ownBlock = some q → lv.ownBlock = some q ∨ w.heap.size ≤ q) ∧ But (RS rb lv) w w' := by
  have CK := hidb (fun W hb => rcheck_t t W (in_below (w := w) hb hin) hsw)
  have SZ := hidb (fun W hb => rsize_any t W (in_below (w := w) hb hin) hsw)
  rw [he] at CK
  rw [hw2] at SZ
  have hww : IntKind.i64.wrap ((words : Int) + ((W2 : Int) + 2)) = (words : Int) + ((W2 : Int) + 2) := by rw [IntKind.wrap_i64]; omega
  have hd : decide ((most : Int) < (words : Int) + ((W2 : Int) + 2)) = false := by simp; omega
  have HH := hidb h
  have HIN := hidb hin
  have HON := hidb (And.intro hon hO)
  obtain ⟨k, n, f, s, a, c, kids⟩ := t
  have CP := hidb (fun W hb => rcopy_out (W := W) hb hsm)
  obtain ⟨WP, hWP⟩ : ∃ WP, w.alloc (.cells #[.int .i64 k, .int .i64 n, .float .f64 f, .string s, .slice a kids.length c] 36) = WP := ⟨_, rfl⟩
  have hBP : Below w.heap.size w WP := by rw [← hWP]; exact below_new w _
  have hAP : At WP w.heap.size [.int .i64 k, .int .i64 n, .float .f64 f, .string s, .slice a kids.length c] := by rw [← hWP]; exact At.new w [.int .i64 k, .int .i64 n, .float .f64 f, .string s, .slice a kids.length c] 36
  have hRP := h.keep hBP
  have HA : Hid (∀ W, Below WP.heap.size WP W → W.cell? ⟨rb, 2, none⟩ = some (.int .i64 (words : Int)) ∧ W.cell? ⟨rb, 3, none⟩ = some (.int .i64 (most : Int)) ∧ W.cell? ⟨w.heap.size, 0, none⟩ = some (.int .i64 k) ∧ W.cell? ⟨w.heap.size, 1, none⟩ = some (.int .i64 n) ∧ W.cell? ⟨w.heap.size, 2, none⟩ = some (.float .f64 f) ∧ W.cell? ⟨w.heap.size, 3, none⟩ = some (.string s) ∧ W.cell? ⟨w.heap.size, 4, none⟩ = some (.slice a kids.length c)) := hidb (fun W hb => by
    have hq := hAP.keep hb
    have hr := hRP.keep hb
    exact ⟨(hr.box.1 2 _ rfl).1, (hr.box.1 3 _ rfl).1, (hq.1 0 _ rfl).1, (hq.1 1 _ rfl).1, (hq.1 2 _ rfl).1, (hq.1 3 _ rfl).1, (hq.1 4 _ rfl).1⟩)
  have HWP := hidb hWP
  have HBP := hidb hBP
  have HAP := hidb hAP
  have HRP := hidb hRP
  have hbl := h.box.2
  obtain ⟨i0, hi0, hz0, hz1, hz2⟩ := info_parts infoT5
  clear hin hsw he hw2 h hsm hon hO hWP hBP hAP hRP
  show Calls Try.prog 18 #[.pointer (some ⟨rb, 0, none⟩), .agg #[.int .i64 k, .int .i64 n, .float .f64 f, .string s, .slice a kids.length c]] w _
  go_enter Try.func18, Try.ntmps18
  go_wp2_with fail
  rw [HWP.out]
  refine (CK.out _ HBP.out).mono ?_
  rintro e w1 ⟨rfl, hb1⟩
  have HB2 := hidb hb1
  clear hb1 CK
  go_wp2_with fail
  have HS0 := hidb (HA.out w1.drew HB2.out.drew)
  refine wp_region_D (fun w' => w'.cell? ⟨rb, 2, none⟩ = some (.int .i64 (words : Int)) ∧ w'.cell? ⟨rb, 3, none⟩ = some (.int .i64 (most : Int)) ∧ w'.cell? ⟨w.heap.size, 0, none⟩ = some (.int .i64 k) ∧ w'.cell? ⟨w.heap.size, 1, none⟩ = some (.int .i64 n) ∧ w'.cell? ⟨w.heap.size, 2, none⟩ = some (.float .f64 f) ∧ w'.cell? ⟨w.heap.size, 3, none⟩ = some (.string s) ∧ w'.cell? ⟨w.heap.size, 4, none⟩ = some (.slice a kids.length c)) [] (by kernel_rfl) ?_
  refine wpAnyD_takeL (i := 0) (v := ?vv0x0) rfl (by kernel_rfl) (by kernel_rfl) (by kernel_rfl) (by kernel_rfl) (fun _ _ _ h => h) HS0.out rfl ?hy0x0 ?_
  case hy0x0 => intro wy hSw; obtain ⟨y0, y1, y2, y3, y4, y5, y6⟩ := hSw; go_simp; try with_reducible rfl
  simp only [Act.put, List.setIfInBounds_toArray, List.set_cons_zero, List.set_cons_succ]
  refine wpAnyD_takeL (i := 1) (v := ?vv1x0) rfl (by kernel_rfl) (by kernel_rfl) (by kernel_rfl) (by kernel_rfl) (fun _ _ _ h => h) HS0.out rfl ?hy1x0 ?_
  case hy1x0 => intro wy hSw; obtain ⟨y0, y1, y2, y3, y4, y5, y6⟩ := hSw; go_simp; try with_reducible rfl
  simp only [Act.put, List.setIfInBounds_toArray, List.set_cons_zero, List.set_cons_succ]
  refine wpAnyD_takeL (i := 2) (v := ?vv2x0) rfl (by kernel_rfl) (by kernel_rfl) (by kernel_rfl) (by kernel_rfl) (fun _ _ _ h => h) HS0.out rfl ?hy2x0 ?_
  case hy2x0 => intro wy hSw; obtain ⟨y0, y1, y2, y3, y4, y5, y6⟩ := hSw; go_simp; try with_reducible rfl
  simp only [Act.put, List.setIfInBounds_toArray, List.set_cons_zero, List.set_cons_succ]
  refine wpAnyD_takeL (i := 3) (v := ?vv3x0) rfl (by kernel_rfl) (by kernel_rfl) (by kernel_rfl) (by kernel_rfl) (fun _ _ _ h => h) HS0.out rfl ?hy3x0 ?_
  case hy3x0 => intro wy hSw; obtain ⟨y0, y1, y2, y3, y4, y5, y6⟩ := hSw; go_simp; try with_reducible rfl
  simp only [Act.put, List.setIfInBounds_toArray, List.set_cons_zero, List.set_cons_succ]
  refine wpAnyD_takeL (i := 4) (v := ?vv4x0) rfl (by kernel_rfl) (by kernel_rfl) (by kernel_rfl) (by kernel_rfl) (fun _ _ _ h => h) HS0.out rfl ?hy4x0 ?_
  case hy4x0 => intro wy hSw; obtain ⟨y0, y1, y2, y3, y4, y5, y6⟩ := hSw; go_simp; try with_reducible rfl
  simp only [Act.put, List.setIfInBounds_toArray, List.set_cons_zero, List.set_cons_succ]
  refine wpAnyD_takeL (i := 7) (v := ?vv7x0) rfl (by kernel_rfl) (by kernel_rfl) (by kernel_rfl) (by kernel_rfl) (fun _ _ _ h => h) HS0.out rfl ?hy7x0 ?_
  case hy7x0 => intro wy hSw; obtain ⟨y0, y1, y2, y3, y4, y5, y6⟩ := hSw; go_simp; try with_reducible rfl
  simp only [Act.put, List.setIfInBounds_toArray, List.set_cons_zero, List.set_cons_succ]
  refine wpAnyD_takeL (i := 8) (v := ?vv8x0) rfl (by kernel_rfl) (by kernel_rfl) (by kernel_rfl) (by kernel_rfl) (fun _ _ _ h => h) HS0.out rfl ?hy8x0 ?_
  case hy8x0 => intro wy hSw; obtain ⟨y0, y1, y2, y3, y4, y5, y6⟩ := hSw; go_simp; try with_reducible rfl
  simp only [Act.put, List.setIfInBounds_toArray, List.set_cons_zero, List.set_cons_succ]
  refine wpAnyD_takeL (i := 9) (v := ?vv9x0) rfl (by kernel_rfl) (by kernel_rfl) (by kernel_rfl) (by kernel_rfl) (fun _ _ _ h => h) HS0.out rfl ?hy9x0 ?_
  case hy9x0 => intro wy hSw; obtain ⟨y0, y1, y2, y3, y4, y5, y6⟩ := hSw; go_simp; try with_reducible rfl
  simp only [Act.put, List.setIfInBounds_toArray, List.set_cons_zero, List.set_cons_succ]
  refine wpAnyD_takeL (i := 10) (v := ?vv10x0) rfl (by kernel_rfl) (by kernel_rfl) (by kernel_rfl) (by kernel_rfl) (fun _ _ _ h => h) HS0.out rfl ?hy10x0 ?_
  case hy10x0 => intro wy hSw; obtain ⟨y0, y1, y2, y3, y4, y5, y6⟩ := hSw; go_simp; try with_reducible rfl
  simp only [Act.put, List.setIfInBounds_toArray, List.set_cons_zero, List.set_cons_succ]
  refine wpAnyD_stepL (i := 5) (by kernel_rfl) rfl (fun K hK => ?_)
  refine step_call rfl (run_call ent_size #[.tmp 15] _ rfl #[.agg #[.int .i64 k, .int .i64 n, .float .f64 f, .string s, .slice a kids.length c]] rfl) (SZ.out _ (HBP.out.trans (HB2.out.drew.mono HBP.out.size))) (fun e w4 hh => ?_)
  obtain ⟨rfl, hb2⟩ := hh
  have HB4 : Hid (Below WP.heap.size WP w4) := hidb (HB2.out.trans ((undrew hb2).mono HB2.out.size))
  have HS4 := hidb (HA.out w4 HB4.out)
  refine hK _ _ (fun _ => HS4.out) ?_
  clear hK K hb2
  simp only [Act.put, List.setIfInBounds_toArray, List.set_cons_zero, List.set_cons_succ]
  refine wpAnyD_stepL (i := 6) (by kernel_rfl) rfl (fun K hK => ?_)
  go_simp
  refine hK _ _ (fun _ => HS4.out) ?_
  clear hK K
  refine wpAnyD_stepL (i := 11) (by kernel_rfl) rfl (fun K hK => ?_)
  go_simp
  refine hK _ _ (fun _ => HS4.out) ?_
  clear hK K
  refine wpAnyD_done (by kernel_rfl) ?_ _
  go_wp2_with fail
  have HS5 := hidb (HA.out w4.drew HB4.out.drew)
  refine wp_region_D (fun w' => w'.cell? ⟨rb, 2, none⟩ = some (.int .i64 (words : Int)) ∧ w'.cell? ⟨rb, 3, none⟩ = some (.int .i64 (most : Int)) ∧ w'.cell? ⟨w.heap.size, 0, none⟩ = some (.int .i64 k) ∧ w'.cell? ⟨w.heap.size, 1, none⟩ = some (.int .i64 n) ∧ w'.cell? ⟨w.heap.size, 2, none⟩ = some (.float .f64 f) ∧ w'.cell? ⟨w.heap.size, 3, none⟩ = some (.string s) ∧ w'.cell? ⟨w.heap.size, 4, none⟩ = some (.slice a kids.length c)) [10] (by kernel_rfl) ?_
  refine wpAnyD_takeL (i := 0) (v := ?vv0x1) rfl (by kernel_rfl) (by kernel_rfl) (by kernel_rfl) (by kernel_rfl) (fun _ _ _ h => h) HS5.out rfl ?hy0x1 ?_
  case hy0x1 => intro wy hSw; obtain ⟨y0, y1, y2, y3, y4, y5, y6⟩ := hSw; go_simp; try with_reducible rfl
  simp only [Act.put, List.setIfInBounds_toArray, List.set_cons_zero, List.set_cons_succ]
  refine wpAnyD_takeL (i := 1) (v := ?vv1x1) rfl (by kernel_rfl) (by kernel_rfl) (by kernel_rfl) (by kernel_rfl) (fun _ _ _ h => h) HS5.out rfl ?hy1x1 ?_
  case hy1x1 => intro wy hSw; obtain ⟨y0, y1, y2, y3, y4, y5, y6⟩ := hSw; go_simp; try with_reducible rfl
  simp only [Act.put, List.setIfInBounds_toArray, List.set_cons_zero, List.set_cons_succ]
  refine wpAnyD_takeL (i := 2) (v := ?vv2x1) rfl (by kernel_rfl) (by kernel_rfl) (by kernel_rfl) (by kernel_rfl) (fun _ _ _ h => h) HS5.out rfl ?hy2x1 ?_
  case hy2x1 => intro wy hSw; obtain ⟨y0, y1, y2, y3, y4, y5, y6⟩ := hSw; go_simp; try with_reducible rfl
  simp only [Act.put, List.setIfInBounds_toArray, List.set_cons_zero, List.set_cons_succ]
  refine wpAnyD_takeL (i := 3) (v := ?vv3x1) rfl (by kernel_rfl) (by kernel_rfl) (by kernel_rfl) (by kernel_rfl) (fun _ _ _ h => h) HS5.out rfl ?hy3x1 ?_
  case hy3x1 => intro wy hSw; obtain ⟨y0, y1, y2, y3, y4, y5, y6⟩ := hSw; go_simp; try with_reducible rfl
  simp only [Act.put, List.setIfInBounds_toArray, List.set_cons_zero, List.set_cons_succ]
  refine wpAnyD_takeL (i := 4) (v := ?vv4x1) rfl (by kernel_rfl) (by kernel_rfl) (by kernel_rfl) (by kernel_rfl) (fun _ _ _ h => h) HS5.out rfl ?hy4x1 ?_
  case hy4x1 => intro wy hSw; obtain ⟨y0, y1, y2, y3, y4, y5, y6⟩ := hSw; go_simp; try with_reducible rfl
  simp only [Act.put, List.setIfInBounds_toArray, List.set_cons_zero, List.set_cons_succ]
  refine wpAnyD_takeL (i := 5) (v := ?vv5x1) rfl (by kernel_rfl) (by kernel_rfl) (by kernel_rfl) (by kernel_rfl) (fun _ _ _ h => h) HS5.out rfl ?hy5x1 ?_
  case hy5x1 => intro wy hSw; obtain ⟨y0, y1, y2, y3, y4, y5, y6⟩ := hSw; go_simp; try with_reducible rfl
  simp only [Act.put, List.setIfInBounds_toArray, List.set_cons_zero, List.set_cons_succ]
  refine wpAnyD_stepL (i := 6) (by kernel_rfl) rfl (fun K hK => ?_)
  refine step_call rfl (run_call ent_size #[.tmp 28] _ rfl #[.agg #[.int .i64 k, .int .i64 n, .float .f64 f, .string s, .slice a kids.length c]] rfl) (SZ.out _ (HBP.out.trans (HB4.out.drew.mono HBP.out.size))) (fun e w6 hh => ?_)
  obtain ⟨rfl, hb2⟩ := hh
  have HB6 : Hid (Below WP.heap.size WP w6) := hidb (HB4.out.trans ((undrew hb2).mono HB4.out.size))
  have HS6 := hidb (HA.out w6 HB6.out)
  refine hK _ _ (fun _ => HS6.out) ?_
  clear hK K hb2
  simp only [Act.put, List.setIfInBounds_toArray, List.set_cons_zero, List.set_cons_succ]
  refine wpAnyD_takeL (i := 7) (v := ?vv7x1) rfl (by kernel_rfl) (by kernel_rfl) (by kernel_rfl) (by kernel_rfl) (fun _ _ _ h => h) HS6.out rfl ?hy7x1 ?_
  case hy7x1 => intro wy hSw; obtain ⟨y0, y1, y2, y3, y4, y5, y6⟩ := hSw; go_simp; try with_reducible rfl
  simp only [Act.put, List.setIfInBounds_toArray, List.set_cons_zero, List.set_cons_succ]
  refine wpAnyD_stepL (i := 8) (by kernel_rfl) rfl (fun K hK => ?_)
  go_simp
  refine hK _ _ (fun _ => HS6.out) ?_
  clear hK K
  refine wpAnyD_stepL (i := 9) (by kernel_rfl) rfl (fun K hK => ?_)
  go_simp
  refine hK _ _ (fun _ => HS6.out) ?_
  clear hK K
  have hRW := HRP.out.keep HB6.out
  obtain ⟨d2, f2⟩ := hRW.box.1 2 _ rfl
  have HRW := hidb hRW
  clear hRW
  refine wpAnyD_stepL (i := 10) (by kernel_rfl) rfl (fun K hK => ?_)
  go_simp
  refine hK _ _ (fun h => absurd (List.mem_singleton.2 rfl) h) ?_
  clear hK K
  refine wpAnyD_done (by kernel_rfl) ?_ _
  obtain ⟨W3, hW3⟩ : ∃ W3, w6.setCell ⟨rb, 2, none⟩ (.int .i64 ((words : Int) + ((W2 : Int) + 2))) = W3 := ⟨_, rfl⟩
  rw [hW3]
  have HR3 : Hid (RY W3 rb lv ds place (words + (W2 + 2)) most T) := hidb (by rw [← hW3]; exact HRW.out.worded (words + (W2 + 2)))
  have HB3 : Hid (But (RS rb lv) w W3) := hidb (by rw [← hW3]; exact ((But.of_below (S := RS rb lv) HBP.out).trans (But.of_below HB6.out)).setCell (p := ⟨rb, 2, none⟩) (fun _ => .inl rfl) _)
  have HA3 : Hid (At W3 w.heap.size [.int .i64 k, .int .i64 n, .float .f64 f, .string s, .slice a kids.length c]) := hidb (by
    rw [← hW3]
    exact (HAP.out.keep HB6.out).other (p := ⟨rb, 2, none⟩) (by show rb ≠ w.heap.size; omega) _)
  have HT3 : Hid ((Tr.mk k n f s a c kids).In W3 0) := hidb (by
    rw [← hW3]
    exact in_set1 (in_below (HBP.out.trans (HB6.out.mono HBP.out.size)) HIN.out) HON.out.1 (fun e => HON.out.2 _ e rfl) _)
  clear d2 f2 hW3 HRW HA HAP HRP HS0 HS4 HS5 HS6 HB2 HB4 HB6 SZ
  go_wp2_with fail
  obtain ⟨ga, gc, rfl⟩ := own_sl HR3.out.row
  have HKC : Hid (∀ W, Below W3.heap.size W3 W → W.cell? ⟨rb, 0, none⟩ = some (.slice ga ds.length gc) ∧ W.cell? ⟨w.heap.size, 0, none⟩ = some (.int .i64 k) ∧ W.cell? ⟨w.heap.size, 1, none⟩ = some (.int .i64 n) ∧ W.cell? ⟨w.heap.size, 2, none⟩ = some (.float .f64 f) ∧ W.cell? ⟨w.heap.size, 3, none⟩ = some (.string s) ∧ W.cell? ⟨w.heap.size, 4, none⟩ = some (.slice a kids.length c)) := hidb (fun W hb => by
    have hq := HA3.out.keep hb
    exact ⟨((HR3.out.keep hb).box.1 0 _ rfl).1, (hq.1 0 _ rfl).1, (hq.1 1 _ rfl).1, (hq.1 2 _ rfl).1, (hq.1 3 _ rfl).1, (hq.1 4 _ rfl).1⟩)
  have hwz := HB3.out.size
  have HTI : Hid (∀ W, Below W3.heap.size W3 W → (Tr.mk k n f s a c kids).In W 0) := hidb (fun W hb => in_below hb HT3.out)
  have s1 : (0 : Int) ≤ (ds.length : Int) := by omega
  have s2 : (ds.length : Int) < ((ds.length + 1 : Nat) : Int) := by omega
  have s3 : ds.length < ds.length + 1 := by omega
  have s4 : (ds.length : Int) < (ds.length : Int) + 1 := by omega
  have s5 : (ds.length : Int) + 1 - 1 = (ds.length : Int) := by omega
  have HS7 := hidb (HKC.out W3.drew ((Below.refl _ _).drew))
  refine wp_region_D (fun w' => w'.cell? ⟨rb, 0, none⟩ = some (.slice ga ds.length gc) ∧ w'.cell? ⟨w.heap.size, 0, none⟩ = some (.int .i64 k) ∧ w'.cell? ⟨w.heap.size, 1, none⟩ = some (.int .i64 n) ∧ w'.cell? ⟨w.heap.size, 2, none⟩ = some (.float .f64 f) ∧ w'.cell? ⟨w.heap.size, 3, none⟩ = some (.string s) ∧ w'.cell? ⟨w.heap.size, 4, none⟩ = some (.slice a kids.length c)) [8, 9, 10, 11, 12, 13] (by kernel_rfl) ?_
  refine wpAnyD_takeL (i := 0) (v := ?vv0x2) rfl (by kernel_rfl) (by kernel_rfl) (by kernel_rfl) (by kernel_rfl) (fun _ _ _ h => h) HS7.out rfl ?hy0x2 ?_
  case hy0x2 => intro wy hSw; obtain ⟨y0, y1, y2, y3, y4, y5⟩ := hSw; go_simp; try with_reducible rfl
  simp only [Act.put, List.setIfInBounds_toArray, List.set_cons_zero, List.set_cons_succ]
  refine wpAnyD_takeL (i := 1) (v := ?vv1x2) rfl (by kernel_rfl) (by kernel_rfl) (by kernel_rfl) (by kernel_rfl) (fun _ _ _ h => h) HS7.out rfl ?hy1x2 ?_
  case hy1x2 => intro wy hSw; obtain ⟨y0, y1, y2, y3, y4, y5⟩ := hSw; go_simp; try with_reducible rfl
  simp only [Act.put, List.setIfInBounds_toArray, List.set_cons_zero, List.set_cons_succ]
  refine wpAnyD_takeL (i := 2) (v := ?vv2x2) rfl (by kernel_rfl) (by kernel_rfl) (by kernel_rfl) (by kernel_rfl) (fun _ _ _ h => h) HS7.out rfl ?hy2x2 ?_
  case hy2x2 => intro wy hSw; obtain ⟨y0, y1, y2, y3, y4, y5⟩ := hSw; go_simp; try with_reducible rfl
  simp only [Act.put, List.setIfInBounds_toArray, List.set_cons_zero, List.set_cons_succ]
  refine wpAnyD_takeL (i := 3) (v := ?vv3x2) rfl (by kernel_rfl) (by kernel_rfl) (by kernel_rfl) (by kernel_rfl) (fun _ _ _ h => h) HS7.out rfl ?hy3x2 ?_
  case hy3x2 => intro wy hSw; obtain ⟨y0, y1, y2, y3, y4, y5⟩ := hSw; go_simp; try with_reducible rfl
  simp only [Act.put, List.setIfInBounds_toArray, List.set_cons_zero, List.set_cons_succ]
  refine wpAnyD_takeL (i := 4) (v := ?vv4x2) rfl (by kernel_rfl) (by kernel_rfl) (by kernel_rfl) (by kernel_rfl) (fun _ _ _ h => h) HS7.out rfl ?hy4x2 ?_
  case hy4x2 => intro wy hSw; obtain ⟨y0, y1, y2, y3, y4, y5⟩ := hSw; go_simp; try with_reducible rfl
  simp only [Act.put, List.setIfInBounds_toArray, List.set_cons_zero, List.set_cons_succ]
  refine wpAnyD_takeL (i := 6) (v := ?vv6x2) rfl (by kernel_rfl) (by kernel_rfl) (by kernel_rfl) (by kernel_rfl) (fun _ _ _ h => h) HS7.out rfl ?hy6x2 ?_
  case hy6x2 => intro wy hSw; obtain ⟨y0, y1, y2, y3, y4, y5⟩ := hSw; go_simp; try with_reducible rfl
  simp only [Act.put, List.setIfInBounds_toArray, List.set_cons_zero, List.set_cons_succ]
  refine wpAnyD_twoL (i := 5) (j := 7) (by kernel_rfl) rfl rfl (fun K hK => ?_) (fun K hK => ?_)
  · refine step_call rfl (run_call ent_rcopy #[.tmp 37] _ rfl #[.agg #[.int .i64 k, .int .i64 n, .float .f64 f, .string s, .slice a kids.length c]] rfl) (CP.out _ (HTI.out _ ((Below.refl _ _).drew))) (fun e wc hh => ?_)
    obtain ⟨k', n', f', s', a', c', kids', rfl, hst, hti, hb7⟩ := hh
    have hbX : Below W3.heap.size W3 wc := undrew hb7
    refine hK _ _ (fun _ => HKC.out _ hbX) ?_
    clear hK K
    simp only [Act.put, List.setIfInBounds_toArray, List.set_cons_zero, List.set_cons_succ]
    have HW7 : Hid (Below W3.heap.size W3 (wc.alloc (.cells #[.int .i64 0, .int .i64 0, .float .f64 0, .string ⟨#[]⟩, .slice none 0 0] 36)) ∧ At (wc.alloc (.cells #[.int .i64 0, .int .i64 0, .float .f64 0, .string ⟨#[]⟩, .slice none 0 0] 36)) wc.heap.size [.int .i64 0, .int .i64 0, .float .f64 0, .string ⟨#[]⟩, .slice none 0 0] ∧ ((Tr.mk k' n' f' s' a' c' kids').In (wc.alloc (.cells #[.int .i64 0, .int .i64 0, .float .f64 0, .string ⟨#[]⟩, .slice none 0 0] 36)) 0 ∧ (Tr.mk k' n' f' s' a' c' kids').On (fun q => W3.heap.size ≤ q ∧ q < (wc.alloc (.cells #[.int .i64 0, .int .i64 0, .float .f64 0, .string ⟨#[]⟩, .slice none 0 0] 36)).heap.size))) := hidb ⟨hbX.alloc hbX.size _, At.new wc [.int .i64 0, .int .i64 0, .float .f64 0, .string ⟨#[]⟩, .slice none 0 0] _, in_below (below_new wc _) (in_base (Nat.zero_le _) _ hti), on_mono (fun q hq => ⟨hq.2, Nat.lt_of_lt_of_le hq.1 (below_new wc _).size⟩) _ (on_in _ hti)⟩
    have HST := hidb hst
    clear hst hti hb7
    refine wpAnyD_stepL (i := 7) (by kernel_rfl) rfl (fun K hK => ?_)
    go_simp
    refine hK _ _ (fun _ => HKC.out _ HW7.out.1) ?_
    clear hK K
    refine wpAnyD_stepL (i := 8) (by kernel_rfl) rfl (fun K hK => ?_)
    refine step_app rfl (.tmp 36) (.tmp 40) 34 rfl (rb + 1) 36 i0 (.agg #[.int .i64 0, .int .i64 0, .float .f64 0, .string ⟨#[]⟩, .slice none 0 0]) 5 64 Try.underlying34 hi0 hz0 hz1 hz2 rfl (by decide) (.slice ga ds.length gc) ds.length (ds.flatMap Tr.cells) rfl (HR3.out.keep HW7.out.1).row ⟨wc.heap.size, 0, none⟩ 1 1 [.int .i64 0, .int .i64 0, .float .f64 0, .string ⟨#[]⟩, .slice none 0 0] rfl rfl (fun j u hj => by rw [addr_add0]; exact (HW7.out.2.1.1 j u hj).1) (by simp [Value.oneCell']) (by unfold maxLen; omega) (by omega) (by have := HW7.out.1.size; omega) ?_
    intro v9 w9 hown9 hgr9 hat9
    obtain ⟨g9, c9, rfl⟩ := own_pos hown9
    have HG9 := hidb (And.intro hown9 (And.intro hgr9 hat9))
    refine hK _ _ (fun h => absurd (by decide) h) ?_
    clear hK K
    simp only [Act.put, List.setIfInBounds_toArray, List.set_cons_zero, List.set_cons_succ]
    have GB := ry_both (k' := k') (n' := n') (f' := f') (s' := s') (a' := a') (c' := c') (kids' := kids') (HR3.out.keep HW7.out.1) hown9 hgr9 hat9 HW7.out.2.2 (T2 := fun q => W3.heap.size ≤ q ∧ q < (wc.alloc (.cells #[.int .i64 0, .int .i64 0, .float .f64 0, .string ⟨#[]⟩, .slice none 0 0] 36)).heap.size) (fun q hq => ⟨hq.2, fun e => by have := HR3.out.lt (.inl (.inr e)); omega, fun e => by have := HR3.out.lt (.inl (.inl e)); omega⟩)
    obtain ⟨⟨x0, x1, x2, x3, x4, y0, y1, y2, y3, y4⟩, hg9, d0, f0⟩ := ry_grow (HR3.out.keep HW7.out.1) hown9 hgr9
    have hgr : ¬ g9 = rb := by omega
    have hrg : ¬ rb = g9 := by omega
    have HT9 : Hid (∀ q, (Value.slice (some ⟨g9, 0, none⟩) (ds.length + 1) c9).ownBlock = some q → (Value.slice ga ds.length gc).ownBlock = some q ∨ w.heap.size ≤ q) := hidb (fun q e => by
      rcases hat9 with e' | e'
      · exact .inl (e' ▸ e)
      · rw [e'] at e; have := HW7.out.1.size; cases e; exact .inr (by omega))
    have xx : ∀ o, (w9.setCell ⟨rb, 0, none⟩ (.slice (some ⟨g9, 0, none⟩) (ds.length + 1) c9)).cell? ⟨g9, o, none⟩ = w9.cell? ⟨g9, o, none⟩ := fun o => World.cell?_setCell_other _ _ _ _ (fun e => hrg (congrArg Addr.block e))
    have z0 := (xx (ds.length * 5)).trans x0
    have z1 := (xx (ds.length * 5 + 1)).trans x1
    have z2 := (xx (ds.length * 5 + 2)).trans x2
    have z3 := (xx (ds.length * 5 + 3)).trans x3
    have z4 := (xx (ds.length * 5 + 4)).trans x4
    have hb37 : But (RS rb (.slice ga ds.length gc)) w (wc.alloc (.cells #[.int .i64 0, .int .i64 0, .float .f64 0, .string ⟨#[]⟩, .slice none 0 0] 36)) := HB3.out.trans (But.of_below HW7.out.1)
    unfold set5o at GB
    have G1 := hidb (And.intro GB.1.1 (hb37.trans GB.1.2))
    have G2 := hidb (And.intro GB.2.1 (hb37.trans GB.2.2))
    clear GB xx hown9 hgr9 hat9 hb37
    refine wpAnyD_twoL (i := 9) (j := 11) (by kernel_rfl) rfl rfl (fun K hK => ?_) (fun K hK => ?_)
    · go_simp
      refine hK _ _ (fun h => absurd (by decide) h) ?_
      clear hK K
      refine wpAnyD_twoL (i := 10) (j := 11) (by kernel_rfl) rfl rfl (fun K hK => ?_) (fun K hK => ?_)
      · go_simp
        refine hK _ _ (fun h => absurd (by decide) h) ?_
        clear hK K
        refine wpAnyD_stepL (i := 11) (by kernel_rfl) rfl (fun K hK => ?_)
        go_simp
        refine hK _ _ (fun h => absurd (by decide) h) ?_
        clear hK K
        refine wpAnyD_stepL (i := 12) (by kernel_rfl) rfl (fun K hK => ?_)
        go_simp
        refine hK _ _ (fun h => absurd (by decide) h) ?_
        clear hK K
        refine wpAnyD_stepL (i := 13) (by kernel_rfl) rfl (fun K hK => ?_)
        go_simp
        refine hK _ _ (fun h => absurd (by decide) h) ?_
        clear hK K
        refine wpAnyD_done (by kernel_rfl) ?_ _
        go_wp2_with fail
        go_ret
        exact ⟨rfl, _, _, _, G1.out.1, HST.out, fun q hq => hq.imp id (fun e => by have := e.1; omega), HT9.out, G1.out.2⟩
      · go_simp
        refine hK _ _ (fun h => absurd (by decide) h) ?_
        clear hK K
        refine wpAnyD_twoL (i := 10) (j := 12) (by kernel_rfl) rfl rfl (fun K hK => ?_) (fun K hK => ?_)
        · go_simp
          refine hK _ _ (fun h => absurd (by decide) h) ?_
          clear hK K
          refine wpAnyD_stepL (i := 12) (by kernel_rfl) rfl (fun K hK => ?_)
          go_simp
          refine hK _ _ (fun h => absurd (by decide) h) ?_
          clear hK K
          refine wpAnyD_stepL (i := 13) (by kernel_rfl) rfl (fun K hK => ?_)
          go_simp
          refine hK _ _ (fun h => absurd (by decide) h) ?_
          clear hK K
          refine wpAnyD_done (by kernel_rfl) ?_ _
          go_wp2_with fail
          go_ret
          exact ⟨rfl, _, _, _, G1.out.1, HST.out, fun q hq => hq.imp id (fun e => by have := e.1; omega), HT9.out, G1.out.2⟩
        · go_simp
          refine hK _ _ (fun h => absurd (by decide) h) ?_
          clear hK K
          refine wpAnyD_twoL (i := 10) (j := 13) (by kernel_rfl) rfl rfl (fun K hK => ?_) (fun K hK => ?_)
          · go_simp
            refine hK _ _ (fun h => absurd (by decide) h) ?_
            clear hK K
            refine wpAnyD_stepL (i := 13) (by kernel_rfl) rfl (fun K hK => ?_)
            go_simp
            refine hK _ _ (fun h => absurd (by decide) h) ?_
            clear hK K
            refine wpAnyD_done (by kernel_rfl) ?_ _
            go_wp2_with fail
            go_ret
            exact ⟨rfl, _, _, _, G1.out.1, HST.out, fun q hq => hq.imp id (fun e => by have := e.1; omega), HT9.out, G1.out.2⟩
          · go_simp
            refine hK _ _ (fun h => absurd (by decide) h) ?_
            clear hK K
            refine wpAnyD_stepL (i := 10) (by kernel_rfl) rfl (fun K hK => ?_)
            go_simp
            refine hK _ _ (fun h => absurd (by decide) h) ?_
            clear hK K
            refine wpAnyD_done (by kernel_rfl) ?_ _
            go_wp2_with fail
            go_ret
            exact ⟨rfl, _, _, _, G2.out.1, HST.out, fun q hq => hq.imp id (fun e => by have := e.1; omega), HT9.out, G2.out.2⟩
    · go_simp
      refine hK _ _ (fun h => absurd (by decide) h) ?_
      clear hK K
      refine wpAnyD_twoL (i := 9) (j := 12) (by kernel_rfl) rfl rfl (fun K hK => ?_) (fun K hK => ?_)
      · go_simp
        refine hK _ _ (fun h => absurd (by decide) h) ?_
        clear hK K
        refine wpAnyD_twoL (i := 10) (j := 12) (by kernel_rfl) rfl rfl (fun K hK => ?_) (fun K hK => ?_)
        · go_simp
          refine hK _ _ (fun h => absurd (by decide) h) ?_
          clear hK K
          refine wpAnyD_stepL (i := 12) (by kernel_rfl) rfl (fun K hK => ?_)
          go_simp
          refine hK _ _ (fun h => absurd (by decide) h) ?_
          clear hK K
          refine wpAnyD_stepL (i := 13) (by kernel_rfl) rfl (fun K hK => ?_)
          go_simp
          refine hK _ _ (fun h => absurd (by decide) h) ?_
          clear hK K
          refine wpAnyD_done (by kernel_rfl) ?_ _
          go_wp2_with fail
          go_ret
          exact ⟨rfl, _, _, _, G1.out.1, HST.out, fun q hq => hq.imp id (fun e => by have := e.1; omega), HT9.out, G1.out.2⟩
        · go_simp
          refine hK _ _ (fun h => absurd (by decide) h) ?_
          clear hK K
          refine wpAnyD_twoL (i := 10) (j := 13) (by kernel_rfl) rfl rfl (fun K hK => ?_) (fun K hK => ?_)
          · go_simp
            refine hK _ _ (fun h => absurd (by decide) h) ?_
            clear hK K
            refine wpAnyD_stepL (i := 13) (by kernel_rfl) rfl (fun K hK => ?_)
            go_simp
            refine hK _ _ (fun h => absurd (by decide) h) ?_
            clear hK K
            refine wpAnyD_done (by kernel_rfl) ?_ _
            go_wp2_with fail
            go_ret
            exact ⟨rfl, _, _, _, G1.out.1, HST.out, fun q hq => hq.imp id (fun e => by have := e.1; omega), HT9.out, G1.out.2⟩
          · go_simp
            refine hK _ _ (fun h => absurd (by decide) h) ?_
            clear hK K
            refine wpAnyD_stepL (i := 10) (by kernel_rfl) rfl (fun K hK => ?_)
            go_simp
            refine hK _ _ (fun h => absurd (by decide) h) ?_
            clear hK K
            refine wpAnyD_done (by kernel_rfl) ?_ _
            go_wp2_with fail
            go_ret
            exact ⟨rfl, _, _, _, G2.out.1, HST.out, fun q hq => hq.imp id (fun e => by have := e.1; omega), HT9.out, G2.out.2⟩
      · go_simp
        refine hK _ _ (fun h => absurd (by decide) h) ?_
        clear hK K
        refine wpAnyD_twoL (i := 9) (j := 13) (by kernel_rfl) rfl rfl (fun K hK => ?_) (fun K hK => ?_)
        · go_simp
          refine hK _ _ (fun h => absurd (by decide) h) ?_
          clear hK K
          refine wpAnyD_twoL (i := 10) (j := 13) (by kernel_rfl) rfl rfl (fun K hK => ?_) (fun K hK => ?_)
          · go_simp
            refine hK _ _ (fun h => absurd (by decide) h) ?_
            clear hK K
            refine wpAnyD_stepL (i := 13) (by kernel_rfl) rfl (fun K hK => ?_)
            go_simp
            refine hK _ _ (fun h => absurd (by decide) h) ?_
            clear hK K
            refine wpAnyD_done (by kernel_rfl) ?_ _
            go_wp2_with fail
            go_ret
            exact ⟨rfl, _, _, _, G1.out.1, HST.out, fun q hq => hq.imp id (fun e => by have := e.1; omega), HT9.out, G1.out.2⟩
          · go_simp
            refine hK _ _ (fun h => absurd (by decide) h) ?_
            clear hK K
            refine wpAnyD_stepL (i := 10) (by kernel_rfl) rfl (fun K hK => ?_)
            go_simp
            refine hK _ _ (fun h => absurd (by decide) h) ?_
            clear hK K
            refine wpAnyD_done (by kernel_rfl) ?_ _
            go_wp2_with fail
            go_ret
            exact ⟨rfl, _, _, _, G2.out.1, HST.out, fun q hq => hq.imp id (fun e => by have := e.1; omega), HT9.out, G2.out.2⟩
        · go_simp
          refine hK _ _ (fun h => absurd (by decide) h) ?_
          clear hK K
          refine wpAnyD_stepL (i := 9) (by kernel_rfl) rfl (fun K hK => ?_)
          go_simp
          refine hK _ _ (fun h => absurd (by decide) h) ?_
          clear hK K
          refine wpAnyD_stepL (i := 10) (by kernel_rfl) rfl (fun K hK => ?_)
          go_simp
          refine hK _ _ (fun h => absurd (by decide) h) ?_
          clear hK K
          refine wpAnyD_done (by kernel_rfl) ?_ _
          go_wp2_with fail
          go_ret
          exact ⟨rfl, _, _, _, G2.out.1, HST.out, fun q hq => hq.imp id (fun e => by have := e.1; omega), HT9.out, G2.out.2⟩
  · have hbA : Below W3.heap.size W3 (W3.drew.alloc (.cells #[.int .i64 0, .int .i64 0, .float .f64 0, .string ⟨#[]⟩, .slice none 0 0] 36)) := ((Below.refl _ _).drew).alloc (Nat.le_refl _) _
    go_simp
    refine hK _ _ (fun _ => HKC.out _ hbA) ?_
    clear hK K
    refine wpAnyD_stepL (i := 5) (by kernel_rfl) rfl (fun K hK => ?_)
    refine step_call rfl (run_call ent_rcopy #[.tmp 37] _ rfl #[.agg #[.int .i64 k, .int .i64 n, .float .f64 f, .string s, .slice a kids.length c]] rfl) (CP.out _ (HTI.out _ hbA)) (fun e wc hh => ?_)
    obtain ⟨k', n', f', s', a', c', kids', rfl, hst, hti, hb7⟩ := hh
    have hbX : Below W3.heap.size W3 wc := hbA.trans (hb7.mono hbA.size)
    refine hK _ _ (fun _ => HKC.out _ hbX) ?_
    clear hK K
    simp only [Act.put, List.setIfInBounds_toArray, List.set_cons_zero, List.set_cons_succ]
    have HW7 : Hid (Below W3.heap.size W3 wc ∧ At wc W3.heap.size [.int .i64 0, .int .i64 0, .float .f64 0, .string ⟨#[]⟩, .slice none 0 0] ∧ ((Tr.mk k' n' f' s' a' c' kids').In wc 0 ∧ (Tr.mk k' n' f' s' a' c' kids').On (fun q => W3.heap.size ≤ q ∧ q < wc.heap.size))) := hidb ⟨hbX, (At.new W3.drew [.int .i64 0, .int .i64 0, .float .f64 0, .string ⟨#[]⟩, .slice none 0 0] _).keep hb7, in_base (Nat.zero_le _) _ hti, on_mono (fun q hq => ⟨Nat.le_trans hbA.size hq.2, hq.1⟩) _ (on_in _ hti)⟩
    have HST := hidb hst
    clear hst hti hb7
    refine wpAnyD_stepL (i := 8) (by kernel_rfl) rfl (fun K hK => ?_)
    refine step_app rfl (.tmp 36) (.tmp 40) 34 rfl (rb + 1) 36 i0 (.agg #[.int .i64 0, .int .i64 0, .float .f64 0, .string ⟨#[]⟩, .slice none 0 0]) 5 64 Try.underlying34 hi0 hz0 hz1 hz2 rfl (by decide) (.slice ga ds.length gc) ds.length (ds.flatMap Tr.cells) rfl (HR3.out.keep HW7.out.1).row ⟨W3.heap.size, 0, none⟩ 1 1 [.int .i64 0, .int .i64 0, .float .f64 0, .string ⟨#[]⟩, .slice none 0 0] rfl rfl (fun j u hj => by rw [addr_add0]; exact (HW7.out.2.1.1 j u hj).1) (by simp [Value.oneCell']) (by unfold maxLen; omega) (by omega) (by have := HW7.out.1.size; omega) ?_
    intro v9 w9 hown9 hgr9 hat9
    obtain ⟨g9, c9, rfl⟩ := own_pos hown9
    have HG9 := hidb (And.intro hown9 (And.intro hgr9 hat9))
    refine hK _ _ (fun h => absurd (by decide) h) ?_
    clear hK K
    simp only [Act.put, List.setIfInBounds_toArray, List.set_cons_zero, List.set_cons_succ]
    have GB := ry_both (k' := k') (n' := n') (f' := f') (s' := s') (a' := a') (c' := c') (kids' := kids') (HR3.out.keep HW7.out.1) hown9 hgr9 hat9 HW7.out.2.2 (T2 := fun q => W3.heap.size ≤ q ∧ q < wc.heap.size) (fun q hq => ⟨hq.2, fun e => by have := HR3.out.lt (.inl (.inr e)); omega, fun e => by have := HR3.out.lt (.inl (.inl e)); omega⟩)
    obtain ⟨⟨x0, x1, x2, x3, x4, y0, y1, y2, y3, y4⟩, hg9, d0, f0⟩ := ry_grow (HR3.out.keep HW7.out.1) hown9 hgr9
    have hgr : ¬ g9 = rb := by omega
    have hrg : ¬ rb = g9 := by omega
    have HT9 : Hid (∀ q, (Value.slice (some ⟨g9, 0, none⟩) (ds.length + 1) c9).ownBlock = some q → (Value.slice ga ds.length gc).ownBlock = some q ∨ w.heap.size ≤ q) := hidb (fun q e => by
      rcases hat9 with e' | e'
      · exact .inl (e' ▸ e)
      · rw [e'] at e; have := HW7.out.1.size; cases e; exact .inr (by omega))
    have xx : ∀ o, (w9.setCell ⟨rb, 0, none⟩ (.slice (some ⟨g9, 0, none⟩) (ds.length + 1) c9)).cell? ⟨g9, o, none⟩ = w9.cell? ⟨g9, o, none⟩ := fun o => World.cell?_setCell_other _ _ _ _ (fun e => hrg (congrArg Addr.block e))
    have z0 := (xx (ds.length * 5)).trans x0
    have z1 := (xx (ds.length * 5 + 1)).trans x1
    have z2 := (xx (ds.length * 5 + 2)).trans x2
    have z3 := (xx (ds.length * 5 + 3)).trans x3
    have z4 := (xx (ds.length * 5 + 4)).trans x4
    have hb37 : But (RS rb (.slice ga ds.length gc)) w wc := HB3.out.trans (But.of_below HW7.out.1)
    unfold set5o at GB
    have G1 := hidb (And.intro GB.1.1 (hb37.trans GB.1.2))
    have G2 := hidb (And.intro GB.2.1 (hb37.trans GB.2.2))
    clear GB xx hown9 hgr9 hat9 hb37
    refine wpAnyD_twoL (i := 9) (j := 11) (by kernel_rfl) rfl rfl (fun K hK => ?_) (fun K hK => ?_)
    · go_simp
      refine hK _ _ (fun h => absurd (by decide) h) ?_
      clear hK K
      refine wpAnyD_twoL (i := 10) (j := 11) (by kernel_rfl) rfl rfl (fun K hK => ?_) (fun K hK => ?_)
      · go_simp
        refine hK _ _ (fun h => absurd (by decide) h) ?_
        clear hK K
        refine wpAnyD_stepL (i := 11) (by kernel_rfl) rfl (fun K hK => ?_)
        go_simp
        refine hK _ _ (fun h => absurd (by decide) h) ?_
        clear hK K
        refine wpAnyD_stepL (i := 12) (by kernel_rfl) rfl (fun K hK => ?_)
        go_simp
        refine hK _ _ (fun h => absurd (by decide) h) ?_
        clear hK K
        refine wpAnyD_stepL (i := 13) (by kernel_rfl) rfl (fun K hK => ?_)
        go_simp
        refine hK _ _ (fun h => absurd (by decide) h) ?_
        clear hK K
        refine wpAnyD_done (by kernel_rfl) ?_ _
        go_wp2_with fail
        go_ret
        exact ⟨rfl, _, _, _, G1.out.1, HST.out, fun q hq => hq.imp id (fun e => by have := e.1; omega), HT9.out, G1.out.2⟩
      · go_simp
        refine hK _ _ (fun h => absurd (by decide) h) ?_
        clear hK K
        refine wpAnyD_twoL (i := 10) (j := 12) (by kernel_rfl) rfl rfl (fun K hK => ?_) (fun K hK => ?_)
        · go_simp
          refine hK _ _ (fun h => absurd (by decide) h) ?_
          clear hK K
          refine wpAnyD_stepL (i := 12) (by kernel_rfl) rfl (fun K hK => ?_)
          go_simp
          refine hK _ _ (fun h => absurd (by decide) h) ?_
          clear hK K
          refine wpAnyD_stepL (i := 13) (by kernel_rfl) rfl (fun K hK => ?_)
          go_simp
          refine hK _ _ (fun h => absurd (by decide) h) ?_
          clear hK K
          refine wpAnyD_done (by kernel_rfl) ?_ _
          go_wp2_with fail
          go_ret
          exact ⟨rfl, _, _, _, G1.out.1, HST.out, fun q hq => hq.imp id (fun e => by have := e.1; omega), HT9.out, G1.out.2⟩
        · go_simp
          refine hK _ _ (fun h => absurd (by decide) h) ?_
          clear hK K
          refine wpAnyD_twoL (i := 10) (j := 13) (by kernel_rfl) rfl rfl (fun K hK => ?_) (fun K hK => ?_)
          · go_simp
            refine hK _ _ (fun h => absurd (by decide) h) ?_
            clear hK K
            refine wpAnyD_stepL (i := 13) (by kernel_rfl) rfl (fun K hK => ?_)
            go_simp
            refine hK _ _ (fun h => absurd (by decide) h) ?_
            clear hK K
            refine wpAnyD_done (by kernel_rfl) ?_ _
            go_wp2_with fail
            go_ret
            exact ⟨rfl, _, _, _, G1.out.1, HST.out, fun q hq => hq.imp id (fun e => by have := e.1; omega), HT9.out, G1.out.2⟩
          · go_simp
            refine hK _ _ (fun h => absurd (by decide) h) ?_
            clear hK K
            refine wpAnyD_stepL (i := 10) (by kernel_rfl) rfl (fun K hK => ?_)
            go_simp
            refine hK _ _ (fun h => absurd (by decide) h) ?_
            clear hK K
            refine wpAnyD_done (by kernel_rfl) ?_ _
            go_wp2_with fail
            go_ret
            exact ⟨rfl, _, _, _, G2.out.1, HST.out, fun q hq => hq.imp id (fun e => by have := e.1; omega), HT9.out, G2.out.2⟩
    · go_simp
      refine hK _ _ (fun h => absurd (by decide) h) ?_
      clear hK K
      refine wpAnyD_twoL (i := 9) (j := 12) (by kernel_rfl) rfl rfl (fun K hK => ?_) (fun K hK => ?_)
      · go_simp
        refine hK _ _ (fun h => absurd (by decide) h) ?_
        clear hK K
        refine wpAnyD_twoL (i := 10) (j := 12) (by kernel_rfl) rfl rfl (fun K hK => ?_) (fun K hK => ?_)
        · go_simp
          refine hK _ _ (fun h => absurd (by decide) h) ?_
          clear hK K
          refine wpAnyD_stepL (i := 12) (by kernel_rfl) rfl (fun K hK => ?_)
          go_simp
          refine hK _ _ (fun h => absurd (by decide) h) ?_
          clear hK K
          refine wpAnyD_stepL (i := 13) (by kernel_rfl) rfl (fun K hK => ?_)
          go_simp
          refine hK _ _ (fun h => absurd (by decide) h) ?_
          clear hK K
          refine wpAnyD_done (by kernel_rfl) ?_ _
          go_wp2_with fail
          go_ret
          exact ⟨rfl, _, _, _, G1.out.1, HST.out, fun q hq => hq.imp id (fun e => by have := e.1; omega), HT9.out, G1.out.2⟩
        · go_simp
          refine hK _ _ (fun h => absurd (by decide) h) ?_
          clear hK K
          refine wpAnyD_twoL (i := 10) (j := 13) (by kernel_rfl) rfl rfl (fun K hK => ?_) (fun K hK => ?_)
          · go_simp
            refine hK _ _ (fun h => absurd (by decide) h) ?_
            clear hK K
            refine wpAnyD_stepL (i := 13) (by kernel_rfl) rfl (fun K hK => ?_)
            go_simp
            refine hK _ _ (fun h => absurd (by decide) h) ?_
            clear hK K
            refine wpAnyD_done (by kernel_rfl) ?_ _
            go_wp2_with fail
            go_ret
            exact ⟨rfl, _, _, _, G1.out.1, HST.out, fun q hq => hq.imp id (fun e => by have := e.1; omega), HT9.out, G1.out.2⟩
          · go_simp
            refine hK _ _ (fun h => absurd (by decide) h) ?_
            clear hK K
            refine wpAnyD_stepL (i := 10) (by kernel_rfl) rfl (fun K hK => ?_)
            go_simp
            refine hK _ _ (fun h => absurd (by decide) h) ?_
            clear hK K
            refine wpAnyD_done (by kernel_rfl) ?_ _
            go_wp2_with fail
            go_ret
            exact ⟨rfl, _, _, _, G2.out.1, HST.out, fun q hq => hq.imp id (fun e => by have := e.1; omega), HT9.out, G2.out.2⟩
      · go_simp
        refine hK _ _ (fun h => absurd (by decide) h) ?_
        clear hK K
        refine wpAnyD_twoL (i := 9) (j := 13) (by kernel_rfl) rfl rfl (fun K hK => ?_) (fun K hK => ?_)
        · go_simp
          refine hK _ _ (fun h => absurd (by decide) h) ?_
          clear hK K
          refine wpAnyD_twoL (i := 10) (j := 13) (by kernel_rfl) rfl rfl (fun K hK => ?_) (fun K hK => ?_)
          · go_simp
            refine hK _ _ (fun h => absurd (by decide) h) ?_
            clear hK K
            refine wpAnyD_stepL (i := 13) (by kernel_rfl) rfl (fun K hK => ?_)
            go_simp
            refine hK _ _ (fun h => absurd (by decide) h) ?_
            clear hK K
            refine wpAnyD_done (by kernel_rfl) ?_ _
            go_wp2_with fail
            go_ret
            exact ⟨rfl, _, _, _, G1.out.1, HST.out, fun q hq => hq.imp id (fun e => by have := e.1; omega), HT9.out, G1.out.2⟩
          · go_simp
            refine hK _ _ (fun h => absurd (by decide) h) ?_
            clear hK K
            refine wpAnyD_stepL (i := 10) (by kernel_rfl) rfl (fun K hK => ?_)
            go_simp
            refine hK _ _ (fun h => absurd (by decide) h) ?_
            clear hK K
            refine wpAnyD_done (by kernel_rfl) ?_ _
            go_wp2_with fail
            go_ret
            exact ⟨rfl, _, _, _, G2.out.1, HST.out, fun q hq => hq.imp id (fun e => by have := e.1; omega), HT9.out, G2.out.2⟩
        · go_simp
          refine hK _ _ (fun h => absurd (by decide) h) ?_
          clear hK K
          refine wpAnyD_stepL (i := 9) (by kernel_rfl) rfl (fun K hK => ?_)
          go_simp
          refine hK _ _ (fun h => absurd (by decide) h) ?_
          clear hK K
          refine wpAnyD_stepL (i := 10) (by kernel_rfl) rfl (fun K hK => ?_)
          go_simp
          refine hK _ _ (fun h => absurd (by decide) h) ?_
          clear hK K
          refine wpAnyD_done (by kernel_rfl) ?_ _
          go_wp2_with fail
          go_ret
          exact ⟨rfl, _, _, _, G2.out.1, HST.out, fun q hq => hq.imp id (fun e => by have := e.1; omega), HT9.out, G2.out.2⟩
end Go.Proofs.Ytogahhbckfnllaa


