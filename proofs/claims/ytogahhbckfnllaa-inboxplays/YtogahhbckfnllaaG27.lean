import Derived.Test.YtogahhbckfnllaaG26
/- The document's Next. -/
namespace Go.Proofs.Ytogahhbckfnllaa
open Go.RowKit Go.Deep
attribute [local go_sem] store_float f64bits
attribute [local go_sem ↓] Go.wp_at_zero Go.wp_at_succ
variable {w : World} {rb place words most : Nat} {lv : Value} {ds : List Tr}

set_option maxHeartbeats 400000 in
set_option maxRecDepth 100000 in
theorem rnext_none (h : RX w rb lv ds place words most) (hp : place = ds.length) : Calls Try.prog 19 #[.pointer (some ⟨rb, 0, none⟩)] w fun e w' => e = .returned (.tuple #[zV, .bool false]) ∧ Below w.heap.size w w' := by
  subst hp
  obtain ⟨q, c, rfl⟩ := own_sl h.rows.1
  have hX := h.keep (below_new w zT)
  obtain ⟨c0, -⟩ := hX.box.1 0 _ rfl
  obtain ⟨c1, -⟩ := hX.box.1 1 _ rfl
  have hbl := h.box.2
  have HBN := hidb (below_new w zT)
  obtain ⟨r0, r1, r2, r3, r4, g0, g1, g2, g3, g4, -⟩ := Box.new w 36 (.int .i64 0) (.int .i64 0) (.float .f64 0) (.string ⟨#[]⟩) (.slice none 0 0)
  have hle : (ds.length : Int) ≤ (ds.length : Int) := by omega
  clear h hX
  go_enter Try.func19, Try.ntmps19
  go_wp2_with fail
  go_region_held3 (fun w' => w'.cell? ⟨rb, 0, none⟩ = some (.slice q ds.length c) ∧ w'.cell? ⟨rb, 1, none⟩ = some (.int .i64 (ds.length : Int))) (first | go_keep) (first | fail)
  go_wp2_with fail
  exact bodyPost_ret (v := .tuple #[zV, .bool false]) (by simp [results, Try.results19, go_sem, r0, r1, r2, r3, r4]) rfl ⟨rfl, by (repeat (first | exact HBN.out | exact HBN.out.drew | refine Below.setCell ?_ (by simp) _ | refine Below.drew ?_))⟩
end Go.Proofs.Ytogahhbckfnllaa


/- The document's inbox in memory, whatever else lies between. -/
namespace Go.Proofs.Ytogahhbckfnllaa
open Go.RowKit Go.Deep
attribute [local go_sem] store_float f64bits
attribute [local go_sem ↓] Go.wp_at_zero Go.wp_at_succ

/-- The document's box: its block, a row of terms of its own, its place, words, most; T: where the terms' rows lie. -/
structure RY (w : World) (rb : Nat) (lv : Value) (ds : List Tr) (place words most : Nat) (T : Nat → Prop) : Prop where
  box : At w rb [lv, .int .i64 (place : Int), .int .i64 (words : Int), .int .i64 (most : Int)]
  row : w.ownsRow (rb + 1) 36 5 lv ds.length (ds.flatMap Tr.cells)
  tr : ∀ t, t ∈ ds → t.In w 0 ∧ t.On T
  far : ∀ q, T q → q < w.heap.size ∧ lv.ownBlock ≠ some q ∧ q ≠ rb
/-- What such a box may write. -/
def RS (rb : Nat) (lv : Value) (q : Nat) : Prop := q = rb ∨ lv.ownBlock = some q

variable {w w' : World} {rb place words most : Nat} {lv : Value} {ds : List Tr} {T : Nat → Prop}

theorem RY.but {S : Nat → Prop} (h : RY w rb lv ds place words most T) (hb : But S w w') (h1 : ∀ q, RS rb lv q → ¬ S q) (h2 : ∀ q, T q → ¬ S q) : RY w' rb lv ds place words most T :=
  ⟨h.box.but hb (h1 rb (.inl rfl)), ownsRow_block h.row (fun g hg => hb.block g (ownsRow_lt h.row g hg).2 (h1 g (.inr hg))),
    fun t ht => ⟨in_on (S := fun q => q < w.heap.size ∧ ¬ S q) (fun b q => hb.block b q.1 q.2) t (h.tr t ht).1 (on_mono (fun q hq => ⟨(h.far q hq).1, h2 q hq⟩) t (h.tr t ht).2), (h.tr t ht).2⟩,
    fun q hq => ⟨Nat.lt_of_lt_of_le (h.far q hq).1 hb.size, (h.far q hq).2⟩⟩
theorem RY.keep (h : RY w rb lv ds place words most T) (hb : Below w.heap.size w w') : RY w' rb lv ds place words most T := h.but (But.of_below (S := fun _ => False) hb) (fun _ _ h => h) (fun _ _ h => h)
theorem RY.lt (h : RY w rb lv ds place words most T) {q : Nat} (hq : RS rb lv q ∨ T q) : q < w.heap.size := by
  rcases hq with (rfl | hq) | hq
  · exact h.box.2
  · exact (ownsRow_lt h.row q hq).2
  · exact (h.far q hq).1
/-- A number of the box is stored. -/
theorem RY.placed (h : RY w rb lv ds place words most T) (p2 : Nat) : RY (w.setCell ⟨rb, 1, none⟩ (.int .i64 (p2 : Int))) rb lv ds p2 words most T :=
  have hb : But (fun q => q = rb) w (w.setCell ⟨rb, 1, none⟩ (.int .i64 (p2 : Int))) := (But.refl (fun q => q = rb) w).setCell (p := ⟨rb, 1, none⟩) (fun _ => rfl) _
  ⟨h.box.set (i := 1) (by simp) _, ownsRow_block h.row (fun g hg => hb.block g (ownsRow_lt h.row g hg).2 (fun e => by have := (ownsRow_lt h.row g hg).1; omega)),
    fun t ht => ⟨in_on (S := fun q => q < w.heap.size ∧ ¬ q = rb) (fun b q => hb.block b q.1 q.2) t (h.tr t ht).1 (on_mono (fun q hq => ⟨(h.far q hq).1, (h.far q hq).2.2⟩) t (h.tr t ht).2), (h.tr t ht).2⟩,
    fun q hq => ⟨by simpa [World.setCell] using (h.far q hq).1, (h.far q hq).2⟩⟩
theorem RY.worded (h : RY w rb lv ds place words most T) (p2 : Nat) : RY (w.setCell ⟨rb, 2, none⟩ (.int .i64 (p2 : Int))) rb lv ds place p2 most T :=
  have hb : But (fun q => q = rb) w (w.setCell ⟨rb, 2, none⟩ (.int .i64 (p2 : Int))) := (But.refl (fun q => q = rb) w).setCell (p := ⟨rb, 2, none⟩) (fun _ => rfl) _
  ⟨h.box.set (i := 2) (by simp) _, ownsRow_block h.row (fun g hg => hb.block g (ownsRow_lt h.row g hg).2 (fun e => by have := (ownsRow_lt h.row g hg).1; omega)),
    fun t ht => ⟨in_on (S := fun q => q < w.heap.size ∧ ¬ q = rb) (fun b q => hb.block b q.1 q.2) t (h.tr t ht).1 (on_mono (fun q hq => ⟨(h.far q hq).1, (h.far q hq).2.2⟩) t (h.tr t ht).2), (h.tr t ht).2⟩,
    fun q hq => ⟨by simpa [World.setCell] using (h.far q hq).1, (h.far q hq).2⟩⟩
/-- Another row. -/
theorem RY.rowed {T' : Nat → Prop} {lv' : Value} {ds' : List Tr} (h : RY w rb lv ds place words most T) (hr : w.ownsRow (rb + 1) 36 5 lv' ds'.length (ds'.flatMap Tr.cells)) (htr : ∀ t, t ∈ ds' → t.In w 0 ∧ t.On T') (hf : ∀ q, T' q → q < w.heap.size ∧ lv'.ownBlock ≠ some q ∧ q ≠ rb) : RY (w.setCell ⟨rb, 0, none⟩ lv') rb lv' ds' place words most T' :=
  have hb : But (fun q => q = rb) w (w.setCell ⟨rb, 0, none⟩ lv') := (But.refl (fun q => q = rb) w).setCell (p := ⟨rb, 0, none⟩) (fun _ => rfl) _
  ⟨h.box.set (i := 0) (by simp) _, ownsRow_block hr (fun g hg => hb.block g (ownsRow_lt hr g hg).2 (fun e => by have := (ownsRow_lt hr g hg).1; omega)),
    fun t ht => ⟨in_on (S := fun q => q < w.heap.size ∧ ¬ q = rb) (fun b q => hb.block b q.1 q.2) t (htr t ht).1 (on_mono (fun q hq => ⟨(hf q hq).1, (hf q hq).2.2⟩) t (htr t ht).2), (htr t ht).2⟩,
    fun q hq => ⟨by simpa [World.setCell] using (hf q hq).1, (hf q hq).2⟩⟩
theorem ry_new (w : World) (n : Nat) (rb : Nat) (hrb : rb = w.heap.size) : RY (w.alloc (.cells #[.slice none 0 0, .int .i64 0, .int .i64 0, .int .i64 (n : Int)] 41)) rb (.slice none 0 0) [] 0 0 n (fun _ => False) := by
  subst hrb
  exact ⟨At.new w [.slice none 0 0, .int .i64 0, .int .i64 0, .int .i64 (n : Int)] _, ⟨rfl, .inl ⟨rfl, rfl⟩⟩, fun t h => by simp at h, fun q h => h.elim⟩

theorem ry_rewind (h : RY w rb lv ds place words most T) : Calls Try.prog 22 #[.pointer (some ⟨rb, 0, none⟩)] w fun e w' => e = .returned (.tuple #[]) ∧ RY w' rb lv ds 0 words most T ∧ But (RS rb lv) w w' := by
  obtain ⟨c1, f1⟩ := h.box.1 1 _ rfl
  have K := hidb (And.intro (h.placed 0) ((But.refl (RS rb lv) w).setCell (p := ⟨rb, 1, none⟩) (fun _ => .inl rfl) (.int .i64 ((0 : Nat) : Int))))
  clear h
  go_enter Try.func22, Try.ntmps22
  go_wp2
  exact bodyPost_end (by simp [results, Try.results22]) rfl ⟨rfl, K.out⟩

set_option maxHeartbeats 400000 in
set_option maxRecDepth 100000 in
theorem ry_next_none (h : RY w rb lv ds place words most T) (hp : place = ds.length) : Calls Try.prog 19 #[.pointer (some ⟨rb, 0, none⟩)] w fun e w' => e = .returned (.tuple #[zV, .bool false]) ∧ Below w.heap.size w w' := by
  subst hp
  obtain ⟨q, c, rfl⟩ := own_sl h.row
  have hX := h.keep (below_new w zT)
  obtain ⟨c0, -⟩ := hX.box.1 0 _ rfl
  obtain ⟨c1, -⟩ := hX.box.1 1 _ rfl
  have hbl := h.box.2
  have HBN := hidb (below_new w zT)
  obtain ⟨r0, r1, r2, r3, r4, g0, g1, g2, g3, g4, -⟩ := Box.new w 36 (.int .i64 0) (.int .i64 0) (.float .f64 0) (.string ⟨#[]⟩) (.slice none 0 0)
  have hle : (ds.length : Int) ≤ (ds.length : Int) := by omega
  clear h hX
  go_enter Try.func19, Try.ntmps19
  go_wp2_with fail
  go_region_held3 (fun w' => w'.cell? ⟨rb, 0, none⟩ = some (.slice q ds.length c) ∧ w'.cell? ⟨rb, 1, none⟩ = some (.int .i64 (ds.length : Int))) (first | go_keep) (first | fail)
  go_wp2_with fail
  exact bodyPost_ret (v := .tuple #[zV, .bool false]) (by simp [results, Try.results19, go_sem, r0, r1, r2, r3, r4]) rfl ⟨rfl, by (repeat (first | exact HBN.out | exact HBN.out.drew | refine Below.setCell ?_ (by simp) _ | refine Below.drew ?_))⟩

/-- An element of the row. -/
theorem RY.at (h : RY w rb lv ds place words most T) {i : Nat} {k n : Int} {f : Nat} {s : ByteArray} {a : Option Addr} {c : Nat} {kids : List Tr} (hi : ds[i]? = some (.mk k n f s a c kids)) : ∃ g cap, lv = .slice (some ⟨g, 0, none⟩) ds.length cap ∧ rb + 1 ≤ g ∧ g < w.heap.size ∧ (w.cell? ⟨g, i * 5, none⟩ = some (.int .i64 k) ∧ w.cell? ⟨g, i * 5 + 1, none⟩ = some (.int .i64 n) ∧ w.cell? ⟨g, i * 5 + 2, none⟩ = some (.float .f64 f) ∧ w.cell? ⟨g, i * 5 + 3, none⟩ = some (.string s) ∧ w.cell? ⟨g, i * 5 + 4, none⟩ = some (.slice a kids.length c)) := by
  rcases h.row.2 with ⟨e, h0⟩ | ⟨g, cap, cur, hv, hg⟩
  · have := (List.getElem?_eq_some_iff.1 hi).1; omega
  · have hlt := ownsRow_lt h.row g (by rw [hv]; rfl)
    subst hv
    have hc : ∀ j u, j < 5 → (Tr.cells (.mk k n f s a c kids))[j]? = some u → w.cell? ⟨g, i * 5 + j, none⟩ = some u := fun j u hj hu => by
      have e := flat_get ds i _ hi j hj
      rw [hu] at e
      exact (h.row.cellAt _ (by have := (List.getElem?_eq_some_iff.1 e).1; rw [flat_len] at this; omega)).trans e
    exact ⟨g, cap, rfl, hlt.1, hlt.2, hc 0 _ (by omega) rfl, hc 1 _ (by omega) rfl, hc 2 _ (by omega) rfl, hc 3 _ (by omega) rfl, hc 4 _ (by omega) rfl⟩

set_option maxHeartbeats 1000000 in
set_option maxRecDepth 100000 in
theorem ry_next (h : RY w rb lv ds place words most T) {k n : Int} {f : Nat} {s : ByteArray} {a : Option Addr} {c : Nat} {kids : List Tr} (hi : ds[place]? = some (.mk k n f s a c kids)) (hl : ds.length ≤ 1000000) : Calls Try.prog 19 #[.pointer (some ⟨rb, 0, none⟩)] w fun e w' => e = .returned (.tuple #[.agg #[.int .i64 k, .int .i64 n, .float .f64 f, .string s, .slice a kids.length c], .bool true]) ∧ RY w' rb lv ds (place + 1) words most T ∧ But (RS rb lv) w w' := by
  obtain ⟨g, cap, rfl, hg1, hg2, -⟩ := h.at hi
  have hpl := (List.getElem?_eq_some_iff.1 hi).1
  have hX := h.keep (below_new w zT)
  obtain ⟨c0, -⟩ := hX.box.1 0 _ rfl
  obtain ⟨c1, f1⟩ := hX.box.1 1 _ rfl
  have hbl := h.box.2
  have hP := h.placed (place + 1)
  rw [show ((place + 1 : Nat) : Int) = (place : Int) + 1 from rfl] at hP
  obtain ⟨W0, hW0⟩ : ∃ W0, w.setCell ⟨rb, 1, none⟩ (.int .i64 ((place : Int) + 1)) = W0 := ⟨_, rfl⟩
  have hsz : W0.heap.size = w.heap.size := by rw [← hW0]; simp [World.setCell]
  have HBT : Hid (But (RS rb (.slice (some ⟨g, 0, none⟩) ds.length cap)) w W0) := hidb (by rw [← hW0]; exact (But.refl _ w).setCell (p := ⟨rb, 1, none⟩) (fun _ => .inl rfl) _)
  rw [hW0] at hP
  have HPR := hidb (fun o => (hP.keep (below_new W0 o)).keep ((Below.refl _ _).drew.drew))
  have HSX : Hid (∀ o, (W0.alloc o).drew.drew.cell? ⟨rb, 0, none⟩ = some (.slice (some ⟨g, 0, none⟩) ds.length cap) ∧ (W0.alloc o).drew.drew.cell? ⟨rb, 1, none⟩ = some (.int .i64 ((place : Int) + 1)) ∧ (W0.alloc o).drew.drew.cell? ⟨g, place * 5, none⟩ = some (.int .i64 k) ∧ (W0.alloc o).drew.drew.cell? ⟨g, place * 5 + 1, none⟩ = some (.int .i64 n) ∧ (W0.alloc o).drew.drew.cell? ⟨g, place * 5 + 2, none⟩ = some (.float .f64 f) ∧ (W0.alloc o).drew.drew.cell? ⟨g, place * 5 + 3, none⟩ = some (.string s) ∧ (W0.alloc o).drew.drew.cell? ⟨g, place * 5 + 4, none⟩ = some (.slice a kids.length c)) := hidb (fun o => by
    have hq := HPR.out o
    obtain ⟨g', cap', hv, -, -, x0, x1, x2, x3, x4⟩ := hq.at hi
    obtain ⟨rfl, rfl⟩ : g = g' ∧ cap = cap' := by simpa using hv
    exact ⟨(hq.box.1 0 _ rfl).1, (hq.box.1 1 _ rfl).1, x0, x1, x2, x3, x4⟩)
  have hcmp : ¬ (ds.length : Int) ≤ (place : Int) := by omega
  have hw1 : IntKind.i64.wrap ((place : Int) + 1) = (place : Int) + 1 := by rw [IntKind.wrap_i64]; omega
  have hw2 : IntKind.i64.wrap ((place : Int) + 1 - 1) = (place : Int) := by rw [IntKind.wrap_i64]; omega
  have hw3 : IntKind.i64.wrap (place : Int) = (place : Int) := by rw [IntKind.wrap_i64]; omega
  have hb1 : (0 : Int) ≤ (place : Int) := by omega
  have hb2 : (place : Int) < (ds.length : Int) := by omega
  have HWW := hidb hW0
  have HSZ := hidb hsz
  clear h hX hi hP hW0 hsz
  go_enter Try.func19, Try.ntmps19
  go_wp2_with fail
  go_region_held3 (fun w' => w'.cell? ⟨rb, 0, none⟩ = some (.slice (some ⟨g, 0, none⟩) ds.length cap) ∧ w'.cell? ⟨rb, 1, none⟩ = some (.int .i64 (place : Int))) (first | go_keep) (first | fail)
  go_wp2_with fail
  rw [HWW.out]
  rw [← HSZ.out]
  go_region_held3 (fun w' => w'.cell? ⟨rb, 0, none⟩ = some (.slice (some ⟨g, 0, none⟩) ds.length cap) ∧ w'.cell? ⟨rb, 1, none⟩ = some (.int .i64 ((place : Int) + 1)) ∧ w'.cell? ⟨g, place * 5, none⟩ = some (.int .i64 k) ∧ w'.cell? ⟨g, place * 5 + 1, none⟩ = some (.int .i64 n) ∧ w'.cell? ⟨g, place * 5 + 2, none⟩ = some (.float .f64 f) ∧ w'.cell? ⟨g, place * 5 + 3, none⟩ = some (.string s) ∧ w'.cell? ⟨g, place * 5 + 4, none⟩ = some (.slice a kids.length c)) (first | with_reducible exact HSX.out _) (first | fail)
  go_wp2_with fail
  all_goals exact bodyPost_ret (v := .tuple #[.agg #[.int .i64 k, .int .i64 n, .float .f64 f, .string s, .slice a kids.length c], .bool true]) (by simp [results, Try.results19, go_sem]) rfl ⟨rfl, HPR.out _, (HBT.out.alloc _).drew.drew⟩
end Go.Proofs.Ytogahhbckfnllaa


