import Derived.Test.YtggpbfmdhenjdaaG08
import Derived.Lib.SmallJoins
import Derived.Test.YtggpbfmdhenjdaaG18
/- TRows of terms that are a call's own. -/
namespace Go.Proofs.Ytggpbfmdhenjdaa
open Go.RowKit Go.Deep

/-- A row of terms that is the call's own; none of them lies in the row's own block. -/
def TRows (w : World) (base : Nat) (v : Value) (ds : List Tr) : Prop :=
  w.ownsRow base 27 5 v ds.length (ds.flatMap Tr.cells) ∧ ∀ t, t ∈ ds → t.In w base ∧ t.On (fun b => v.ownBlock ≠ some b ∧ b < w.heap.size ∧ base ≤ b)


theorem flat_get : ∀ (ds : List Tr) (j : Nat) (t : Tr), ds[j]? = some t → ∀ i, i < 5 → (ds.flatMap Tr.cells)[j * 5 + i]? = t.cells[i]? := by
  intro ds
  induction ds with
  | nil => intro j t h; simp at h
  | cons u r ih =>
    intro j t h i hi
    have hu : u.cells.length = 5 := by cases u; rfl
    simp only [List.flatMap_cons]
    rcases j with _ | j
    · obtain rfl : u = t := by simpa using h
      rw [List.getElem?_append_left (by omega)]
      simp
    · rw [List.getElem?_append_right (by omega), hu]
      have e : (j + 1) * 5 + i - 5 = j * 5 + i := by omega
      rw [e]
      exact ih j t (by simpa using h) i hi


theorem flat_len (ds : List Tr) : (ds.flatMap Tr.cells).length = ds.length * 5 := by
  induction ds with
  | nil => rfl
  | cons u r ih =>
    have hu : u.cells.length = 5 := by cases u; rfl
    simp only [List.flatMap_cons, List.length_append, List.length_cons, ih, hu]
    omega


/-- A term of such a row. -/
theorem rows_tree {w : World} {base : Nat} {v : Value} {ds : List Tr} (h : TRows w base v ds) (k n : Int) (f : Nat) (s : ByteArray) (hk : (Lit.int .i64 k).wf = true) (hn : (Lit.int .i64 n).wf = true) (hf : (Lit.float .f64 f).wf = true) (hs : s.size ≤ maxLen) :
    ∃ a c, v = .slice a ds.length c ∧ (Tr.mk k n f s a c ds).In w base := by
  obtain ⟨⟨hlen, ⟨rfl, h0⟩ | ⟨g, cap, cur, rfl, hbg, hobj, hnc, hcm, hcs, htk⟩⟩, hin⟩ := h
  · have e : ds = [] := List.length_eq_zero_iff.1 h0
    subst e
    refine ⟨none, 0, rfl, ?_⟩
    unfold Tr.In
    exact ⟨⟨hk, hn, hf, hs, by simp, by omega, fun _ => rfl⟩, fun ad h => by simp at h⟩
  · refine ⟨some ⟨g, 0, none⟩, cap, rfl, ?_⟩
    unfold Tr.In
    refine ⟨⟨hk, hn, hf, hs, hnc, hcm, fun h => by simp at h⟩, fun ad had => ?_⟩
    obtain rfl : (⟨g, 0, none⟩ : Addr) = ad := by simpa using had
    refine ⟨hbg, inAll_of fun j t hj => ⟨fun i hi => ?_, (hin t (List.mem_of_getElem? hj)).1⟩⟩
    have e : ((⟨g, 0, none⟩ : Addr).add (j * 5)).add i = ⟨g, j * 5 + i, none⟩ := by
      rw [add_add]
      unfold Addr.add
      split
      · rename_i h0; rw [h0]
      · simp
    rw [e, Joins.cell_of_block hobj, ← flat_get ds j t hj i hi, ← htk]
    have hjl := get_lt hj
    rw [List.getElem?_take]
    rw [if_pos (by omega)]
    simp

/-- What lies there lies in its blocks, from the base on. -/
theorem on_in {w : World} {base : Nat} : ∀ t : Tr, t.In w base → t.On (fun b => b < w.heap.size ∧ base ≤ b) := by
  refine Tr.ind fun k n f s a c kids hk h => ?_
  have hall := on_all (.mk k n f s a c kids) h
  unfold Tr.On at hall ⊢
  have h' := h
  unfold Tr.In at h'
  refine ⟨fun h0 ad had => ⟨hall.1 h0 ad had, (h'.2 ad had).1⟩, ?_⟩
  have : ∀ l : List Tr, (∀ t, t ∈ l → t ∈ kids) → Tr.OnAll (fun b => b < w.heap.size ∧ base ≤ b) l := by
    intro l
    induction l with
    | nil => intro _; unfold Tr.OnAll; trivial
    | cons t r ih =>
      intro hl
      unfold Tr.OnAll
      refine ⟨?_, ih fun u hu => hl u (List.mem_cons_of_mem _ hu)⟩
      have ht := hl t (List.mem_cons_self ..)
      obtain ⟨j, hj⟩ := List.getElem?_of_mem ht
      refine hk t ht ?_
      cases a with
      | none =>
        have h0 := h'.1.2.2.2.2.2.2 rfl
        have h1 := h'.1.2.2.2.2.1
        have := get_lt hj
        omega
      | some ad => exact (inAll_get (h'.2 ad rfl).2 j t hj).2
  exact this kids fun t h => h


theorem in_mono {w : World} {base base' : Nat} (hb : base' ≤ base) : ∀ t : Tr, t.In w base → t.In w base' := by
  refine Tr.ind fun k n f s a c kids hk h => ?_
  unfold Tr.In at h ⊢
  refine ⟨h.1, fun ad had => ⟨Nat.le_trans hb (h.2 ad had).1, inAll_of fun j t hj => ?_⟩⟩
  have g := inAll_get (h.2 ad had).2 j t hj
  refine ⟨fun i hi => ?_, hk t (List.mem_of_getElem? hj) g.2⟩
  rw [add_add]
  exact g.1 i hi


theorem rows_nil (w : World) (base : Nat) : TRows w base (.slice none 0 0) [] := ⟨⟨rfl, Or.inl ⟨rfl, rfl⟩⟩, fun t h => by simp at h⟩


theorem ownsRow_block {w w' : World} {base : Nat} {e : TypeId} {v : Value} {n : Nat} {xs : List Value} (h : w.ownsRow base e 5 v n xs) (hb : ∀ g, v.ownBlock = some g → w'.heap[g]? = w.heap[g]?) : w'.ownsRow base e 5 v n xs := by
  obtain ⟨hl, h | ⟨g, cap, cur, rfl, h1, h2, h3, h4, h5, h6⟩⟩ := h
  · exact ⟨hl, Or.inl h⟩
  · exact ⟨hl, Or.inr ⟨g, cap, cur, rfl, h1, (hb g rfl).trans h2, h3, h4, h5, h6⟩⟩


theorem ownsRow_lt {w : World} {base : Nat} {e : TypeId} {v : Value} {n : Nat} {xs : List Value} (h : w.ownsRow base e 5 v n xs) (g : Nat) (hg : v.ownBlock = some g) : base ≤ g ∧ g < w.heap.size := by
  obtain ⟨_, ⟨rfl, _⟩ | ⟨g', cap, cur, rfl, h1, h2, _⟩⟩ := h
  · simp [Value.ownBlock] at hg
  · obtain rfl : g' = g := by simpa [Value.ownBlock] using hg
    refine ⟨h1, ?_⟩
    rcases Nat.lt_or_ge g' w.heap.size with q | q
    · exact q
    · rw [Array.getElem?_eq_none q] at h2; cases h2


/-- Behind a change of blocks ahead of the base, and new ones. -/
theorem TRows.low {w w' : World} {base : Nat} {v : Value} {ds : List Tr} (h : TRows w base v ds) (hs : w.heap.size ≤ w'.heap.size) (hb : ∀ b, base ≤ b → b < w.heap.size → w'.heap[b]? = w.heap[b]?) : TRows w' base v ds := by
  refine ⟨ownsRow_block h.1 (fun g hg => by have := ownsRow_lt h.1 g hg; exact hb g this.1 this.2), fun t ht => ?_⟩
  obtain ⟨h1, h2⟩ := h.2 t ht
  exact ⟨in_on (fun b hS => hb b hS.2.2 hS.2.1) t h1 h2, on_mono (fun b hS => ⟨hS.1, by omega, hS.2.2⟩) t h2⟩


theorem TRows.keep {w w' : World} {base : Nat} {v : Value} {ds : List Tr} (h : TRows w base v ds) (hb : Below w.heap.size w w') : TRows w' base v ds := h.low hb.size (fun b _ hl => hb.block b hl)


theorem TRows.set {w : World} {base : Nat} {v : Value} {ds : List Tr} (h : TRows w base v ds) {p : Addr} (hp : p.block < base) (u : Value) : TRows (w.setCell p u) base v ds :=
  h.low (by simp [World.setCell]) (fun b hb _ => Below.heap_setCell _ _ _ _ (by omega))


/-- Behind an append of one more. -/
theorem TRows.append {w w' : World} {base : Nat} {v v' : Value} {ds : List Tr} {t : Tr} (h : TRows w base v ds) (ho : w'.ownsRow base 27 5 v' (ds.length + 1) (ds.flatMap Tr.cells ++ t.cells)) (hg : w.grownBy w' v.ownBlock) (hv : v'.ownBlock = v.ownBlock ∨ v'.ownBlock = some w.heap.size) (ht : t.In w base) (hn : t.On (fun b => v.ownBlock ≠ some b ∧ b < w.heap.size ∧ base ≤ b)) : TRows w' base v' (ds ++ [t]) := by
  have hall : ∀ u, u ∈ ds ++ [t] → u.In w base ∧ u.On (fun b => v.ownBlock ≠ some b ∧ b < w.heap.size ∧ base ≤ b) := by
    intro u hu
    rcases List.mem_append.1 hu with hu | hu
    · exact h.2 u hu
    · obtain rfl : u = t := by simpa using hu
      exact ⟨ht, hn⟩
  refine ⟨?_, fun u hu => ?_⟩
  · rw [List.length_append, List.flatMap_append]
    simpa using ho
  · obtain ⟨h1, h2⟩ := hall u hu
    refine ⟨in_on (fun b hS => hg.block b hS.2.1 (fun e => hS.1 e.symm)) u h1 h2, on_mono (fun b hS => ⟨?_, by have := hg.size; omega, hS.2.2⟩) u h2⟩
    rcases hv with e | e
    · rw [e]; exact hS.1
    · rw [e]; intro q; have := Option.some.inj q; omega

theorem infoT5 : (Try.prog.info? 27).map (fun i => (i.zero, i.size, i.bytes)) = some (some (.agg #[.int .i64 0, .int .i64 0, .float .f64 0, .string ⟨#[]⟩, .slice none 0 0]), 5, 64) := by kernel_rfl


theorem tr_one (t : Tr) : ∀ u ∈ t.cells, u.oneCell' = true := by
  obtain ⟨k, n, f, s, a, c, kids⟩ := t
  intro y hy
  simp only [Tr.cells, List.mem_cons, List.not_mem_nil, or_false] at hy
  rcases hy with rfl | rfl | rfl | rfl | rfl <;> rfl


theorem tr_len (t : Tr) : t.cells.length = 5 := by cases t; rfl


/-- A term that was told lies in no block of a row that was there. -/
theorem told_off {w w' : World} {base : Nat} {v : Value} {ds : List Tr} {t : Tr} (h : TRows w base v ds) (hb : base ≤ w.heap.size) (ht : t.In w' w.heap.size) : t.In w' base ∧ t.On (fun b => v.ownBlock ≠ some b ∧ b < w'.heap.size ∧ base ≤ b) := by
  refine ⟨in_mono hb t ht, on_mono (fun b hS => ⟨fun e => ?_, hS.1, by omega⟩) t (on_in t ht)⟩
  have := ownsRow_lt h.1 b e
  omega


end Go.Proofs.Ytggpbfmdhenjdaa


/- The document's Copy of any term: the same term in new memory. -/
namespace Go.Proofs.Ytggpbfmdhenjdaa
open Go.RowKit Go.Deep
attribute [local go_sem] store_float f64bits
attribute [local go_sem ↓] Go.wp_at_zero Go.wp_at_succ

theorem smA_snoc {t t' : Tr} (h : Sm t t') : ∀ (l l' : List Tr), SmA l l' → SmA (l ++ [t]) (l' ++ [t'])
  | [], [], _ => by simp only [List.nil_append, SmA]; exact ⟨h, trivial⟩
  | u :: r, u' :: r', hl => by
    unfold SmA at hl
    simp only [List.cons_append, SmA]
    exact ⟨hl.1, smA_snoc h r r' hl.2⟩
  | [], _ :: _, hl => by unfold SmA at hl; exact hl.elim
  | _ :: _, [], hl => by unfold SmA at hl; exact hl.elim

set_option maxHeartbeats 2000000 in
set_option maxRecDepth 100000 in
theorem rcopy_any : ∀ (t : Tr) (w : World), t.In w 0 → Small t →
    Calls Try.prog 14 #[t.val] w fun e w' => ∃ t', e = .returned t'.val ∧ Sm t t' ∧ t'.In w' w.heap.size ∧ Below w.heap.size w w' := by
  refine Tr.ind fun k n f s a c kids hk => ?_
  intro w hin hsm
  show Calls Try.prog 14 #[.agg #[.int .i64 k, .int .i64 n, .float .f64 f, .string s, .slice a kids.length c]] w _
  have HK : Hid (∀ t, t ∈ kids → ∀ (w : World), t.In w 0 → Small t → Calls Try.prog 14 #[t.val] w fun e w' => ∃ t', e = .returned t'.val ∧ Sm t t' ∧ t'.In w' w.heap.size ∧ Below w.heap.size w w') := hk
  have HIN := hidb hin
  have hwf := hidb (show Tr.fit (.mk k n f s a c kids) from by unfold Tr.In at hin; exact hin.1)
  unfold Small at hsm
  have hlen := hsm.1
  have HSM := hidb hsm.2
  obtain ⟨i0, hi, hz0, hz1, hz2⟩ := info_parts infoT5
  clear hk hin hsm
  go_enter Try.func14, Try.ntmps14
  go_wp2_with fail
  go_loopw [3, 4] (fun lv iv wr => ∃ (m : Nat) (ds : List Tr), m ≤ kids.length ∧ iv = .int .i64 m ∧ TRows wr (w.heap.size + 2) lv ds ∧ SmA (kids.take m) ds ∧ Below (w.heap.size + 2) ((w.alloc (.cells #[.int .i64 k, .int .i64 n, .float .f64 f, .string s, .slice a kids.length c] 27)).alloc (.cells #[.int .i64 0, .int .i64 0, .float .f64 0, .string ⟨#[]⟩, .slice none 0 0] 27)) wr) (fun _ iv _ => kids.length - (RowKit.intOf iv).toNat)
  case atStart => exact ⟨0, [], by omega, rfl, rows_nil _ _, by simp [SmA], Below.refl _ _⟩
  case round =>
  obtain ⟨m, ds, hm, rfl, hrows, hsma, hbel⟩ := hrel
  have HR := hidb hrows
  have HS := hidb hsma
  have HBB := hidb hbel
  have hb1 : Below (w.heap.size + 1) (w.alloc (.cells #[.int .i64 k, .int .i64 n, .float .f64 f, .string s, .slice a kids.length c] 27)) wr := by
    have h0 := below_new (w.alloc (.cells #[.int .i64 k, .int .i64 n, .float .f64 f, .string s, .slice a kids.length c] 27)) (.cells #[.int .i64 0, .int .i64 0, .float .f64 0, .string ⟨#[]⟩, .slice none 0 0] 27)
    rw [show (w.alloc (.cells #[.int .i64 k, .int .i64 n, .float .f64 f, .string s, .slice a kids.length c] 27)).heap.size = w.heap.size + 1 by simp] at h0
    exact h0.trans (hbel.mono (by omega))
  obtain ⟨b0, b1, b2, b3, b4⟩ := box_at hb1
  have HB : Hid (Below w.heap.size w wr) := hidb (box_below hb1)
  have bf4 := (hb1.frozen (p := ⟨w.heap.size, 4, none⟩) (Nat.lt_succ_self _)).trans (Box.new w 27 (.int .i64 k) (.int .i64 n) (.float .f64 f) (.string s) (.slice a kids.length c)).f4
  obtain ⟨ql, cl, rfl⟩ := own_sl hrows.1
  have HDL : Hid (ds.length = m) := hidb (by have := smA_len hsma; rw [List.length_take] at this; omega)
  clear hrows hsma hbel hb1
  by_cases hml : m < kids.length
  · have hmb : (m : Int) < (kids.length : Int) := by omega
    have hmz : (0 : Int) ≤ (m : Int) := by omega
    have hmw : IntKind.i64.wrap ((m : Int) + 1) = (m : Int) + 1 := by rw [IntKind.wrap_i64]; omega
    obtain ⟨b, o, rfl, hat⟩ := kid_at (in_below HB.out HIN.out) (by omega)
    obtain ⟨k', n', f', s', a', c', kids', hu, hin', c0, c1, c2, c3, c4⟩ := hat m hml
    have IH := hidb (HK.out _ (List.mem_of_getElem? hu) wr hin' (smallAll_get HSM.out (List.mem_of_getElem? hu)))
    simp only [Tr.val, Tr.cells] at IH
    have HU := hidb hu
    have hwl : w.heap.size + 2 ≤ wr.heap.size := by have := HBB.out.size; simpa using this
    clear hat hu hin'
    go_wp2_with (first
      | (go_at_call 14; refine IH.out.mono ?_; rintro e w2 ⟨⟨k2, n2, f2, s2, a2, c2', kids2⟩, rfl, hst, hti, hb2⟩; have HST := hidb hst; have HTO := hidb (told_off HR.out hwl hti); have HR2 := hidb (HR.out.keep hb2); have HB2 := hidb (HBB.out.trans (hb2.mono hwl)); have hw2 : w.heap.size + 2 ≤ w2.heap.size := Nat.le_trans hwl hb2.size; clear hst hti hb2 IH)
      | (at_builtin; refine wpList_append_own_at _ rfl _ _ 22 rfl (w.heap.size + 2) 27 i0 (.agg #[.int .i64 0, .int .i64 0, .float .f64 0, .string ⟨#[]⟩, .slice none 0 0]) 5 64 Try.underlying22 hi hz0 hz1 hz2 rfl (by decide) (.slice ql ds.length cl) ds.length (ds.flatMap Tr.cells) rfl ?e1 ⟨w2.heap.size, 0, none⟩ 1 1 [.int .i64 k2, .int .i64 n2, .float .f64 f2, .string s2, .slice a2 kids2.length c2'] rfl rfl ?e6 ?e2 ?e3 ?e4 ?e5 ?_))
    case e1 => exact HR2.out.1.alloc _
    case e6 => exact World.news_of_block ((MapKept.heap_alloc w2 _).1)
    case e2 => simp [Value.oneCell']
    case e3 => have := HDL.out; unfold maxLen; omega
    case e4 => have := HDL.out; omega
    case e5 => simp; omega
    intro v' w4 hown' hgrow hnil hat
    have HR4 := hidb (TRows.append (t := .mk k2 n2 f2 s2 a2 c2' kids2) (HR2.out.keep (below_new w2 _)) hown' hgrow (by simpa using hat) (in_over (fun p v _ hv => ((below_new w2 _).cell (World.block_lt_of_cell? _ _ hv)).trans hv) _ HTO.out.1) (on_mono (fun q hq => ⟨hq.1, Nat.lt_of_lt_of_le hq.2.1 (below_new w2 _).size, hq.2.2⟩) _ HTO.out.2))
    have HB4 := hidb (HB2.out.trans (((below_new w2 _).mono hw2).trans ((grown_but hgrow).below (Nat.le_trans hw2 (below_new w2 _).size) (fun q hq => (ownsRow_lt HR2.out.1 q hq).1))))
    obtain ⟨q4, c4', rfl⟩ := own_sl hown'
    clear hown' hgrow hnil hat
    go_wp2_with fail
    go_roundw
    case rel => exact ⟨m + 1, ds ++ [.mk k2 n2 f2 s2 a2 c2' kids2], by omega, by go_num, HR4.out, by rw [List.take_add_one, HU.out]; exact smA_snoc HST.out _ _ HS.out, HB4.out⟩
    case measure => simp [RowKit.intOf]; omega
  · obtain rfl : m = kids.length := by omega
    have hmn : ¬ (kids.length : Int) < (kids.length : Int) := by omega
    rw [List.take_length] at HS
    obtain ⟨x1, x2, x3, x4, -⟩ := hwf.out
    obtain ⟨a2, c2, e2, ht⟩ := rows_tree HR.out k n f s x1 x2 x3 x4
    have BZ := Box.new (w.alloc (.cells #[.int .i64 k, .int .i64 n, .float .f64 f, .string s, .slice a kids.length c] 27)) 27 (.int .i64 0) (.int .i64 0) (.float .f64 0) (.string ⟨#[]⟩) (.slice none 0 0)
    rw [show (w.alloc (.cells #[.int .i64 k, .int .i64 n, .float .f64 f, .string s, .slice a kids.length c] 27)).heap.size = w.heap.size + 1 by simp] at BZ
    have hl2 : w.heap.size + 1 < w.heap.size + 2 := by omega
    have r0 := (HBB.out.cell (p := ⟨w.heap.size + 1, 0, none⟩) hl2).trans BZ.c0
    have r1 := (HBB.out.cell (p := ⟨w.heap.size + 1, 1, none⟩) hl2).trans BZ.c1
    have r2 := (HBB.out.cell (p := ⟨w.heap.size + 1, 2, none⟩) hl2).trans BZ.c2
    have r3 := (HBB.out.cell (p := ⟨w.heap.size + 1, 3, none⟩) hl2).trans BZ.c3
    have r4 := (HBB.out.cell (p := ⟨w.heap.size + 1, 4, none⟩) hl2).trans BZ.c4
    have g0 := (HBB.out.frozen (p := ⟨w.heap.size + 1, 0, none⟩) hl2).trans BZ.f0
    have g1 := (HBB.out.frozen (p := ⟨w.heap.size + 1, 1, none⟩) hl2).trans BZ.f1
    have g2 := (HBB.out.frozen (p := ⟨w.heap.size + 1, 2, none⟩) hl2).trans BZ.f2
    have g3 := (HBB.out.frozen (p := ⟨w.heap.size + 1, 3, none⟩) hl2).trans BZ.f3
    have g4 := (HBB.out.frozen (p := ⟨w.heap.size + 1, 4, none⟩) hl2).trans BZ.f4
    have HT := hidb ht
    have HE2 := hidb e2
    clear BZ hl2 ht e2 x1 x2 x3 x4
    go_wp2_with fail
    obtain ⟨rfl, -, rfl⟩ : ql = a2 ∧ True ∧ cl = c2 := by have := HE2.out; simp at this; exact ⟨this.1, trivial, this.2⟩
    have hA : w.heap.size < w.heap.size + 2 := by omega
    have hB : w.heap.size + 1 < w.heap.size + 2 := by omega
    exact bodyPost_ret (v := .agg #[.int .i64 k, .int .i64 n, .float .f64 f, .string s, .slice ql ds.length cl]) (by simp [results, Try.results14, go_sem, r0, r1, r2, r3, r4]) rfl ⟨.mk k n f s ql cl ds, rfl, by unfold Sm; exact ⟨rfl, rfl, rfl, rfl, HS.out⟩, in_base (by omega) _ (in_set (in_set (in_set (in_set (in_set (in_set HT.out (p := ⟨w.heap.size, 4, none⟩) hA _) (p := ⟨w.heap.size + 1, 0, none⟩) hB _) (p := ⟨w.heap.size + 1, 1, none⟩) hB _) (p := ⟨w.heap.size + 1, 2, none⟩) hB _) (p := ⟨w.heap.size + 1, 3, none⟩) hB _) (p := ⟨w.heap.size + 1, 4, none⟩) hB _), (((((HB.out.setCell (p := ⟨w.heap.size, 4, none⟩) (Nat.le_refl _) _).setCell (p := ⟨w.heap.size + 1, 0, none⟩) (Nat.le_succ _) _).setCell (p := ⟨w.heap.size + 1, 1, none⟩) (Nat.le_succ _) _).setCell (p := ⟨w.heap.size + 1, 2, none⟩) (Nat.le_succ _) _).setCell (p := ⟨w.heap.size + 1, 3, none⟩) (Nat.le_succ _) _).setCell (p := ⟨w.heap.size + 1, 4, none⟩) (Nat.le_succ _) _⟩
end Go.Proofs.Ytggpbfmdhenjdaa


