import Derived.Test.YtmijabhnbmmmfaaGreatG32
/- Terms that are the same; rows of terms. -/
namespace Go.Proofs.YtmijabhnbmmmfaaGreat
open Go.RowKit Go.Deep

mutual
/-- The same term, elsewhere. -/
def Same : Tr → Tr → Prop
  | .mk k n f s _ _ ks, .mk k' n' f' s' _ _ ks' => k = k' ∧ n = n' ∧ f = f' ∧ s = s' ∧ SameAll ks ks'
def SameAll : List Tr → List Tr → Prop
  | [], [] => True
  | t :: r, t' :: r' => Same t t' ∧ SameAll r r'
  | [], _ :: _ => False
  | _ :: _, [] => False
end

theorem sameAll_snoc {t t' : Tr} (h : Same t t') : ∀ (l l' : List Tr), SameAll l l' → SameAll (l ++ [t]) (l' ++ [t'])
  | [], [], _ => by simp only [List.nil_append]; unfold SameAll; exact ⟨h, by unfold SameAll; trivial⟩
  | u :: r, u' :: r', hl => by
    unfold SameAll at hl
    simp only [List.cons_append]
    unfold SameAll
    exact ⟨hl.1, sameAll_snoc h r r' hl.2⟩
  | [], _ :: _, hl => by unfold SameAll at hl; exact hl.elim
  | _ :: _, [], hl => by unfold SameAll at hl; exact hl.elim

theorem sameAll_len : ∀ (l l' : List Tr), SameAll l l' → l.length = l'.length
  | [], [], _ => rfl
  | u :: r, u' :: r', hl => by
    unfold SameAll at hl
    simp only [List.length_cons, sameAll_len r r' hl.2]
  | [], _ :: _, hl => by unfold SameAll at hl; exact hl.elim
  | _ :: _, [], hl => by unfold SameAll at hl; exact hl.elim

/-- A row of terms that is the call's own; none of them lies in the row's own block. -/
def Rows (w : World) (base : Nat) (v : Value) (ds : List Tr) : Prop :=
  w.ownsRow base 44 5 v ds.length (ds.flatMap Tr.cells) ∧ ∀ t, t ∈ ds → t.In w base ∧ t.On (fun b => v.ownBlock ≠ some b ∧ b < w.heap.size ∧ base ≤ b)

/-- What lies in blocks that stay lies there still. -/
theorem in_on {w w' : World} {base : Nat} {S : Nat → Prop} (hs : ∀ b, S b → w'.heap[b]? = w.heap[b]?) : ∀ t : Tr, t.In w base → t.On S → t.In w' base := by
  refine Tr.ind fun k n f s a c kids hk h ho => ?_
  unfold Tr.In at h ⊢
  unfold Tr.On at ho
  refine ⟨h.1, fun ad had => ⟨(h.2 ad had).1, inAll_of fun j t hj => ?_⟩⟩
  have g := inAll_get (h.2 ad had).2 j t hj
  have hpos : 0 < kids.length := by have := get_lt hj; omega
  have hS := ho.1 hpos ad had
  refine ⟨fun i hi => ?_, hk t (List.mem_of_getElem? hj) g.2 (onAll_get ho.2 (List.mem_of_getElem? hj))⟩
  rw [add_add]
  rw [← g.1 i hi]
  refine World.cell?_of_block (w := w) ?_
  have e : (ad.add (j * 5 + i)).block = ad.block := by unfold Addr.add; split <;> rfl
  rw [e]
  exact hs _ hS

theorem on_mono {S S' : Nat → Prop} (h : ∀ b, S b → S' b) : ∀ t : Tr, t.On S → t.On S' := by
  refine Tr.ind fun k n f s a c kids hk ho => ?_
  unfold Tr.On at ho ⊢
  refine ⟨fun h0 ad had => h _ (ho.1 h0 ad had), ?_⟩
  have : ∀ l : List Tr, (∀ t, t ∈ l → t ∈ kids) → Tr.OnAll S l → Tr.OnAll S' l := by
    intro l
    induction l with
    | nil => intro _ _; unfold Tr.OnAll; trivial
    | cons t r ih =>
      intro hl hx
      unfold Tr.OnAll at hx ⊢
      exact ⟨hk t (hl t (List.mem_cons_self ..)) hx.1, ih (fun u hu => hl u (List.mem_cons_of_mem _ hu)) hx.2⟩
  exact this kids (fun t h => h) ho.2

theorem flat_get : ∀ (ds : List Tr) (j : Nat) (t : Tr), ds[j]? = some t → ∀ i, i < 5 → (ds.flatMap Tr.cells)[j * 5 + i]? = t.cells[i]? := by
  intro ds
  induction ds with
  | nil => intro j t h; simp at h
  | cons u r ih =>
    intro j t h i hi
    have hu : u.cells.length = 5 := by cases u; rfl
    simp only [List.flatMap_cons]
    rcases j with _ | j
    · obtain rfl : u = t := by simpa using h
      rw [List.getElem?_append_left (by omega)]
      simp
    · rw [List.getElem?_append_right (by omega), hu]
      have e : (j + 1) * 5 + i - 5 = j * 5 + i := by omega
      rw [e]
      exact ih j t (by simpa using h) i hi

theorem flat_len (ds : List Tr) : (ds.flatMap Tr.cells).length = ds.length * 5 := by
  induction ds with
  | nil => rfl
  | cons u r ih =>
    have hu : u.cells.length = 5 := by cases u; rfl
    simp only [List.flatMap_cons, List.length_append, List.length_cons, ih, hu]
    omega

/-- A term of such a row. -/
theorem rows_tree {w : World} {base : Nat} {v : Value} {ds : List Tr} (h : Rows w base v ds) (k n : Int) (f : Nat) (s : ByteArray) (hk : (Lit.int .i64 k).wf = true) (hn : (Lit.int .i64 n).wf = true) (hf : (Lit.float .f64 f).wf = true) (hs : s.size ≤ maxLen) :
    ∃ a c, v = .slice a ds.length c ∧ (Tr.mk k n f s a c ds).In w base := by
  obtain ⟨⟨hlen, ⟨rfl, h0⟩ | ⟨g, cap, cur, rfl, hbg, hobj, hnc, hcm, hcs, htk⟩⟩, hin⟩ := h
  · have e : ds = [] := List.length_eq_zero_iff.1 h0
    subst e
    refine ⟨none, 0, rfl, ?_⟩
    unfold Tr.In
    exact ⟨⟨hk, hn, hf, hs, by simp, by omega, fun _ => rfl⟩, fun ad h => by simp at h⟩
  · refine ⟨some ⟨g, 0, none⟩, cap, rfl, ?_⟩
    unfold Tr.In
    refine ⟨⟨hk, hn, hf, hs, hnc, hcm, fun h => by simp at h⟩, fun ad had => ?_⟩
    obtain rfl : (⟨g, 0, none⟩ : Addr) = ad := by simpa using had
    refine ⟨hbg, inAll_of fun j t hj => ⟨fun i hi => ?_, (hin t (List.mem_of_getElem? hj)).1⟩⟩
    have e : ((⟨g, 0, none⟩ : Addr).add (j * 5)).add i = ⟨g, j * 5 + i, none⟩ := by
      rw [add_add]
      unfold Addr.add
      split
      · rename_i h0; rw [h0]
      · simp
    rw [e, Joins.cell_of_block hobj, ← flat_get ds j t hj i hi, ← htk]
    have hjl := get_lt hj
    rw [List.getElem?_take]
    rw [if_pos (by omega)]
    simp
end Go.Proofs.YtmijabhnbmmmfaaGreat


/- read. -/
namespace Go.Proofs.YtmijabhnbmmmfaaGreat
open Go.RowKit Go.Deep
attribute [local go_sem] store_float f64bits f64frombits
attribute [local go_sem ↓] Go.wp_at_zero Go.wp_at_succ

/-- What reading a word promises. -/
def RdOk (hb ab most : Nat) (ws : List Int) (L : List ByteArray) (F : List Nat) (a : Option Addr) (c : Nat) (t : Tr) (u : Int) : Prop :=
  ∀ w, HP w hb ab most ws L F a c → Calls Tryz.prog 38 #[.pointer (some ⟨hb, 0, none⟩), .int .u64 u] w fun e w' => ∃ t', e = .returned t'.val ∧ Same t t' ∧ t'.In w' w.heap.size ∧ Below w.heap.size w w'

set_option maxHeartbeats 1600000 in
theorem read_alone {hb ab most : Nat} {ws : List Int} {L : List ByteArray} {F : List Nat} {a : Option Addr} {c : Nat} {t : Tr} {u : Int} (h0 : 0 ≤ u) (h1 : u ≤ 18446744073709551615) (hr : wRightB u = true) (ht : tagI u = 1 ∨ tagI u = 2 ∨ tagI u = 3 ∨ tagI u = 4)
    (hs : Same t (.mk (aloneK u) (aloneN u) 0 (aloneS L u) none 0 [])) (hk : (Lit.int .i64 (aloneK u)).wf = true) (hn : (Lit.int .i64 (aloneN u)).wf = true) (hz : (aloneS L u).size ≤ maxLen) : RdOk hb ab most ws L F a c t u := by
  intro w hp
  have AL := hidb (fun w' (hb' : Below w.heap.size w w') => alone_ok (hp.keep hb') u h0 h1 hr ht)
  have PT := hidb (points_any u h0 h1)
  have e : ptB u = false := by unfold ptB; rcases ht with h | h | h | h <;> rw [h] <;> rfl
  rw [e] at PT
  clear hp e
  have HS := hidb hs
  have HK := hidb hk
  have HN := hidb hn
  have HZ := hidb hz
  clear hs hk hn hz
  generalize aloneK u = K at *
  generalize aloneN u = N at *
  generalize aloneS L u = S at *
  generalize aloneB L u = Bo at *
  go_enter Tryz.func38, Tryz.ntmps38
  go_wp2_with (go_at_call 51; refine (PT.out _).mono ?_; rintro e w' ⟨rfl, hw'⟩; obtain rfl := hw'.symm)
  refine (AL.out _ (below_new _ _)).mono ?_
  rintro e w1 ⟨rfl, hb1⟩
  have HB := hidb (below_in hb1)
  have RB := (Box.new w 44 (.int .i64 0) (.int .i64 0) (.float .f64 0) (.string ⟨#[]⟩) (.slice none 0 0)).keep hb1
  have RB2 := RB.alloc (.cells #[.int .i64 K, .int .i64 N, .float .f64 0, .string S, .slice none 0 0] 44)
  obtain ⟨d0, d1, d2, d3, d4, g0, g1, g2, g3, g4, ltr⟩ := RB2
  clear hb1 RB AL PT
  go_wp2
  refine bodyPost_ret (v := .agg #[.int .i64 K, .int .i64 N, .float .f64 0, .string S, .slice none 0 0]) (by simp [results, Tryz.results38, go_sem, d0, d1, d2, d3, d4]) rfl ⟨.mk K N 0 S none 0 [], rfl, HS.out, ?_, below_set5 (below_a0 HB.out _) (Nat.le_refl _) _ _ _ _ _⟩
  unfold Tr.In
  exact ⟨⟨HK.out, HN.out, by decide, HZ.out, by simp, by omega, fun _ => rfl⟩, fun ad h => by simp at h⟩
end Go.Proofs.YtmijabhnbmmmfaaGreat


