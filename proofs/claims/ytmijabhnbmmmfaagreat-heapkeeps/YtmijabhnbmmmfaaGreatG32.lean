import Derived.Test.YtmijabhnbmmmfaaGreatG31
/- read. -/
namespace Go.Proofs.YtmijabhnbmmmfaaGreat
open Go.RowKit Go.Deep
attribute [local go_sem] store_float f64bits f64frombits
attribute [local go_sem ↓] Go.wp_at_zero Go.wp_at_succ

/-- What reading a word promises. -/
def RdOk (hb ab most : Nat) (ws : List Int) (L : List ByteArray) (F : List Nat) (a : Option Addr) (c : Nat) (t : Tr) (u : Int) : Prop :=
  ∀ w, HP w hb ab most ws L F a c → Calls Tryz.prog 38 #[.pointer (some ⟨hb, 0, none⟩), .int .u64 u] w fun e w' => ∃ t', e = .returned t'.val ∧ Same t t' ∧ t'.In w' w.heap.size ∧ Below w.heap.size w w'

set_option maxHeartbeats 1600000 in
theorem read_alone {hb ab most : Nat} {ws : List Int} {L : List ByteArray} {F : List Nat} {a : Option Addr} {c : Nat} {t : Tr} {u : Int} (h0 : 0 ≤ u) (h1 : u ≤ 18446744073709551615) (hr : wRightB u = true) (ht : tagI u = 1 ∨ tagI u = 2 ∨ tagI u = 3 ∨ tagI u = 4)
    (hs : Same t (.mk (aloneK u) (aloneN u) 0 (aloneS L u) none 0 [])) (hk : (Lit.int .i64 (aloneK u)).wf = true) (hn : (Lit.int .i64 (aloneN u)).wf = true) (hz : (aloneS L u).size ≤ maxLen) : RdOk hb ab most ws L F a c t u := by
  intro w hp
  have AL := hidb (fun w' (hb' : Below w.heap.size w w') => alone_ok (hp.keep hb') u h0 h1 hr ht)
  have PT := hidb (points_any u h0 h1)
  have e : ptB u = false := by unfold ptB; rcases ht with h | h | h | h <;> rw [h] <;> rfl
  rw [e] at PT
  clear hp e
  have HS := hidb hs
  have HK := hidb hk
  have HN := hidb hn
  have HZ := hidb hz
  clear hs hk hn hz
  generalize aloneK u = K at *
  generalize aloneN u = N at *
  generalize aloneS L u = S at *
  generalize aloneB L u = Bo at *
  go_enter Tryz.func38, Tryz.ntmps38
  go_wp2_with (go_at_call 51; refine (PT.out _).mono ?_; rintro e w' ⟨rfl, hw'⟩; obtain rfl := hw'.symm)
  refine (AL.out _ (below_new _ _)).mono ?_
  rintro e w1 ⟨rfl, hb1⟩
  have HB := hidb (below_in hb1)
  have RB := (Box.new w 44 (.int .i64 0) (.int .i64 0) (.float .f64 0) (.string ⟨#[]⟩) (.slice none 0 0)).keep hb1
  have RB2 := RB.alloc (.cells #[.int .i64 K, .int .i64 N, .float .f64 0, .string S, .slice none 0 0] 44)
  obtain ⟨d0, d1, d2, d3, d4, g0, g1, g2, g3, g4, ltr⟩ := RB2
  clear hb1 RB AL PT
  go_wp2
  refine bodyPost_ret (v := .agg #[.int .i64 K, .int .i64 N, .float .f64 0, .string S, .slice none 0 0]) (by simp [results, Tryz.results38, go_sem, d0, d1, d2, d3, d4]) rfl ⟨.mk K N 0 S none 0 [], rfl, HS.out, ?_, below_set5 (below_a0 HB.out _) (Nat.le_refl _) _ _ _ _ _⟩
  unfold Tr.In
  exact ⟨⟨HK.out, HN.out, by decide, HZ.out, by simp, by omega, fun _ => rfl⟩, fun ad h => by simp at h⟩
end Go.Proofs.YtmijabhnbmmmfaaGreat


/- Rows of terms, kept and made longer. -/
namespace Go.Proofs.YtmijabhnbmmmfaaGreat
open Go.RowKit Go.Deep

/-- What lies there lies in its blocks, from the base on. -/
theorem on_in {w : World} {base : Nat} : ∀ t : Tr, t.In w base → t.On (fun b => b < w.heap.size ∧ base ≤ b) := by
  refine Tr.ind fun k n f s a c kids hk h => ?_
  have hall := on_all (.mk k n f s a c kids) h
  unfold Tr.On at hall ⊢
  have h' := h
  unfold Tr.In at h'
  refine ⟨fun h0 ad had => ⟨hall.1 h0 ad had, (h'.2 ad had).1⟩, ?_⟩
  have : ∀ l : List Tr, (∀ t, t ∈ l → t ∈ kids) → Tr.OnAll (fun b => b < w.heap.size ∧ base ≤ b) l := by
    intro l
    induction l with
    | nil => intro _; unfold Tr.OnAll; trivial
    | cons t r ih =>
      intro hl
      unfold Tr.OnAll
      refine ⟨?_, ih fun u hu => hl u (List.mem_cons_of_mem _ hu)⟩
      have ht := hl t (List.mem_cons_self ..)
      obtain ⟨j, hj⟩ := List.getElem?_of_mem ht
      refine hk t ht ?_
      cases a with
      | none =>
        have h0 := h'.1.2.2.2.2.2.2 rfl
        have h1 := h'.1.2.2.2.2.1
        have := get_lt hj
        omega
      | some ad => exact (inAll_get (h'.2 ad rfl).2 j t hj).2
  exact this kids fun t h => h

theorem in_mono {w : World} {base base' : Nat} (hb : base' ≤ base) : ∀ t : Tr, t.In w base → t.In w base' := by
  refine Tr.ind fun k n f s a c kids hk h => ?_
  unfold Tr.In at h ⊢
  refine ⟨h.1, fun ad had => ⟨Nat.le_trans hb (h.2 ad had).1, inAll_of fun j t hj => ?_⟩⟩
  have g := inAll_get (h.2 ad had).2 j t hj
  refine ⟨fun i hi => ?_, hk t (List.mem_of_getElem? hj) g.2⟩
  rw [add_add]
  exact g.1 i hi

theorem rows_nil (w : World) (base : Nat) : Rows w base (.slice none 0 0) [] := ⟨⟨rfl, Or.inl ⟨rfl, rfl⟩⟩, fun t h => by simp at h⟩

theorem ownsRow_block {w w' : World} {base : Nat} {e : TypeId} {v : Value} {n : Nat} {xs : List Value} (h : w.ownsRow base e 5 v n xs) (hb : ∀ g, v.ownBlock = some g → w'.heap[g]? = w.heap[g]?) : w'.ownsRow base e 5 v n xs := by
  obtain ⟨hl, h | ⟨g, cap, cur, rfl, h1, h2, h3, h4, h5, h6⟩⟩ := h
  · exact ⟨hl, Or.inl h⟩
  · exact ⟨hl, Or.inr ⟨g, cap, cur, rfl, h1, (hb g rfl).trans h2, h3, h4, h5, h6⟩⟩

theorem ownsRow_lt {w : World} {base : Nat} {e : TypeId} {v : Value} {n : Nat} {xs : List Value} (h : w.ownsRow base e 5 v n xs) (g : Nat) (hg : v.ownBlock = some g) : base ≤ g ∧ g < w.heap.size := by
  obtain ⟨_, ⟨rfl, _⟩ | ⟨g', cap, cur, rfl, h1, h2, _⟩⟩ := h
  · simp [Value.ownBlock] at hg
  · obtain rfl : g' = g := by simpa [Value.ownBlock] using hg
    refine ⟨h1, ?_⟩
    rcases Nat.lt_or_ge g' w.heap.size with q | q
    · exact q
    · rw [Array.getElem?_eq_none q] at h2; cases h2

/-- Behind a change of blocks ahead of the base, and new ones. -/
theorem Rows.low {w w' : World} {base : Nat} {v : Value} {ds : List Tr} (h : Rows w base v ds) (hs : w.heap.size ≤ w'.heap.size) (hb : ∀ b, base ≤ b → b < w.heap.size → w'.heap[b]? = w.heap[b]?) : Rows w' base v ds := by
  refine ⟨ownsRow_block h.1 (fun g hg => by have := ownsRow_lt h.1 g hg; exact hb g this.1 this.2), fun t ht => ?_⟩
  obtain ⟨h1, h2⟩ := h.2 t ht
  exact ⟨in_on (fun b hS => hb b hS.2.2 hS.2.1) t h1 h2, on_mono (fun b hS => ⟨hS.1, by omega, hS.2.2⟩) t h2⟩

theorem Rows.keep {w w' : World} {base : Nat} {v : Value} {ds : List Tr} (h : Rows w base v ds) (hb : Below w.heap.size w w') : Rows w' base v ds := h.low hb.size (fun b _ hl => hb.block b hl)

theorem Rows.set {w : World} {base : Nat} {v : Value} {ds : List Tr} (h : Rows w base v ds) {p : Addr} (hp : p.block < base) (u : Value) : Rows (w.setCell p u) base v ds :=
  h.low (by simp [World.setCell]) (fun b hb _ => Below.heap_setCell _ _ _ _ (by omega))

/-- Behind a Grow. -/
theorem Rows.grow {w w' : World} {base : Nat} {v v' : Value} {ds : List Tr} (h : Rows w base v ds) (ho : w'.ownsRow base 44 5 v' ds.length (ds.flatMap Tr.cells)) (hv : v'.ownBlock = v.ownBlock ∨ v'.ownBlock = some w.heap.size) (hb : Below w.heap.size w w') : Rows w' base v' ds := by
  have h' := h.keep hb
  refine ⟨ho, fun t ht => ⟨(h'.2 t ht).1, on_mono (fun b hS => ⟨?_, by have := hb.size; omega, hS.2.2⟩) t (h.2 t ht).2⟩⟩
  rcases hv with e | e
  · rw [e]; exact hS.1
  · rw [e]; intro q; have := Option.some.inj q; omega

/-- Behind an append of one more. -/
theorem Rows.append {w w' : World} {base : Nat} {v v' : Value} {ds : List Tr} {t : Tr} (h : Rows w base v ds) (ho : w'.ownsRow base 44 5 v' (ds.length + 1) (ds.flatMap Tr.cells ++ t.cells)) (hg : w.grownBy w' v.ownBlock) (hv : v'.ownBlock = v.ownBlock ∨ v'.ownBlock = some w.heap.size) (ht : t.In w base) (hn : t.On (fun b => v.ownBlock ≠ some b ∧ b < w.heap.size ∧ base ≤ b)) : Rows w' base v' (ds ++ [t]) := by
  have hall : ∀ u, u ∈ ds ++ [t] → u.In w base ∧ u.On (fun b => v.ownBlock ≠ some b ∧ b < w.heap.size ∧ base ≤ b) := by
    intro u hu
    rcases List.mem_append.1 hu with hu | hu
    · exact h.2 u hu
    · obtain rfl : u = t := by simpa using hu
      exact ⟨ht, hn⟩
  refine ⟨?_, fun u hu => ?_⟩
  · rw [List.length_append, List.flatMap_append]
    simpa using ho
  · obtain ⟨h1, h2⟩ := hall u hu
    refine ⟨in_on (fun b hS => hg.block b hS.2.1 (fun e => hS.1 e.symm)) u h1 h2, on_mono (fun b hS => ⟨?_, by have := hg.size; omega, hS.2.2⟩) u h2⟩
    rcases hv with e | e
    · rw [e]; exact hS.1
    · rw [e]; intro q; have := Option.some.inj q; omega
end Go.Proofs.YtmijabhnbmmmfaaGreat


