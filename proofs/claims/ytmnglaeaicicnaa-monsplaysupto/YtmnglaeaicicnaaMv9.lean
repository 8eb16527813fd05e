/- The tree's own methods. -/
import Derived.Test.YtmnglaeaicicnaaMv8
import Derived.Deep.RegionWith
namespace Go.Proofs.Ytmnglaeaicicnaa
open Go.RowKit Go.Lib
namespace MV
attribute [local go_sem ↓] Go.wp_at_zero Go.wp_at_succ

theorem ins_len {key : Int} {v : Hf} {l : List KV} (h : Rise l) : (insL key v l).length = if (getL key l).isSome = true then l.length else l.length + 1 := by
  obtain ⟨A, B, rfl, h1, h2⟩ := split_at (key := key) h
  rw [ins_split h h1 h2, getL_split h h1 h2]
  cases B with
  | nil => simp
  | cons x r => by_cases e : x.1 = key <;> simp [e]; omega

theorem del_len {key : Int} {l : List KV} (h : Rise l) (hs : (getL key l).isSome = true) : (delL key l).length + 1 = l.length := by
  obtain ⟨A, B, rfl, h1, h2⟩ := split_at (key := key) h
  rw [getL_split h h1 h2] at hs
  cases B with
  | nil => simp at hs
  | cons x r =>
    by_cases e : x.1 = key
    · obtain ⟨a, b⟩ := x
      simp only at e
      subst e
      rw [del_here h]; simp; omega
    · simp [e] at hs

theorem del_of_none {key : Int} {l : List KV} (hs : getL key l = none) : delL key l = l := by
  refine del_none (fun x hx e => ?_)
  have : (getL key l).isSome = true := getL_isSome.2 ⟨x, hx, e⟩
  rw [hs] at this; cases this

theorem wf_ins {key : Int} {v : Hf} {l : List KV} (h : Wfk l) (hk : -9223372036854775808 ≤ key) : Wfk (insL key v l) := by
  intro x hx
  simp only [insL, List.mem_append, List.mem_cons, List.mem_filter] at hx
  rcases hx with hx | rfl | hx
  · exact h x hx.1
  · exact hk
  · exact h x hx.1
theorem wf_del {key : Int} {l : List KV} (h : Wfk l) : Wfk (delL key l) := fun x hx => h x (List.mem_filter.1 hx).1

/-- Two neighbouring cells of a block. -/
structure Pai (w : World) (b o : Nat) (v0 v1 : Value) : Prop where
  c0 : w.cell? ⟨b, o, none⟩ = some v0
  c1 : w.cell? ⟨b, o + 1, none⟩ = some v1
  f0 : w.frozen? ⟨b, o, none⟩ = false
  f1 : w.frozen? ⟨b, o + 1, none⟩ = false
  lt : b < w.heap.size
theorem Pai.but {S : Nat → Prop} {w w' : World} {b o : Nat} {v0 v1 : Value} (h : Pai w b o v0 v1) (hb : But S w w') (hs : ¬ S b) : Pai w' b o v0 v1 :=
  ⟨(hb.cell h.lt hs).trans h.c0, (hb.cell h.lt hs).trans h.c1, (hb.frozen h.lt hs).trans h.f0, (hb.frozen h.lt hs).trans h.f1, Nat.lt_of_lt_of_le h.lt hb.size⟩
theorem Pai.keep {w w' : World} {b o : Nat} {v0 v1 : Value} (h : Pai w b o v0 v1) (hb : Below w.heap.size w w') : Pai w' b o v0 v1 :=
  h.but (But.of_below (S := fun _ => False) hb) (fun h => h)
theorem Pai.set0 {w : World} {b o : Nat} {v0 v1 : Value} (h : Pai w b o v0 v1) (u : Value) : Pai (w.setCell ⟨b, o, none⟩ u) b o u v1 :=
  ⟨World.cell?_setCell_same _ _ _ h.c0, by rw [World.cell?_setCell_other _ _ _ _ (ne_off _ _ _ (by omega))]; exact h.c1, by rw [World.frozen?_setCell]; exact h.f0, by rw [World.frozen?_setCell]; exact h.f1, by simp [World.setCell]; exact h.lt⟩
theorem Pai.set1 {w : World} {b o : Nat} {v0 v1 : Value} (h : Pai w b o v0 v1) (u : Value) : Pai (w.setCell ⟨b, o + 1, none⟩ u) b o v0 u :=
  ⟨by rw [World.cell?_setCell_other _ _ _ _ (ne_off _ _ _ (by omega))]; exact h.c0, World.cell?_setCell_same _ _ _ h.c1, by rw [World.frozen?_setCell]; exact h.f0, by rw [World.frozen?_setCell]; exact h.f1, by simp [World.setCell]; exact h.lt⟩

/-- A tree in memory, at tb: it has these keys; its nodes lie in blocks of D. -/
def TB (w : World) (tb o : Nat) (D : Nat → Prop) (L : List KV) : Prop :=
  ∃ p t, Pai w tb o (.pointer p) (.int .i64 (L.length : Int)) ∧ IsT w D p t ∧ t.avl ∧ Rise L ∧ Wfk L ∧ t.ord = L ∧ ¬ D tb

theorem TB.but {S D : Nat → Prop} {w w' : World} {tb o : Nat} {L : List KV} (h : TB w tb o D L) (hb : But S w w') (hs : ∀ k, D k → ¬ S k) (ht : ¬ S tb) : TB w' tb o D L := by
  obtain ⟨p, t, h1, h2, h3⟩ := h
  exact ⟨p, t, h1.but hb ht, h2.but hb hs, h3⟩
theorem TB.keep {D : Nat → Prop} {w w' : World} {tb o : Nat} {L : List KV} (h : TB w tb o D L) (hb : Below w.heap.size w w') : TB w' tb o D L := h.but (S := fun _ => False) (But.of_below hb) (fun _ _ h => h) (fun h => h)
theorem TB.rise {D : Nat → Prop} {w : World} {tb o : Nat} {L : List KV} (h : TB w tb o D L) : Rise L := by obtain ⟨_, _, _, _, _, h, _⟩ := h; exact h
theorem TB.wf {D : Nat → Prop} {w : World} {tb o : Nat} {L : List KV} (h : TB w tb o D L) : Wfk L := by obtain ⟨_, _, _, _, _, _, h, _⟩ := h; exact h
theorem TB.lt {D : Nat → Prop} {w : World} {tb o : Nat} {L : List KV} (h : TB w tb o D L) : tb < w.heap.size := by obtain ⟨_, _, h, _⟩ := h; exact h.lt
theorem TB.mono {D D' : Nat → Prop} {w : World} {tb o : Nat} {L : List KV} (h : TB w tb o D L) (hd : ∀ k, D k → D' k) (ht : ¬ D' tb) : TB w tb o D' L := by
  obtain ⟨p, t, h1, h2, h3, h4, h5, h6, _⟩ := h
  exact ⟨p, t, h1, h2.mono hd, h3, h4, h5, h6, ht⟩

/-- Blocks of D, and those that are new since w. -/
def Nw (D : Nat → Prop) (w w' : World) (k : Nat) : Prop := D k ∨ (w.heap.size ≤ k ∧ k < w'.heap.size)

theorem IsT.cut {w : World} {D D' : Nat → Prop} (hd : ∀ k, D k → k < w.heap.size → D' k) : ∀ {p : Option Addr} {t : Avt}, IsT w D p t → IsT w D' p t
  | _, .leaf, h => h
  | _, .node _ _ _ _ _ _, ⟨pl, pr, hp, h0, hx, h1, h2⟩ => ⟨pl, pr, hp, hd _ h0 hx.lt, hx, IsT.cut hd h1, IsT.cut hd h2⟩

/-- What else lies in the tree's block stays. -/
def Rst (tb o : Nat) (w w' : World) : Prop := ∀ q, q ≠ o → q ≠ o + 1 → w'.cell? ⟨tb, q, none⟩ = w.cell? ⟨tb, q, none⟩ ∧ w'.frozen? ⟨tb, q, none⟩ = w.frozen? ⟨tb, q, none⟩
theorem Rst.refl (tb o : Nat) (w : World) : Rst tb o w w := fun _ _ _ => ⟨rfl, rfl⟩

/-- What lies behind a new root, and a new count. -/
theorem TB.fin {w w1 : World} {tb o : Nat} {D : Nat → Prop} {p0 p : Option Addr} {m : Value} {t : Avt} {L : List KV} (hd : Pai w1 tb o (.pointer p0) m) (hb : Below w.heap.size w w1) (ht : IsT w1 (fun k => D k ∨ w.heap.size ≤ k) p t) (ha : t.avl) (ho : t.ord = L) (hr : Rise L) (hw : Wfk L) (hD : ¬ D tb) (hl : tb < w.heap.size) :
    TB ((w1.setCell ⟨tb, o, none⟩ (.pointer p)).setCell ⟨tb, o + 1, none⟩ (.int .i64 (L.length : Int))) tb o (Nw D w ((w1.setCell ⟨tb, o, none⟩ (.pointer p)).setCell ⟨tb, o + 1, none⟩ (.int .i64 (L.length : Int)))) L ∧ But (fun k => k = tb) w ((w1.setCell ⟨tb, o, none⟩ (.pointer p)).setCell ⟨tb, o + 1, none⟩ (.int .i64 (L.length : Int))) ∧ Rst tb o w ((w1.setCell ⟨tb, o, none⟩ (.pointer p)).setCell ⟨tb, o + 1, none⟩ (.int .i64 (L.length : Int))) := by
  have hb2 : But (fun k => k = tb) w1 ((w1.setCell ⟨tb, o, none⟩ (.pointer p)).setCell ⟨tb, o + 1, none⟩ (.int .i64 (L.length : Int))) := ((But.refl (fun k => k = tb) w1).setCell (p := ⟨tb, o, none⟩) (fun _ => rfl) _).setCell (p := ⟨tb, o + 1, none⟩) (fun _ => rfl) _
  refine ⟨⟨p, t, (hd.set0 _).set1 _, ?_, ha, hr, hw, ho, ?_⟩, (But.of_below hb).trans hb2, fun q hq hq1 => ⟨by rw [World.cell?_setCell_other _ _ _ _ (ne_off _ _ _ (by omega)), World.cell?_setCell_other _ _ _ _ (ne_off _ _ _ (by omega))]; exact hb.cell hl, by rw [World.frozen?_setCell, World.frozen?_setCell]; exact hb.frozen hl⟩⟩
  · refine IsT.cut (D := fun k => D k ∨ w.heap.size ≤ k) (fun k h1 h2 => h1.elim .inl (fun h => .inr ⟨h, h2⟩)) (ht.but hb2 (fun k hk e => ?_))
    subst e
    rcases hk with h | h
    · exact hD h
    · omega
  · rintro (h | ⟨h, _⟩)
    · exact hD h
    · omega

theorem setCell_self {w : World} {p : Addr} {v : Value} (h : w.cell? p = some v) (hs : p.spot = none) : w.setCell p v = w := by
  obtain ⟨b, o, s⟩ := p
  simp only at hs
  subst hs
  unfold World.cell? at h
  simp only at h
  have e : w.heap.modify b (fun x => match x with | .cells c elem frozen => Obj.cells (c.setIfInBounds o v) elem frozen | o => o) = w.heap := by
    apply Array.ext
    · simp
    · intro i h1 h2
      rw [Array.getElem_modify]
      split
      · rename_i hb
        subst hb
        rw [Array.getElem?_eq_getElem h2] at h
        split at h
        · rename_i c elem frozen heq
          have hq : w.heap[b] = .cells c elem frozen := by simpa using heq
          rw [hq]
          simp only [Option.isSome_none, Bool.false_eq_true, if_false] at h
          obtain ⟨ho, hv⟩ := Array.getElem?_eq_some_iff.1 h
          subst hv
          have e2 : c.setIfInBounds o c[o] = c := by
            apply Array.ext
            · simp
            · intro i h3 h4
              rw [Array.getElem_setIfInBounds (by simpa using h4)]
              split
              · rename_i hh; subst hh; rfl
              · rfl
          simp [e2]
        · cases h
      · rfl
  exact congrArg (fun hp => ({ w with heap := hp } : World)) e

theorem setCell_set0 {w : World} {tb o : Nat} {p : Value} {m : Value} (h : w.cell? ⟨tb, o + 1, none⟩ = some m) : (w.setCell ⟨tb, o, none⟩ p).setCell ⟨tb, o + 1, none⟩ m = w.setCell ⟨tb, o, none⟩ p :=
  setCell_self (by rw [World.cell?_setCell_other _ _ _ _ (ne_off _ _ _ (by omega))]; exact h) rfl

set_option maxRecDepth 100000 in
set_option maxHeartbeats 2000000 in
theorem put_any {w : World} {tb o : Nat} {D : Nat → Prop} {L : List KV} (h : TB w tb o D L) (hN : L.length < 10000000) (key : Int) (v : Hf) (hk : -9223372036854775808 ≤ key) :
    Calls Try.prog 37 #[.pointer (some ⟨tb, o, none⟩), .int .i64 key, .agg #[.int .i64 v.a, .int .i64 v.b, .string v.c]] w fun e w' => e = .returned (.bool (!(getL key L).isSome)) ∧ TB w' tb o (Nw D w w') (insL key v L) ∧ But (fun k => k = tb) w w' ∧ Rst tb o w w' := by
  obtain ⟨p, t, hd, ht, ha, hr, hw, rfl, hD⟩ := h
  have hl := hd.lt
  have CW : Hid (Calls Try.prog 45 #[.pointer p, .int .i64 key, .agg #[.int .i64 v.a, .int .i64 v.b, .string v.c]] (w.alloc (.cells #[.int .i64 v.a, .int .i64 v.b, .string v.c] 38)).drew fun e w1 => ∃ b', e = .returned (.pointer (some ⟨b', 0, none⟩)) ∧ Pai w1 tb o (.pointer p) (.int .i64 (t.ord.length : Int)) ∧ Hid ((∃ t', IsT w1 (fun k => D k ∨ w.heap.size ≤ k) (some ⟨b', 0, none⟩) t' ∧ t'.avl ∧ t'.ord = insL key v t.ord) ∧ Below w.heap.size w w1)) := by
    refine hidb ((with_any key v t (w := (w.alloc (.cells #[.int .i64 v.a, .int .i64 v.b, .string v.c] 38)).drew) (D := fun k => D k ∨ w.heap.size ≤ k) (fun k hk => .inr (Nat.le_trans (below_new w (.cells #[.int .i64 v.a, .int .i64 v.b, .string v.c] 38)).size hk)) ((ht.keep ((below_new w (.cells #[.int .i64 v.a, .int .i64 v.b, .string v.c] 38)).drew)).mono (fun k hk => .inl hk)) ha hr (by omega)).mono ?_)
    rintro e w1 ⟨b', t', rfl, g1, g2, g3, _, _, hb9⟩
    have hb : Below w.heap.size w w1 := (below_new w (.cells #[.int .i64 v.a, .int .i64 v.b, .string v.c] 38)).drew.trans (hb9.mono (below_new w (.cells #[.int .i64 v.a, .int .i64 v.b, .string v.c] 38)).drew.size)
    exact ⟨b', rfl, hd.keep hb, hidb ⟨⟨t', g1, g2, g3⟩, hb⟩⟩
  have HF := hidb (find_any (ht.keep (below_new w (.cells #[.int .i64 v.a, .int .i64 v.b, .string v.c] 38))) hr key)
  have HL := hidb (ins_len (key := key) (v := v) hr)
  have HWI := hidb (wf_ins (v := v) hw hk)
  have HRI := hidb (rise_ins (k := key) (v := v) hr)
  have k0 := (hd.keep (below_new w (.cells #[.int .i64 v.a, .int .i64 v.b, .string v.c] 38))).c0
  have hwr : wrap64 ((t.ord.length : Int) + 1) = (t.ord.length : Int) + 1 := by unfold wrap64; omega
  have HDD := hidb hD
  have HLT := hidb hl
  clear hd ht ha hr hw hk hN hD hl
  cases hg : getL key t.ord with
  | none =>
    rw [hg] at HF HL
    go_enter Try.func37, Try.ntmps37
    go_wp2_with (first
      | (go_at_call 43; refine HF.out.mono ?_; clear HF; rintro e w' ⟨rfl, q, rfl, (⟨rfl, -⟩ | ⟨b, v', x0, x1, x2, rfl, hbx, hgg⟩)⟩; rotate_left; exact absurd hgg (by simp)))
    go_region_with (go_at_call 45; refine CW.out.mono ?_; rintro e w1 ⟨b', rfl, hd1, HT⟩; have m0 := hd1.c0; have m1 := hd1.c1; have m2 := hd1.f0; have m3 := hd1.f1)
    all_goals go_wp2_with fail
    all_goals (
      obtain ⟨⟨t', g1, g2, g3⟩, hb⟩ := HT.out
      have hll : (insL key v t.ord).length = t.ord.length + 1 := HL.out
      have e5 : ((t.ord.length : Int) + 1) = ((insL key v t.ord).length : Int) := by rw [hll]; rfl
      go_ret
      rw [e5]
      exact ⟨rfl, TB.fin hd1 hb g1 g2 g3 HRI.out HWI.out HDD.out HLT.out⟩)
  | some v1 =>
    rw [hg] at HF HL
    go_enter Try.func37, Try.ntmps37
    go_wp2_with (first
      | (go_at_call 43; refine HF.out.mono ?_; clear HF; rintro e w' ⟨rfl, q, rfl, (⟨rfl, hgg⟩ | ⟨b, v', x0, x1, x2, rfl, -, -⟩)⟩; exact absurd hgg (by simp)))
    go_region_with (go_at_call 45; refine CW.out.mono ?_; rintro e w1 ⟨b', rfl, hd1, HT⟩; have m0 := hd1.c0; have m1 := hd1.c1; have m2 := hd1.f0; have m3 := hd1.f1)
    all_goals go_wp2_with fail
    all_goals (
      obtain ⟨⟨t', g1, g2, g3⟩, hb⟩ := HT.out
      have hll : (insL key v t.ord).length = t.ord.length := HL.out
      have hq := TB.fin hd1 hb g1 g2 g3 HRI.out HWI.out HDD.out HLT.out
      rw [hll, setCell_set0 m1] at hq
      go_ret
      exact ⟨rfl, hq⟩)

end MV
end Go.Proofs.Ytmnglaeaicicnaa
