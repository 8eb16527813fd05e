/- The tree's own methods. -/
import Derived.Test.YtejjffgolipdmaaAv8
namespace Go.Proofs.Ytejjffgolipdmaa
open Go.RowKit Go.Lib
attribute [local go_sem ↓] Go.wp_at_zero Go.wp_at_succ

theorem ins_len {key v : Int} {l : List KV} (h : Rise l) : (insL key v l).length = if (getL key l).isSome = true then l.length else l.length + 1 := by
  obtain ⟨A, B, rfl, h1, h2⟩ := split_at (key := key) h
  rw [ins_split h h1 h2, getL_split h h1 h2]
  cases B with
  | nil => simp
  | cons x r => by_cases e : x.1 = key <;> simp [e]; omega

theorem del_len {key : Int} {l : List KV} (h : Rise l) (hs : (getL key l).isSome = true) : (delL key l).length + 1 = l.length := by
  obtain ⟨A, B, rfl, h1, h2⟩ := split_at (key := key) h
  rw [getL_split h h1 h2] at hs
  cases B with
  | nil => simp at hs
  | cons x r =>
    by_cases e : x.1 = key
    · obtain ⟨a, b⟩ := x
      simp only at e
      subst e
      rw [del_here h]; simp; omega
    · simp [e] at hs

theorem del_of_none {key : Int} {l : List KV} (hs : getL key l = none) : delL key l = l := by
  refine del_none (fun x hx e => ?_)
  have : (getL key l).isSome = true := getL_isSome.2 ⟨x, hx, e⟩
  rw [hs] at this; cases this

theorem wf_ins {key v : Int} {l : List KV} (h : Wfk l) (hk : -9223372036854775808 ≤ key) : Wfk (insL key v l) := by
  intro x hx
  simp only [insL, List.mem_append, List.mem_cons, List.mem_filter] at hx
  rcases hx with hx | rfl | hx
  · exact h x hx.1
  · exact hk
  · exact h x hx.1
theorem wf_del {key : Int} {l : List KV} (h : Wfk l) : Wfk (delL key l) := fun x hx => h x (List.mem_filter.1 hx).1

/-- A tree in memory, at tb: it has these keys; its nodes lie in blocks of D. -/
def TB (w : World) (tb : Nat) (D : Nat → Prop) (L : List KV) : Prop :=
  ∃ p t, Duo w tb (.pointer p) (.int .i64 (L.length : Int)) ∧ IsT w D p t ∧ t.avl ∧ Rise L ∧ Wfk L ∧ t.ord = L ∧ ¬ D tb

theorem TB.but {S D : Nat → Prop} {w w' : World} {tb : Nat} {L : List KV} (h : TB w tb D L) (hb : But S w w') (hs : ∀ k, D k → ¬ S k) (ht : ¬ S tb) : TB w' tb D L := by
  obtain ⟨p, t, h1, h2, h3⟩ := h
  exact ⟨p, t, h1.but hb ht, h2.but hb hs, h3⟩
theorem TB.keep {D : Nat → Prop} {w w' : World} {tb : Nat} {L : List KV} (h : TB w tb D L) (hb : Below w.heap.size w w') : TB w' tb D L := h.but (S := fun _ => False) (But.of_below hb) (fun _ _ h => h) (fun h => h)
theorem TB.rise {D : Nat → Prop} {w : World} {tb : Nat} {L : List KV} (h : TB w tb D L) : Rise L := by obtain ⟨_, _, _, _, _, h, _⟩ := h; exact h
theorem TB.wf {D : Nat → Prop} {w : World} {tb : Nat} {L : List KV} (h : TB w tb D L) : Wfk L := by obtain ⟨_, _, _, _, _, _, h, _⟩ := h; exact h
theorem TB.lt {D : Nat → Prop} {w : World} {tb : Nat} {L : List KV} (h : TB w tb D L) : tb < w.heap.size := by obtain ⟨_, _, h, _⟩ := h; exact h.lt
theorem TB.mono {D D' : Nat → Prop} {w : World} {tb : Nat} {L : List KV} (h : TB w tb D L) (hd : ∀ k, D k → D' k) (ht : ¬ D' tb) : TB w tb D' L := by
  obtain ⟨p, t, h1, h2, h3, h4, h5, h6, _⟩ := h
  exact ⟨p, t, h1, h2.mono hd, h3, h4, h5, h6, ht⟩

/-- Blocks of D, and those that are new since w. -/
def Nw (D : Nat → Prop) (w w' : World) (k : Nat) : Prop := D k ∨ (w.heap.size ≤ k ∧ k < w'.heap.size)

theorem IsT.cut {w : World} {D D' : Nat → Prop} (hd : ∀ k, D k → k < w.heap.size → D' k) : ∀ {p : Option Addr} {t : Avt}, IsT w D p t → IsT w D' p t
  | _, .leaf, h => h
  | _, .node _ _ _ _ _ _, ⟨pl, pr, hp, h0, hx, h1, h2⟩ => ⟨pl, pr, hp, hd _ h0 hx.lt, hx, IsT.cut hd h1, IsT.cut hd h2⟩

set_option maxHeartbeats 1000000 in
theorem new_any (w : World) : Calls Try.prog 5 #[] w fun e w' => e = .returned (.pointer (some ⟨w.heap.size, 0, none⟩)) ∧ TB w' w.heap.size (fun _ => False) [] ∧ Below w.heap.size w w' ∧ w'.heap.size = w.heap.size + 1 := by
  go_enter Try.func5, Try.ntmps5
  go_wp2_with fail
  go_ret
  exact ⟨rfl, ⟨none, .leaf, Duo.new _ _ _ _, rfl, trivial, List.Pairwise.nil, (fun _ h => by simp at h), rfl, id⟩, below_new _ _, by simp⟩

/-- What lies behind a new root, and a new count. -/
theorem TB.fin {w w1 : World} {tb : Nat} {D : Nat → Prop} {p0 p : Option Addr} {m : Value} {t : Avt} {L : List KV} (hd : Duo w1 tb (.pointer p0) m) (hb : Below w.heap.size w w1) (ht : IsT w1 (fun k => D k ∨ w.heap.size ≤ k) p t) (ha : t.avl) (ho : t.ord = L) (hr : Rise L) (hw : Wfk L) (hD : ¬ D tb) (hl : tb < w.heap.size) :
    TB ((w1.setCell ⟨tb, 0, none⟩ (.pointer p)).setCell ⟨tb, 1, none⟩ (.int .i64 (L.length : Int))) tb (Nw D w ((w1.setCell ⟨tb, 0, none⟩ (.pointer p)).setCell ⟨tb, 1, none⟩ (.int .i64 (L.length : Int)))) L ∧ But (fun k => k = tb) w ((w1.setCell ⟨tb, 0, none⟩ (.pointer p)).setCell ⟨tb, 1, none⟩ (.int .i64 (L.length : Int))) := by
  have hb2 : But (fun k => k = tb) w1 ((w1.setCell ⟨tb, 0, none⟩ (.pointer p)).setCell ⟨tb, 1, none⟩ (.int .i64 (L.length : Int))) := ((But.refl (fun k => k = tb) w1).setCell (p := ⟨tb, 0, none⟩) (fun _ => rfl) _).setCell (p := ⟨tb, 1, none⟩) (fun _ => rfl) _
  refine ⟨⟨p, t, (hd.set0 _).set1 _, ?_, ha, hr, hw, ho, ?_⟩, (But.of_below hb).trans hb2⟩
  · refine IsT.cut (D := fun k => D k ∨ w.heap.size ≤ k) (fun k h1 h2 => h1.elim .inl (fun h => .inr ⟨h, h2⟩)) (ht.but hb2 (fun k hk e => ?_))
    subst e
    rcases hk with h | h
    · exact hD h
    · omega
  · rintro (h | ⟨h, _⟩)
    · exact hD h
    · omega

theorem setCell_self {w : World} {p : Addr} {v : Value} (h : w.cell? p = some v) (hs : p.spot = none) : w.setCell p v = w := by
  obtain ⟨b, o, s⟩ := p
  simp only at hs
  subst hs
  unfold World.cell? at h
  simp only at h
  have e : w.heap.modify b (fun x => match x with | .cells c elem frozen => Obj.cells (c.setIfInBounds o v) elem frozen | o => o) = w.heap := by
    apply Array.ext
    · simp
    · intro i h1 h2
      rw [Array.getElem_modify]
      split
      · rename_i hb
        subst hb
        rw [Array.getElem?_eq_getElem h2] at h
        split at h
        · rename_i c elem frozen heq
          have hq : w.heap[b] = .cells c elem frozen := by simpa using heq
          rw [hq]
          simp only [Option.isSome_none, Bool.false_eq_true, if_false] at h
          obtain ⟨ho, hv⟩ := Array.getElem?_eq_some_iff.1 h
          subst hv
          have e2 : c.setIfInBounds o c[o] = c := by
            apply Array.ext
            · simp
            · intro i h3 h4
              rw [Array.getElem_setIfInBounds (by simpa using h4)]
              split
              · rename_i hh; subst hh; rfl
              · rfl
          simp [e2]
        · cases h
      · rfl
  exact congrArg (fun hp => ({ w with heap := hp } : World)) e

theorem setCell_set0 {w : World} {tb : Nat} {p : Value} {m : Value} (h : w.cell? ⟨tb, 1, none⟩ = some m) : (w.setCell ⟨tb, 0, none⟩ p).setCell ⟨tb, 1, none⟩ m = w.setCell ⟨tb, 0, none⟩ p :=
  setCell_self (by rw [World.cell?_setCell_other _ _ _ _ (ne_off _ _ _ (by decide))]; exact h) rfl

set_option maxRecDepth 100000 in
set_option maxHeartbeats 2000000 in
theorem put_any {w : World} {tb : Nat} {D : Nat → Prop} {L : List KV} (h : TB w tb D L) (hN : L.length < 10000000) (key v : Int) (hk : -9223372036854775808 ≤ key) :
    Calls Try.prog 10 #[.pointer (some ⟨tb, 0, none⟩), .int .i64 key, .int .i64 v] w fun e w' => e = .returned (.bool (!(getL key L).isSome)) ∧ TB w' tb (Nw D w w') (insL key v L) ∧ But (fun k => k = tb) w w' := by
  obtain ⟨p, t, hd, ht, ha, hr, hw, rfl, hD⟩ := h
  have hl := hd.lt
  have CW : Hid (Calls Try.prog 21 #[.pointer p, .int .i64 key, .int .i64 v] w fun e w1 => ∃ b', e = .returned (.pointer (some ⟨b', 0, none⟩)) ∧ Duo w1 tb (.pointer p) (.int .i64 (t.ord.length : Int)) ∧ Hid ((∃ t', IsT w1 (fun k => D k ∨ w.heap.size ≤ k) (some ⟨b', 0, none⟩) t' ∧ t'.avl ∧ t'.ord = insL key v t.ord) ∧ Below w.heap.size w w1)) := by
    refine hidb ((with_any key v t (D := fun k => D k ∨ w.heap.size ≤ k) (fun k hk => .inr hk) (ht.mono (fun k hk => .inl hk)) ha hr (by omega)).mono ?_)
    rintro e w1 ⟨b', t', rfl, g1, g2, g3, _, _, hb⟩
    exact ⟨b', rfl, hd.keep hb, hidb ⟨⟨t', g1, g2, g3⟩, hb⟩⟩
  have HF := hidb (find_any ht hr key)
  have HL := hidb (ins_len (key := key) (v := v) hr)
  have HWI := hidb (wf_ins (v := v) hw hk)
  have HRI := hidb (rise_ins (k := key) (v := v) hr)
  have k0 := hd.c0
  have hwr : wrap64 ((t.ord.length : Int) + 1) = (t.ord.length : Int) + 1 := by unfold wrap64; omega
  have HDD := hidb hD
  have HLT := hidb hl
  clear hd ht ha hr hw hk hN hD hl
  cases hg : getL key t.ord with
  | none =>
    rw [hg] at HF HL
    go_enter Try.func10, Try.ntmps10
    go_wp2_with (first
      | (go_at_call 20; refine HF.out.mono ?_; clear HF; rintro e w' ⟨rfl, q, rfl, (⟨rfl, -⟩ | ⟨b, v', x0, x1, x2, rfl, hbx, hgg⟩)⟩; rotate_left; exact absurd hgg (by simp))
      | (go_at_call 21; refine CW.out.mono ?_; clear CW; rintro e w1 ⟨b', rfl, hd1, HT⟩; have m0 := hd1.c0; have m1 := hd1.c1; have m2 := hd1.f0; have m3 := hd1.f1))
    obtain ⟨⟨t', g1, g2, g3⟩, hb⟩ := HT.out
    have hll : (insL key v t.ord).length = t.ord.length + 1 := HL.out
    have e5 : ((t.ord.length : Int) + 1) = ((insL key v t.ord).length : Int) := by rw [hll]; rfl
    go_ret
    rw [e5]
    exact ⟨rfl, TB.fin hd1 hb g1 g2 g3 HRI.out HWI.out HDD.out HLT.out⟩
  | some v1 =>
    rw [hg] at HF HL
    go_enter Try.func10, Try.ntmps10
    go_wp2_with (first
      | (go_at_call 20; refine HF.out.mono ?_; clear HF; rintro e w' ⟨rfl, q, rfl, (⟨rfl, hgg⟩ | ⟨b, v', x0, x1, x2, rfl, -, -⟩)⟩; exact absurd hgg (by simp))
      | (go_at_call 21; refine CW.out.mono ?_; clear CW; rintro e w1 ⟨b', rfl, hd1, HT⟩; have m0 := hd1.c0; have m1 := hd1.c1; have m2 := hd1.f0; have m3 := hd1.f1))
    obtain ⟨⟨t', g1, g2, g3⟩, hb⟩ := HT.out
    have hll : (insL key v t.ord).length = t.ord.length := HL.out
    have hq := TB.fin hd1 hb g1 g2 g3 HRI.out HWI.out HDD.out HLT.out
    rw [hll, setCell_set0 m1] at hq
    go_ret
    exact ⟨rfl, hq⟩

end Go.Proofs.Ytejjffgolipdmaa
