import Derived.Test.YtceigdeoefhcfaaGreatG05
import Derived.Deep.RegionWith
/- A key dropped below a root. -/
namespace Go.Proofs.YtceigdeoefhcfaaGreat
open Go.RowKit Go.Lib
namespace MV
attribute [local go_sem] store_float f64bits
attribute [local go_sem ↓] Go.wp_at_zero Go.wp_at_succ

/-- What 'without' tells. -/
def WoutR (w : World) (D : Nat → Prop) (t : Avt) (key : Int) (e : Ending) (w' : World) : Prop :=
  ∃ p' t', e = .returned (.pointer p') ∧ IsT w' D p' t' ∧ t'.avl ∧ t'.ord = delL key t.ord ∧ t.ht - 1 ≤ t'.ht ∧ t'.ht ≤ t.ht ∧ Below w.heap.size w w'

theorem IsT.mem {w : World} {D : Nat → Prop} : ∀ {p : Option Addr} {t : Avt}, IsT w D p t → ∀ x ∈ t.nod, ∃ x0 x1 x2, Bxv w x.1 x0 x1 x2 (.int .i64 x.2.1) x.2.2 ∧ D x.1
  | _, .leaf, _, x, hx => by simp [Avt.nod] at hx
  | _, .node b l h k v r, ⟨pl, pr, _, hd, hb, h1, h2⟩, x, hx => by
    simp only [Avt.nod, List.mem_append, List.mem_cons] at hx
    rcases hx with hx | rfl | hx
    · exact IsT.mem h1 x hx
    · exact ⟨_, _, _, hb, hd⟩
    · exact IsT.mem h2 x hx

theorem Avt.tell_mem {key : Int} : ∀ {t : Avt}, ∀ x ∈ t.tell key, x ∈ t.nod
  | .leaf, x, hx => by simp [Avt.tell] at hx
  | .node b l h k v r, x, hx => by
    simp only [tell_node, List.mem_append] at hx
    simp only [Avt.nod, List.mem_append, List.mem_cons]
    rcases hx with (hx | hx) | hx
    · split at hx
      · exact .inl (Avt.tell_mem x hx)
      · simp at hx
    · split at hx
      · exact .inr (.inl (by simpa using hx))
      · simp at hx
    · exact .inr (.inr (Avt.tell_mem x hx))

/-- Keys that an int can be. -/
def Wfk (l : List KV) : Prop := ∀ x ∈ l, (-9223372036854775808 : Int) ≤ x.1

theorem Avt.tell_min {t : Avt} (hr : Rise t.ord) (hw : Wfk t.ord) : (t.tell (-9223372036854775808)).map (fun x => x.2) = t.ord := by
  rw [Avt.tell_is _ hr, filter_all (fun x hx => by simpa using hw x hx)]

set_option maxRecDepth 100000 in
set_option maxHeartbeats 4000000 in
theorem without_any (t : Avt) : ∀ {w : World} {D : Nat → Prop} {p : Option Addr} {key : Int}, (∀ k, w.heap.size ≤ k → D k) → IsT w D p t → t.avl → Rise t.ord → Wfk t.ord → (getL key t.ord).isSome = true → t.ord.length ≤ 10000000 →
    Calls Tryz.prog 60 #[.pointer p, .int .i64 key] w (WoutR w D t key) := by
  induction t with
  | leaf =>
    intro w D p key hD ht _ _ _ hg _
    cases hg
  | node b l h k v0 r ihl ihr =>
    intro w D p key hD ht ha hr hwf hg hN
    obtain ⟨pl, pr, rfl, hDb, hx, h1, h2⟩ := ht
    obtain ⟨al, ar, eh, f1, f2⟩ := ha
    rw [ord_node] at hr hN hg hwf
    have hrn := rise_node hr
    have wfl : Wfk l.ord := fun x hx => hwf x (by simp [hx])
    have wfr : Wfk r.ord := fun x hx => hwf x (by simp [hx])
    simp only [List.length_append, List.length_cons] at hN
    have L1 := al.ht_le
    have L2 := ar.ht_le
    have L3 := al.ht_nonneg
    have L4 := ar.ht_nonneg
    have HD0 : Below w.heap.size w w.drew := (Below.refl _ _).drew
    have k3 := hx.c3
    have k0 := hx.c0
    have k1 := hx.c1
    rcases Int.lt_trichotomy key k with hk | hk | hk
    · skip
      have HS0 : Hid (w.drew.cell? ⟨b, 0, none⟩ = some (.pointer pl) ∧ w.drew.cell? ⟨b, 1, none⟩ = some (.pointer pr)) := hidb ⟨(hx.keep HD0).c0, (hx.keep HD0).c1⟩
      have C1 : Hid (Calls Tryz.prog 60 #[.pointer pl, .int .i64 key] w.drew fun e w1 => ∃ p1, e = .returned (.pointer p1) ∧ Hid (w1.cell? ⟨b, 0, none⟩ = some (.pointer pl) ∧ w1.cell? ⟨b, 1, none⟩ = some (.pointer pr)) ∧ Hid (Calls Tryz.prog 59 #[.pointer (some ⟨b, 0, none⟩), .pointer p1, .pointer pr] w1 fun e w2 => ∃ b2, e = .returned (.pointer (some ⟨b2, 0, none⟩)) ∧ Hid (w2.cell? ⟨b, 0, none⟩ = some (.pointer pl) ∧ w2.cell? ⟨b, 1, none⟩ = some (.pointer pr)) ∧ Hid (WoutR w D (.node b l h k v0 r) key (.returned (.pointer (some ⟨b2, 0, none⟩))) w2))) := by
        refine hidb ((ihl (w := w.drew) hD (h1.keep HD0) al hrn.1 wfl (by rw [← getL_left hr hk]; exact hg) (by omega)).mono ?_)
        rintro e w1 ⟨p1, t1, rfl, g1, a1, o1, i1, i2, q1⟩
        have q1' : Below w.heap.size w w1 := HD0.trans q1
        have z1 := a1.ht_nonneg
        refine ⟨p1, rfl, hidb ⟨(hx.keep q1').c0, (hx.keep q1').c1⟩, hidb ((bal_any (w := w1) (fun k hk => hD k (Nat.le_trans q1'.size hk)) (hx.keep q1') g1 (h2.keep q1') a1 ar (by omega) (by omega) (by omega) (by omega)).mono ?_)⟩
        rintro e w2 ⟨b2, t2, rfl, g2, a2, o2, i3, i4, i5, q2⟩
        have q2' : Below w.heap.size w w2 := q1'.trans (q2.mono q1'.size)
        refine ⟨b2, rfl, hidb ⟨(hx.keep q2').c0, (hx.keep q2').c1⟩, hidb ⟨_, t2, rfl, g2, a2, by rw [o2, o1, ord_node, del_left hr hk], ?_, ?_, q2'⟩⟩
        · rw [ht_node]; by_cases z : r.ht - t1.ht ≤ 1
          · have := i5 (by omega) z; omega
          · omega
        · rw [ht_node]; by_cases z : r.ht - t1.ht ≤ 1
          · have := i5 (by omega) z; omega
          · omega
      clear hx h1 h2 hD HD0 ihl ihr al ar hrn hr hN L1 L2 L3 L4 f1 f2 eh wfl wfr hg hwf
      go_enter Tryz.func60, Tryz.ntmps60
      go_wp2_with fail
      go_region_held3 (fun w' => w'.cell? ⟨b, 0, none⟩ = some (.pointer pl) ∧ w'.cell? ⟨b, 1, none⟩ = some (.pointer pr)) (first | with_reducible exact HS0.out | with_reducible exact HS1.out | with_reducible exact HS2.out) (first
        | (go_at_call 60; refine C1.out.mono ?_; clear C1; rintro e w1 ⟨p1, rfl, HS1, C2⟩)
        | (go_at_call 59; refine C2.out.mono ?_; clear C2; rintro e w2 ⟨b2, rfl, HS2, HT⟩))
      go_wp2_with fail
      go_ret
      exact HT.out
    · subst hk
      cases r with
      | leaf =>
        obtain rfl : pr = none := h2
        have HR := hidb hr
        have HX := hidb h1
        have HA := hidb al
        have HE : Hid (h = 1 + l.ht) := hidb (by have : Avt.leaf.ht = 0 := rfl; omega)
        clear hx h1 hD HD0 ihl ihr al ar hrn hr hN L1 L2 L3 L4 f1 f2 eh wfl wfr hg hwf
        go_enter Tryz.func60, Tryz.ntmps60
        go_wp2_with fail
        go_ret
        exact ⟨pl, l, rfl, HX.out, HA.out, by rw [ord_node, del_here HR.out]; simp [Avt.ord], by rw [ht_node, HE.out]; omega, by rw [ht_node, HE.out]; omega, Below.refl _ _⟩
      | node rb rl rh rk rv rr =>
        obtain ⟨prl, prr, rfl, hDr, hxr, h3, h4⟩ := h2
        have hR : IsT w D (some ⟨rb, 0, none⟩) (.node rb rl rh rk rv rr) := ⟨prl, prr, rfl, hDr, hxr, h3, h4⟩
        clear h3 h4 hxr
        have hor : (Avt.node rb rl rh rk rv rr).ord = rl.ord ++ (rk, rv) :: rr.ord := rfl
        generalize Avt.node rb rl rh rk rv rr = r at *
        have hne : r.ord ≠ [] := by rw [hor]; simp
        clear hor
        have htm := Avt.tell_min hrn.2.1 wfr
        have CF : Hid (Calls Tryz.prog 56 #[.pointer (some ⟨rb, 0, none⟩)] w fun e w0 => ∃ (bx : Nat) (kx : Int), e = .returned (.pointer (some ⟨bx, 0, none⟩)) ∧ w0.cell? ⟨b, 0, none⟩ = some (.pointer pl) ∧ w0.cell? ⟨b, 1, none⟩ = some (.pointer (some ⟨rb, 0, none⟩)) ∧ Hid (w0.drew.cell? ⟨b, 0, none⟩ = some (.pointer pl) ∧ w0.drew.cell? ⟨b, 1, none⟩ = some (.pointer (some ⟨rb, 0, none⟩)) ∧ w0.drew.cell? ⟨bx, 3, none⟩ = some (.int .i64 kx)) ∧ Hid (Calls Tryz.prog 60 #[.pointer (some ⟨rb, 0, none⟩), .int .i64 kx] w0.drew fun e w1 => ∃ p1, e = .returned (.pointer p1) ∧ Hid (w1.cell? ⟨b, 0, none⟩ = some (.pointer pl) ∧ w1.cell? ⟨b, 1, none⟩ = some (.pointer (some ⟨rb, 0, none⟩)) ∧ w1.cell? ⟨bx, 3, none⟩ = some (.int .i64 kx)) ∧ Hid (Calls Tryz.prog 59 #[.pointer (some ⟨bx, 0, none⟩), .pointer pl, .pointer p1] w1 fun e w2 => ∃ b2, e = .returned (.pointer (some ⟨b2, 0, none⟩)) ∧ Hid (w2.cell? ⟨b, 0, none⟩ = some (.pointer pl) ∧ w2.cell? ⟨b, 1, none⟩ = some (.pointer (some ⟨rb, 0, none⟩)) ∧ w2.cell? ⟨bx, 3, none⟩ = some (.int .i64 kx)) ∧ Hid (WoutR w D (.node b l h key v0 r) key (.returned (.pointer (some ⟨b2, 0, none⟩))) w2)))) := by
          refine hidb ((first_any hR).mono ?_)
          rintro e w0 ⟨hb0, (⟨rfl, h0⟩ | ⟨⟨bx, kx, vx⟩, xs, rfl, hcons⟩)⟩
          · rw [h0] at htm; exact absurd htm.symm hne
          obtain ⟨x0, x1, x2, hbx, hDx⟩ := hR.mem (bx, kx, vx) (Avt.tell_mem _ (by rw [hcons]; simp))
          rw [hcons] at htm
          simp only [List.map_cons] at htm
          have hdr : delL kx r.ord = xs.map (fun x => x.2) := by
            rw [← htm]
            have hrr := hrn.2.1
            rw [← htm] at hrr
            exact del_here (A := []) hrr
          have q0 : Below w.heap.size w w0.drew := hb0.drew
          refine ⟨bx, kx, rfl, (hx.keep hb0).c0, (hx.keep hb0).c1, hidb ⟨(hx.keep q0).c0, (hx.keep q0).c1, (hbx.keep q0).c3⟩, hidb ((ihr (w := w0.drew) (fun k hk => hD k (Nat.le_trans q0.size hk)) (hR.keep q0) ar hrn.2.1 wfr (by rw [← htm]; simp [getL]) (by omega)).mono ?_)⟩
          rintro e w1 ⟨p1, t1, rfl, g1, a1, o1, i1, i2, q1⟩
          have q1' : Below w.heap.size w w1 := q0.trans (q1.mono q0.size)
          have z1 := a1.ht_nonneg
          refine ⟨p1, rfl, hidb ⟨(hx.keep q1').c0, (hx.keep q1').c1, (hbx.keep q1').c3⟩, hidb ((bal_any (w := w1) (fun k hk => hD k (Nat.le_trans q1'.size hk)) (hbx.keep q1') (h1.keep q1') g1 al a1 (by omega) (by omega) (by omega) (by omega)).mono ?_)⟩
          rintro e w2 ⟨b2, t2, rfl, g2, a2, o2, i3, i4, i5, q2⟩
          have q2' : Below w.heap.size w w2 := q1'.trans (q2.mono q1'.size)
          refine ⟨b2, rfl, hidb ⟨(hx.keep q2').c0, (hx.keep q2').c1, (hbx.keep q2').c3⟩, hidb ⟨_, t2, rfl, g2, a2, by rw [o2, o1, hdr, ord_node, del_here hr, ← htm], ?_, ?_, q2'⟩⟩
          · rw [ht_node]; by_cases z : l.ht - t1.ht ≤ 1
            · have := i5 z (by omega); omega
            · omega
          · rw [ht_node]; by_cases z : l.ht - t1.ht ≤ 1
            · have := i5 z (by omega); omega
            · omega
        clear hx h1 hR hD HD0 ihl ihr al ar hrn hr hN L1 L2 L3 L4 f1 f2 eh wfl wfr hg hwf htm hne
        go_enter Tryz.func60, Tryz.ntmps60
        go_wp2_with (go_at_call 56; refine CF.out.mono ?_; clear CF; rintro e w0 ⟨bx, kx, rfl, m0, m1, HS0, C1⟩)
        go_region_held3 (fun w' => w'.cell? ⟨b, 0, none⟩ = some (.pointer pl) ∧ w'.cell? ⟨b, 1, none⟩ = some (.pointer (some ⟨rb, 0, none⟩)) ∧ w'.cell? ⟨bx, 3, none⟩ = some (.int .i64 kx)) (first | with_reducible exact HS0.out | with_reducible exact HS1.out | with_reducible exact HS2.out) (first
          | (go_at_call 60; refine C1.out.mono ?_; clear C1; rintro e w1 ⟨p1, rfl, HS1, C2⟩)
          | (go_at_call 59; refine C2.out.mono ?_; clear C2; rintro e w2 ⟨b2, rfl, HS2, HT⟩))
        go_wp2_with fail
        go_ret
        exact HT.out
    · have n2 : ¬ key < k := by omega
      have HS0 : Hid (w.drew.cell? ⟨b, 0, none⟩ = some (.pointer pl) ∧ w.drew.cell? ⟨b, 1, none⟩ = some (.pointer pr)) := hidb ⟨(hx.keep HD0).c0, (hx.keep HD0).c1⟩
      have C1 : Hid (Calls Tryz.prog 60 #[.pointer pr, .int .i64 key] w.drew fun e w1 => ∃ p1, e = .returned (.pointer p1) ∧ Hid (w1.cell? ⟨b, 0, none⟩ = some (.pointer pl) ∧ w1.cell? ⟨b, 1, none⟩ = some (.pointer pr)) ∧ Hid (Calls Tryz.prog 59 #[.pointer (some ⟨b, 0, none⟩), .pointer pl, .pointer p1] w1 fun e w2 => ∃ b2, e = .returned (.pointer (some ⟨b2, 0, none⟩)) ∧ Hid (w2.cell? ⟨b, 0, none⟩ = some (.pointer pl) ∧ w2.cell? ⟨b, 1, none⟩ = some (.pointer pr)) ∧ Hid (WoutR w D (.node b l h k v0 r) key (.returned (.pointer (some ⟨b2, 0, none⟩))) w2))) := by
        refine hidb ((ihr (w := w.drew) hD (h2.keep HD0) ar hrn.2.1 wfr (by rw [← getL_right hr hk]; exact hg) (by omega)).mono ?_)
        rintro e w1 ⟨p1, t1, rfl, g1, a1, o1, i1, i2, q1⟩
        have q1' : Below w.heap.size w w1 := HD0.trans q1
        have z1 := a1.ht_nonneg
        refine ⟨p1, rfl, hidb ⟨(hx.keep q1').c0, (hx.keep q1').c1⟩, hidb ((bal_any (w := w1) (fun k hk => hD k (Nat.le_trans q1'.size hk)) (hx.keep q1') (h1.keep q1') g1 al a1 (by omega) (by omega) (by omega) (by omega)).mono ?_)⟩
        rintro e w2 ⟨b2, t2, rfl, g2, a2, o2, i3, i4, i5, q2⟩
        have q2' : Below w.heap.size w w2 := q1'.trans (q2.mono q1'.size)
        refine ⟨b2, rfl, hidb ⟨(hx.keep q2').c0, (hx.keep q2').c1⟩, hidb ⟨_, t2, rfl, g2, a2, by rw [o2, o1, ord_node, del_right hr hk], ?_, ?_, q2'⟩⟩
        · rw [ht_node]; by_cases z : l.ht - t1.ht ≤ 1
          · have := i5 z (by omega); omega
          · omega
        · rw [ht_node]; by_cases z : l.ht - t1.ht ≤ 1
          · have := i5 z (by omega); omega
          · omega
      clear hx h1 h2 hD HD0 ihl ihr al ar hrn hr hN L1 L2 L3 L4 f1 f2 eh wfl wfr hg hwf
      go_enter Tryz.func60, Tryz.ntmps60
      go_wp2_with fail
      go_region_held3 (fun w' => w'.cell? ⟨b, 0, none⟩ = some (.pointer pl) ∧ w'.cell? ⟨b, 1, none⟩ = some (.pointer pr)) (first | with_reducible exact HS0.out | with_reducible exact HS1.out | with_reducible exact HS2.out) (first
        | (go_at_call 60; refine C1.out.mono ?_; clear C1; rintro e w1 ⟨p1, rfl, HS1, C2⟩)
        | (go_at_call 59; refine C2.out.mono ?_; clear C2; rintro e w2 ⟨b2, rfl, HS2, HT⟩))
      go_wp2_with fail
      go_ret
      exact HT.out

end MV
end Go.Proofs.YtceigdeoefhcfaaGreat


/- The tree's own methods. -/
namespace Go.Proofs.YtceigdeoefhcfaaGreat
open Go.RowKit Go.Lib
namespace MV
attribute [local go_sem] store_float f64bits
attribute [local go_sem ↓] Go.wp_at_zero Go.wp_at_succ

theorem ins_len {key : Int} {v : Hf} {l : List KV} (h : Rise l) : (insL key v l).length = if (getL key l).isSome = true then l.length else l.length + 1 := by
  obtain ⟨A, B, rfl, h1, h2⟩ := split_at (key := key) h
  rw [ins_split h h1 h2, getL_split h h1 h2]
  cases B with
  | nil => simp
  | cons x r => by_cases e : x.1 = key <;> simp [e]; omega

theorem del_len {key : Int} {l : List KV} (h : Rise l) (hs : (getL key l).isSome = true) : (delL key l).length + 1 = l.length := by
  obtain ⟨A, B, rfl, h1, h2⟩ := split_at (key := key) h
  rw [getL_split h h1 h2] at hs
  cases B with
  | nil => simp at hs
  | cons x r =>
    by_cases e : x.1 = key
    · obtain ⟨a, b⟩ := x
      simp only at e
      subst e
      rw [del_here h]; simp; omega
    · simp [e] at hs

theorem del_of_none {key : Int} {l : List KV} (hs : getL key l = none) : delL key l = l := by
  refine del_none (fun x hx e => ?_)
  have : (getL key l).isSome = true := getL_isSome.2 ⟨x, hx, e⟩
  rw [hs] at this; cases this

theorem wf_ins {key : Int} {v : Hf} {l : List KV} (h : Wfk l) (hk : -9223372036854775808 ≤ key) : Wfk (insL key v l) := by
  intro x hx
  simp only [insL, List.mem_append, List.mem_cons, List.mem_filter] at hx
  rcases hx with hx | rfl | hx
  · exact h x hx.1
  · exact hk
  · exact h x hx.1
theorem wf_del {key : Int} {l : List KV} (h : Wfk l) : Wfk (delL key l) := fun x hx => h x (List.mem_filter.1 hx).1

/-- Two neighbouring cells of a block. -/
structure Pai (w : World) (b o : Nat) (v0 v1 : Value) : Prop where
  c0 : w.cell? ⟨b, o, none⟩ = some v0
  c1 : w.cell? ⟨b, o + 1, none⟩ = some v1
  f0 : w.frozen? ⟨b, o, none⟩ = false
  f1 : w.frozen? ⟨b, o + 1, none⟩ = false
  lt : b < w.heap.size
theorem Pai.but {S : Nat → Prop} {w w' : World} {b o : Nat} {v0 v1 : Value} (h : Pai w b o v0 v1) (hb : But S w w') (hs : ¬ S b) : Pai w' b o v0 v1 :=
  ⟨(hb.cell h.lt hs).trans h.c0, (hb.cell h.lt hs).trans h.c1, (hb.frozen h.lt hs).trans h.f0, (hb.frozen h.lt hs).trans h.f1, Nat.lt_of_lt_of_le h.lt hb.size⟩
theorem Pai.keep {w w' : World} {b o : Nat} {v0 v1 : Value} (h : Pai w b o v0 v1) (hb : Below w.heap.size w w') : Pai w' b o v0 v1 :=
  h.but (But.of_below (S := fun _ => False) hb) (fun h => h)
theorem Pai.set0 {w : World} {b o : Nat} {v0 v1 : Value} (h : Pai w b o v0 v1) (u : Value) : Pai (w.setCell ⟨b, o, none⟩ u) b o u v1 :=
  ⟨World.cell?_setCell_same _ _ _ h.c0, by rw [World.cell?_setCell_other _ _ _ _ (ne_off _ _ _ (by omega))]; exact h.c1, by rw [World.frozen?_setCell]; exact h.f0, by rw [World.frozen?_setCell]; exact h.f1, by simp [World.setCell]; exact h.lt⟩
theorem Pai.set1 {w : World} {b o : Nat} {v0 v1 : Value} (h : Pai w b o v0 v1) (u : Value) : Pai (w.setCell ⟨b, o + 1, none⟩ u) b o v0 u :=
  ⟨by rw [World.cell?_setCell_other _ _ _ _ (ne_off _ _ _ (by omega))]; exact h.c0, World.cell?_setCell_same _ _ _ h.c1, by rw [World.frozen?_setCell]; exact h.f0, by rw [World.frozen?_setCell]; exact h.f1, by simp [World.setCell]; exact h.lt⟩

/-- A tree in memory, at tb: it has these keys; its nodes lie in blocks of D. -/
def TB (w : World) (tb o : Nat) (D : Nat → Prop) (L : List KV) : Prop :=
  ∃ p t, Pai w tb o (.pointer p) (.int .i64 (L.length : Int)) ∧ IsT w D p t ∧ t.avl ∧ Rise L ∧ Wfk L ∧ t.ord = L ∧ ¬ D tb

theorem TB.but {S D : Nat → Prop} {w w' : World} {tb o : Nat} {L : List KV} (h : TB w tb o D L) (hb : But S w w') (hs : ∀ k, D k → ¬ S k) (ht : ¬ S tb) : TB w' tb o D L := by
  obtain ⟨p, t, h1, h2, h3⟩ := h
  exact ⟨p, t, h1.but hb ht, h2.but hb hs, h3⟩
theorem TB.keep {D : Nat → Prop} {w w' : World} {tb o : Nat} {L : List KV} (h : TB w tb o D L) (hb : Below w.heap.size w w') : TB w' tb o D L := h.but (S := fun _ => False) (But.of_below hb) (fun _ _ h => h) (fun h => h)
theorem TB.rise {D : Nat → Prop} {w : World} {tb o : Nat} {L : List KV} (h : TB w tb o D L) : Rise L := by obtain ⟨_, _, _, _, _, h, _⟩ := h; exact h
theorem TB.wf {D : Nat → Prop} {w : World} {tb o : Nat} {L : List KV} (h : TB w tb o D L) : Wfk L := by obtain ⟨_, _, _, _, _, _, h, _⟩ := h; exact h
theorem TB.lt {D : Nat → Prop} {w : World} {tb o : Nat} {L : List KV} (h : TB w tb o D L) : tb < w.heap.size := by obtain ⟨_, _, h, _⟩ := h; exact h.lt
theorem TB.mono {D D' : Nat → Prop} {w : World} {tb o : Nat} {L : List KV} (h : TB w tb o D L) (hd : ∀ k, D k → D' k) (ht : ¬ D' tb) : TB w tb o D' L := by
  obtain ⟨p, t, h1, h2, h3, h4, h5, h6, _⟩ := h
  exact ⟨p, t, h1, h2.mono hd, h3, h4, h5, h6, ht⟩

/-- Blocks of D, and those that are new since w. -/
def Nw (D : Nat → Prop) (w w' : World) (k : Nat) : Prop := D k ∨ (w.heap.size ≤ k ∧ k < w'.heap.size)

theorem IsT.cut {w : World} {D D' : Nat → Prop} (hd : ∀ k, D k → k < w.heap.size → D' k) : ∀ {p : Option Addr} {t : Avt}, IsT w D p t → IsT w D' p t
  | _, .leaf, h => h
  | _, .node _ _ _ _ _ _, ⟨pl, pr, hp, h0, hx, h1, h2⟩ => ⟨pl, pr, hp, hd _ h0 hx.lt, hx, IsT.cut hd h1, IsT.cut hd h2⟩

/-- What else lies in the tree's block stays. -/
def Rst (tb o : Nat) (w w' : World) : Prop := ∀ q, q ≠ o → q ≠ o + 1 → w'.cell? ⟨tb, q, none⟩ = w.cell? ⟨tb, q, none⟩ ∧ w'.frozen? ⟨tb, q, none⟩ = w.frozen? ⟨tb, q, none⟩
theorem Rst.refl (tb o : Nat) (w : World) : Rst tb o w w := fun _ _ _ => ⟨rfl, rfl⟩

/-- What lies behind a new root, and a new count. -/
theorem TB.fin {w w1 : World} {tb o : Nat} {D : Nat → Prop} {p0 p : Option Addr} {m : Value} {t : Avt} {L : List KV} (hd : Pai w1 tb o (.pointer p0) m) (hb : Below w.heap.size w w1) (ht : IsT w1 (fun k => D k ∨ w.heap.size ≤ k) p t) (ha : t.avl) (ho : t.ord = L) (hr : Rise L) (hw : Wfk L) (hD : ¬ D tb) (hl : tb < w.heap.size) :
    TB ((w1.setCell ⟨tb, o, none⟩ (.pointer p)).setCell ⟨tb, o + 1, none⟩ (.int .i64 (L.length : Int))) tb o (Nw D w ((w1.setCell ⟨tb, o, none⟩ (.pointer p)).setCell ⟨tb, o + 1, none⟩ (.int .i64 (L.length : Int)))) L ∧ But (fun k => k = tb) w ((w1.setCell ⟨tb, o, none⟩ (.pointer p)).setCell ⟨tb, o + 1, none⟩ (.int .i64 (L.length : Int))) ∧ Rst tb o w ((w1.setCell ⟨tb, o, none⟩ (.pointer p)).setCell ⟨tb, o + 1, none⟩ (.int .i64 (L.length : Int))) := by
  have hb2 : But (fun k => k = tb) w1 ((w1.setCell ⟨tb, o, none⟩ (.pointer p)).setCell ⟨tb, o + 1, none⟩ (.int .i64 (L.length : Int))) := ((But.refl (fun k => k = tb) w1).setCell (p := ⟨tb, o, none⟩) (fun _ => rfl) _).setCell (p := ⟨tb, o + 1, none⟩) (fun _ => rfl) _
  refine ⟨⟨p, t, (hd.set0 _).set1 _, ?_, ha, hr, hw, ho, ?_⟩, (But.of_below hb).trans hb2, fun q hq hq1 => ⟨by rw [World.cell?_setCell_other _ _ _ _ (ne_off _ _ _ (by omega)), World.cell?_setCell_other _ _ _ _ (ne_off _ _ _ (by omega))]; exact hb.cell hl, by rw [World.frozen?_setCell, World.frozen?_setCell]; exact hb.frozen hl⟩⟩
  · refine IsT.cut (D := fun k => D k ∨ w.heap.size ≤ k) (fun k h1 h2 => h1.elim .inl (fun h => .inr ⟨h, h2⟩)) (ht.but hb2 (fun k hk e => ?_))
    subst e
    rcases hk with h | h
    · exact hD h
    · omega
  · rintro (h | ⟨h, _⟩)
    · exact hD h
    · omega

theorem setCell_self {w : World} {p : Addr} {v : Value} (h : w.cell? p = some v) (hs : p.spot = none) : w.setCell p v = w := by
  obtain ⟨b, o, s⟩ := p
  simp only at hs
  subst hs
  unfold World.cell? at h
  simp only at h
  have e : w.heap.modify b (fun x => match x with | .cells c elem frozen => Obj.cells (c.setIfInBounds o v) elem frozen | o => o) = w.heap := by
    apply Array.ext
    · simp
    · intro i h1 h2
      rw [Array.getElem_modify]
      split
      · rename_i hb
        subst hb
        rw [Array.getElem?_eq_getElem h2] at h
        split at h
        · rename_i c elem frozen heq
          have hq : w.heap[b] = .cells c elem frozen := by simpa using heq
          rw [hq]
          simp only [Option.isSome_none, Bool.false_eq_true, if_false] at h
          obtain ⟨ho, hv⟩ := Array.getElem?_eq_some_iff.1 h
          subst hv
          have e2 : c.setIfInBounds o c[o] = c := by
            apply Array.ext
            · simp
            · intro i h3 h4
              rw [Array.getElem_setIfInBounds (by simpa using h4)]
              split
              · rename_i hh; subst hh; rfl
              · rfl
          simp [e2]
        · cases h
      · rfl
  exact congrArg (fun hp => ({ w with heap := hp } : World)) e

theorem setCell_set0 {w : World} {tb o : Nat} {p : Value} {m : Value} (h : w.cell? ⟨tb, o + 1, none⟩ = some m) : (w.setCell ⟨tb, o, none⟩ p).setCell ⟨tb, o + 1, none⟩ m = w.setCell ⟨tb, o, none⟩ p :=
  setCell_self (by rw [World.cell?_setCell_other _ _ _ _ (ne_off _ _ _ (by omega))]; exact h) rfl

set_option maxRecDepth 100000 in
set_option maxHeartbeats 2000000 in
theorem put_any {w : World} {tb o : Nat} {D : Nat → Prop} {L : List KV} (h : TB w tb o D L) (hN : L.length < 10000000) (key : Int) (v : Hf) (hk : -9223372036854775808 ≤ key) :
    Calls Tryz.prog 34 #[.pointer (some ⟨tb, o, none⟩), .int .i64 key, .agg #[.int .i64 v.a, .int .i64 v.b, .string v.c]] w fun e w' => e = .returned (.bool (!(getL key L).isSome)) ∧ TB w' tb o (Nw D w w') (insL key v L) ∧ But (fun k => k = tb) w w' ∧ Rst tb o w w' := by
  obtain ⟨p, t, hd, ht, ha, hr, hw, rfl, hD⟩ := h
  have hl := hd.lt
  have CW : Hid (Calls Tryz.prog 50 #[.pointer p, .int .i64 key, .agg #[.int .i64 v.a, .int .i64 v.b, .string v.c]] (w.alloc (.cells #[.int .i64 v.a, .int .i64 v.b, .string v.c] 40)).drew fun e w1 => ∃ b', e = .returned (.pointer (some ⟨b', 0, none⟩)) ∧ Pai w1 tb o (.pointer p) (.int .i64 (t.ord.length : Int)) ∧ Hid ((∃ t', IsT w1 (fun k => D k ∨ w.heap.size ≤ k) (some ⟨b', 0, none⟩) t' ∧ t'.avl ∧ t'.ord = insL key v t.ord) ∧ Below w.heap.size w w1)) := by
    refine hidb ((with_any key v t (w := (w.alloc (.cells #[.int .i64 v.a, .int .i64 v.b, .string v.c] 40)).drew) (D := fun k => D k ∨ w.heap.size ≤ k) (fun k hk => .inr (Nat.le_trans (below_new w (.cells #[.int .i64 v.a, .int .i64 v.b, .string v.c] 40)).size hk)) ((ht.keep ((below_new w (.cells #[.int .i64 v.a, .int .i64 v.b, .string v.c] 40)).drew)).mono (fun k hk => .inl hk)) ha hr (by omega)).mono ?_)
    rintro e w1 ⟨b', t', rfl, g1, g2, g3, _, _, hb9⟩
    have hb : Below w.heap.size w w1 := (below_new w (.cells #[.int .i64 v.a, .int .i64 v.b, .string v.c] 40)).drew.trans (hb9.mono (below_new w (.cells #[.int .i64 v.a, .int .i64 v.b, .string v.c] 40)).drew.size)
    exact ⟨b', rfl, hd.keep hb, hidb ⟨⟨t', g1, g2, g3⟩, hb⟩⟩
  have HF := hidb (find_any (ht.keep (below_new w (.cells #[.int .i64 v.a, .int .i64 v.b, .string v.c] 40))) hr key)
  have HL := hidb (ins_len (key := key) (v := v) hr)
  have HWI := hidb (wf_ins (v := v) hw hk)
  have HRI := hidb (rise_ins (k := key) (v := v) hr)
  have k0 := (hd.keep (below_new w (.cells #[.int .i64 v.a, .int .i64 v.b, .string v.c] 40))).c0
  have hwr : wrap64 ((t.ord.length : Int) + 1) = (t.ord.length : Int) + 1 := by unfold wrap64; omega
  have HDD := hidb hD
  have HLT := hidb hl
  clear hd ht ha hr hw hk hN hD hl
  cases hg : getL key t.ord with
  | none =>
    rw [hg] at HF HL
    go_enter Tryz.func34, Tryz.ntmps34
    go_wp2_with (first
      | (go_at_call 48; refine HF.out.mono ?_; clear HF; rintro e w' ⟨rfl, q, rfl, (⟨rfl, -⟩ | ⟨b, v', x0, x1, x2, rfl, hbx, hgg⟩)⟩; rotate_left; exact absurd hgg (by simp)))
    go_region_with (go_at_call 50; refine CW.out.mono ?_; rintro e w1 ⟨b', rfl, hd1, HT⟩; have m0 := hd1.c0; have m1 := hd1.c1; have m2 := hd1.f0; have m3 := hd1.f1)
    all_goals go_wp2_with fail
    all_goals (
      obtain ⟨⟨t', g1, g2, g3⟩, hb⟩ := HT.out
      have hll : (insL key v t.ord).length = t.ord.length + 1 := HL.out
      have e5 : ((t.ord.length : Int) + 1) = ((insL key v t.ord).length : Int) := by rw [hll]; rfl
      go_ret
      rw [e5]
      exact ⟨rfl, TB.fin hd1 hb g1 g2 g3 HRI.out HWI.out HDD.out HLT.out⟩)
  | some v1 =>
    rw [hg] at HF HL
    go_enter Tryz.func34, Tryz.ntmps34
    go_wp2_with (first
      | (go_at_call 48; refine HF.out.mono ?_; clear HF; rintro e w' ⟨rfl, q, rfl, (⟨rfl, hgg⟩ | ⟨b, v', x0, x1, x2, rfl, -, -⟩)⟩; exact absurd hgg (by simp)))
    go_region_with (go_at_call 50; refine CW.out.mono ?_; rintro e w1 ⟨b', rfl, hd1, HT⟩; have m0 := hd1.c0; have m1 := hd1.c1; have m2 := hd1.f0; have m3 := hd1.f1)
    all_goals go_wp2_with fail
    all_goals (
      obtain ⟨⟨t', g1, g2, g3⟩, hb⟩ := HT.out
      have hll : (insL key v t.ord).length = t.ord.length := HL.out
      have hq := TB.fin hd1 hb g1 g2 g3 HRI.out HWI.out HDD.out HLT.out
      rw [hll, setCell_set0 m1] at hq
      go_ret
      exact ⟨rfl, hq⟩)

end MV
end Go.Proofs.YtceigdeoefhcfaaGreat


