/- A key dropped below a root. -/
import Derived.Test.YtmnglaeaicicnaaMv7
namespace Go.Proofs.Ytmnglaeaicicnaa
open Go.RowKit Go.Lib
namespace MV
attribute [local go_sem ↓] Go.wp_at_zero Go.wp_at_succ

/-- What 'without' tells. -/
def WoutR (w : World) (D : Nat → Prop) (t : Avt) (key : Int) (e : Ending) (w' : World) : Prop :=
  ∃ p' t', e = .returned (.pointer p') ∧ IsT w' D p' t' ∧ t'.avl ∧ t'.ord = delL key t.ord ∧ t.ht - 1 ≤ t'.ht ∧ t'.ht ≤ t.ht ∧ Below w.heap.size w w'

theorem IsT.mem {w : World} {D : Nat → Prop} : ∀ {p : Option Addr} {t : Avt}, IsT w D p t → ∀ x ∈ t.nod, ∃ x0 x1 x2, Bxv w x.1 x0 x1 x2 (.int .i64 x.2.1) x.2.2 ∧ D x.1
  | _, .leaf, _, x, hx => by simp [Avt.nod] at hx
  | _, .node b l h k v r, ⟨pl, pr, _, hd, hb, h1, h2⟩, x, hx => by
    simp only [Avt.nod, List.mem_append, List.mem_cons] at hx
    rcases hx with hx | rfl | hx
    · exact IsT.mem h1 x hx
    · exact ⟨_, _, _, hb, hd⟩
    · exact IsT.mem h2 x hx

theorem Avt.tell_mem {key : Int} : ∀ {t : Avt}, ∀ x ∈ t.tell key, x ∈ t.nod
  | .leaf, x, hx => by simp [Avt.tell] at hx
  | .node b l h k v r, x, hx => by
    simp only [tell_node, List.mem_append] at hx
    simp only [Avt.nod, List.mem_append, List.mem_cons]
    rcases hx with (hx | hx) | hx
    · split at hx
      · exact .inl (Avt.tell_mem x hx)
      · simp at hx
    · split at hx
      · exact .inr (.inl (by simpa using hx))
      · simp at hx
    · exact .inr (.inr (Avt.tell_mem x hx))

/-- Keys that an int can be. -/
def Wfk (l : List KV) : Prop := ∀ x ∈ l, (-9223372036854775808 : Int) ≤ x.1

theorem Avt.tell_min {t : Avt} (hr : Rise t.ord) (hw : Wfk t.ord) : (t.tell (-9223372036854775808)).map (fun x => x.2) = t.ord := by
  rw [Avt.tell_is _ hr, filter_all (fun x hx => by simpa using hw x hx)]

set_option maxRecDepth 100000 in
set_option maxHeartbeats 4000000 in
theorem without_any (t : Avt) : ∀ {w : World} {D : Nat → Prop} {p : Option Addr} {key : Int}, (∀ k, w.heap.size ≤ k → D k) → IsT w D p t → t.avl → Rise t.ord → Wfk t.ord → (getL key t.ord).isSome = true → t.ord.length ≤ 10000000 →
    Calls Try.prog 51 #[.pointer p, .int .i64 key] w (WoutR w D t key) := by
  induction t with
  | leaf =>
    intro w D p key hD ht _ _ _ hg _
    cases hg
  | node b l h k v0 r ihl ihr =>
    intro w D p key hD ht ha hr hwf hg hN
    obtain ⟨pl, pr, rfl, hDb, hx, h1, h2⟩ := ht
    obtain ⟨al, ar, eh, f1, f2⟩ := ha
    rw [ord_node] at hr hN hg hwf
    have hrn := rise_node hr
    have wfl : Wfk l.ord := fun x hx => hwf x (by simp [hx])
    have wfr : Wfk r.ord := fun x hx => hwf x (by simp [hx])
    simp only [List.length_append, List.length_cons] at hN
    have L1 := al.ht_le
    have L2 := ar.ht_le
    have L3 := al.ht_nonneg
    have L4 := ar.ht_nonneg
    have HD0 : Below w.heap.size w w.drew := (Below.refl _ _).drew
    have k3 := hx.c3
    have k0 := hx.c0
    have k1 := hx.c1
    rcases Int.lt_trichotomy key k with hk | hk | hk
    · skip
      have HS0 : Hid (w.drew.cell? ⟨b, 0, none⟩ = some (.pointer pl) ∧ w.drew.cell? ⟨b, 1, none⟩ = some (.pointer pr)) := hidb ⟨(hx.keep HD0).c0, (hx.keep HD0).c1⟩
      have C1 : Hid (Calls Try.prog 51 #[.pointer pl, .int .i64 key] w.drew fun e w1 => ∃ p1, e = .returned (.pointer p1) ∧ Hid (w1.cell? ⟨b, 0, none⟩ = some (.pointer pl) ∧ w1.cell? ⟨b, 1, none⟩ = some (.pointer pr)) ∧ Hid (Calls Try.prog 50 #[.pointer (some ⟨b, 0, none⟩), .pointer p1, .pointer pr] w1 fun e w2 => ∃ b2, e = .returned (.pointer (some ⟨b2, 0, none⟩)) ∧ Hid (w2.cell? ⟨b, 0, none⟩ = some (.pointer pl) ∧ w2.cell? ⟨b, 1, none⟩ = some (.pointer pr)) ∧ Hid (WoutR w D (.node b l h k v0 r) key (.returned (.pointer (some ⟨b2, 0, none⟩))) w2))) := by
        refine hidb ((ihl (w := w.drew) hD (h1.keep HD0) al hrn.1 wfl (by rw [← getL_left hr hk]; exact hg) (by omega)).mono ?_)
        rintro e w1 ⟨p1, t1, rfl, g1, a1, o1, i1, i2, q1⟩
        have q1' : Below w.heap.size w w1 := HD0.trans q1
        have z1 := a1.ht_nonneg
        refine ⟨p1, rfl, hidb ⟨(hx.keep q1').c0, (hx.keep q1').c1⟩, hidb ((bal_any (w := w1) (fun k hk => hD k (Nat.le_trans q1'.size hk)) (hx.keep q1') g1 (h2.keep q1') a1 ar (by omega) (by omega) (by omega) (by omega)).mono ?_)⟩
        rintro e w2 ⟨b2, t2, rfl, g2, a2, o2, i3, i4, i5, q2⟩
        have q2' : Below w.heap.size w w2 := q1'.trans (q2.mono q1'.size)
        refine ⟨b2, rfl, hidb ⟨(hx.keep q2').c0, (hx.keep q2').c1⟩, hidb ⟨_, t2, rfl, g2, a2, by rw [o2, o1, ord_node, del_left hr hk], ?_, ?_, q2'⟩⟩
        · rw [ht_node]; by_cases z : r.ht - t1.ht ≤ 1
          · have := i5 (by omega) z; omega
          · omega
        · rw [ht_node]; by_cases z : r.ht - t1.ht ≤ 1
          · have := i5 (by omega) z; omega
          · omega
      clear hx h1 h2 hD HD0 ihl ihr al ar hrn hr hN L1 L2 L3 L4 f1 f2 eh wfl wfr hg hwf
      go_enter Try.func51, Try.ntmps51
      go_wp2_with fail
      go_region_held3 (fun w' => w'.cell? ⟨b, 0, none⟩ = some (.pointer pl) ∧ w'.cell? ⟨b, 1, none⟩ = some (.pointer pr)) (first | with_reducible exact HS0.out | with_reducible exact HS1.out | with_reducible exact HS2.out) (first
        | (go_at_call 51; refine C1.out.mono ?_; clear C1; rintro e w1 ⟨p1, rfl, HS1, C2⟩)
        | (go_at_call 50; refine C2.out.mono ?_; clear C2; rintro e w2 ⟨b2, rfl, HS2, HT⟩))
      go_wp2_with fail
      go_ret
      exact HT.out
    · subst hk
      cases r with
      | leaf =>
        obtain rfl : pr = none := h2
        have HR := hidb hr
        have HX := hidb h1
        have HA := hidb al
        have HE : Hid (h = 1 + l.ht) := hidb (by have : Avt.leaf.ht = 0 := rfl; omega)
        clear hx h1 hD HD0 ihl ihr al ar hrn hr hN L1 L2 L3 L4 f1 f2 eh wfl wfr hg hwf
        go_enter Try.func51, Try.ntmps51
        go_wp2_with fail
        go_ret
        exact ⟨pl, l, rfl, HX.out, HA.out, by rw [ord_node, del_here HR.out]; simp [Avt.ord], by rw [ht_node, HE.out]; omega, by rw [ht_node, HE.out]; omega, Below.refl _ _⟩
      | node rb rl rh rk rv rr =>
        obtain ⟨prl, prr, rfl, hDr, hxr, h3, h4⟩ := h2
        have hR : IsT w D (some ⟨rb, 0, none⟩) (.node rb rl rh rk rv rr) := ⟨prl, prr, rfl, hDr, hxr, h3, h4⟩
        clear h3 h4 hxr
        have hor : (Avt.node rb rl rh rk rv rr).ord = rl.ord ++ (rk, rv) :: rr.ord := rfl
        generalize Avt.node rb rl rh rk rv rr = r at *
        have hne : r.ord ≠ [] := by rw [hor]; simp
        clear hor
        have htm := Avt.tell_min hrn.2.1 wfr
        have CF : Hid (Calls Try.prog 47 #[.pointer (some ⟨rb, 0, none⟩)] w fun e w0 => ∃ (bx : Nat) (kx : Int), e = .returned (.pointer (some ⟨bx, 0, none⟩)) ∧ w0.cell? ⟨b, 0, none⟩ = some (.pointer pl) ∧ w0.cell? ⟨b, 1, none⟩ = some (.pointer (some ⟨rb, 0, none⟩)) ∧ Hid (w0.drew.cell? ⟨b, 0, none⟩ = some (.pointer pl) ∧ w0.drew.cell? ⟨b, 1, none⟩ = some (.pointer (some ⟨rb, 0, none⟩)) ∧ w0.drew.cell? ⟨bx, 3, none⟩ = some (.int .i64 kx)) ∧ Hid (Calls Try.prog 51 #[.pointer (some ⟨rb, 0, none⟩), .int .i64 kx] w0.drew fun e w1 => ∃ p1, e = .returned (.pointer p1) ∧ Hid (w1.cell? ⟨b, 0, none⟩ = some (.pointer pl) ∧ w1.cell? ⟨b, 1, none⟩ = some (.pointer (some ⟨rb, 0, none⟩)) ∧ w1.cell? ⟨bx, 3, none⟩ = some (.int .i64 kx)) ∧ Hid (Calls Try.prog 50 #[.pointer (some ⟨bx, 0, none⟩), .pointer pl, .pointer p1] w1 fun e w2 => ∃ b2, e = .returned (.pointer (some ⟨b2, 0, none⟩)) ∧ Hid (w2.cell? ⟨b, 0, none⟩ = some (.pointer pl) ∧ w2.cell? ⟨b, 1, none⟩ = some (.pointer (some ⟨rb, 0, none⟩)) ∧ w2.cell? ⟨bx, 3, none⟩ = some (.int .i64 kx)) ∧ Hid (WoutR w D (.node b l h key v0 r) key (.returned (.pointer (some ⟨b2, 0, none⟩))) w2)))) := by
          refine hidb ((first_any hR).mono ?_)
          rintro e w0 ⟨hb0, (⟨rfl, h0⟩ | ⟨⟨bx, kx, vx⟩, xs, rfl, hcons⟩)⟩
          · rw [h0] at htm; exact absurd htm.symm hne
          obtain ⟨x0, x1, x2, hbx, hDx⟩ := hR.mem (bx, kx, vx) (Avt.tell_mem _ (by rw [hcons]; simp))
          rw [hcons] at htm
          simp only [List.map_cons] at htm
          have hdr : delL kx r.ord = xs.map (fun x => x.2) := by
            rw [← htm]
            have hrr := hrn.2.1
            rw [← htm] at hrr
            exact del_here (A := []) hrr
          have q0 : Below w.heap.size w w0.drew := hb0.drew
          refine ⟨bx, kx, rfl, (hx.keep hb0).c0, (hx.keep hb0).c1, hidb ⟨(hx.keep q0).c0, (hx.keep q0).c1, (hbx.keep q0).c3⟩, hidb ((ihr (w := w0.drew) (fun k hk => hD k (Nat.le_trans q0.size hk)) (hR.keep q0) ar hrn.2.1 wfr (by rw [← htm]; simp [getL]) (by omega)).mono ?_)⟩
          rintro e w1 ⟨p1, t1, rfl, g1, a1, o1, i1, i2, q1⟩
          have q1' : Below w.heap.size w w1 := q0.trans (q1.mono q0.size)
          have z1 := a1.ht_nonneg
          refine ⟨p1, rfl, hidb ⟨(hx.keep q1').c0, (hx.keep q1').c1, (hbx.keep q1').c3⟩, hidb ((bal_any (w := w1) (fun k hk => hD k (Nat.le_trans q1'.size hk)) (hbx.keep q1') (h1.keep q1') g1 al a1 (by omega) (by omega) (by omega) (by omega)).mono ?_)⟩
          rintro e w2 ⟨b2, t2, rfl, g2, a2, o2, i3, i4, i5, q2⟩
          have q2' : Below w.heap.size w w2 := q1'.trans (q2.mono q1'.size)
          refine ⟨b2, rfl, hidb ⟨(hx.keep q2').c0, (hx.keep q2').c1, (hbx.keep q2').c3⟩, hidb ⟨_, t2, rfl, g2, a2, by rw [o2, o1, hdr, ord_node, del_here hr, ← htm], ?_, ?_, q2'⟩⟩
          · rw [ht_node]; by_cases z : l.ht - t1.ht ≤ 1
            · have := i5 z (by omega); omega
            · omega
          · rw [ht_node]; by_cases z : l.ht - t1.ht ≤ 1
            · have := i5 z (by omega); omega
            · omega
        clear hx h1 hR hD HD0 ihl ihr al ar hrn hr hN L1 L2 L3 L4 f1 f2 eh wfl wfr hg hwf htm hne
        go_enter Try.func51, Try.ntmps51
        go_wp2_with (go_at_call 47; refine CF.out.mono ?_; clear CF; rintro e w0 ⟨bx, kx, rfl, m0, m1, HS0, C1⟩)
        go_region_held3 (fun w' => w'.cell? ⟨b, 0, none⟩ = some (.pointer pl) ∧ w'.cell? ⟨b, 1, none⟩ = some (.pointer (some ⟨rb, 0, none⟩)) ∧ w'.cell? ⟨bx, 3, none⟩ = some (.int .i64 kx)) (first | with_reducible exact HS0.out | with_reducible exact HS1.out | with_reducible exact HS2.out) (first
          | (go_at_call 51; refine C1.out.mono ?_; clear C1; rintro e w1 ⟨p1, rfl, HS1, C2⟩)
          | (go_at_call 50; refine C2.out.mono ?_; clear C2; rintro e w2 ⟨b2, rfl, HS2, HT⟩))
        go_wp2_with fail
        go_ret
        exact HT.out
    · have n2 : ¬ key < k := by omega
      have HS0 : Hid (w.drew.cell? ⟨b, 0, none⟩ = some (.pointer pl) ∧ w.drew.cell? ⟨b, 1, none⟩ = some (.pointer pr)) := hidb ⟨(hx.keep HD0).c0, (hx.keep HD0).c1⟩
      have C1 : Hid (Calls Try.prog 51 #[.pointer pr, .int .i64 key] w.drew fun e w1 => ∃ p1, e = .returned (.pointer p1) ∧ Hid (w1.cell? ⟨b, 0, none⟩ = some (.pointer pl) ∧ w1.cell? ⟨b, 1, none⟩ = some (.pointer pr)) ∧ Hid (Calls Try.prog 50 #[.pointer (some ⟨b, 0, none⟩), .pointer pl, .pointer p1] w1 fun e w2 => ∃ b2, e = .returned (.pointer (some ⟨b2, 0, none⟩)) ∧ Hid (w2.cell? ⟨b, 0, none⟩ = some (.pointer pl) ∧ w2.cell? ⟨b, 1, none⟩ = some (.pointer pr)) ∧ Hid (WoutR w D (.node b l h k v0 r) key (.returned (.pointer (some ⟨b2, 0, none⟩))) w2))) := by
        refine hidb ((ihr (w := w.drew) hD (h2.keep HD0) ar hrn.2.1 wfr (by rw [← getL_right hr hk]; exact hg) (by omega)).mono ?_)
        rintro e w1 ⟨p1, t1, rfl, g1, a1, o1, i1, i2, q1⟩
        have q1' : Below w.heap.size w w1 := HD0.trans q1
        have z1 := a1.ht_nonneg
        refine ⟨p1, rfl, hidb ⟨(hx.keep q1').c0, (hx.keep q1').c1⟩, hidb ((bal_any (w := w1) (fun k hk => hD k (Nat.le_trans q1'.size hk)) (hx.keep q1') (h1.keep q1') g1 al a1 (by omega) (by omega) (by omega) (by omega)).mono ?_)⟩
        rintro e w2 ⟨b2, t2, rfl, g2, a2, o2, i3, i4, i5, q2⟩
        have q2' : Below w.heap.size w w2 := q1'.trans (q2.mono q1'.size)
        refine ⟨b2, rfl, hidb ⟨(hx.keep q2').c0, (hx.keep q2').c1⟩, hidb ⟨_, t2, rfl, g2, a2, by rw [o2, o1, ord_node, del_right hr hk], ?_, ?_, q2'⟩⟩
        · rw [ht_node]; by_cases z : l.ht - t1.ht ≤ 1
          · have := i5 z (by omega); omega
          · omega
        · rw [ht_node]; by_cases z : l.ht - t1.ht ≤ 1
          · have := i5 z (by omega); omega
          · omega
      clear hx h1 h2 hD HD0 ihl ihr al ar hrn hr hN L1 L2 L3 L4 f1 f2 eh wfl wfr hg hwf
      go_enter Try.func51, Try.ntmps51
      go_wp2_with fail
      go_region_held3 (fun w' => w'.cell? ⟨b, 0, none⟩ = some (.pointer pl) ∧ w'.cell? ⟨b, 1, none⟩ = some (.pointer pr)) (first | with_reducible exact HS0.out | with_reducible exact HS1.out | with_reducible exact HS2.out) (first
        | (go_at_call 51; refine C1.out.mono ?_; clear C1; rintro e w1 ⟨p1, rfl, HS1, C2⟩)
        | (go_at_call 50; refine C2.out.mono ?_; clear C2; rintro e w2 ⟨b2, rfl, HS2, HT⟩))
      go_wp2_with fail
      go_ret
      exact HT.out

end MV
end Go.Proofs.Ytmnglaeaicicnaa
