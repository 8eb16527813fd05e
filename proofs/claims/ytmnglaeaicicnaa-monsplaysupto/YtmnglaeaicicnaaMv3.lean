/- A key put below a root. -/
import Derived.Test.YtmnglaeaicicnaaMv2
namespace Go.Proofs.Ytmnglaeaicicnaa
open Go.RowKit Go.Lib
namespace MV
attribute [local go_sem ↓] Go.wp_at_zero Go.wp_at_succ

/-- What 'with' tells. -/
def WithR (w : World) (D : Nat → Prop) (t : Avt) (key : Int) (v : Hf) (e : Ending) (w' : World) : Prop :=
  ∃ b' t', e = .returned (.pointer (some ⟨b', 0, none⟩)) ∧ IsT w' D (some ⟨b', 0, none⟩) t' ∧ t'.avl ∧ t'.ord = insL key v t.ord ∧ t.ht ≤ t'.ht ∧ t'.ht ≤ t.ht + 1 ∧ Below w.heap.size w w'

theorem ord_node (b : Nat) (l : Avt) (h k : Int) (v : Hf) (r : Avt) : (Avt.node b l h k v r).ord = l.ord ++ (k, v) :: r.ord := rfl

set_option maxRecDepth 100000 in
set_option maxHeartbeats 4000000 in
theorem with_any (key : Int) (v : Hf) (t : Avt) : ∀ {w : World} {D : Nat → Prop} {p : Option Addr}, (∀ k, w.heap.size ≤ k → D k) → IsT w D p t → t.avl → Rise t.ord → t.ord.length ≤ 10000000 →
    Calls Try.prog 45 #[.pointer p, .int .i64 key, .agg #[.int .i64 v.a, .int .i64 v.b, .string v.c]] w (WithR w D t key v) := by
  induction t with
  | leaf =>
    intro w D p hD ht _ _ _
    obtain rfl : p = none := ht
    have HD := hidb hD
    clear hD
    go_enter Try.func45, Try.ntmps45
    go_wp2_with fail
    go_ret
    exact ⟨w.heap.size + 1, .node (w.heap.size + 1) .leaf 1 key v .leaf, rfl, ⟨none, none, rfl, HD.out _ (by omega), (by have := Bxv.new (w.alloc (.cells #[.int .i64 v.a, .int .i64 v.b, .string v.c] 38)) 76 (.pointer none) (.pointer none) (.int .i64 1) (.int .i64 key) v; simpa using this), rfl, rfl⟩, ⟨trivial, trivial, by simp [Avt.ht], by simp [Avt.ht], by simp [Avt.ht]⟩, rfl, by simp [Avt.ht], by simp [Avt.ht], (below_new _ _).alloc (by simp) _⟩
  | node b l h k v0 r ihl ihr =>
    intro w D p hD ht ha hr hN
    obtain ⟨pl, pr, rfl, hDb, hx, h1, h2⟩ := ht
    have HA := hidb ha
    obtain ⟨al, ar, eh, f1, f2⟩ := ha
    rw [ord_node] at hr hN
    have hrn := rise_node hr
    simp only [List.length_append, List.length_cons] at hN
    have L1 := al.ht_le
    have L2 := ar.ht_le
    have L3 := al.ht_nonneg
    have L4 := ar.ht_nonneg
    have HD0 : Below w.heap.size w (w.alloc (.cells #[.int .i64 v.a, .int .i64 v.b, .string v.c] 38)).drew := (below_new _ _).drew
    have k3 := (hx.keep (below_new w (.cells #[.int .i64 v.a, .int .i64 v.b, .string v.c] 38))).c3
    have k0 := (hx.keep (below_new w (.cells #[.int .i64 v.a, .int .i64 v.b, .string v.c] 38))).c0
    have k1 := (hx.keep (below_new w (.cells #[.int .i64 v.a, .int .i64 v.b, .string v.c] 38))).c1
    have k2 := (hx.keep (below_new w (.cells #[.int .i64 v.a, .int .i64 v.b, .string v.c] 38))).c2
    have P0 : Box3 (w.alloc (.cells #[.int .i64 v.a, .int .i64 v.b, .string v.c] 38)).drew w.heap.size (.int .i64 v.a) (.int .i64 v.b) (.string v.c) := (Box3.new _ _ _ _ _).keep ((Below.refl _ _).drew)
    have HS0 : Hid ((w.alloc (.cells #[.int .i64 v.a, .int .i64 v.b, .string v.c] 38)).drew.cell? ⟨b, 0, none⟩ = some (.pointer pl) ∧ (w.alloc (.cells #[.int .i64 v.a, .int .i64 v.b, .string v.c] 38)).drew.cell? ⟨b, 1, none⟩ = some (.pointer pr) ∧ (w.alloc (.cells #[.int .i64 v.a, .int .i64 v.b, .string v.c] 38)).drew.cell? ⟨w.heap.size, 0, none⟩ = some (.int .i64 v.a) ∧ (w.alloc (.cells #[.int .i64 v.a, .int .i64 v.b, .string v.c] 38)).drew.cell? ⟨w.heap.size, 1, none⟩ = some (.int .i64 v.b) ∧ (w.alloc (.cells #[.int .i64 v.a, .int .i64 v.b, .string v.c] 38)).drew.cell? ⟨w.heap.size, 2, none⟩ = some (.string v.c)) := hidb ⟨(hx.keep HD0).c0, (hx.keep HD0).c1, P0.c0, P0.c1, P0.c2⟩
    rcases Int.lt_trichotomy key k with hk | hk | hk
    · have C1 : Hid (Calls Try.prog 45 #[.pointer pl, .int .i64 key, .agg #[.int .i64 v.a, .int .i64 v.b, .string v.c]] (w.alloc (.cells #[.int .i64 v.a, .int .i64 v.b, .string v.c] 38)).drew fun e w1 => ∃ b1, e = .returned (.pointer (some ⟨b1, 0, none⟩)) ∧ Hid (w1.cell? ⟨b, 0, none⟩ = some (.pointer pl) ∧ w1.cell? ⟨b, 1, none⟩ = some (.pointer pr) ∧ w1.cell? ⟨w.heap.size, 0, none⟩ = some (.int .i64 v.a) ∧ w1.cell? ⟨w.heap.size, 1, none⟩ = some (.int .i64 v.b) ∧ w1.cell? ⟨w.heap.size, 2, none⟩ = some (.string v.c)) ∧ Hid (Calls Try.prog 50 #[.pointer (some ⟨b, 0, none⟩), .pointer (some ⟨b1, 0, none⟩), .pointer pr] w1 fun e w2 => ∃ b2, e = .returned (.pointer (some ⟨b2, 0, none⟩)) ∧ Hid (w2.cell? ⟨b, 0, none⟩ = some (.pointer pl) ∧ w2.cell? ⟨b, 1, none⟩ = some (.pointer pr) ∧ w2.cell? ⟨w.heap.size, 0, none⟩ = some (.int .i64 v.a) ∧ w2.cell? ⟨w.heap.size, 1, none⟩ = some (.int .i64 v.b) ∧ w2.cell? ⟨w.heap.size, 2, none⟩ = some (.string v.c)) ∧ Hid (WithR w D (.node b l h k v0 r) key v (.returned (.pointer (some ⟨b2, 0, none⟩))) w2))) := by
        refine hidb ((ihl (w := (w.alloc (.cells #[.int .i64 v.a, .int .i64 v.b, .string v.c] 38)).drew) (fun k hk => hD k (Nat.le_trans HD0.size hk)) (h1.keep HD0) al hrn.1 (by omega)).mono ?_)
        rintro e w1 ⟨b1, t1, rfl, g1, a1, o1, i1, i2, q1⟩
        have q1' : Below w.heap.size w w1 := HD0.trans (q1.mono HD0.size)
        refine ⟨b1, rfl, hidb ⟨(hx.keep q1').c0, (hx.keep q1').c1, (P0.keep q1).c0, (P0.keep q1).c1, (P0.keep q1).c2⟩, hidb ((bal_any (w := w1) (fun k hk => hD k (Nat.le_trans q1'.size hk)) (hx.keep q1') g1 (h2.keep q1') a1 ar (by omega) (by omega) (by omega) (by omega)).mono ?_)⟩
        rintro e w2 ⟨b2, t2, rfl, g2, a2, o2, i3, i4, i5, q2⟩
        have q2' : Below w.heap.size w w2 := q1'.trans (q2.mono q1'.size)
        refine ⟨b2, rfl, hidb ⟨(hx.keep q2').c0, (hx.keep q2').c1, ((P0.keep q1).keep q2).c0, ((P0.keep q1).keep q2).c1, ((P0.keep q1).keep q2).c2⟩, hidb ⟨b2, t2, rfl, g2, a2, by rw [o2, o1, ord_node, ins_left hr hk], ?_, ?_, q2'⟩⟩
        · rw [ht_node]; by_cases z : t1.ht - r.ht ≤ 1
          · have := i5 z (by omega); omega
          · omega
        · rw [ht_node]; by_cases z : t1.ht - r.ht ≤ 1
          · have := i5 z (by omega); omega
          · omega
      clear P0 hx h1 h2 hD HD0 ihl ihr al ar hrn hr hN L1 L2 L3 L4 f1 f2 eh
      go_enter Try.func45, Try.ntmps45
      go_wp2_with fail
      go_region_held3 (fun w' => w'.cell? ⟨b, 0, none⟩ = some (.pointer pl) ∧ w'.cell? ⟨b, 1, none⟩ = some (.pointer pr) ∧ w'.cell? ⟨w.heap.size, 0, none⟩ = some (.int .i64 v.a) ∧ w'.cell? ⟨w.heap.size, 1, none⟩ = some (.int .i64 v.b) ∧ w'.cell? ⟨w.heap.size, 2, none⟩ = some (.string v.c)) (first | with_reducible exact HS0.out | with_reducible exact HS1.out | with_reducible exact HS2.out) (first
        | (go_at_call 45; refine C1.out.mono ?_; clear C1; rintro e w1 ⟨b1, rfl, HS1, C2⟩)
        | (go_at_call 50; refine C2.out.mono ?_; clear C2; rintro e w2 ⟨b2, rfl, HS2, HT⟩))
      go_wp2_with fail
      go_ret
      exact HT.out
    · subst hk
      have HR := hidb hr
      have HX := hidb h1
      have HY := hidb h2
      have HDD := hidb hD
      clear P0 hx h1 h2 hD HD0 ihl ihr al ar hrn hr hN L1 L2 L3 L4 f1 f2 eh
      go_enter Try.func45, Try.ntmps45
      go_wp2_with fail
      go_region
      go_wp2_with fail
      go_ret
      have hb := ((below_new w (.cells #[.int .i64 v.a, .int .i64 v.b, .string v.c] 38)).alloc (by simp) (.cells #[.pointer pl, .pointer pr, .int .i64 h, .int .i64 key, .int .i64 v.a, .int .i64 v.b, .string v.c] 76)).drew
      exact ⟨w.heap.size + 1, .node (w.heap.size + 1) l h key v r, rfl, ⟨pl, pr, rfl, HDD.out _ (by omega), (show Bxv _ (w.heap.size + 1) _ _ _ _ v by have := Bxv.new (w.alloc (.cells #[.int .i64 v.a, .int .i64 v.b, .string v.c] 38)) 76 (.pointer pl) (.pointer pr) (.int .i64 h) (.int .i64 key) v; simpa using this).keep ((Below.refl _ _).drew), HX.out.keep hb, HY.out.keep hb⟩, HA.out, by rw [ord_node, ord_node, ins_here HR.out], Int.le_refl _, by rw [ht_node, ht_node]; omega, hb⟩
    · have n2 : ¬ key < k := by omega
      have C1 : Hid (Calls Try.prog 45 #[.pointer pr, .int .i64 key, .agg #[.int .i64 v.a, .int .i64 v.b, .string v.c]] (w.alloc (.cells #[.int .i64 v.a, .int .i64 v.b, .string v.c] 38)).drew fun e w1 => ∃ b1, e = .returned (.pointer (some ⟨b1, 0, none⟩)) ∧ Hid (w1.cell? ⟨b, 0, none⟩ = some (.pointer pl) ∧ w1.cell? ⟨b, 1, none⟩ = some (.pointer pr) ∧ w1.cell? ⟨w.heap.size, 0, none⟩ = some (.int .i64 v.a) ∧ w1.cell? ⟨w.heap.size, 1, none⟩ = some (.int .i64 v.b) ∧ w1.cell? ⟨w.heap.size, 2, none⟩ = some (.string v.c)) ∧ Hid (Calls Try.prog 50 #[.pointer (some ⟨b, 0, none⟩), .pointer pl, .pointer (some ⟨b1, 0, none⟩)] w1 fun e w2 => ∃ b2, e = .returned (.pointer (some ⟨b2, 0, none⟩)) ∧ Hid (w2.cell? ⟨b, 0, none⟩ = some (.pointer pl) ∧ w2.cell? ⟨b, 1, none⟩ = some (.pointer pr) ∧ w2.cell? ⟨w.heap.size, 0, none⟩ = some (.int .i64 v.a) ∧ w2.cell? ⟨w.heap.size, 1, none⟩ = some (.int .i64 v.b) ∧ w2.cell? ⟨w.heap.size, 2, none⟩ = some (.string v.c)) ∧ Hid (WithR w D (.node b l h k v0 r) key v (.returned (.pointer (some ⟨b2, 0, none⟩))) w2))) := by
        refine hidb ((ihr (w := (w.alloc (.cells #[.int .i64 v.a, .int .i64 v.b, .string v.c] 38)).drew) (fun k hk => hD k (Nat.le_trans HD0.size hk)) (h2.keep HD0) ar hrn.2.1 (by omega)).mono ?_)
        rintro e w1 ⟨b1, t1, rfl, g1, a1, o1, i1, i2, q1⟩
        have q1' : Below w.heap.size w w1 := HD0.trans (q1.mono HD0.size)
        refine ⟨b1, rfl, hidb ⟨(hx.keep q1').c0, (hx.keep q1').c1, (P0.keep q1).c0, (P0.keep q1).c1, (P0.keep q1).c2⟩, hidb ((bal_any (w := w1) (fun k hk => hD k (Nat.le_trans q1'.size hk)) (hx.keep q1') (h1.keep q1') g1 al a1 (by omega) (by omega) (by omega) (by omega)).mono ?_)⟩
        rintro e w2 ⟨b2, t2, rfl, g2, a2, o2, i3, i4, i5, q2⟩
        have q2' : Below w.heap.size w w2 := q1'.trans (q2.mono q1'.size)
        refine ⟨b2, rfl, hidb ⟨(hx.keep q2').c0, (hx.keep q2').c1, ((P0.keep q1).keep q2).c0, ((P0.keep q1).keep q2).c1, ((P0.keep q1).keep q2).c2⟩, hidb ⟨b2, t2, rfl, g2, a2, by rw [o2, o1, ord_node, ins_right hr hk], ?_, ?_, q2'⟩⟩
        · rw [ht_node]; by_cases z : t1.ht - l.ht ≤ 1
          · have := i5 (by omega) z; omega
          · omega
        · rw [ht_node]; by_cases z : t1.ht - l.ht ≤ 1
          · have := i5 (by omega) z; omega
          · omega
      clear P0 hx h1 h2 hD HD0 ihl ihr al ar hrn hr hN L1 L2 L3 L4 f1 f2 eh
      go_enter Try.func45, Try.ntmps45
      go_wp2_with fail
      go_region_held3 (fun w' => w'.cell? ⟨b, 0, none⟩ = some (.pointer pl) ∧ w'.cell? ⟨b, 1, none⟩ = some (.pointer pr) ∧ w'.cell? ⟨w.heap.size, 0, none⟩ = some (.int .i64 v.a) ∧ w'.cell? ⟨w.heap.size, 1, none⟩ = some (.int .i64 v.b) ∧ w'.cell? ⟨w.heap.size, 2, none⟩ = some (.string v.c)) (first | with_reducible exact HS0.out | with_reducible exact HS1.out | with_reducible exact HS2.out) (first
        | (go_at_call 45; refine C1.out.mono ?_; clear C1; rintro e w1 ⟨b1, rfl, HS1, C2⟩)
        | (go_at_call 50; refine C2.out.mono ?_; clear C2; rintro e w2 ⟨b2, rfl, HS2, HT⟩))
      go_wp2_with fail
      go_ret
      exact HT.out

end MV
end Go.Proofs.Ytmnglaeaicicnaa
