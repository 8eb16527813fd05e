/- Balancing: the five ways. -/
import Derived.Test.YtmnglaeaicicnaaMv1
namespace Go.Proofs.Ytmnglaeaicicnaa
open Go.RowKit Go.Lib
namespace MV
attribute [local go_sem ↓] Go.wp_at_zero Go.wp_at_succ

theorem ht_node (b : Nat) (l : Avt) (h k : Int) (v : Hf) (r : Avt) : (Avt.node b l h k v r).ht = h := rfl

/-- A tree's height lies in bounds. -/
abbrev Hb (x : Int) : Prop := 0 ≤ x ∧ x ≤ 1000000000

theorem over_t {w : World} {D : Nat → Prop} (hD : ∀ k, w.heap.size ≤ k → D k) {b : Nat} {x0 x1 x2 : Value} {k : Int} {v : Hf} (hx : Bxv w b x0 x1 x2 (.int .i64 k) v) {pl pr : Option Addr} {l r : Avt} (h1 : IsT w D pl l) (h2 : IsT w D pr r)
    (b1 : 0 ≤ l.ht ∧ l.ht ≤ 1000000000000) (b2 : 0 ≤ r.ht ∧ r.ht ≤ 1000000000000) :
    Calls Try.prog 55 #[.pointer (some ⟨b, 0, none⟩), .pointer pl, .pointer pr] w fun e w' => ∃ b', e = .returned (.pointer (some ⟨b', 0, none⟩)) ∧ IsT w' D (some ⟨b', 0, none⟩) (.node b' l (1 + max l.ht r.ht) k v r) ∧ Below w.heap.size w w' := by
  refine (over_any hx h1 h2 b1 b2).mono ?_
  rintro e w' ⟨b', rfl, hb, hx', hbel⟩
  exact ⟨b', rfl, ⟨pl, pr, rfl, hD _ hb, hx', h1.keep hbel, h2.keep hbel⟩, hbel⟩

attribute [local go_sem] ht_node

set_option maxHeartbeats 2000000 in
theorem bal_plain {w : World} {D : Nat → Prop} (hD : ∀ k, w.heap.size ≤ k → D k) {b : Nat} {x0 x1 x2 : Value} {k : Int} {v : Hf} (hx : Bxv w b x0 x1 x2 (.int .i64 k) v) {pl pr : Option Addr} {l r : Avt} (h1 : IsT w D pl l) (h2 : IsT w D pr r)
    (b1 : Hb l.ht) (b2 : Hb r.ht) (n1 : l.ht - r.ht ≠ 2) (n2 : l.ht - r.ht ≠ -2) :
    Calls Try.prog 50 #[.pointer (some ⟨b, 0, none⟩), .pointer pl, .pointer pr] w fun e w' => ∃ b', e = .returned (.pointer (some ⟨b', 0, none⟩)) ∧ IsT w' D (some ⟨b', 0, none⟩) (.node b' l (1 + max l.ht r.ht) k v r) ∧ Below w.heap.size w w' := by
  have HO := hidb (over_t hD hx h1 h2 (by omega) (by omega))
  have H1 := hidb h1
  have H2 := hidb h2
  have e0 : wrap64 (l.ht - r.ht) = l.ht - r.ht := by unfold wrap64; omega
  have e1 : (wrap64 (l.ht - r.ht) == 2) = false := by rw [e0]; simpa using n1
  have e2 : (wrap64 (l.ht - r.ht) == -2) = false := by rw [e0]; simpa using n2
  clear e0 n1 n2
  clear hx h1 h2 b1 b2 hD
  go_enter Try.func50, Try.ntmps50
  go_wp2_with (first | (go_at_call 54; refine (height_any H1.out).mono ?_; clear H1; rintro e w' ⟨rfl, rfl⟩) | (go_at_call 54; refine (height_any H2.out).mono ?_; clear H2; rintro e w' ⟨rfl, rfl⟩) | (go_at_call 55; refine HO.out.mono ?_; clear HO; rintro e w1 ⟨b', rfl, ht, hb⟩))
  go_ret
  exact ⟨b', rfl, ht, hb⟩

set_option maxRecDepth 100000 in
set_option maxHeartbeats 4000000 in
theorem bal_lr {w : World} {D : Nat → Prop} (hD : ∀ k, w.heap.size ≤ k → D k) {b : Nat} {x0 x1 x2 : Value} {k : Int} {v : Hf} (hx : Bxv w b x0 x1 x2 (.int .i64 k) v) {c : Nat} {y o : Avt} {hc kc : Int} {vc : Hf} {py po : Option Addr} {d : Nat} {zl zr : Avt} {hd kd : Int} {vd : Hf} {pzl pzr : Option Addr}
    (hc0 : Bxv w c (.pointer py) (.pointer (some ⟨d, 0, none⟩)) (.int .i64 hc) (.int .i64 kc) vc) (hDc : D c) (ty : IsT w D py y) (hd0 : Bxv w d (.pointer pzl) (.pointer pzr) (.int .i64 hd) (.int .i64 kd) vd) (hDd : D d) (tzl : IsT w D pzl zl) (tzr : IsT w D pzr zr) (to : IsT w D po o) (bc : Hb hc) (by0 : Hb y.ht) (bo : Hb o.ht) (bz1 : Hb zl.ht) (bz2 : Hb zr.ht) (hin : y.ht < hd) (hdf : hc - o.ht = 2) :
    Calls Try.prog 50 #[.pointer (some ⟨b, 0, none⟩), .pointer (some ⟨c, 0, none⟩), .pointer po] w fun e w' => ∃ b1 b2 b3, e = .returned (.pointer (some ⟨b3, 0, none⟩)) ∧ IsT w' D (some ⟨b3, 0, none⟩) (.node b3 (.node b1 y (1 + max y.ht zl.ht) kc vc zl) (1 + max (1 + max y.ht zl.ht) (1 + max zr.ht o.ht)) kd vd (.node b2 zr (1 + max zr.ht o.ht) k v o)) ∧ Below w.heap.size w w' := by
  have H1 : Hid (IsT w D (some ⟨c, 0, none⟩) (.node c y hc kc vc (.node d zl hd kd vd zr))) := hidb ⟨_, _, rfl, hDc, hc0, ty, (show IsT w D (some ⟨d, 0, none⟩) (.node d zl hd kd vd zr) from ⟨pzl, pzr, rfl, hDd, hd0, tzl, tzr⟩)⟩
  have H2 := hidb to
  have HD0 : Below w.heap.size w w.drew := (Below.refl _ _).drew
  have HZ : Hid (IsT w.drew D (some ⟨d, 0, none⟩) (.node d zl hd kd vd zr)) := hidb (IsT.keep HD0 (show IsT w D (some ⟨d, 0, none⟩) (.node d zl hd kd vd zr) from ⟨pzl, pzr, rfl, hDd, hd0, tzl, tzr⟩))
  have HY : Hid (IsT w.drew D py y) := hidb (ty.keep HD0)
  have HS0 : Hid (w.drew.cell? ⟨c, 0, none⟩ = some (.pointer py) ∧ w.drew.cell? ⟨d, 0, none⟩ = some (.pointer pzl) ∧ w.drew.cell? ⟨d, 1, none⟩ = some (.pointer pzr)) := hidb ⟨(hc0.keep HD0).c0, (hd0.keep HD0).c0, (hd0.keep HD0).c1⟩
  have HU0 : Hid (w.drew.drew.cell? ⟨c, 0, none⟩ = some (.pointer py) ∧ w.drew.drew.cell? ⟨d, 0, none⟩ = some (.pointer pzl) ∧ w.drew.drew.cell? ⟨d, 1, none⟩ = some (.pointer pzr)) := hidb ⟨(hc0.keep HD0.drew).c0, (hd0.keep HD0.drew).c0, (hd0.keep HD0.drew).c1⟩
  have C1 : Hid (Calls Try.prog 55 #[.pointer (some ⟨c, 0, none⟩), .pointer py, .pointer pzl] w.drew.drew fun e w1 => ∃ b1, e = .returned (.pointer (some ⟨b1, 0, none⟩)) ∧ Hid (w1.cell? ⟨c, 0, none⟩ = some (.pointer py) ∧ w1.cell? ⟨d, 0, none⟩ = some (.pointer pzl) ∧ w1.cell? ⟨d, 1, none⟩ = some (.pointer pzr)) ∧ Hid (Calls Try.prog 55 #[.pointer (some ⟨b, 0, none⟩), .pointer pzr, .pointer po] w1 fun e w2 => ∃ b2, e = .returned (.pointer (some ⟨b2, 0, none⟩)) ∧ Hid (w2.cell? ⟨c, 0, none⟩ = some (.pointer py) ∧ w2.cell? ⟨d, 0, none⟩ = some (.pointer pzl) ∧ w2.cell? ⟨d, 1, none⟩ = some (.pointer pzr)) ∧ Hid (Calls Try.prog 55 #[.pointer (some ⟨d, 0, none⟩), .pointer (some ⟨b1, 0, none⟩), .pointer (some ⟨b2, 0, none⟩)] w2 fun e w3 => ∃ b3, e = .returned (.pointer (some ⟨b3, 0, none⟩)) ∧ Hid (w3.cell? ⟨c, 0, none⟩ = some (.pointer py) ∧ w3.cell? ⟨d, 0, none⟩ = some (.pointer pzl) ∧ w3.cell? ⟨d, 1, none⟩ = some (.pointer pzr)) ∧ Hid (IsT w3 D (some ⟨b3, 0, none⟩) (.node b3 (.node b1 y (1 + max y.ht zl.ht) kc vc zl) (1 + max (1 + max y.ht zl.ht) (1 + max zr.ht o.ht)) kd vd (.node b2 zr (1 + max zr.ht o.ht) k v o)) ∧ Below w.heap.size w w3)))) := by
    have hdd : Below w.heap.size w w.drew.drew := HD0.drew
    refine hidb ((over_t (w := w.drew.drew) hD (hc0.keep hdd) (ty.keep hdd) (tzl.keep hdd) (by omega) (by omega)).mono ?_)
    rintro e w1 ⟨b1, rfl, g1, k1⟩
    have q1 : Below w.heap.size w w1 := hdd.trans k1
    refine ⟨b1, rfl, hidb ⟨(hc0.keep q1).c0, (hd0.keep q1).c0, (hd0.keep q1).c1⟩, hidb ((over_t (w := w1) (fun k hk => hD k (Nat.le_trans q1.size hk)) (hx.keep q1) (tzr.keep q1) (to.keep q1) (by omega) (by omega)).mono ?_)⟩
    rintro e w2 ⟨b2, rfl, g2, k2⟩
    have q2 : Below w.heap.size w w2 := q1.trans (k2.mono q1.size)
    refine ⟨b2, rfl, hidb ⟨(hc0.keep q2).c0, (hd0.keep q2).c0, (hd0.keep q2).c1⟩, hidb ((over_t (w := w2) (fun k hk => hD k (Nat.le_trans q2.size hk)) (hd0.keep q2) (g1.keep k2) g2 (by simp only [ht_node]; omega) (by simp only [ht_node]; omega)).mono ?_)⟩
    rintro e w3 ⟨b3, rfl, g3, k3⟩
    have q3 : Below w.heap.size w w3 := q2.trans (k3.mono q2.size)
    exact ⟨b3, rfl, hidb ⟨(hc0.keep q3).c0, (hd0.keep q3).c0, (hd0.keep q3).c1⟩, hidb ⟨by simpa only [ht_node] using g3, q3⟩⟩
  have e0 : wrap64 (hc - o.ht) = 2 := by unfold wrap64; omega
  have k0 := hc0.c0
  have k1 := hc0.c1
  clear hx hc0 ty to bc by0 bo hdf hd0 tzl tzr bz1 bz2 hD HD0
  go_enter Try.func50, Try.ntmps50
  go_wp2_with (first | (go_at_call 54; refine (height_any H1.out).mono ?_; clear H1; rintro e w' ⟨rfl, rfl⟩) | (go_at_call 54; refine (height_any H2.out).mono ?_; clear H2; rintro e w' ⟨rfl, rfl⟩))
  go_region_held3 (fun w' => w'.cell? ⟨c, 0, none⟩ = some (.pointer py) ∧ w'.cell? ⟨d, 0, none⟩ = some (.pointer pzl) ∧ w'.cell? ⟨d, 1, none⟩ = some (.pointer pzr)) (first | with_reducible exact HS0.out) (first
    | (go_at_call 54; refine (height_any HZ.out).mono ?_; clear HZ; rintro e w' ⟨rfl, rfl⟩)
    | (go_at_call 54; refine (height_any HY.out).mono ?_; clear HY; rintro e w' ⟨rfl, rfl⟩))
  go_wp2_with fail
  go_region_held3 (fun w' => w'.cell? ⟨c, 0, none⟩ = some (.pointer py) ∧ w'.cell? ⟨d, 0, none⟩ = some (.pointer pzl) ∧ w'.cell? ⟨d, 1, none⟩ = some (.pointer pzr)) (first | with_reducible exact HU0.out | with_reducible exact HS1.out | with_reducible exact HS2.out | with_reducible exact HS3.out) (first
    | (go_at_call 55; refine C1.out.mono ?_; clear C1; rintro e w1 ⟨b1, rfl, HS1, C2⟩)
    | (go_at_call 55; refine C2.out.mono ?_; clear C2; rintro e w2 ⟨b2, rfl, HS2, C3⟩)
    | (go_at_call 55; refine C3.out.mono ?_; clear C3; rintro e w3 ⟨b3, rfl, HS3, HT⟩))
  go_wp2_with fail
  go_ret
  exact ⟨b1, b2, b3, rfl, HT.out⟩

set_option maxRecDepth 100000 in
set_option maxHeartbeats 4000000 in
theorem bal_ll {w : World} {D : Nat → Prop} (hD : ∀ k, w.heap.size ≤ k → D k) {b : Nat} {x0 x1 x2 : Value} {k : Int} {v : Hf} (hx : Bxv w b x0 x1 x2 (.int .i64 k) v) {c : Nat} {y o : Avt} {hc kc : Int} {vc : Hf} {py po : Option Addr} {z : Avt} {pz : Option Addr}
    (hc0 : Bxv w c (.pointer py) (.pointer pz) (.int .i64 hc) (.int .i64 kc) vc) (hDc : D c) (ty : IsT w D py y) (tz : IsT w D pz z) (to : IsT w D po o) (bc : Hb hc) (by0 : Hb y.ht) (bo : Hb o.ht) (bz : Hb z.ht) (hin : z.ht ≤ y.ht) (hdf : hc - o.ht = 2) :
    Calls Try.prog 50 #[.pointer (some ⟨b, 0, none⟩), .pointer (some ⟨c, 0, none⟩), .pointer po] w fun e w' => ∃ b1 b2, e = .returned (.pointer (some ⟨b2, 0, none⟩)) ∧ IsT w' D (some ⟨b2, 0, none⟩) (.node b2 y (1 + max y.ht (1 + max z.ht o.ht)) kc vc (.node b1 z (1 + max z.ht o.ht) k v o)) ∧ Below w.heap.size w w' := by
  have H1 : Hid (IsT w D (some ⟨c, 0, none⟩) (.node c y hc kc vc z)) := hidb ⟨_, _, rfl, hDc, hc0, ty, tz⟩
  have H2 := hidb to
  have HD0 : Below w.heap.size w w.drew := (Below.refl _ _).drew
  have HZ : Hid (IsT w.drew D pz z) := hidb (IsT.keep HD0 tz)
  have HY : Hid (IsT w.drew D py y) := hidb (ty.keep HD0)
  have HS0 : Hid (w.drew.cell? ⟨c, 0, none⟩ = some (.pointer py) ∧ w.drew.cell? ⟨c, 1, none⟩ = some (.pointer pz)) := hidb ⟨(hc0.keep HD0).c0, (hc0.keep HD0).c1⟩
  have HU0 : Hid (w.drew.drew.cell? ⟨c, 0, none⟩ = some (.pointer py) ∧ w.drew.drew.cell? ⟨c, 1, none⟩ = some (.pointer pz)) := hidb ⟨(hc0.keep HD0.drew).c0, (hc0.keep HD0.drew).c1⟩
  have C1 : Hid (Calls Try.prog 55 #[.pointer (some ⟨b, 0, none⟩), .pointer pz, .pointer po] w.drew.drew fun e w1 => ∃ b1, e = .returned (.pointer (some ⟨b1, 0, none⟩)) ∧ Hid (w1.cell? ⟨c, 0, none⟩ = some (.pointer py) ∧ w1.cell? ⟨c, 1, none⟩ = some (.pointer pz)) ∧ Hid (Calls Try.prog 55 #[.pointer (some ⟨c, 0, none⟩), .pointer py, .pointer (some ⟨b1, 0, none⟩)] w1 fun e w2 => ∃ b2, e = .returned (.pointer (some ⟨b2, 0, none⟩)) ∧ Hid (w2.cell? ⟨c, 0, none⟩ = some (.pointer py) ∧ w2.cell? ⟨c, 1, none⟩ = some (.pointer pz)) ∧ Hid (IsT w2 D (some ⟨b2, 0, none⟩) (.node b2 y (1 + max y.ht (1 + max z.ht o.ht)) kc vc (.node b1 z (1 + max z.ht o.ht) k v o)) ∧ Below w.heap.size w w2))) := by
    have hdd : Below w.heap.size w w.drew.drew := HD0.drew
    refine hidb ((over_t (w := w.drew.drew) hD (hx.keep hdd) (tz.keep hdd) (to.keep hdd) (by omega) (by omega)).mono ?_)
    rintro e w1 ⟨b1, rfl, g1, k1⟩
    have q1 : Below w.heap.size w w1 := hdd.trans k1
    refine ⟨b1, rfl, hidb ⟨(hc0.keep q1).c0, (hc0.keep q1).c1⟩, hidb ((over_t (w := w1) (fun k hk => hD k (Nat.le_trans q1.size hk)) (hc0.keep q1) (ty.keep q1) g1 (by omega) (by simp only [ht_node]; omega)).mono ?_)⟩
    rintro e w2 ⟨b2, rfl, g2, k2⟩
    have q2 : Below w.heap.size w w2 := q1.trans (k2.mono q1.size)
    exact ⟨b2, rfl, hidb ⟨(hc0.keep q2).c0, (hc0.keep q2).c1⟩, hidb ⟨by simpa only [ht_node] using g2, q2⟩⟩
  have e0 : wrap64 (hc - o.ht) = 2 := by unfold wrap64; omega
  have k0 := hc0.c0
  have k1 := hc0.c1
  clear hx hc0 ty to bc by0 bo hdf tz bz hD HD0
  go_enter Try.func50, Try.ntmps50
  go_wp2_with (first | (go_at_call 54; refine (height_any H1.out).mono ?_; clear H1; rintro e w' ⟨rfl, rfl⟩) | (go_at_call 54; refine (height_any H2.out).mono ?_; clear H2; rintro e w' ⟨rfl, rfl⟩))
  go_region_held3 (fun w' => w'.cell? ⟨c, 0, none⟩ = some (.pointer py) ∧ w'.cell? ⟨c, 1, none⟩ = some (.pointer pz)) (first | with_reducible exact HS0.out) (first
    | (go_at_call 54; refine (height_any HZ.out).mono ?_; clear HZ; rintro e w' ⟨rfl, rfl⟩)
    | (go_at_call 54; refine (height_any HY.out).mono ?_; clear HY; rintro e w' ⟨rfl, rfl⟩))
  go_wp2_with fail
  go_region_held3 (fun w' => w'.cell? ⟨c, 0, none⟩ = some (.pointer py) ∧ w'.cell? ⟨c, 1, none⟩ = some (.pointer pz)) (first | with_reducible exact HU0.out | with_reducible exact HS1.out | with_reducible exact HS2.out) (first
    | (go_at_call 55; refine C1.out.mono ?_; clear C1; rintro e w1 ⟨b1, rfl, HS1, C2⟩)
    | (go_at_call 55; refine C2.out.mono ?_; clear C2; rintro e w2 ⟨b2, rfl, HS2, HT⟩))
  go_wp2_with fail
  go_ret
  exact ⟨b1, b2, rfl, HT.out⟩

set_option maxRecDepth 100000 in
set_option maxHeartbeats 4000000 in
theorem bal_rl {w : World} {D : Nat → Prop} (hD : ∀ k, w.heap.size ≤ k → D k) {b : Nat} {x0 x1 x2 : Value} {k : Int} {v : Hf} (hx : Bxv w b x0 x1 x2 (.int .i64 k) v) {c : Nat} {y o : Avt} {hc kc : Int} {vc : Hf} {py po : Option Addr} {d : Nat} {zl zr : Avt} {hd kd : Int} {vd : Hf} {pzl pzr : Option Addr}
    (hc0 : Bxv w c (.pointer (some ⟨d, 0, none⟩)) (.pointer py) (.int .i64 hc) (.int .i64 kc) vc) (hDc : D c) (ty : IsT w D py y) (hd0 : Bxv w d (.pointer pzl) (.pointer pzr) (.int .i64 hd) (.int .i64 kd) vd) (hDd : D d) (tzl : IsT w D pzl zl) (tzr : IsT w D pzr zr) (to : IsT w D po o) (bc : Hb hc) (by0 : Hb y.ht) (bo : Hb o.ht) (bz1 : Hb zl.ht) (bz2 : Hb zr.ht) (hin : y.ht < hd) (hdf : o.ht - hc = -2) :
    Calls Try.prog 50 #[.pointer (some ⟨b, 0, none⟩), .pointer po, .pointer (some ⟨c, 0, none⟩)] w fun e w' => ∃ b1 b2 b3, e = .returned (.pointer (some ⟨b3, 0, none⟩)) ∧ IsT w' D (some ⟨b3, 0, none⟩) (.node b3 (.node b1 o (1 + max o.ht zl.ht) k v zl) (1 + max (1 + max o.ht zl.ht) (1 + max zr.ht y.ht)) kd vd (.node b2 zr (1 + max zr.ht y.ht) kc vc y)) ∧ Below w.heap.size w w' := by
  have H1 : Hid (IsT w D (some ⟨c, 0, none⟩) (.node c (.node d zl hd kd vd zr) hc kc vc y)) := hidb ⟨_, _, rfl, hDc, hc0, (show IsT w D (some ⟨d, 0, none⟩) (.node d zl hd kd vd zr) from ⟨pzl, pzr, rfl, hDd, hd0, tzl, tzr⟩), ty⟩
  have H2 := hidb to
  have HD0 : Below w.heap.size w w.drew := (Below.refl _ _).drew
  have HZ : Hid (IsT w.drew D (some ⟨d, 0, none⟩) (.node d zl hd kd vd zr)) := hidb (IsT.keep HD0 (show IsT w D (some ⟨d, 0, none⟩) (.node d zl hd kd vd zr) from ⟨pzl, pzr, rfl, hDd, hd0, tzl, tzr⟩))
  have HY : Hid (IsT w.drew D py y) := hidb (ty.keep HD0)
  have HS0 : Hid (w.drew.cell? ⟨c, 1, none⟩ = some (.pointer py) ∧ w.drew.cell? ⟨d, 0, none⟩ = some (.pointer pzl) ∧ w.drew.cell? ⟨d, 1, none⟩ = some (.pointer pzr)) := hidb ⟨(hc0.keep HD0).c1, (hd0.keep HD0).c0, (hd0.keep HD0).c1⟩
  have HU0 : Hid (w.drew.drew.cell? ⟨c, 1, none⟩ = some (.pointer py) ∧ w.drew.drew.cell? ⟨d, 0, none⟩ = some (.pointer pzl) ∧ w.drew.drew.cell? ⟨d, 1, none⟩ = some (.pointer pzr)) := hidb ⟨(hc0.keep HD0.drew).c1, (hd0.keep HD0.drew).c0, (hd0.keep HD0.drew).c1⟩
  have C1 : Hid (Calls Try.prog 55 #[.pointer (some ⟨b, 0, none⟩), .pointer po, .pointer pzl] w.drew.drew fun e w1 => ∃ b1, e = .returned (.pointer (some ⟨b1, 0, none⟩)) ∧ Hid (w1.cell? ⟨c, 1, none⟩ = some (.pointer py) ∧ w1.cell? ⟨d, 0, none⟩ = some (.pointer pzl) ∧ w1.cell? ⟨d, 1, none⟩ = some (.pointer pzr)) ∧ Hid (Calls Try.prog 55 #[.pointer (some ⟨c, 0, none⟩), .pointer pzr, .pointer py] w1 fun e w2 => ∃ b2, e = .returned (.pointer (some ⟨b2, 0, none⟩)) ∧ Hid (w2.cell? ⟨c, 1, none⟩ = some (.pointer py) ∧ w2.cell? ⟨d, 0, none⟩ = some (.pointer pzl) ∧ w2.cell? ⟨d, 1, none⟩ = some (.pointer pzr)) ∧ Hid (Calls Try.prog 55 #[.pointer (some ⟨d, 0, none⟩), .pointer (some ⟨b1, 0, none⟩), .pointer (some ⟨b2, 0, none⟩)] w2 fun e w3 => ∃ b3, e = .returned (.pointer (some ⟨b3, 0, none⟩)) ∧ Hid (w3.cell? ⟨c, 1, none⟩ = some (.pointer py) ∧ w3.cell? ⟨d, 0, none⟩ = some (.pointer pzl) ∧ w3.cell? ⟨d, 1, none⟩ = some (.pointer pzr)) ∧ Hid (IsT w3 D (some ⟨b3, 0, none⟩) (.node b3 (.node b1 o (1 + max o.ht zl.ht) k v zl) (1 + max (1 + max o.ht zl.ht) (1 + max zr.ht y.ht)) kd vd (.node b2 zr (1 + max zr.ht y.ht) kc vc y)) ∧ Below w.heap.size w w3)))) := by
    have hdd : Below w.heap.size w w.drew.drew := HD0.drew
    refine hidb ((over_t (w := w.drew.drew) hD (hx.keep hdd) (to.keep hdd) (tzl.keep hdd) (by omega) (by omega)).mono ?_)
    rintro e w1 ⟨b1, rfl, g1, k1⟩
    have q1 : Below w.heap.size w w1 := hdd.trans k1
    refine ⟨b1, rfl, hidb ⟨(hc0.keep q1).c1, (hd0.keep q1).c0, (hd0.keep q1).c1⟩, hidb ((over_t (w := w1) (fun k hk => hD k (Nat.le_trans q1.size hk)) (hc0.keep q1) (tzr.keep q1) (ty.keep q1) (by omega) (by omega)).mono ?_)⟩
    rintro e w2 ⟨b2, rfl, g2, k2⟩
    have q2 : Below w.heap.size w w2 := q1.trans (k2.mono q1.size)
    refine ⟨b2, rfl, hidb ⟨(hc0.keep q2).c1, (hd0.keep q2).c0, (hd0.keep q2).c1⟩, hidb ((over_t (w := w2) (fun k hk => hD k (Nat.le_trans q2.size hk)) (hd0.keep q2) (g1.keep k2) g2 (by simp only [ht_node]; omega) (by simp only [ht_node]; omega)).mono ?_)⟩
    rintro e w3 ⟨b3, rfl, g3, k3⟩
    have q3 : Below w.heap.size w w3 := q2.trans (k3.mono q2.size)
    exact ⟨b3, rfl, hidb ⟨(hc0.keep q3).c1, (hd0.keep q3).c0, (hd0.keep q3).c1⟩, hidb ⟨by simpa only [ht_node] using g3, q3⟩⟩
  have e0 : wrap64 (o.ht - hc) = -2 := by unfold wrap64; omega
  have k0 := hc0.c1
  have k1 := hc0.c0
  clear hx hc0 ty to bc by0 bo hdf hd0 tzl tzr bz1 bz2 hD HD0
  go_enter Try.func50, Try.ntmps50
  go_wp2_with (first | (go_at_call 54; refine (height_any H2.out).mono ?_; clear H2; rintro e w' ⟨rfl, rfl⟩) | (go_at_call 54; refine (height_any H1.out).mono ?_; clear H1; rintro e w' ⟨rfl, rfl⟩))
  go_region_held3 (fun w' => w'.cell? ⟨c, 1, none⟩ = some (.pointer py) ∧ w'.cell? ⟨d, 0, none⟩ = some (.pointer pzl) ∧ w'.cell? ⟨d, 1, none⟩ = some (.pointer pzr)) (first | with_reducible exact HS0.out) (first
    | (go_at_call 54; refine (height_any HZ.out).mono ?_; clear HZ; rintro e w' ⟨rfl, rfl⟩)
    | (go_at_call 54; refine (height_any HY.out).mono ?_; clear HY; rintro e w' ⟨rfl, rfl⟩))
  go_wp2_with fail
  go_region_held3 (fun w' => w'.cell? ⟨c, 1, none⟩ = some (.pointer py) ∧ w'.cell? ⟨d, 0, none⟩ = some (.pointer pzl) ∧ w'.cell? ⟨d, 1, none⟩ = some (.pointer pzr)) (first | with_reducible exact HU0.out | with_reducible exact HS1.out | with_reducible exact HS2.out | with_reducible exact HS3.out) (first
    | (go_at_call 55; refine C1.out.mono ?_; clear C1; rintro e w1 ⟨b1, rfl, HS1, C2⟩)
    | (go_at_call 55; refine C2.out.mono ?_; clear C2; rintro e w2 ⟨b2, rfl, HS2, C3⟩)
    | (go_at_call 55; refine C3.out.mono ?_; clear C3; rintro e w3 ⟨b3, rfl, HS3, HT⟩))
  go_wp2_with fail
  go_ret
  exact ⟨b1, b2, b3, rfl, HT.out⟩

set_option maxRecDepth 100000 in
set_option maxHeartbeats 4000000 in
theorem bal_rr {w : World} {D : Nat → Prop} (hD : ∀ k, w.heap.size ≤ k → D k) {b : Nat} {x0 x1 x2 : Value} {k : Int} {v : Hf} (hx : Bxv w b x0 x1 x2 (.int .i64 k) v) {c : Nat} {y o : Avt} {hc kc : Int} {vc : Hf} {py po : Option Addr} {z : Avt} {pz : Option Addr}
    (hc0 : Bxv w c (.pointer pz) (.pointer py) (.int .i64 hc) (.int .i64 kc) vc) (hDc : D c) (ty : IsT w D py y) (tz : IsT w D pz z) (to : IsT w D po o) (bc : Hb hc) (by0 : Hb y.ht) (bo : Hb o.ht) (bz : Hb z.ht) (hin : z.ht ≤ y.ht) (hdf : o.ht - hc = -2) :
    Calls Try.prog 50 #[.pointer (some ⟨b, 0, none⟩), .pointer po, .pointer (some ⟨c, 0, none⟩)] w fun e w' => ∃ b1 b2, e = .returned (.pointer (some ⟨b2, 0, none⟩)) ∧ IsT w' D (some ⟨b2, 0, none⟩) (.node b2 (.node b1 o (1 + max o.ht z.ht) k v z) (1 + max (1 + max o.ht z.ht) y.ht) kc vc y) ∧ Below w.heap.size w w' := by
  have H1 : Hid (IsT w D (some ⟨c, 0, none⟩) (.node c z hc kc vc y)) := hidb ⟨_, _, rfl, hDc, hc0, tz, ty⟩
  have H2 := hidb to
  have HD0 : Below w.heap.size w w.drew := (Below.refl _ _).drew
  have HZ : Hid (IsT w.drew D pz z) := hidb (IsT.keep HD0 tz)
  have HY : Hid (IsT w.drew D py y) := hidb (ty.keep HD0)
  have HS0 : Hid (w.drew.cell? ⟨c, 1, none⟩ = some (.pointer py) ∧ w.drew.cell? ⟨c, 0, none⟩ = some (.pointer pz)) := hidb ⟨(hc0.keep HD0).c1, (hc0.keep HD0).c0⟩
  have HU0 : Hid (w.drew.drew.cell? ⟨c, 1, none⟩ = some (.pointer py) ∧ w.drew.drew.cell? ⟨c, 0, none⟩ = some (.pointer pz)) := hidb ⟨(hc0.keep HD0.drew).c1, (hc0.keep HD0.drew).c0⟩
  have C1 : Hid (Calls Try.prog 55 #[.pointer (some ⟨b, 0, none⟩), .pointer po, .pointer pz] w.drew.drew fun e w1 => ∃ b1, e = .returned (.pointer (some ⟨b1, 0, none⟩)) ∧ Hid (w1.cell? ⟨c, 1, none⟩ = some (.pointer py) ∧ w1.cell? ⟨c, 0, none⟩ = some (.pointer pz)) ∧ Hid (Calls Try.prog 55 #[.pointer (some ⟨c, 0, none⟩), .pointer (some ⟨b1, 0, none⟩), .pointer py] w1 fun e w2 => ∃ b2, e = .returned (.pointer (some ⟨b2, 0, none⟩)) ∧ Hid (w2.cell? ⟨c, 1, none⟩ = some (.pointer py) ∧ w2.cell? ⟨c, 0, none⟩ = some (.pointer pz)) ∧ Hid (IsT w2 D (some ⟨b2, 0, none⟩) (.node b2 (.node b1 o (1 + max o.ht z.ht) k v z) (1 + max (1 + max o.ht z.ht) y.ht) kc vc y) ∧ Below w.heap.size w w2))) := by
    have hdd : Below w.heap.size w w.drew.drew := HD0.drew
    refine hidb ((over_t (w := w.drew.drew) hD (hx.keep hdd) (to.keep hdd) (tz.keep hdd) (by omega) (by omega)).mono ?_)
    rintro e w1 ⟨b1, rfl, g1, k1⟩
    have q1 : Below w.heap.size w w1 := hdd.trans k1
    refine ⟨b1, rfl, hidb ⟨(hc0.keep q1).c1, (hc0.keep q1).c0⟩, hidb ((over_t (w := w1) (fun k hk => hD k (Nat.le_trans q1.size hk)) (hc0.keep q1) g1 (ty.keep q1) (by simp only [ht_node]; omega) (by omega)).mono ?_)⟩
    rintro e w2 ⟨b2, rfl, g2, k2⟩
    have q2 : Below w.heap.size w w2 := q1.trans (k2.mono q1.size)
    exact ⟨b2, rfl, hidb ⟨(hc0.keep q2).c1, (hc0.keep q2).c0⟩, hidb ⟨by simpa only [ht_node] using g2, q2⟩⟩
  have e0 : wrap64 (o.ht - hc) = -2 := by unfold wrap64; omega
  have k0 := hc0.c1
  have k1 := hc0.c0
  clear hx hc0 ty to bc by0 bo hdf tz bz hD HD0
  go_enter Try.func50, Try.ntmps50
  go_wp2_with (first | (go_at_call 54; refine (height_any H2.out).mono ?_; clear H2; rintro e w' ⟨rfl, rfl⟩) | (go_at_call 54; refine (height_any H1.out).mono ?_; clear H1; rintro e w' ⟨rfl, rfl⟩))
  go_region_held3 (fun w' => w'.cell? ⟨c, 1, none⟩ = some (.pointer py) ∧ w'.cell? ⟨c, 0, none⟩ = some (.pointer pz)) (first | with_reducible exact HS0.out) (first
    | (go_at_call 54; refine (height_any HZ.out).mono ?_; clear HZ; rintro e w' ⟨rfl, rfl⟩)
    | (go_at_call 54; refine (height_any HY.out).mono ?_; clear HY; rintro e w' ⟨rfl, rfl⟩))
  go_wp2_with fail
  go_region_held3 (fun w' => w'.cell? ⟨c, 1, none⟩ = some (.pointer py) ∧ w'.cell? ⟨c, 0, none⟩ = some (.pointer pz)) (first | with_reducible exact HU0.out | with_reducible exact HS1.out | with_reducible exact HS2.out) (first
    | (go_at_call 55; refine C1.out.mono ?_; clear C1; rintro e w1 ⟨b1, rfl, HS1, C2⟩)
    | (go_at_call 55; refine C2.out.mono ?_; clear C2; rintro e w2 ⟨b2, rfl, HS2, HT⟩))
  go_wp2_with fail
  go_ret
  exact ⟨b1, b2, rfl, HT.out⟩

/-- What balancing tells. -/
def BalR (w : World) (D : Nat → Prop) (l r : Avt) (k : Int) (v : Hf) (e : Ending) (w' : World) : Prop :=
  ∃ b' t', e = .returned (.pointer (some ⟨b', 0, none⟩)) ∧ IsT w' D (some ⟨b', 0, none⟩) t' ∧ t'.avl ∧ t'.ord = l.ord ++ (k, v) :: r.ord ∧ max l.ht r.ht ≤ t'.ht ∧ t'.ht ≤ 1 + max l.ht r.ht ∧ (l.ht - r.ht ≤ 1 → r.ht - l.ht ≤ 1 → t'.ht = 1 + max l.ht r.ht) ∧ Below w.heap.size w w'

theorem bal_any {w : World} {D : Nat → Prop} (hD : ∀ k, w.heap.size ≤ k → D k) {b : Nat} {x0 x1 x2 : Value} {k : Int} {v : Hf} (hx : Bxv w b x0 x1 x2 (.int .i64 k) v) {pl pr : Option Addr} {l r : Avt} (h1 : IsT w D pl l) (h2 : IsT w D pr r)
    (a1 : l.avl) (a2 : r.avl) (b1 : l.ht ≤ 100000000) (b2 : r.ht ≤ 100000000) (d1 : l.ht - r.ht ≤ 2) (d2 : r.ht - l.ht ≤ 2) :
    Calls Try.prog 50 #[.pointer (some ⟨b, 0, none⟩), .pointer pl, .pointer pr] w (BalR w D l r k v) := by
  have n1 := a1.ht_nonneg
  have n2 := a2.ht_nonneg
  by_cases c1 : l.ht - r.ht = 2
  · cases l with
    | leaf => exact absurd c1 (by rw [show Avt.leaf.ht = 0 from rfl]; omega)
    | node c y hc kc vc z =>
      obtain ⟨py, pz, rfl, hDc, hc0, ty, tz⟩ := h1
      obtain ⟨ay, az, eh, f1, f2⟩ := a1
      have n3 := ay.ht_nonneg
      have n4 := az.ht_nonneg
      simp only [ht_node] at *
      by_cases c2 : y.ht < z.ht
      · cases z with
        | leaf => exact absurd c2 (by rw [show Avt.leaf.ht = 0 from rfl]; omega)
        | node d zl hd kd vd zr =>
          obtain ⟨pzl, pzr, rfl, hDd, hd0, tzl, tzr⟩ := tz
          obtain ⟨azl, azr, eh2, f3, f4⟩ := az
          have n5 := azl.ht_nonneg
          have n6 := azr.ht_nonneg
          simp only [ht_node] at *
          refine (bal_lr hD hx hc0 hDc ty hd0 hDd tzl tzr h2 (by omega) (by omega) (by omega) (by omega) (by omega) c2 c1).mono ?_
          rintro e w' ⟨b1, b2, b3, rfl, ht, hb⟩
          refine ⟨b3, _, rfl, ht, ⟨⟨ay, azl, rfl, by omega, by omega⟩, ⟨azr, a2, rfl, by omega, by omega⟩, rfl, by simp only [ht_node]; omega, by simp only [ht_node]; omega⟩, by simp [Avt.ord], by simp only [ht_node]; omega, by simp only [ht_node]; omega, by simp only [ht_node]; omega, hb⟩
      · refine (bal_ll hD hx hc0 hDc ty tz h2 (by omega) (by omega) (by omega) (by omega) (by omega) c1).mono ?_
        rintro e w' ⟨b1, b2, rfl, ht, hb⟩
        refine ⟨b2, _, rfl, ht, ⟨ay, ⟨az, a2, rfl, by omega, by omega⟩, rfl, by simp only [ht_node]; omega, by simp only [ht_node]; omega⟩, by simp [Avt.ord], by simp only [ht_node]; omega, by simp only [ht_node]; omega, by simp only [ht_node]; omega, hb⟩
  · by_cases c1' : l.ht - r.ht = -2
    · cases r with
      | leaf => exact absurd c1' (by rw [show Avt.leaf.ht = 0 from rfl]; omega)
      | node c z hc kc vc y =>
        obtain ⟨pz, py, rfl, hDc, hc0, tz, ty⟩ := h2
        obtain ⟨az, ay, eh, f1, f2⟩ := a2
        have n3 := ay.ht_nonneg
        have n4 := az.ht_nonneg
        simp only [ht_node] at *
        by_cases c2 : y.ht < z.ht
        · cases z with
          | leaf => exact absurd c2 (by rw [show Avt.leaf.ht = 0 from rfl]; omega)
          | node d zl hd kd vd zr =>
            obtain ⟨pzl, pzr, rfl, hDd, hd0, tzl, tzr⟩ := tz
            obtain ⟨azl, azr, eh2, f3, f4⟩ := az
            have n5 := azl.ht_nonneg
            have n6 := azr.ht_nonneg
            simp only [ht_node] at *
            refine (bal_rl hD hx hc0 hDc ty hd0 hDd tzl tzr h1 (by omega) (by omega) (by omega) (by omega) (by omega) c2 c1').mono ?_
            rintro e w' ⟨b1, b2, b3, rfl, ht, hb⟩
            refine ⟨b3, _, rfl, ht, ⟨⟨a1, azl, rfl, by omega, by omega⟩, ⟨azr, ay, rfl, by omega, by omega⟩, rfl, by simp only [ht_node]; omega, by simp only [ht_node]; omega⟩, by simp [Avt.ord], by simp only [ht_node]; omega, by simp only [ht_node]; omega, by simp only [ht_node]; omega, hb⟩
        · refine (bal_rr hD hx hc0 hDc ty tz h1 (by omega) (by omega) (by omega) (by omega) (by omega) c1').mono ?_
          rintro e w' ⟨b1, b2, rfl, ht, hb⟩
          refine ⟨b2, _, rfl, ht, ⟨⟨a1, az, rfl, by omega, by omega⟩, ay, rfl, by simp only [ht_node]; omega, by simp only [ht_node]; omega⟩, by simp [Avt.ord], by simp only [ht_node]; omega, by simp only [ht_node]; omega, by simp only [ht_node]; omega, hb⟩
    · refine (bal_plain hD hx h1 h2 (by omega) (by omega) c1 c1').mono ?_
      rintro e w' ⟨b', rfl, ht, hb⟩
      exact ⟨b', _, rfl, ht, ⟨a1, a2, rfl, by omega, by omega⟩, rfl, by simp only [ht_node]; omega, by simp only [ht_node]; omega, fun _ _ => rfl, hb⟩

end MV
end Go.Proofs.Ytmnglaeaicicnaa
