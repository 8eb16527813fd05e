import Derived.Test.YtceigdeoefhcfaaGreatG02
/- Balancing: the five ways. -/
namespace Go.Proofs.YtceigdeoefhcfaaGreat
open Go.RowKit Go.Lib
namespace MV
attribute [local go_sem] store_float f64bits
attribute [local go_sem ↓] Go.wp_at_zero Go.wp_at_succ

theorem ht_node (b : Nat) (l : Avt) (h k : Int) (v : Hf) (r : Avt) : (Avt.node b l h k v r).ht = h := rfl

/-- A tree's height lies in bounds. -/
abbrev Hb (x : Int) : Prop := 0 ≤ x ∧ x ≤ 1000000000

theorem over_t {w : World} {D : Nat → Prop} (hD : ∀ k, w.heap.size ≤ k → D k) {b : Nat} {x0 x1 x2 : Value} {k : Int} {v : Hf} (hx : Bxv w b x0 x1 x2 (.int .i64 k) v) {pl pr : Option Addr} {l r : Avt} (h1 : IsT w D pl l) (h2 : IsT w D pr r)
    (b1 : 0 ≤ l.ht ∧ l.ht ≤ 1000000000000) (b2 : 0 ≤ r.ht ∧ r.ht ≤ 1000000000000) :
    Calls Tryz.prog 67 #[.pointer (some ⟨b, 0, none⟩), .pointer pl, .pointer pr] w fun e w' => ∃ b', e = .returned (.pointer (some ⟨b', 0, none⟩)) ∧ IsT w' D (some ⟨b', 0, none⟩) (.node b' l (1 + max l.ht r.ht) k v r) ∧ Below w.heap.size w w' := by
  refine (over_any hx h1 h2 b1 b2).mono ?_
  rintro e w' ⟨b', rfl, hb, hx', hbel⟩
  exact ⟨b', rfl, ⟨pl, pr, rfl, hD _ hb, hx', h1.keep hbel, h2.keep hbel⟩, hbel⟩

attribute [local go_sem] ht_node

set_option maxHeartbeats 2000000 in
theorem bal_plain {w : World} {D : Nat → Prop} (hD : ∀ k, w.heap.size ≤ k → D k) {b : Nat} {x0 x1 x2 : Value} {k : Int} {v : Hf} (hx : Bxv w b x0 x1 x2 (.int .i64 k) v) {pl pr : Option Addr} {l r : Avt} (h1 : IsT w D pl l) (h2 : IsT w D pr r)
    (b1 : Hb l.ht) (b2 : Hb r.ht) (n1 : l.ht - r.ht ≠ 2) (n2 : l.ht - r.ht ≠ -2) :
    Calls Tryz.prog 59 #[.pointer (some ⟨b, 0, none⟩), .pointer pl, .pointer pr] w fun e w' => ∃ b', e = .returned (.pointer (some ⟨b', 0, none⟩)) ∧ IsT w' D (some ⟨b', 0, none⟩) (.node b' l (1 + max l.ht r.ht) k v r) ∧ Below w.heap.size w w' := by
  have HO := hidb (over_t hD hx h1 h2 (by omega) (by omega))
  have H1 := hidb h1
  have H2 := hidb h2
  have e0 : wrap64 (l.ht - r.ht) = l.ht - r.ht := by unfold wrap64; omega
  have e1 : (wrap64 (l.ht - r.ht) == 2) = false := by rw [e0]; simpa using n1
  have e2 : (wrap64 (l.ht - r.ht) == -2) = false := by rw [e0]; simpa using n2
  clear e0 n1 n2
  clear hx h1 h2 b1 b2 hD
  go_enter Tryz.func59, Tryz.ntmps59
  go_wp2_with (first | (go_at_call 66; refine (height_any H1.out).mono ?_; clear H1; rintro e w' ⟨rfl, rfl⟩) | (go_at_call 66; refine (height_any H2.out).mono ?_; clear H2; rintro e w' ⟨rfl, rfl⟩) | (go_at_call 67; refine HO.out.mono ?_; clear HO; rintro e w1 ⟨b', rfl, ht, hb⟩))
  go_ret
  exact ⟨b', rfl, ht, hb⟩

set_option maxRecDepth 100000 in
set_option maxHeartbeats 4000000 in
theorem bal_lr {w : World} {D : Nat → Prop} (hD : ∀ k, w.heap.size ≤ k → D k) {b : Nat} {x0 x1 x2 : Value} {k : Int} {v : Hf} (hx : Bxv w b x0 x1 x2 (.int .i64 k) v) {c : Nat} {y o : Avt} {hc kc : Int} {vc : Hf} {py po : Option Addr} {d : Nat} {zl zr : Avt} {hd kd : Int} {vd : Hf} {pzl pzr : Option Addr}
    (hc0 : Bxv w c (.pointer py) (.pointer (some ⟨d, 0, none⟩)) (.int .i64 hc) (.int .i64 kc) vc) (hDc : D c) (ty : IsT w D py y) (hd0 : Bxv w d (.pointer pzl) (.pointer pzr) (.int .i64 hd) (.int .i64 kd) vd) (hDd : D d) (tzl : IsT w D pzl zl) (tzr : IsT w D pzr zr) (to : IsT w D po o) (bc : Hb hc) (by0 : Hb y.ht) (bo : Hb o.ht) (bz1 : Hb zl.ht) (bz2 : Hb zr.ht) (hin : y.ht < hd) (hdf : hc - o.ht = 2) :
    Calls Tryz.prog 59 #[.pointer (some ⟨b, 0, none⟩), .pointer (some ⟨c, 0, none⟩), .pointer po] w fun e w' => ∃ b1 b2 b3, e = .returned (.pointer (some ⟨b3, 0, none⟩)) ∧ IsT w' D (some ⟨b3, 0, none⟩) (.node b3 (.node b1 y (1 + max y.ht zl.ht) kc vc zl) (1 + max (1 + max y.ht zl.ht) (1 + max zr.ht o.ht)) kd vd (.node b2 zr (1 + max zr.ht o.ht) k v o)) ∧ Below w.heap.size w w' := by
  have H1 : Hid (IsT w D (some ⟨c, 0, none⟩) (.node c y hc kc vc (.node d zl hd kd vd zr))) := hidb ⟨_, _, rfl, hDc, hc0, ty, (show IsT w D (some ⟨d, 0, none⟩) (.node d zl hd kd vd zr) from ⟨pzl, pzr, rfl, hDd, hd0, tzl, tzr⟩)⟩
  have H2 := hidb to
  have HD0 : Below w.heap.size w w.drew := (Below.refl _ _).drew
  have HZ : Hid (IsT w.drew D (some ⟨d, 0, none⟩) (.node d zl hd kd vd zr)) := hidb (IsT.keep HD0 (show IsT w D (some ⟨d, 0, none⟩) (.node d zl hd kd vd zr) from ⟨pzl, pzr, rfl, hDd, hd0, tzl, tzr⟩))
  have HY : Hid (IsT w.drew D py y) := hidb (ty.keep HD0)
  have HS0 : Hid (w.drew.cell? ⟨c, 0, none⟩ = some (.pointer py) ∧ w.drew.cell? ⟨d, 0, none⟩ = some (.pointer pzl) ∧ w.drew.cell? ⟨d, 1, none⟩ = some (.pointer pzr)) := hidb ⟨(hc0.keep HD0).c0, (hd0.keep HD0).c0, (hd0.keep HD0).c1⟩
  have HU0 : Hid (w.drew.drew.cell? ⟨c, 0, none⟩ = some (.pointer py) ∧ w.drew.drew.cell? ⟨d, 0, none⟩ = some (.pointer pzl) ∧ w.drew.drew.cell? ⟨d, 1, none⟩ = some (.pointer pzr)) := hidb ⟨(hc0.keep HD0.drew).c0, (hd0.keep HD0.drew).c0, (hd0.keep HD0.drew).c1⟩
  have C1 : Hid (Calls Tryz.prog 67 #[.pointer (some ⟨c, 0, none⟩), .pointer py, .pointer pzl] w.drew.drew fun e w1 => ∃ b1, e = .returned (.pointer (some ⟨b1, 0, none⟩)) ∧ Hid (w1.cell? ⟨c, 0, none⟩ = some (.pointer py) ∧ w1.cell? ⟨d, 0, none⟩ = some (.pointer pzl) ∧ w1.cell? ⟨d, 1, none⟩ = some (.pointer pzr)) ∧ Hid (Calls Tryz.prog 67 #[.pointer (some ⟨b, 0, none⟩), .pointer pzr, .pointer po] w1 fun e w2 => ∃ b2, e = .returned (.pointer (some ⟨b2, 0, none⟩)) ∧ Hid (w2.cell? ⟨c, 0, none⟩ = some (.pointer py) ∧ w2.cell? ⟨d, 0, none⟩ = some (.pointer pzl) ∧ w2.cell? ⟨d, 1, none⟩ = some (.pointer pzr)) ∧ Hid (Calls Tryz.prog 67 #[.pointer (some ⟨d, 0, none⟩), .pointer (some ⟨b1, 0, none⟩), .pointer (some ⟨b2, 0, none⟩)] w2 fun e w3 => ∃ b3, e = .returned (.pointer (some ⟨b3, 0, none⟩)) ∧ Hid (w3.cell? ⟨c, 0, none⟩ = some (.pointer py) ∧ w3.cell? ⟨d, 0, none⟩ = some (.pointer pzl) ∧ w3.cell? ⟨d, 1, none⟩ = some (.pointer pzr)) ∧ Hid (IsT w3 D (some ⟨b3, 0, none⟩) (.node b3 (.node b1 y (1 + max y.ht zl.ht) kc vc zl) (1 + max (1 + max y.ht zl.ht) (1 + max zr.ht o.ht)) kd vd (.node b2 zr (1 + max zr.ht o.ht) k v o)) ∧ Below w.heap.size w w3)))) := by
    have hdd : Below w.heap.size w w.drew.drew := HD0.drew
    refine hidb ((over_t (w := w.drew.drew) hD (hc0.keep hdd) (ty.keep hdd) (tzl.keep hdd) (by omega) (by omega)).mono ?_)
    rintro e w1 ⟨b1, rfl, g1, k1⟩
    have q1 : Below w.heap.size w w1 := hdd.trans k1
    refine ⟨b1, rfl, hidb ⟨(hc0.keep q1).c0, (hd0.keep q1).c0, (hd0.keep q1).c1⟩, hidb ((over_t (w := w1) (fun k hk => hD k (Nat.le_trans q1.size hk)) (hx.keep q1) (tzr.keep q1) (to.keep q1) (by omega) (by omega)).mono ?_)⟩
    rintro e w2 ⟨b2, rfl, g2, k2⟩
    have q2 : Below w.heap.size w w2 := q1.trans (k2.mono q1.size)
    refine ⟨b2, rfl, hidb ⟨(hc0.keep q2).c0, (hd0.keep q2).c0, (hd0.keep q2).c1⟩, hidb ((over_t (w := w2) (fun k hk => hD k (Nat.le_trans q2.size hk)) (hd0.keep q2) (g1.keep k2) g2 (by simp only [ht_node]; omega) (by simp only [ht_node]; omega)).mono ?_)⟩
    rintro e w3 ⟨b3, rfl, g3, k3⟩
    have q3 : Below w.heap.size w w3 := q2.trans (k3.mono q2.size)
    exact ⟨b3, rfl, hidb ⟨(hc0.keep q3).c0, (hd0.keep q3).c0, (hd0.keep q3).c1⟩, hidb ⟨by simpa only [ht_node] using g3, q3⟩⟩
  have e0 : wrap64 (hc - o.ht) = 2 := by unfold wrap64; omega
  have k0 := hc0.c0
  have k1 := hc0.c1
  clear hx hc0 ty to bc by0 bo hdf hd0 tzl tzr bz1 bz2 hD HD0
  go_enter Tryz.func59, Tryz.ntmps59
  go_wp2_with (first | (go_at_call 66; refine (height_any H1.out).mono ?_; clear H1; rintro e w' ⟨rfl, rfl⟩) | (go_at_call 66; refine (height_any H2.out).mono ?_; clear H2; rintro e w' ⟨rfl, rfl⟩))
  go_region_held3 (fun w' => w'.cell? ⟨c, 0, none⟩ = some (.pointer py) ∧ w'.cell? ⟨d, 0, none⟩ = some (.pointer pzl) ∧ w'.cell? ⟨d, 1, none⟩ = some (.pointer pzr)) (first | with_reducible exact HS0.out) (first
    | (go_at_call 66; refine (height_any HZ.out).mono ?_; clear HZ; rintro e w' ⟨rfl, rfl⟩)
    | (go_at_call 66; refine (height_any HY.out).mono ?_; clear HY; rintro e w' ⟨rfl, rfl⟩))
  go_wp2_with fail
  go_region_held3 (fun w' => w'.cell? ⟨c, 0, none⟩ = some (.pointer py) ∧ w'.cell? ⟨d, 0, none⟩ = some (.pointer pzl) ∧ w'.cell? ⟨d, 1, none⟩ = some (.pointer pzr)) (first | with_reducible exact HU0.out | with_reducible exact HS1.out | with_reducible exact HS2.out | with_reducible exact HS3.out) (first
    | (go_at_call 67; refine C1.out.mono ?_; clear C1; rintro e w1 ⟨b1, rfl, HS1, C2⟩)
    | (go_at_call 67; refine C2.out.mono ?_; clear C2; rintro e w2 ⟨b2, rfl, HS2, C3⟩)
    | (go_at_call 67; refine C3.out.mono ?_; clear C3; rintro e w3 ⟨b3, rfl, HS3, HT⟩))
  go_wp2_with fail
  go_ret
  exact ⟨b1, b2, b3, rfl, HT.out⟩

set_option maxRecDepth 100000 in
set_option maxHeartbeats 4000000 in
theorem bal_ll {w : World} {D : Nat → Prop} (hD : ∀ k, w.heap.size ≤ k → D k) {b : Nat} {x0 x1 x2 : Value} {k : Int} {v : Hf} (hx : Bxv w b x0 x1 x2 (.int .i64 k) v) {c : Nat} {y o : Avt} {hc kc : Int} {vc : Hf} {py po : Option Addr} {z : Avt} {pz : Option Addr}
    (hc0 : Bxv w c (.pointer py) (.pointer pz) (.int .i64 hc) (.int .i64 kc) vc) (hDc : D c) (ty : IsT w D py y) (tz : IsT w D pz z) (to : IsT w D po o) (bc : Hb hc) (by0 : Hb y.ht) (bo : Hb o.ht) (bz : Hb z.ht) (hin : z.ht ≤ y.ht) (hdf : hc - o.ht = 2) :
    Calls Tryz.prog 59 #[.pointer (some ⟨b, 0, none⟩), .pointer (some ⟨c, 0, none⟩), .pointer po] w fun e w' => ∃ b1 b2, e = .returned (.pointer (some ⟨b2, 0, none⟩)) ∧ IsT w' D (some ⟨b2, 0, none⟩) (.node b2 y (1 + max y.ht (1 + max z.ht o.ht)) kc vc (.node b1 z (1 + max z.ht o.ht) k v o)) ∧ Below w.heap.size w w' := by
  have H1 : Hid (IsT w D (some ⟨c, 0, none⟩) (.node c y hc kc vc z)) := hidb ⟨_, _, rfl, hDc, hc0, ty, tz⟩
  have H2 := hidb to
  have HD0 : Below w.heap.size w w.drew := (Below.refl _ _).drew
  have HZ : Hid (IsT w.drew D pz z) := hidb (IsT.keep HD0 tz)
  have HY : Hid (IsT w.drew D py y) := hidb (ty.keep HD0)
  have HS0 : Hid (w.drew.cell? ⟨c, 0, none⟩ = some (.pointer py) ∧ w.drew.cell? ⟨c, 1, none⟩ = some (.pointer pz)) := hidb ⟨(hc0.keep HD0).c0, (hc0.keep HD0).c1⟩
  have HU0 : Hid (w.drew.drew.cell? ⟨c, 0, none⟩ = some (.pointer py) ∧ w.drew.drew.cell? ⟨c, 1, none⟩ = some (.pointer pz)) := hidb ⟨(hc0.keep HD0.drew).c0, (hc0.keep HD0.drew).c1⟩
  have C1 : Hid (Calls Tryz.prog 67 #[.pointer (some ⟨b, 0, none⟩), .pointer pz, .pointer po] w.drew.drew fun e w1 => ∃ b1, e = .returned (.pointer (some ⟨b1, 0, none⟩)) ∧ Hid (w1.cell? ⟨c, 0, none⟩ = some (.pointer py) ∧ w1.cell? ⟨c, 1, none⟩ = some (.pointer pz)) ∧ Hid (Calls Tryz.prog 67 #[.pointer (some ⟨c, 0, none⟩), .pointer py, .pointer (some ⟨b1, 0, none⟩)] w1 fun e w2 => ∃ b2, e = .returned (.pointer (some ⟨b2, 0, none⟩)) ∧ Hid (w2.cell? ⟨c, 0, none⟩ = some (.pointer py) ∧ w2.cell? ⟨c, 1, none⟩ = some (.pointer pz)) ∧ Hid (IsT w2 D (some ⟨b2, 0, none⟩) (.node b2 y (1 + max y.ht (1 + max z.ht o.ht)) kc vc (.node b1 z (1 + max z.ht o.ht) k v o)) ∧ Below w.heap.size w w2))) := by
    have hdd : Below w.heap.size w w.drew.drew := HD0.drew
    refine hidb ((over_t (w := w.drew.drew) hD (hx.keep hdd) (tz.keep hdd) (to.keep hdd) (by omega) (by omega)).mono ?_)
    rintro e w1 ⟨b1, rfl, g1, k1⟩
    have q1 : Below w.heap.size w w1 := hdd.trans k1
    refine ⟨b1, rfl, hidb ⟨(hc0.keep q1).c0, (hc0.keep q1).c1⟩, hidb ((over_t (w := w1) (fun k hk => hD k (Nat.le_trans q1.size hk)) (hc0.keep q1) (ty.keep q1) g1 (by omega) (by simp only [ht_node]; omega)).mono ?_)⟩
    rintro e w2 ⟨b2, rfl, g2, k2⟩
    have q2 : Below w.heap.size w w2 := q1.trans (k2.mono q1.size)
    exact ⟨b2, rfl, hidb ⟨(hc0.keep q2).c0, (hc0.keep q2).c1⟩, hidb ⟨by simpa only [ht_node] using g2, q2⟩⟩
  have e0 : wrap64 (hc - o.ht) = 2 := by unfold wrap64; omega
  have k0 := hc0.c0
  have k1 := hc0.c1
  clear hx hc0 ty to bc by0 bo hdf tz bz hD HD0
  go_enter Tryz.func59, Tryz.ntmps59
  go_wp2_with (first | (go_at_call 66; refine (height_any H1.out).mono ?_; clear H1; rintro e w' ⟨rfl, rfl⟩) | (go_at_call 66; refine (height_any H2.out).mono ?_; clear H2; rintro e w' ⟨rfl, rfl⟩))
  go_region_held3 (fun w' => w'.cell? ⟨c, 0, none⟩ = some (.pointer py) ∧ w'.cell? ⟨c, 1, none⟩ = some (.pointer pz)) (first | with_reducible exact HS0.out) (first
    | (go_at_call 66; refine (height_any HZ.out).mono ?_; clear HZ; rintro e w' ⟨rfl, rfl⟩)
    | (go_at_call 66; refine (height_any HY.out).mono ?_; clear HY; rintro e w' ⟨rfl, rfl⟩))
  go_wp2_with fail
  go_region_held3 (fun w' => w'.cell? ⟨c, 0, none⟩ = some (.pointer py) ∧ w'.cell? ⟨c, 1, none⟩ = some (.pointer pz)) (first | with_reducible exact HU0.out | with_reducible exact HS1.out | with_reducible exact HS2.out) (first
    | (go_at_call 67; refine C1.out.mono ?_; clear C1; rintro e w1 ⟨b1, rfl, HS1, C2⟩)
    | (go_at_call 67; refine C2.out.mono ?_; clear C2; rintro e w2 ⟨b2, rfl, HS2, HT⟩))
  go_wp2_with fail
  go_ret
  exact ⟨b1, b2, rfl, HT.out⟩

set_option maxRecDepth 100000 in
set_option maxHeartbeats 4000000 in
theorem bal_rl {w : World} {D : Nat → Prop} (hD : ∀ k, w.heap.size ≤ k → D k) {b : Nat} {x0 x1 x2 : Value} {k : Int} {v : Hf} (hx : Bxv w b x0 x1 x2 (.int .i64 k) v) {c : Nat} {y o : Avt} {hc kc : Int} {vc : Hf} {py po : Option Addr} {d : Nat} {zl zr : Avt} {hd kd : Int} {vd : Hf} {pzl pzr : Option Addr}
    (hc0 : Bxv w c (.pointer (some ⟨d, 0, none⟩)) (.pointer py) (.int .i64 hc) (.int .i64 kc) vc) (hDc : D c) (ty : IsT w D py y) (hd0 : Bxv w d (.pointer pzl) (.pointer pzr) (.int .i64 hd) (.int .i64 kd) vd) (hDd : D d) (tzl : IsT w D pzl zl) (tzr : IsT w D pzr zr) (to : IsT w D po o) (bc : Hb hc) (by0 : Hb y.ht) (bo : Hb o.ht) (bz1 : Hb zl.ht) (bz2 : Hb zr.ht) (hin : y.ht < hd) (hdf : o.ht - hc = -2) :
    Calls Tryz.prog 59 #[.pointer (some ⟨b, 0, none⟩), .pointer po, .pointer (some ⟨c, 0, none⟩)] w fun e w' => ∃ b1 b2 b3, e = .returned (.pointer (some ⟨b3, 0, none⟩)) ∧ IsT w' D (some ⟨b3, 0, none⟩) (.node b3 (.node b1 o (1 + max o.ht zl.ht) k v zl) (1 + max (1 + max o.ht zl.ht) (1 + max zr.ht y.ht)) kd vd (.node b2 zr (1 + max zr.ht y.ht) kc vc y)) ∧ Below w.heap.size w w' := by
  have H1 : Hid (IsT w D (some ⟨c, 0, none⟩) (.node c (.node d zl hd kd vd zr) hc kc vc y)) := hidb ⟨_, _, rfl, hDc, hc0, (show IsT w D (some ⟨d, 0, none⟩) (.node d zl hd kd vd zr) from ⟨pzl, pzr, rfl, hDd, hd0, tzl, tzr⟩), ty⟩
  have H2 := hidb to
  have HD0 : Below w.heap.size w w.drew := (Below.refl _ _).drew
  have HZ : Hid (IsT w.drew D (some ⟨d, 0, none⟩) (.node d zl hd kd vd zr)) := hidb (IsT.keep HD0 (show IsT w D (some ⟨d, 0, none⟩) (.node d zl hd kd vd zr) from ⟨pzl, pzr, rfl, hDd, hd0, tzl, tzr⟩))
  have HY : Hid (IsT w.drew D py y) := hidb (ty.keep HD0)
  have HS0 : Hid (w.drew.cell? ⟨c, 1, none⟩ = some (.pointer py) ∧ w.drew.cell? ⟨d, 0, none⟩ = some (.pointer pzl) ∧ w.drew.cell? ⟨d, 1, none⟩ = some (.pointer pzr)) := hidb ⟨(hc0.keep HD0).c1, (hd0.keep HD0).c0, (hd0.keep HD0).c1⟩
  have HU0 : Hid (w.drew.drew.cell? ⟨c, 1, none⟩ = some (.pointer py) ∧ w.drew.drew.cell? ⟨d, 0, none⟩ = some (.pointer pzl) ∧ w.drew.drew.cell? ⟨d, 1, none⟩ = some (.pointer pzr)) := hidb ⟨(hc0.keep HD0.drew).c1, (hd0.keep HD0.drew).c0, (hd0.keep HD0.drew).c1⟩
  have C1 : Hid (Calls Tryz.prog 67 #[.pointer (some ⟨b, 0, none⟩), .pointer po, .pointer pzl] w.drew.drew fun e w1 => ∃ b1, e = .returned (.pointer (some ⟨b1, 0, none⟩)) ∧ Hid (w1.cell? ⟨c, 1, none⟩ = some (.pointer py) ∧ w1.cell? ⟨d, 0, none⟩ = some (.pointer pzl) ∧ w1.cell? ⟨d, 1, none⟩ = some (.pointer pzr)) ∧ Hid (Calls Tryz.prog 67 #[.pointer (some ⟨c, 0, none⟩), .pointer pzr, .pointer py] w1 fun e w2 => ∃ b2, e = .returned (.pointer (some ⟨b2, 0, none⟩)) ∧ Hid (w2.cell? ⟨c, 1, none⟩ = some (.pointer py) ∧ w2.cell? ⟨d, 0, none⟩ = some (.pointer pzl) ∧ w2.cell? ⟨d, 1, none⟩ = some (.pointer pzr)) ∧ Hid (Calls Tryz.prog 67 #[.pointer (some ⟨d, 0, none⟩), .pointer (some ⟨b1, 0, none⟩), .pointer (some ⟨b2, 0, none⟩)] w2 fun e w3 => ∃ b3, e = .returned (.pointer (some ⟨b3, 0, none⟩)) ∧ Hid (w3.cell? ⟨c, 1, none⟩ = some (.pointer py) ∧ w3.cell? ⟨d, 0, none⟩ = some (.pointer pzl) ∧ w3.cell? ⟨d, 1, none⟩ = some (.pointer pzr)) ∧ Hid (IsT w3 D (some ⟨b3, 0, none⟩) (.node b3 (.node b1 o (1 + max o.ht zl.ht) k v zl) (1 + max (1 + max o.ht zl.ht) (1 + max zr.ht y.ht)) kd vd (.node b2 zr (1 + max zr.ht y.ht) kc vc y)) ∧ Below w.heap.size w w3)))) := by
    have hdd : Below w.heap.size w w.drew.drew := HD0.drew
    refine hidb ((over_t (w := w.drew.drew) hD (hx.keep hdd) (to.keep hdd) (tzl.keep hdd) (by omega) (by omega)).mono ?_)
    rintro e w1 ⟨b1, rfl, g1, k1⟩
    have q1 : Below w.heap.size w w1 := hdd.trans k1
    refine ⟨b1, rfl, hidb ⟨(hc0.keep q1).c1, (hd0.keep q1).c0, (hd0.keep q1).c1⟩, hidb ((over_t (w := w1) (fun k hk => hD k (Nat.le_trans q1.size hk)) (hc0.keep q1) (tzr.keep q1) (ty.keep q1) (by omega) (by omega)).mono ?_)⟩
    rintro e w2 ⟨b2, rfl, g2, k2⟩
    have q2 : Below w.heap.size w w2 := q1.trans (k2.mono q1.size)
    refine ⟨b2, rfl, hidb ⟨(hc0.keep q2).c1, (hd0.keep q2).c0, (hd0.keep q2).c1⟩, hidb ((over_t (w := w2) (fun k hk => hD k (Nat.le_trans q2.size hk)) (hd0.keep q2) (g1.keep k2) g2 (by simp only [ht_node]; omega) (by simp only [ht_node]; omega)).mono ?_)⟩
    rintro e w3 ⟨b3, rfl, g3, k3⟩
    have q3 : Below w.heap.size w w3 := q2.trans (k3.mono q2.size)
    exact ⟨b3, rfl, hidb ⟨(hc0.keep q3).c1, (hd0.keep q3).c0, (hd0.keep q3).c1⟩, hidb ⟨by simpa only [ht_node] using g3, q3⟩⟩
  have e0 : wrap64 (o.ht - hc) = -2 := by unfold wrap64; omega
  have k0 := hc0.c1
  have k1 := hc0.c0
  clear hx hc0 ty to bc by0 bo hdf hd0 tzl tzr bz1 bz2 hD HD0
  go_enter Tryz.func59, Tryz.ntmps59
  go_wp2_with (first | (go_at_call 66; refine (height_any H2.out).mono ?_; clear H2; rintro e w' ⟨rfl, rfl⟩) | (go_at_call 66; refine (height_any H1.out).mono ?_; clear H1; rintro e w' ⟨rfl, rfl⟩))
  go_region_held3 (fun w' => w'.cell? ⟨c, 1, none⟩ = some (.pointer py) ∧ w'.cell? ⟨d, 0, none⟩ = some (.pointer pzl) ∧ w'.cell? ⟨d, 1, none⟩ = some (.pointer pzr)) (first | with_reducible exact HS0.out) (first
    | (go_at_call 66; refine (height_any HZ.out).mono ?_; clear HZ; rintro e w' ⟨rfl, rfl⟩)
    | (go_at_call 66; refine (height_any HY.out).mono ?_; clear HY; rintro e w' ⟨rfl, rfl⟩))
  go_wp2_with fail
  go_region_held3 (fun w' => w'.cell? ⟨c, 1, none⟩ = some (.pointer py) ∧ w'.cell? ⟨d, 0, none⟩ = some (.pointer pzl) ∧ w'.cell? ⟨d, 1, none⟩ = some (.pointer pzr)) (first | with_reducible exact HU0.out | with_reducible exact HS1.out | with_reducible exact HS2.out | with_reducible exact HS3.out) (first
    | (go_at_call 67; refine C1.out.mono ?_; clear C1; rintro e w1 ⟨b1, rfl, HS1, C2⟩)
    | (go_at_call 67; refine C2.out.mono ?_; clear C2; rintro e w2 ⟨b2, rfl, HS2, C3⟩)
    | (go_at_call 67; refine C3.out.mono ?_; clear C3; rintro e w3 ⟨b3, rfl, HS3, HT⟩))
  go_wp2_with fail
  go_ret
  exact ⟨b1, b2, b3, rfl, HT.out⟩

set_option maxRecDepth 100000 in
set_option maxHeartbeats 4000000 in
theorem bal_rr {w : World} {D : Nat → Prop} (hD : ∀ k, w.heap.size ≤ k → D k) {b : Nat} {x0 x1 x2 : Value} {k : Int} {v : Hf} (hx : Bxv w b x0 x1 x2 (.int .i64 k) v) {c : Nat} {y o : Avt} {hc kc : Int} {vc : Hf} {py po : Option Addr} {z : Avt} {pz : Option Addr}
    (hc0 : Bxv w c (.pointer pz) (.pointer py) (.int .i64 hc) (.int .i64 kc) vc) (hDc : D c) (ty : IsT w D py y) (tz : IsT w D pz z) (to : IsT w D po o) (bc : Hb hc) (by0 : Hb y.ht) (bo : Hb o.ht) (bz : Hb z.ht) (hin : z.ht ≤ y.ht) (hdf : o.ht - hc = -2) :
    Calls Tryz.prog 59 #[.pointer (some ⟨b, 0, none⟩), .pointer po, .pointer (some ⟨c, 0, none⟩)] w fun e w' => ∃ b1 b2, e = .returned (.pointer (some ⟨b2, 0, none⟩)) ∧ IsT w' D (some ⟨b2, 0, none⟩) (.node b2 (.node b1 o (1 + max o.ht z.ht) k v z) (1 + max (1 + max o.ht z.ht) y.ht) kc vc y) ∧ Below w.heap.size w w' := by
  have H1 : Hid (IsT w D (some ⟨c, 0, none⟩) (.node c z hc kc vc y)) := hidb ⟨_, _, rfl, hDc, hc0, tz, ty⟩
  have H2 := hidb to
  have HD0 : Below w.heap.size w w.drew := (Below.refl _ _).drew
  have HZ : Hid (IsT w.drew D pz z) := hidb (IsT.keep HD0 tz)
  have HY : Hid (IsT w.drew D py y) := hidb (ty.keep HD0)
  have HS0 : Hid (w.drew.cell? ⟨c, 1, none⟩ = some (.pointer py) ∧ w.drew.cell? ⟨c, 0, none⟩ = some (.pointer pz)) := hidb ⟨(hc0.keep HD0).c1, (hc0.keep HD0).c0⟩
  have HU0 : Hid (w.drew.drew.cell? ⟨c, 1, none⟩ = some (.pointer py) ∧ w.drew.drew.cell? ⟨c, 0, none⟩ = some (.pointer pz)) := hidb ⟨(hc0.keep HD0.drew).c1, (hc0.keep HD0.drew).c0⟩
  have C1 : Hid (Calls Tryz.prog 67 #[.pointer (some ⟨b, 0, none⟩), .pointer po, .pointer pz] w.drew.drew fun e w1 => ∃ b1, e = .returned (.pointer (some ⟨b1, 0, none⟩)) ∧ Hid (w1.cell? ⟨c, 1, none⟩ = some (.pointer py) ∧ w1.cell? ⟨c, 0, none⟩ = some (.pointer pz)) ∧ Hid (Calls Tryz.prog 67 #[.pointer (some ⟨c, 0, none⟩), .pointer (some ⟨b1, 0, none⟩), .pointer py] w1 fun e w2 => ∃ b2, e = .returned (.pointer (some ⟨b2, 0, none⟩)) ∧ Hid (w2.cell? ⟨c, 1, none⟩ = some (.pointer py) ∧ w2.cell? ⟨c, 0, none⟩ = some (.pointer pz)) ∧ Hid (IsT w2 D (some ⟨b2, 0, none⟩) (.node b2 (.node b1 o (1 + max o.ht z.ht) k v z) (1 + max (1 + max o.ht z.ht) y.ht) kc vc y) ∧ Below w.heap.size w w2))) := by
    have hdd : Below w.heap.size w w.drew.drew := HD0.drew
    refine hidb ((over_t (w := w.drew.drew) hD (hx.keep hdd) (to.keep hdd) (tz.keep hdd) (by omega) (by omega)).mono ?_)
    rintro e w1 ⟨b1, rfl, g1, k1⟩
    have q1 : Below w.heap.size w w1 := hdd.trans k1
    refine ⟨b1, rfl, hidb ⟨(hc0.keep q1).c1, (hc0.keep q1).c0⟩, hidb ((over_t (w := w1) (fun k hk => hD k (Nat.le_trans q1.size hk)) (hc0.keep q1) g1 (ty.keep q1) (by simp only [ht_node]; omega) (by omega)).mono ?_)⟩
    rintro e w2 ⟨b2, rfl, g2, k2⟩
    have q2 : Below w.heap.size w w2 := q1.trans (k2.mono q1.size)
    exact ⟨b2, rfl, hidb ⟨(hc0.keep q2).c1, (hc0.keep q2).c0⟩, hidb ⟨by simpa only [ht_node] using g2, q2⟩⟩
  have e0 : wrap64 (o.ht - hc) = -2 := by unfold wrap64; omega
  have k0 := hc0.c1
  have k1 := hc0.c0
  clear hx hc0 ty to bc by0 bo hdf tz bz hD HD0
  go_enter Tryz.func59, Tryz.ntmps59
  go_wp2_with (first | (go_at_call 66; refine (height_any H2.out).mono ?_; clear H2; rintro e w' ⟨rfl, rfl⟩) | (go_at_call 66; refine (height_any H1.out).mono ?_; clear H1; rintro e w' ⟨rfl, rfl⟩))
  go_region_held3 (fun w' => w'.cell? ⟨c, 1, none⟩ = some (.pointer py) ∧ w'.cell? ⟨c, 0, none⟩ = some (.pointer pz)) (first | with_reducible exact HS0.out) (first
    | (go_at_call 66; refine (height_any HZ.out).mono ?_; clear HZ; rintro e w' ⟨rfl, rfl⟩)
    | (go_at_call 66; refine (height_any HY.out).mono ?_; clear HY; rintro e w' ⟨rfl, rfl⟩))
  go_wp2_with fail
  go_region_held3 (fun w' => w'.cell? ⟨c, 1, none⟩ = some (.pointer py) ∧ w'.cell? ⟨c, 0, none⟩ = some (.pointer pz)) (first | with_reducible exact HU0.out | with_reducible exact HS1.out | with_reducible exact HS2.out) (first
    | (go_at_call 67; refine C1.out.mono ?_; clear C1; rintro e w1 ⟨b1, rfl, HS1, C2⟩)
    | (go_at_call 67; refine C2.out.mono ?_; clear C2; rintro e w2 ⟨b2, rfl, HS2, HT⟩))
  go_wp2_with fail
  go_ret
  exact ⟨b1, b2, rfl, HT.out⟩

/-- What balancing tells. -/
def BalR (w : World) (D : Nat → Prop) (l r : Avt) (k : Int) (v : Hf) (e : Ending) (w' : World) : Prop :=
  ∃ b' t', e = .returned (.pointer (some ⟨b', 0, none⟩)) ∧ IsT w' D (some ⟨b', 0, none⟩) t' ∧ t'.avl ∧ t'.ord = l.ord ++ (k, v) :: r.ord ∧ max l.ht r.ht ≤ t'.ht ∧ t'.ht ≤ 1 + max l.ht r.ht ∧ (l.ht - r.ht ≤ 1 → r.ht - l.ht ≤ 1 → t'.ht = 1 + max l.ht r.ht) ∧ Below w.heap.size w w'

theorem bal_any {w : World} {D : Nat → Prop} (hD : ∀ k, w.heap.size ≤ k → D k) {b : Nat} {x0 x1 x2 : Value} {k : Int} {v : Hf} (hx : Bxv w b x0 x1 x2 (.int .i64 k) v) {pl pr : Option Addr} {l r : Avt} (h1 : IsT w D pl l) (h2 : IsT w D pr r)
    (a1 : l.avl) (a2 : r.avl) (b1 : l.ht ≤ 100000000) (b2 : r.ht ≤ 100000000) (d1 : l.ht - r.ht ≤ 2) (d2 : r.ht - l.ht ≤ 2) :
    Calls Tryz.prog 59 #[.pointer (some ⟨b, 0, none⟩), .pointer pl, .pointer pr] w (BalR w D l r k v) := by
  have n1 := a1.ht_nonneg
  have n2 := a2.ht_nonneg
  by_cases c1 : l.ht - r.ht = 2
  · cases l with
    | leaf => exact absurd c1 (by rw [show Avt.leaf.ht = 0 from rfl]; omega)
    | node c y hc kc vc z =>
      obtain ⟨py, pz, rfl, hDc, hc0, ty, tz⟩ := h1
      obtain ⟨ay, az, eh, f1, f2⟩ := a1
      have n3 := ay.ht_nonneg
      have n4 := az.ht_nonneg
      simp only [ht_node] at *
      by_cases c2 : y.ht < z.ht
      · cases z with
        | leaf => exact absurd c2 (by rw [show Avt.leaf.ht = 0 from rfl]; omega)
        | node d zl hd kd vd zr =>
          obtain ⟨pzl, pzr, rfl, hDd, hd0, tzl, tzr⟩ := tz
          obtain ⟨azl, azr, eh2, f3, f4⟩ := az
          have n5 := azl.ht_nonneg
          have n6 := azr.ht_nonneg
          simp only [ht_node] at *
          refine (bal_lr hD hx hc0 hDc ty hd0 hDd tzl tzr h2 (by omega) (by omega) (by omega) (by omega) (by omega) c2 c1).mono ?_
          rintro e w' ⟨b1, b2, b3, rfl, ht, hb⟩
          refine ⟨b3, _, rfl, ht, ⟨⟨ay, azl, rfl, by omega, by omega⟩, ⟨azr, a2, rfl, by omega, by omega⟩, rfl, by simp only [ht_node]; omega, by simp only [ht_node]; omega⟩, by simp [Avt.ord], by simp only [ht_node]; omega, by simp only [ht_node]; omega, by simp only [ht_node]; omega, hb⟩
      · refine (bal_ll hD hx hc0 hDc ty tz h2 (by omega) (by omega) (by omega) (by omega) (by omega) c1).mono ?_
        rintro e w' ⟨b1, b2, rfl, ht, hb⟩
        refine ⟨b2, _, rfl, ht, ⟨ay, ⟨az, a2, rfl, by omega, by omega⟩, rfl, by simp only [ht_node]; omega, by simp only [ht_node]; omega⟩, by simp [Avt.ord], by simp only [ht_node]; omega, by simp only [ht_node]; omega, by simp only [ht_node]; omega, hb⟩
  · by_cases c1' : l.ht - r.ht = -2
    · cases r with
      | leaf => exact absurd c1' (by rw [show Avt.leaf.ht = 0 from rfl]; omega)
      | node c z hc kc vc y =>
        obtain ⟨pz, py, rfl, hDc, hc0, tz, ty⟩ := h2
        obtain ⟨az, ay, eh, f1, f2⟩ := a2
        have n3 := ay.ht_nonneg
        have n4 := az.ht_nonneg
        simp only [ht_node] at *
        by_cases c2 : y.ht < z.ht
        · cases z with
          | leaf => exact absurd c2 (by rw [show Avt.leaf.ht = 0 from rfl]; omega)
          | node d zl hd kd vd zr =>
            obtain ⟨pzl, pzr, rfl, hDd, hd0, tzl, tzr⟩ := tz
            obtain ⟨azl, azr, eh2, f3, f4⟩ := az
            have n5 := azl.ht_nonneg
            have n6 := azr.ht_nonneg
            simp only [ht_node] at *
            refine (bal_rl hD hx hc0 hDc ty hd0 hDd tzl tzr h1 (by omega) (by omega) (by omega) (by omega) (by omega) c2 c1').mono ?_
            rintro e w' ⟨b1, b2, b3, rfl, ht, hb⟩
            refine ⟨b3, _, rfl, ht, ⟨⟨a1, azl, rfl, by omega, by omega⟩, ⟨azr, ay, rfl, by omega, by omega⟩, rfl, by simp only [ht_node]; omega, by simp only [ht_node]; omega⟩, by simp [Avt.ord], by simp only [ht_node]; omega, by simp only [ht_node]; omega, by simp only [ht_node]; omega, hb⟩
        · refine (bal_rr hD hx hc0 hDc ty tz h1 (by omega) (by omega) (by omega) (by omega) (by omega) c1').mono ?_
          rintro e w' ⟨b1, b2, rfl, ht, hb⟩
          refine ⟨b2, _, rfl, ht, ⟨⟨a1, az, rfl, by omega, by omega⟩, ay, rfl, by simp only [ht_node]; omega, by simp only [ht_node]; omega⟩, by simp [Avt.ord], by simp only [ht_node]; omega, by simp only [ht_node]; omega, by simp only [ht_node]; omega, hb⟩
    · refine (bal_plain hD hx h1 h2 (by omega) (by omega) c1 c1').mono ?_
      rintro e w' ⟨b', rfl, ht, hb⟩
      exact ⟨b', _, rfl, ht, ⟨a1, a2, rfl, by omega, by omega⟩, rfl, by simp only [ht_node]; omega, by simp only [ht_node]; omega, fun _ _ => rfl, hb⟩

end MV
end Go.Proofs.YtceigdeoefhcfaaGreat


/- A key put below a root. -/
namespace Go.Proofs.YtceigdeoefhcfaaGreat
open Go.RowKit Go.Lib
namespace MV
attribute [local go_sem] store_float f64bits
attribute [local go_sem ↓] Go.wp_at_zero Go.wp_at_succ

/-- What 'with' tells. -/
def WithR (w : World) (D : Nat → Prop) (t : Avt) (key : Int) (v : Hf) (e : Ending) (w' : World) : Prop :=
  ∃ b' t', e = .returned (.pointer (some ⟨b', 0, none⟩)) ∧ IsT w' D (some ⟨b', 0, none⟩) t' ∧ t'.avl ∧ t'.ord = insL key v t.ord ∧ t.ht ≤ t'.ht ∧ t'.ht ≤ t.ht + 1 ∧ Below w.heap.size w w'

theorem ord_node (b : Nat) (l : Avt) (h k : Int) (v : Hf) (r : Avt) : (Avt.node b l h k v r).ord = l.ord ++ (k, v) :: r.ord := rfl

set_option maxRecDepth 100000 in
set_option maxHeartbeats 4000000 in
theorem with_any (key : Int) (v : Hf) (t : Avt) : ∀ {w : World} {D : Nat → Prop} {p : Option Addr}, (∀ k, w.heap.size ≤ k → D k) → IsT w D p t → t.avl → Rise t.ord → t.ord.length ≤ 10000000 →
    Calls Tryz.prog 50 #[.pointer p, .int .i64 key, .agg #[.int .i64 v.a, .int .i64 v.b, .string v.c]] w (WithR w D t key v) := by
  induction t with
  | leaf =>
    intro w D p hD ht _ _ _
    obtain rfl : p = none := ht
    have HD := hidb hD
    clear hD
    go_enter Tryz.func50, Tryz.ntmps50
    go_wp2_with fail
    go_ret
    exact ⟨w.heap.size + 1, .node (w.heap.size + 1) .leaf 1 key v .leaf, rfl, ⟨none, none, rfl, HD.out _ (by omega), (by have := Bxv.new (w.alloc (.cells #[.int .i64 v.a, .int .i64 v.b, .string v.c] 40)) 104 (.pointer none) (.pointer none) (.int .i64 1) (.int .i64 key) v; simpa using this), rfl, rfl⟩, ⟨trivial, trivial, by simp [Avt.ht], by simp [Avt.ht], by simp [Avt.ht]⟩, rfl, by simp [Avt.ht], by simp [Avt.ht], (below_new _ _).alloc (by simp) _⟩
  | node b l h k v0 r ihl ihr =>
    intro w D p hD ht ha hr hN
    obtain ⟨pl, pr, rfl, hDb, hx, h1, h2⟩ := ht
    have HA := hidb ha
    obtain ⟨al, ar, eh, f1, f2⟩ := ha
    rw [ord_node] at hr hN
    have hrn := rise_node hr
    simp only [List.length_append, List.length_cons] at hN
    have L1 := al.ht_le
    have L2 := ar.ht_le
    have L3 := al.ht_nonneg
    have L4 := ar.ht_nonneg
    have HD0 : Below w.heap.size w (w.alloc (.cells #[.int .i64 v.a, .int .i64 v.b, .string v.c] 40)).drew := (below_new _ _).drew
    have k3 := (hx.keep (below_new w (.cells #[.int .i64 v.a, .int .i64 v.b, .string v.c] 40))).c3
    have k0 := (hx.keep (below_new w (.cells #[.int .i64 v.a, .int .i64 v.b, .string v.c] 40))).c0
    have k1 := (hx.keep (below_new w (.cells #[.int .i64 v.a, .int .i64 v.b, .string v.c] 40))).c1
    have k2 := (hx.keep (below_new w (.cells #[.int .i64 v.a, .int .i64 v.b, .string v.c] 40))).c2
    have P0 : Box3 (w.alloc (.cells #[.int .i64 v.a, .int .i64 v.b, .string v.c] 40)).drew w.heap.size (.int .i64 v.a) (.int .i64 v.b) (.string v.c) := (Box3.new _ _ _ _ _).keep ((Below.refl _ _).drew)
    have HS0 : Hid ((w.alloc (.cells #[.int .i64 v.a, .int .i64 v.b, .string v.c] 40)).drew.cell? ⟨b, 0, none⟩ = some (.pointer pl) ∧ (w.alloc (.cells #[.int .i64 v.a, .int .i64 v.b, .string v.c] 40)).drew.cell? ⟨b, 1, none⟩ = some (.pointer pr) ∧ (w.alloc (.cells #[.int .i64 v.a, .int .i64 v.b, .string v.c] 40)).drew.cell? ⟨w.heap.size, 0, none⟩ = some (.int .i64 v.a) ∧ (w.alloc (.cells #[.int .i64 v.a, .int .i64 v.b, .string v.c] 40)).drew.cell? ⟨w.heap.size, 1, none⟩ = some (.int .i64 v.b) ∧ (w.alloc (.cells #[.int .i64 v.a, .int .i64 v.b, .string v.c] 40)).drew.cell? ⟨w.heap.size, 2, none⟩ = some (.string v.c)) := hidb ⟨(hx.keep HD0).c0, (hx.keep HD0).c1, P0.c0, P0.c1, P0.c2⟩
    rcases Int.lt_trichotomy key k with hk | hk | hk
    · have C1 : Hid (Calls Tryz.prog 50 #[.pointer pl, .int .i64 key, .agg #[.int .i64 v.a, .int .i64 v.b, .string v.c]] (w.alloc (.cells #[.int .i64 v.a, .int .i64 v.b, .string v.c] 40)).drew fun e w1 => ∃ b1, e = .returned (.pointer (some ⟨b1, 0, none⟩)) ∧ Hid (w1.cell? ⟨b, 0, none⟩ = some (.pointer pl) ∧ w1.cell? ⟨b, 1, none⟩ = some (.pointer pr) ∧ w1.cell? ⟨w.heap.size, 0, none⟩ = some (.int .i64 v.a) ∧ w1.cell? ⟨w.heap.size, 1, none⟩ = some (.int .i64 v.b) ∧ w1.cell? ⟨w.heap.size, 2, none⟩ = some (.string v.c)) ∧ Hid (Calls Tryz.prog 59 #[.pointer (some ⟨b, 0, none⟩), .pointer (some ⟨b1, 0, none⟩), .pointer pr] w1 fun e w2 => ∃ b2, e = .returned (.pointer (some ⟨b2, 0, none⟩)) ∧ Hid (w2.cell? ⟨b, 0, none⟩ = some (.pointer pl) ∧ w2.cell? ⟨b, 1, none⟩ = some (.pointer pr) ∧ w2.cell? ⟨w.heap.size, 0, none⟩ = some (.int .i64 v.a) ∧ w2.cell? ⟨w.heap.size, 1, none⟩ = some (.int .i64 v.b) ∧ w2.cell? ⟨w.heap.size, 2, none⟩ = some (.string v.c)) ∧ Hid (WithR w D (.node b l h k v0 r) key v (.returned (.pointer (some ⟨b2, 0, none⟩))) w2))) := by
        refine hidb ((ihl (w := (w.alloc (.cells #[.int .i64 v.a, .int .i64 v.b, .string v.c] 40)).drew) (fun k hk => hD k (Nat.le_trans HD0.size hk)) (h1.keep HD0) al hrn.1 (by omega)).mono ?_)
        rintro e w1 ⟨b1, t1, rfl, g1, a1, o1, i1, i2, q1⟩
        have q1' : Below w.heap.size w w1 := HD0.trans (q1.mono HD0.size)
        refine ⟨b1, rfl, hidb ⟨(hx.keep q1').c0, (hx.keep q1').c1, (P0.keep q1).c0, (P0.keep q1).c1, (P0.keep q1).c2⟩, hidb ((bal_any (w := w1) (fun k hk => hD k (Nat.le_trans q1'.size hk)) (hx.keep q1') g1 (h2.keep q1') a1 ar (by omega) (by omega) (by omega) (by omega)).mono ?_)⟩
        rintro e w2 ⟨b2, t2, rfl, g2, a2, o2, i3, i4, i5, q2⟩
        have q2' : Below w.heap.size w w2 := q1'.trans (q2.mono q1'.size)
        refine ⟨b2, rfl, hidb ⟨(hx.keep q2').c0, (hx.keep q2').c1, ((P0.keep q1).keep q2).c0, ((P0.keep q1).keep q2).c1, ((P0.keep q1).keep q2).c2⟩, hidb ⟨b2, t2, rfl, g2, a2, by rw [o2, o1, ord_node, ins_left hr hk], ?_, ?_, q2'⟩⟩
        · rw [ht_node]; by_cases z : t1.ht - r.ht ≤ 1
          · have := i5 z (by omega); omega
          · omega
        · rw [ht_node]; by_cases z : t1.ht - r.ht ≤ 1
          · have := i5 z (by omega); omega
          · omega
      clear P0 hx h1 h2 hD HD0 ihl ihr al ar hrn hr hN L1 L2 L3 L4 f1 f2 eh
      go_enter Tryz.func50, Tryz.ntmps50
      go_wp2_with fail
      go_region_held3 (fun w' => w'.cell? ⟨b, 0, none⟩ = some (.pointer pl) ∧ w'.cell? ⟨b, 1, none⟩ = some (.pointer pr) ∧ w'.cell? ⟨w.heap.size, 0, none⟩ = some (.int .i64 v.a) ∧ w'.cell? ⟨w.heap.size, 1, none⟩ = some (.int .i64 v.b) ∧ w'.cell? ⟨w.heap.size, 2, none⟩ = some (.string v.c)) (first | with_reducible exact HS0.out | with_reducible exact HS1.out | with_reducible exact HS2.out) (first
        | (go_at_call 50; refine C1.out.mono ?_; clear C1; rintro e w1 ⟨b1, rfl, HS1, C2⟩)
        | (go_at_call 59; refine C2.out.mono ?_; clear C2; rintro e w2 ⟨b2, rfl, HS2, HT⟩))
      go_wp2_with fail
      go_ret
      exact HT.out
    · subst hk
      have HR := hidb hr
      have HX := hidb h1
      have HY := hidb h2
      have HDD := hidb hD
      clear P0 hx h1 h2 hD HD0 ihl ihr al ar hrn hr hN L1 L2 L3 L4 f1 f2 eh
      go_enter Tryz.func50, Tryz.ntmps50
      go_wp2_with fail
      go_region
      go_wp2_with fail
      go_ret
      have hb := ((below_new w (.cells #[.int .i64 v.a, .int .i64 v.b, .string v.c] 40)).alloc (by simp) (.cells #[.pointer pl, .pointer pr, .int .i64 h, .int .i64 key, .int .i64 v.a, .int .i64 v.b, .string v.c] 104)).drew
      exact ⟨w.heap.size + 1, .node (w.heap.size + 1) l h key v r, rfl, ⟨pl, pr, rfl, HDD.out _ (by omega), (show Bxv _ (w.heap.size + 1) _ _ _ _ v by have := Bxv.new (w.alloc (.cells #[.int .i64 v.a, .int .i64 v.b, .string v.c] 40)) 104 (.pointer pl) (.pointer pr) (.int .i64 h) (.int .i64 key) v; simpa using this).keep ((Below.refl _ _).drew), HX.out.keep hb, HY.out.keep hb⟩, HA.out, by rw [ord_node, ord_node, ins_here HR.out], Int.le_refl _, by rw [ht_node, ht_node]; omega, hb⟩
    · have n2 : ¬ key < k := by omega
      have C1 : Hid (Calls Tryz.prog 50 #[.pointer pr, .int .i64 key, .agg #[.int .i64 v.a, .int .i64 v.b, .string v.c]] (w.alloc (.cells #[.int .i64 v.a, .int .i64 v.b, .string v.c] 40)).drew fun e w1 => ∃ b1, e = .returned (.pointer (some ⟨b1, 0, none⟩)) ∧ Hid (w1.cell? ⟨b, 0, none⟩ = some (.pointer pl) ∧ w1.cell? ⟨b, 1, none⟩ = some (.pointer pr) ∧ w1.cell? ⟨w.heap.size, 0, none⟩ = some (.int .i64 v.a) ∧ w1.cell? ⟨w.heap.size, 1, none⟩ = some (.int .i64 v.b) ∧ w1.cell? ⟨w.heap.size, 2, none⟩ = some (.string v.c)) ∧ Hid (Calls Tryz.prog 59 #[.pointer (some ⟨b, 0, none⟩), .pointer pl, .pointer (some ⟨b1, 0, none⟩)] w1 fun e w2 => ∃ b2, e = .returned (.pointer (some ⟨b2, 0, none⟩)) ∧ Hid (w2.cell? ⟨b, 0, none⟩ = some (.pointer pl) ∧ w2.cell? ⟨b, 1, none⟩ = some (.pointer pr) ∧ w2.cell? ⟨w.heap.size, 0, none⟩ = some (.int .i64 v.a) ∧ w2.cell? ⟨w.heap.size, 1, none⟩ = some (.int .i64 v.b) ∧ w2.cell? ⟨w.heap.size, 2, none⟩ = some (.string v.c)) ∧ Hid (WithR w D (.node b l h k v0 r) key v (.returned (.pointer (some ⟨b2, 0, none⟩))) w2))) := by
        refine hidb ((ihr (w := (w.alloc (.cells #[.int .i64 v.a, .int .i64 v.b, .string v.c] 40)).drew) (fun k hk => hD k (Nat.le_trans HD0.size hk)) (h2.keep HD0) ar hrn.2.1 (by omega)).mono ?_)
        rintro e w1 ⟨b1, t1, rfl, g1, a1, o1, i1, i2, q1⟩
        have q1' : Below w.heap.size w w1 := HD0.trans (q1.mono HD0.size)
        refine ⟨b1, rfl, hidb ⟨(hx.keep q1').c0, (hx.keep q1').c1, (P0.keep q1).c0, (P0.keep q1).c1, (P0.keep q1).c2⟩, hidb ((bal_any (w := w1) (fun k hk => hD k (Nat.le_trans q1'.size hk)) (hx.keep q1') (h1.keep q1') g1 al a1 (by omega) (by omega) (by omega) (by omega)).mono ?_)⟩
        rintro e w2 ⟨b2, t2, rfl, g2, a2, o2, i3, i4, i5, q2⟩
        have q2' : Below w.heap.size w w2 := q1'.trans (q2.mono q1'.size)
        refine ⟨b2, rfl, hidb ⟨(hx.keep q2').c0, (hx.keep q2').c1, ((P0.keep q1).keep q2).c0, ((P0.keep q1).keep q2).c1, ((P0.keep q1).keep q2).c2⟩, hidb ⟨b2, t2, rfl, g2, a2, by rw [o2, o1, ord_node, ins_right hr hk], ?_, ?_, q2'⟩⟩
        · rw [ht_node]; by_cases z : t1.ht - l.ht ≤ 1
          · have := i5 (by omega) z; omega
          · omega
        · rw [ht_node]; by_cases z : t1.ht - l.ht ≤ 1
          · have := i5 (by omega) z; omega
          · omega
      clear P0 hx h1 h2 hD HD0 ihl ihr al ar hrn hr hN L1 L2 L3 L4 f1 f2 eh
      go_enter Tryz.func50, Tryz.ntmps50
      go_wp2_with fail
      go_region_held3 (fun w' => w'.cell? ⟨b, 0, none⟩ = some (.pointer pl) ∧ w'.cell? ⟨b, 1, none⟩ = some (.pointer pr) ∧ w'.cell? ⟨w.heap.size, 0, none⟩ = some (.int .i64 v.a) ∧ w'.cell? ⟨w.heap.size, 1, none⟩ = some (.int .i64 v.b) ∧ w'.cell? ⟨w.heap.size, 2, none⟩ = some (.string v.c)) (first | with_reducible exact HS0.out | with_reducible exact HS1.out | with_reducible exact HS2.out) (first
        | (go_at_call 50; refine C1.out.mono ?_; clear C1; rintro e w1 ⟨b1, rfl, HS1, C2⟩)
        | (go_at_call 59; refine C2.out.mono ?_; clear C2; rintro e w2 ⟨b2, rfl, HS2, HT⟩))
      go_wp2_with fail
      go_ret
      exact HT.out

end MV
end Go.Proofs.YtceigdeoefhcfaaGreat


