/- Half-links: the table in memory; Get, isLinked, Len. -/
import Derived.Test.YtodelafnboimnaaGreatHvB
namespace Go.Proofs.YtodelafnboimnaaGreat
open Go.RowKit Go.Lib
open HV (Hf hf0 getL insL delL Rise Wfk TB Nw Rst)
attribute [local go_sem] store_float f64bits
attribute [local go_sem ↓] Go.wp_at_zero Go.wp_at_succ

/-- Half-links that are Linked or Unlinking. -/
def HOk (L : List HV.KV) : Prop := ∀ x ∈ L, x.2.a = x.1 ∧ (x.2.b = 1 ∨ x.2.b = 2)

/-- A table at tb: its half-links, by pid, and the last identifier. -/
structure LT (w : World) (tb : Nat) (D : Nat → Prop) (L : List HV.KV) (n : Int) : Prop where
  tr : TB w tb D L
  c2 : w.cell? ⟨tb, 2, none⟩ = some (.int .i64 n)
  f2 : w.frozen? ⟨tb, 2, none⟩ = false
  ok : HOk L

theorem LT.but {S D : Nat → Prop} {w w' : World} {tb : Nat} {L : List HV.KV} {n : Int} (h : LT w tb D L n) (hb : But S w w') (hs : ∀ k, D k → ¬ S k) (ht : ¬ S tb) : LT w' tb D L n :=
  ⟨h.tr.but hb hs ht, (hb.cell h.tr.lt ht).trans h.c2, (hb.frozen h.tr.lt ht).trans h.f2, h.ok⟩
theorem LT.keep {D : Nat → Prop} {w w' : World} {tb : Nat} {L : List HV.KV} {n : Int} (h : LT w tb D L n) (hb : Below w.heap.size w w') : LT w' tb D L n := h.but (S := fun _ => False) (But.of_below hb) (fun _ _ h => h) (fun h => h)
theorem LT.mono {D D' : Nat → Prop} {w : World} {tb : Nat} {L : List HV.KV} {n : Int} (h : LT w tb D L n) (hd : ∀ k, D k → D' k) (ht : ¬ D' tb) : LT w tb D' L n := ⟨h.tr.mono hd ht, h.c2, h.f2, h.ok⟩

/-- The half-link with a pid, or the zero one. -/
abbrev stL (p : Int) (L : List HV.KV) : Hf := (getL p L).getD hf0

/-- Is it Linked? -/
def isLk (p : Int) (L : List HV.KV) : Bool := (stL p L).b == 1
/-- Is it Unlinking by an identifier? -/
def ackB (p id : Int) (L : List HV.KV) : Bool := (stL p L).b == 2 && (stL p L).c == id
/-- Behind OnExit, OnUnlink. -/
def dlL (p : Int) (L : List HV.KV) : List HV.KV := if isLk p L then delL p L else L
/-- Behind Link. -/
def lnkL (p : Int) (L : List HV.KV) : List HV.KV := if isLk p L then L else insL p ⟨p, 1, 0⟩ L
/-- Behind Unlink. -/
def ulkL (p n : Int) (L : List HV.KV) : List HV.KV := if isLk p L then insL p ⟨p, 2, n + 1⟩ L else L
def ulkN (p n : Int) (L : List HV.KV) : Int := if isLk p L then n + 1 else n
def ulkI (p n : Int) (L : List HV.KV) : Int := if isLk p L then n + 1 else 0
/-- Behind OnLink. -/
def onlL (p : Int) (L : List HV.KV) : List HV.KV := if (getL p L).isSome then L else insL p ⟨p, 1, 0⟩ L
/-- Behind OnAck. -/
def ackL (p id : Int) (L : List HV.KV) : List HV.KV := if ackB p id L then delL p L else L

set_option maxHeartbeats 2000000 in
theorem lget_any {w : World} {tb : Nat} {D : Nat → Prop} {L : List HV.KV} {n : Int} (h : LT w tb D L n) (p : Int) :
    Calls Tryz.prog 12 #[.pointer (some ⟨tb, 0, none⟩), .int .i64 p] w fun e w' => e = .returned (.tuple #[.agg #[.int .i64 (stL p L).a, .int .i64 (stL p L).b, .int .i64 (stL p L).c], .bool (getL p L).isSome]) ∧ Below w.heap.size w w' := by
  have hb0 := below_new w (.cells #[.int .i64 0, .int .i64 0, .int .i64 0] 38)
  have HG := hidb (HV.get_any (h.tr.keep hb0) p)
  have P0 : Tri (w.alloc (.cells #[.int .i64 0, .int .i64 0, .int .i64 0] 38)) w.heap.size (.int .i64 0) (.int .i64 0) (.int .i64 0) := Tri.new _ _ _ _ _
  have HB0 := hidb hb0
  clear hb0
  clear h
  go_enter Tryz.func12, Tryz.ntmps12
  go_wp2_with (go_at_call 23; refine HG.out.mono ?_; clear HG; rintro e w' ⟨rfl, hb⟩; have P1 := P0.keep hb; have p0 := P1.c0; have p1 := P1.c1; have p2 := P1.c2; have q0 := P1.f0; have q1 := P1.f1; have q2 := P1.f2; have HB := hidb (HB0.out.trans (hb.mono HB0.out.size)); clear hb P1 P0)
  have hb := HB.out
  exact bodyPost_ret (v := .tuple #[.agg #[.int .i64 (stL p L).a, .int .i64 (stL p L).b, .int .i64 (stL p L).c], .bool (getL p L).isSome]) (by simp [results, Tryz.results12, go_sem, p0, p1, p2]) rfl ⟨rfl, by (repeat (first | exact Below.refl _ _ | assumption | refine Below.drew ?_ | refine below_drewN ?_ _ | refine Below.setCell ?_ (by simp) _ | refine Below.alloc ?_ (by (first | exact Nat.le_refl _ | (simp; done) | (simp; omega) | omega)) _ | refine Below.trans ?_ (Below.mono (by assumption) (by first | exact Nat.le_refl _ | (simp; done) | (simp; omega) | omega))))⟩

set_option maxHeartbeats 2000000 in
theorem isLinked_any {w : World} {tb : Nat} {D : Nat → Prop} {L : List HV.KV} {n : Int} (h : LT w tb D L n) (p : Int) :
    Calls Tryz.prog 28 #[.pointer (some ⟨tb, 0, none⟩), .int .i64 p] w fun e w' => e = .returned (.bool (isLk p L)) ∧ Below w.heap.size w w' := by
  have HG := hidb (lget_any h p)
  clear h
  go_enter Tryz.func28, Tryz.ntmps28
  go_wp2_with (go_at_call 12; refine HG.out.mono ?_; clear HG; rintro e w' ⟨rfl, hb⟩; have HB := hidb hb; clear hb)
  go_ret
  exact ⟨rfl, HB.out.alloc (HB.out.size) _⟩

end Go.Proofs.YtodelafnboimnaaGreat
