/- Two processes' tables and the ether between: begun. -/
import Derived.Test.YtodelafnboimnaaGreatPm4
import Derived.Deep.RegionWith
namespace Go.Proofs.YtodelafnboimnaaGreat
open Go.RowKit Go.Lib
open HV (Hf hf0 getL insL delL Rise Wfk TB Nw Rst)
open PR (Sd Sig Inv cnt)
attribute [local go_sem] store_float f64bits
attribute [local go_sem ↓] Go.wp_at_zero Go.wp_at_succ

theorem newE (w : World) : Calls Tryz.prog 18 #[] w fun e w' => e = .returned (.pointer (some ⟨w.heap.size, 0, none⟩)) ∧ w' = w.alloc (.cells #[.map none, .int .i64 0] 66) := by
  go_enter Tryz.func18, Tryz.ntmps18
  go_wp2
  go_ret
  exact ⟨rfl, rfl⟩

theorem eo_new (w0 w : World) (hB : Below w0.heap.size w0 w) : EO w0 (w.alloc (.cells #[.map none, .int .i64 0] 66)) w.heap.size (.map none) (fun _ _ => none) 0 0 :=
  ⟨Duo.new _ _ _ _, .inl ⟨rfl, fun _ _ => rfl⟩, hB.size, fun a b l h => (by cases h), fun a b l a' b' l' h => (by cases h), hB.alloc hB.size _⟩

abbrev pbx (e : Nat) : Obj := .cells #[.pointer none, .pointer none, .pointer (some ⟨e, 0, none⟩)] 35

/-- All is laid: the ether at w's end, the box behind it, then the two tables. -/
theorem pm_new {w w2 w3 w4 w5 : World} (h2 : w2 = (w.alloc (.cells #[.map none, .int .i64 0] 66)).alloc (pbx w.heap.size))
    (g3 : LT w3 (w.heap.size + 2) (fun _ => False) [] 0) (b3 : Below w2.heap.size w2 w3) (s3 : w3.heap.size = w.heap.size + 3)
    (h4 : w4 = w3.setCell ⟨w.heap.size + 1, 0, none⟩ (.pointer (some ⟨w.heap.size + 2, 0, none⟩)))
    (g5 : LT w5 (w.heap.size + 3) (fun _ => False) [] 0) (b5 : Below w4.heap.size w4 w5) :
    PM w (w5.setCell ⟨w.heap.size + 1, 1, none⟩ (.pointer (some ⟨w.heap.size + 3, 0, none⟩))) (w.heap.size + 1) (.pointer (some ⟨w.heap.size + 2, 0, none⟩)) (.pointer (some ⟨w.heap.size + 3, 0, none⟩)) (w.heap.size + 2) (w.heap.size + 3) w.heap.size 1 2 ⟨0, 0, 0⟩ ⟨0, 0, 0⟩ [] [] 0 := by
  have z2 : w2.heap.size = w.heap.size + 2 := by rw [h2]; simp
  have z4 : w4.heap.size = w.heap.size + 3 := by rw [h4]; simpa [World.setCell] using s3
  have T2 : Tri w2 (w.heap.size + 1) (.pointer none) (.pointer none) (.pointer (some ⟨w.heap.size, 0, none⟩)) := by
    rw [h2]
    have := Tri.new (w.alloc (.cells #[.map none, .int .i64 0] 66)) 35 (.pointer none) (.pointer none) (.pointer (some ⟨w.heap.size, 0, none⟩))
    simpa using this
  have E2 : EO w w2 w.heap.size (.map none) (fun _ _ => none) 0 0 := by
    rw [h2]; exact (eo_new w w (Below.refl _ _)).keep (below_new _ _)
  have s4 : But (fun k => k = w.heap.size + 1) w3 w4 := by rw [h4]; exact (But.refl (fun k => k = w.heap.size + 1) w3).setCell (p := ⟨w.heap.size + 1, 0, none⟩) (fun _ => rfl) _
  have s6 : But (fun k => k = w.heap.size + 1) w5 (w5.setCell ⟨w.heap.size + 1, 1, none⟩ (.pointer (some ⟨w.heap.size + 3, 0, none⟩))) := (But.refl (fun k => k = w.heap.size + 1) w5).setCell (p := ⟨w.heap.size + 1, 1, none⟩) (fun _ => rfl) _
  have T4 : Tri w4 (w.heap.size + 1) (.pointer (some ⟨w.heap.size + 2, 0, none⟩)) (.pointer none) (.pointer (some ⟨w.heap.size, 0, none⟩)) := by rw [h4]; exact (T2.keep b3).set0 _
  have T6 := (T4.keep b5).set1 (.pointer (some ⟨w.heap.size + 3, 0, none⟩))
  have z5 := b5.size
  have hnE : ∀ k, EF (.map none) (fun _ _ => none) w.heap.size k → k = w.heap.size := by
    rintro k (e | e | ⟨a, b, l, e, _⟩)
    · exact e
    · cases e
    · cases e
  have E3 := E2.keep b3
  have E4 := E3.but s4 (by omega) (fun mb e => by cases e) (fun a b l j e => by cases e) (fun j e => by omega)
  have E5 := E4.keep b5
  have E6 := E5.but s6 (by omega) (fun mb e => by cases e) (fun a b l j e => by cases e) (fun j e => by omega)
  have hl5 := g5.tr.lt
  refine ⟨fun _ => False, fun _ => False, .map none, fun _ _ => none, T6, ((g3.but s4 (fun k hk => hk.elim) (by omega)).keep b5).but s6 (fun k hk => hk.elim) (by omega), g5.but s6 (fun k hk => hk.elim) (by omega), E6, .inl ⟨rfl, rfl⟩, .inl ⟨rfl, rfl⟩, fun _ _ _ _ => rfl, ⟨fun _ h => h.elim, fun _ h => h.elim, ⟨fun e => by have := hnE _ e; omega, fun e => by have := hnE _ e; omega, fun e => by have := hnE _ e; omega⟩, ⟨by omega, by omega, by omega⟩, ⟨by omega, by omega, by omega⟩⟩⟩

set_option maxRecDepth 100000 in
set_option maxHeartbeats 4000000 in
theorem begun_any (w : World) : Calls Tryz.prog 6 #[] w fun e w9 => e = .returned (.pointer (some ⟨w.heap.size + 1, 0, none⟩)) ∧ PM w w9 (w.heap.size + 1) (.pointer (some ⟨w.heap.size + 2, 0, none⟩)) (.pointer (some ⟨w.heap.size + 3, 0, none⟩)) (w.heap.size + 2) (w.heap.size + 3) w.heap.size 1 2 ⟨0, 0, 0⟩ ⟨0, 0, 0⟩ [] [] 0 := by
  have C1 : Hid (Calls Tryz.prog 14 #[] ((w.alloc (.cells #[.map none, .int .i64 0] 66)).alloc (pbx w.heap.size)).drew fun e w3 => e = .returned (.pointer (some ⟨w.heap.size + 2, 0, none⟩)) ∧ Tri w3 (w.heap.size + 1) (.pointer none) (.pointer none) (.pointer (some ⟨w.heap.size, 0, none⟩)) ∧ Hid (Calls Tryz.prog 14 #[] (w3.setCell ⟨w.heap.size + 1, 0, none⟩ (.pointer (some ⟨w.heap.size + 2, 0, none⟩))).drew fun e w5 => e = .returned (.pointer (some ⟨w.heap.size + 3, 0, none⟩)) ∧ Tri w5 (w.heap.size + 1) (.pointer (some ⟨w.heap.size + 2, 0, none⟩)) (.pointer none) (.pointer (some ⟨w.heap.size, 0, none⟩)) ∧ Hid (PM w (w5.setCell ⟨w.heap.size + 1, 1, none⟩ (.pointer (some ⟨w.heap.size + 3, 0, none⟩))) (w.heap.size + 1) (.pointer (some ⟨w.heap.size + 2, 0, none⟩)) (.pointer (some ⟨w.heap.size + 3, 0, none⟩)) (w.heap.size + 2) (w.heap.size + 3) w.heap.size 1 2 ⟨0, 0, 0⟩ ⟨0, 0, 0⟩ [] [] 0))) := by
    have hz : ((w.alloc (.cells #[.map none, .int .i64 0] 66)).alloc (pbx w.heap.size)).drew.heap.size = w.heap.size + 2 := by show ((w.alloc (.cells #[.map none, .int .i64 0] 66)).alloc (pbx w.heap.size)).heap.size = _; simp
    have T2 : Tri ((w.alloc (.cells #[.map none, .int .i64 0] 66)).alloc (pbx w.heap.size)) (w.heap.size + 1) (.pointer none) (.pointer none) (.pointer (some ⟨w.heap.size, 0, none⟩)) := by
      have := Tri.new (w.alloc (.cells #[.map none, .int .i64 0] 66)) 35 (.pointer none) (.pointer none) (.pointer (some ⟨w.heap.size, 0, none⟩))
      simpa using this
    refine hidb ((lnew_any _).mono ?_)
    rintro e w3 ⟨rfl, g3, b3, s3⟩
    rw [hz] at g3 s3 ⊢
    have b3' : Below ((w.alloc (.cells #[.map none, .int .i64 0] 66)).alloc (pbx w.heap.size)).heap.size ((w.alloc (.cells #[.map none, .int .i64 0] 66)).alloc (pbx w.heap.size)) w3 := (Below.refl _ _).drew.trans b3
    have T3 := T2.keep b3'
    have hz4 : (w3.setCell ⟨w.heap.size + 1, 0, none⟩ (.pointer (some ⟨w.heap.size + 2, 0, none⟩))).drew.heap.size = w.heap.size + 3 := by show (w3.setCell ⟨w.heap.size + 1, 0, none⟩ (.pointer (some ⟨w.heap.size + 2, 0, none⟩))).heap.size = _; simpa [World.setCell] using s3
    refine ⟨rfl, T3, hidb ((lnew_any _).mono ?_)⟩
    rintro e w5 ⟨rfl, g5, b5, s5⟩
    rw [hz4] at g5 ⊢
    have b5' : Below (w3.setCell ⟨w.heap.size + 1, 0, none⟩ (.pointer (some ⟨w.heap.size + 2, 0, none⟩))).heap.size (w3.setCell ⟨w.heap.size + 1, 0, none⟩ (.pointer (some ⟨w.heap.size + 2, 0, none⟩))) w5 := (Below.refl _ _).drew.trans b5
    exact ⟨rfl, (T3.set0 (.pointer (some ⟨w.heap.size + 2, 0, none⟩))).keep b5', hidb (pm_new rfl g3 b3' s3 rfl g5 b5')⟩
  go_enter Tryz.func6, Tryz.ntmps6
  go_wp2_with (go_at_call 18; refine (newE _).mono ?_; rintro e w1 ⟨rfl, rfl⟩)
  go_region_with (go_at_call 14; refine C1.out.mono ?_; rintro e w3 ⟨rfl, P3, C2⟩; have p0 := P3.c0; have p1 := P3.f0)
  all_goals go_wp2_with fail
  all_goals go_region_with (go_at_call 14; refine C2.out.mono ?_; rintro e w5 ⟨rfl, P5, HR⟩; have q0 := P5.c0; have q1 := P5.c1; have q2 := P5.c2; have q3 := P5.f1)
  all_goals go_wp2_with fail
  all_goals go_ret
  all_goals exact ⟨rfl, HR.out⟩

end Go.Proofs.YtodelafnboimnaaGreat
