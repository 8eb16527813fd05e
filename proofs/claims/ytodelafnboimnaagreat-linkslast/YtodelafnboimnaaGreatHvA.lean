/- The tree's other methods. -/
import Derived.Test.YtodelafnboimnaaGreatHv9
namespace Go.Proofs.YtodelafnboimnaaGreat
open Go.RowKit Go.Lib
namespace HV
attribute [local go_sem] store_float f64bits
attribute [local go_sem ↓] Go.wp_at_zero Go.wp_at_succ

set_option maxRecDepth 100000 in
set_option maxHeartbeats 2000000 in
theorem drop_any {w : World} {tb : Nat} {D : Nat → Prop} {L : List KV} (h : TB w tb D L) (hN : L.length < 10000000) (key : Int) :
    Calls Tryz.prog 31 #[.pointer (some ⟨tb, 0, none⟩), .int .i64 key] w fun e w' => e = .returned (.bool (getL key L).isSome) ∧ TB w' tb (Nw D w w') (delL key L) ∧ But (fun k => k = tb) w w' ∧ Rst tb w w' := by
  obtain ⟨p, t, hd, ht, ha, hr, hw, rfl, hD⟩ := h
  have hl := hd.lt
  cases hg : getL key t.ord with
  | none =>
    have HF := hidb (find_any ht hr key)
    rw [hg] at HF
    have HTB : Hid (TB w tb (Nw D w w) (delL key t.ord)) := hidb (by
      rw [del_of_none hg]
      exact ⟨p, t, hd, ht.mono (fun k hk => .inl hk), ha, hr, hw, rfl, fun h => h.elim hD (fun h => by omega)⟩)
    have k0 := hd.c0
    clear hd ht ha hr hw hN hD hl
    go_enter Tryz.func31, Tryz.ntmps31
    go_wp2_with (go_at_call 39; refine HF.out.mono ?_; clear HF; rintro e w' ⟨rfl, q, rfl, (⟨rfl, -⟩ | ⟨b, v', x0, x1, x2, rfl, hbx, hgg⟩)⟩; rotate_left; exact absurd hgg (by simp))
    go_ret
    exact ⟨rfl, HTB.out, But.refl _ _, Rst.refl _ _⟩
  | some v1 =>
    have CW : Hid (Calls Tryz.prog 47 #[.pointer p, .int .i64 key] w fun e w1 => ∃ p', e = .returned (.pointer p') ∧ Duo w1 tb (.pointer p) (.int .i64 (t.ord.length : Int)) ∧ Hid ((∃ t', IsT w1 (fun k => D k ∨ w.heap.size ≤ k) p' t' ∧ t'.avl ∧ t'.ord = delL key t.ord) ∧ Below w.heap.size w w1)) := by
      refine hidb ((without_any t (D := fun k => D k ∨ w.heap.size ≤ k) (fun k hk => .inr hk) (ht.mono (fun k hk => .inl hk)) ha hr hw (by rw [hg]; rfl) (by omega)).mono ?_)
      rintro e w1 ⟨b', t', rfl, g1, g2, g3, _, _, hb⟩
      exact ⟨b', rfl, hd.keep hb, hidb ⟨⟨t', g1, g2, g3⟩, hb⟩⟩
    have HF := hidb (find_any ht hr key)
    rw [hg] at HF
    have HL := hidb (del_len (key := key) hr (by rw [hg]; rfl))
    have HWI := hidb (wf_del (key := key) hw)
    have HRI := hidb (rise_del (k := key) hr)
    have k0 := hd.c0
    have hwr : wrap64 ((t.ord.length : Int) - 1) = (t.ord.length : Int) - 1 := by unfold wrap64; omega
    have HDD := hidb hD
    have HLT := hidb hl
    clear hd ht ha hr hw hN hD hl
    go_enter Tryz.func31, Tryz.ntmps31
    go_wp2_with (first
      | (go_at_call 39; refine HF.out.mono ?_; clear HF; rintro e w' ⟨rfl, q, rfl, (⟨rfl, hgg⟩ | ⟨b, v', x0, x1, x2, rfl, -, -⟩)⟩; exact absurd hgg (by simp))
      | (go_at_call 47; refine CW.out.mono ?_; clear CW; rintro e w1 ⟨b', rfl, hd1, HT⟩; have m0 := hd1.c0; have m1 := hd1.c1; have m2 := hd1.f0; have m3 := hd1.f1))
    obtain ⟨⟨t', g1, g2, g3⟩, hb⟩ := HT.out
    have hll : (delL key t.ord).length + 1 = t.ord.length := HL.out
    have e5 : ((t.ord.length : Int) - 1) = ((delL key t.ord).length : Int) := by omega
    go_ret
    rw [e5]
    exact ⟨rfl, TB.fin hd1 hb g1 g2 g3 HRI.out HWI.out HDD.out HLT.out⟩

set_option maxHeartbeats 2000000 in
theorem get_any {w : World} {tb : Nat} {D : Nat → Prop} {L : List KV} (h : TB w tb D L) (key : Int) :
    Calls Tryz.prog 23 #[.pointer (some ⟨tb, 0, none⟩), .int .i64 key] w fun e w' => e = .returned (.tuple #[.agg #[.int .i64 ((getL key L).getD hf0).a, .int .i64 ((getL key L).getD hf0).b, .int .i64 ((getL key L).getD hf0).c], .bool (getL key L).isSome]) ∧ Below w.heap.size w w' := by
  obtain ⟨p, t, hd, ht, ha, hr, hw, rfl, hD⟩ := h
  have hb0 := below_new w (.cells #[.int .i64 0, .int .i64 0, .int .i64 0] 38)
  have HF := hidb (find_any (ht.keep hb0) hr key)
  have k0 := (hd.keep hb0).c0
  clear hd ht ha hr hw hD hb0
  cases hg : getL key t.ord with
  | none =>
    rw [hg] at HF
    go_enter Tryz.func23, Tryz.ntmps23
    go_wp2_with (go_at_call 39; refine HF.out.mono ?_; clear HF; rintro e w' ⟨rfl, q, rfl, (⟨rfl, -⟩ | ⟨b, v', x0, x1, x2, rfl, hbx, hgg⟩)⟩; rotate_left; exact absurd hgg (by simp))
    exact bodyPost_ret (v := .tuple #[.agg #[.int .i64 0, .int .i64 0, .int .i64 0], .bool false]) (by simp [results, Tryz.results23, go_sem]) rfl ⟨rfl, by (repeat (first | exact Below.refl _ _ | assumption | refine Below.drew ?_ | refine below_drewN ?_ _ | refine Below.setCell ?_ (by simp) _ | refine Below.alloc ?_ (by (first | exact Nat.le_refl _ | (simp; done) | (simp; omega) | omega)) _ | refine Below.trans ?_ (Below.mono (by assumption) (by first | exact Nat.le_refl _ | (simp; done) | (simp; omega) | omega))))⟩
  | some v1 =>
    rw [hg] at HF
    go_enter Tryz.func23, Tryz.ntmps23
    go_wp2_with (go_at_call 39; refine HF.out.mono ?_; clear HF; rintro e w' ⟨rfl, q, rfl, (⟨rfl, hgg⟩ | ⟨b, v', x0, x1, x2, rfl, hbx, hgg⟩)⟩; (exact absurd hgg (by simp)); have m4 := hbx.c4; have m5 := hbx.c5; have m6 := hbx.c6; obtain rfl : v1 = v' := (by simpa using hgg))
    exact bodyPost_ret (v := .tuple #[.agg #[.int .i64 v1.a, .int .i64 v1.b, .int .i64 v1.c], .bool true]) (by simp [results, Tryz.results23, go_sem]) rfl ⟨rfl, by (repeat (first | exact Below.refl _ _ | assumption | refine Below.drew ?_ | refine below_drewN ?_ _ | refine Below.setCell ?_ (by simp) _ | refine Below.alloc ?_ (by (first | exact Nat.le_refl _ | (simp; done) | (simp; omega) | omega)) _ | refine Below.trans ?_ (Below.mono (by assumption) (by first | exact Nat.le_refl _ | (simp; done) | (simp; omega) | omega))))⟩

end HV
end Go.Proofs.YtodelafnboimnaaGreat
