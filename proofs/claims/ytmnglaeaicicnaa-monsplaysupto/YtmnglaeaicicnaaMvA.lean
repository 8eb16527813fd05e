/- The tree's other methods. -/
import Derived.Test.YtmnglaeaicicnaaMv9
namespace Go.Proofs.Ytmnglaeaicicnaa
open Go.RowKit Go.Lib
namespace MV
attribute [local go_sem ↓] Go.wp_at_zero Go.wp_at_succ

set_option maxRecDepth 100000 in
set_option maxHeartbeats 2000000 in
theorem drop_any {w : World} {tb o : Nat} {D : Nat → Prop} {L : List KV} (h : TB w tb o D L) (hN : L.length < 10000000) (key : Int) :
    Calls Try.prog 46 #[.pointer (some ⟨tb, o, none⟩), .int .i64 key] w fun e w' => e = .returned (.bool (getL key L).isSome) ∧ TB w' tb o (Nw D w w') (delL key L) ∧ But (fun k => k = tb) w w' ∧ Rst tb o w w' := by
  obtain ⟨p, t, hd, ht, ha, hr, hw, rfl, hD⟩ := h
  have hl := hd.lt
  cases hg : getL key t.ord with
  | none =>
    have HF := hidb (find_any ht hr key)
    rw [hg] at HF
    have HTB : Hid (TB w tb o (Nw D w w) (delL key t.ord)) := hidb (by
      rw [del_of_none hg]
      exact ⟨p, t, hd, ht.mono (fun k hk => .inl hk), ha, hr, hw, rfl, fun h => h.elim hD (fun h => by omega)⟩)
    have k0 := hd.c0
    clear hd ht ha hr hw hN hD hl
    go_enter Try.func46, Try.ntmps46
    go_wp2_with (go_at_call 43; refine HF.out.mono ?_; clear HF; rintro e w' ⟨rfl, q, rfl, (⟨rfl, -⟩ | ⟨b, v', x0, x1, x2, rfl, hbx, hgg⟩)⟩; rotate_left; exact absurd hgg (by simp))
    go_ret
    exact ⟨rfl, HTB.out, But.refl _ _, Rst.refl _ _ _⟩
  | some v1 =>
    have CW : Hid (Calls Try.prog 51 #[.pointer p, .int .i64 key] w fun e w1 => ∃ p', e = .returned (.pointer p') ∧ Pai w1 tb o (.pointer p) (.int .i64 (t.ord.length : Int)) ∧ Hid ((∃ t', IsT w1 (fun k => D k ∨ w.heap.size ≤ k) p' t' ∧ t'.avl ∧ t'.ord = delL key t.ord) ∧ Below w.heap.size w w1)) := by
      refine hidb ((without_any t (D := fun k => D k ∨ w.heap.size ≤ k) (fun k hk => .inr hk) (ht.mono (fun k hk => .inl hk)) ha hr hw (by rw [hg]; rfl) (by omega)).mono ?_)
      rintro e w1 ⟨b', t', rfl, g1, g2, g3, _, _, hb⟩
      exact ⟨b', rfl, hd.keep hb, hidb ⟨⟨t', g1, g2, g3⟩, hb⟩⟩
    have HF := hidb (find_any ht hr key)
    rw [hg] at HF
    have HL := hidb (del_len (key := key) hr (by rw [hg]; rfl))
    have HWI := hidb (wf_del (key := key) hw)
    have HRI := hidb (rise_del (k := key) hr)
    have k0 := hd.c0
    have hwr : wrap64 ((t.ord.length : Int) - 1) = (t.ord.length : Int) - 1 := by unfold wrap64; omega
    have HDD := hidb hD
    have HLT := hidb hl
    clear hd ht ha hr hw hN hD hl
    go_enter Try.func46, Try.ntmps46
    go_wp2_with (first
      | (go_at_call 43; refine HF.out.mono ?_; clear HF; rintro e w' ⟨rfl, q, rfl, (⟨rfl, hgg⟩ | ⟨b, v', x0, x1, x2, rfl, -, -⟩)⟩; exact absurd hgg (by simp))
      | (go_at_call 51; refine CW.out.mono ?_; clear CW; rintro e w1 ⟨b', rfl, hd1, HT⟩; have m0 := hd1.c0; have m1 := hd1.c1; have m2 := hd1.f0; have m3 := hd1.f1))
    obtain ⟨⟨t', g1, g2, g3⟩, hb⟩ := HT.out
    have hll : (delL key t.ord).length + 1 = t.ord.length := HL.out
    have e5 : ((t.ord.length : Int) - 1) = ((delL key t.ord).length : Int) := by omega
    go_ret
    rw [e5]
    exact ⟨rfl, TB.fin hd1 hb g1 g2 g3 HRI.out HWI.out HDD.out HLT.out⟩

set_option maxHeartbeats 2000000 in
theorem get_any {w : World} {tb o : Nat} {D : Nat → Prop} {L : List KV} (h : TB w tb o D L) (key : Int) :
    Calls Try.prog 35 #[.pointer (some ⟨tb, o, none⟩), .int .i64 key] w fun e w' => e = .returned (.tuple #[.agg #[.int .i64 ((getL key L).getD hf0).a, .int .i64 ((getL key L).getD hf0).b, .string ((getL key L).getD hf0).c], .bool (getL key L).isSome]) ∧ Below w.heap.size w w' := by
  obtain ⟨p, t, hd, ht, ha, hr, hw, rfl, hD⟩ := h
  have hb0 := below_new w (.cells #[.int .i64 0, .int .i64 0, .string ⟨#[]⟩] 38)
  have HF := hidb (find_any (ht.keep hb0) hr key)
  have k0 := (hd.keep hb0).c0
  clear hd ht ha hr hw hD hb0
  cases hg : getL key t.ord with
  | none =>
    rw [hg] at HF
    go_enter Try.func35, Try.ntmps35
    go_wp2_with (go_at_call 43; refine HF.out.mono ?_; clear HF; rintro e w' ⟨rfl, q, rfl, (⟨rfl, -⟩ | ⟨b, v', x0, x1, x2, rfl, hbx, hgg⟩)⟩; rotate_left; exact absurd hgg (by simp))
    exact bodyPost_ret (v := .tuple #[.agg #[.int .i64 0, .int .i64 0, .string ⟨#[]⟩], .bool false]) (by simp [results, Try.results35, go_sem]) rfl ⟨rfl, by (repeat (first | exact Below.refl _ _ | assumption | refine Below.drew ?_ | refine below_drewN ?_ _ | refine Below.setCell ?_ (by simp) _ | refine Below.alloc ?_ (by (first | exact Nat.le_refl _ | (simp; done) | (simp; omega) | omega)) _ | refine Below.trans ?_ (Below.mono (by assumption) (by first | exact Nat.le_refl _ | (simp; done) | (simp; omega) | omega))))⟩
  | some v1 =>
    rw [hg] at HF
    go_enter Try.func35, Try.ntmps35
    go_wp2_with (go_at_call 43; refine HF.out.mono ?_; clear HF; rintro e w' ⟨rfl, q, rfl, (⟨rfl, hgg⟩ | ⟨b, v', x0, x1, x2, rfl, hbx, hgg⟩)⟩; (exact absurd hgg (by simp)); have m4 := hbx.c4; have m5 := hbx.c5; have m6 := hbx.c6; obtain rfl : v1 = v' := (by simpa using hgg))
    exact bodyPost_ret (v := .tuple #[.agg #[.int .i64 v1.a, .int .i64 v1.b, .string v1.c], .bool true]) (by simp [results, Try.results35, go_sem]) rfl ⟨rfl, by (repeat (first | exact Below.refl _ _ | assumption | refine Below.drew ?_ | refine below_drewN ?_ _ | refine Below.setCell ?_ (by simp) _ | refine Below.alloc ?_ (by (first | exact Nat.le_refl _ | (simp; done) | (simp; omega) | omega)) _ | refine Below.trans ?_ (Below.mono (by assumption) (by first | exact Nat.le_refl _ | (simp; done) | (simp; omega) | omega))))⟩

set_option maxHeartbeats 1000000 in
theorem len_any {w : World} {tb o : Nat} {D : Nat → Prop} {L : List KV} (h : TB w tb o D L) : Calls Try.prog 30 #[.pointer (some ⟨tb, o, none⟩)] w fun e w' => e = .returned (.int .i64 (L.length : Int)) ∧ w' = w := by
  obtain ⟨p, t, hd, -⟩ := h
  have k1 := hd.c1
  clear hd
  go_enter Try.func30, Try.ntmps30
  go_wp2_with fail
  go_ret
  exact ⟨rfl, rfl⟩

set_option maxHeartbeats 2000000 in
theorem First_any {w : World} {tb o : Nat} {D : Nat → Prop} {L : List KV} (h : TB w tb o D L) :
    Calls Try.prog 41 #[.pointer (some ⟨tb, o, none⟩)] w fun e w' => Below w.heap.size w w' ∧ e = .returned (.tuple #[.int .i64 (L.headD (0, hf0)).1, .agg #[.int .i64 (L.headD (0, hf0)).2.a, .int .i64 (L.headD (0, hf0)).2.b, .string (L.headD (0, hf0)).2.c], .bool (!L.isEmpty)]) := by
  obtain ⟨p, t, hd, ht, ha, hr, hw, rfl, hD⟩ := h
  have htm := Avt.tell_min hr hw
  have hb0 := below_new w (.cells #[.int .i64 0, .int .i64 0, .string ⟨#[]⟩] 38)
  have P0 : Tri (w.alloc (.cells #[.int .i64 0, .int .i64 0, .string ⟨#[]⟩] 38)) w.heap.size (.int .i64 0) (.int .i64 0) (.string ⟨#[]⟩) := Tri.new _ _ _ _ _
  have CF : Hid (Calls Try.prog 47 #[.pointer p] (w.alloc (.cells #[.int .i64 0, .int .i64 0, .string ⟨#[]⟩] 38)) fun e w0 => Hid (Below w.heap.size w w0) ∧ Tri w0 w.heap.size (.int .i64 0) (.int .i64 0) (.string ⟨#[]⟩) ∧ ((e = .returned (.pointer none) ∧ Hid (t.ord = [])) ∨ ∃ (bx : Nat) (kx : Int) (vx : Hf), e = .returned (.pointer (some ⟨bx, 0, none⟩)) ∧ w0.cell? ⟨bx, 3, none⟩ = some (.int .i64 kx) ∧ w0.cell? ⟨bx, 4, none⟩ = some (.int .i64 vx.a) ∧ w0.cell? ⟨bx, 5, none⟩ = some (.int .i64 vx.b) ∧ w0.cell? ⟨bx, 6, none⟩ = some (.string vx.c) ∧ bx ≠ w.heap.size ∧ Hid (∃ r, t.ord = (kx, vx) :: r))) := by
    refine hidb ((first_any (ht.keep hb0)).mono ?_)
    rintro e w0 ⟨hb9, (⟨rfl, h0⟩ | ⟨⟨bx, kx, vx⟩, xs, rfl, hcons⟩)⟩
    · have hb1 : Below w.heap.size w w0 := hb0.trans (hb9.mono hb0.size)
      rw [h0] at htm; exact ⟨hidb hb1, P0.keep hb9, .inl ⟨rfl, hidb htm.symm⟩⟩
    · have hb1 : Below w.heap.size w w0 := hb0.trans (hb9.mono hb0.size)
      obtain ⟨x0, x1, x2, hbx, hDx⟩ := ht.mem (bx, kx, vx) (Avt.tell_mem _ (by rw [hcons]; simp))
      rw [hcons] at htm
      exact ⟨hidb hb1, P0.keep hb9, .inr ⟨bx, kx, vx, rfl, (hbx.keep hb1).c3, (hbx.keep hb1).c4, (hbx.keep hb1).c5, (hbx.keep hb1).c6, (by have := hbx.lt; simp only at this; omega), hidb ⟨_, htm.symm⟩⟩⟩
  have k0 := (hd.keep hb0).c0
  clear hd ht ha hr hw hD htm hb0 P0
  go_enter Try.func41, Try.ntmps41
  go_wp2_with (go_at_call 47; refine CF.out.mono ?_; clear CF; rintro e w0 ⟨HB, P1, (⟨rfl, HO⟩ | ⟨bx, kx, vx, rfl, m3, m4, m5, m6, mne, HO⟩)⟩ <;> have p0 := P1.c0 <;> have p1 := P1.c1 <;> have p2 := P1.c2 <;> have q0 := P1.f0 <;> have q1 := P1.f1 <;> have q2 := P1.f2)
  · go_region
    all_goals go_wp2_with fail
    all_goals (
      rw [HO.out]
      have hbz := HB.out
      exact bodyPost_ret (v := .tuple #[.int .i64 0, .agg #[.int .i64 0, .int .i64 0, .string ⟨#[]⟩], .bool false]) (by simp [results, Try.results41, go_sem, p0, p1, p2]) rfl ⟨by (repeat (first | exact Below.refl _ _ | assumption | refine Below.drew ?_ | refine below_drewN ?_ _ | refine Below.setCell ?_ (by simp) _ | refine Below.alloc ?_ (by (first | exact Nat.le_refl _ | (simp; done) | (simp; omega) | omega)) _ | refine Below.trans ?_ (Below.mono (by assumption) (by first | exact Nat.le_refl _ | (simp; done) | (simp; omega) | omega)))), rfl⟩)
  · go_region
    all_goals go_wp2_with fail
    all_goals (
      obtain ⟨r, hr⟩ := HO.out
      rw [hr]
      have hbz := HB.out
      exact bodyPost_ret (v := .tuple #[.int .i64 kx, .agg #[.int .i64 vx.a, .int .i64 vx.b, .string vx.c], .bool true]) (by simp [results, Try.results41, go_sem, p0, p1, p2]) rfl ⟨by (repeat (first | exact Below.refl _ _ | assumption | refine Below.drew ?_ | refine below_drewN ?_ _ | refine Below.setCell ?_ (by simp) _ | refine Below.alloc ?_ (by (first | exact Nat.le_refl _ | (simp; done) | (simp; omega) | omega)) _ | refine Below.trans ?_ (Below.mono (by assumption) (by first | exact Nat.le_refl _ | (simp; done) | (simp; omega) | omega)))), rfl⟩)

end MV
end Go.Proofs.Ytmnglaeaicicnaa
