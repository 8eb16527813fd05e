/- The tree's other methods. -/
import Derived.Test.YtejjffgolipdmaaAv9
namespace Go.Proofs.Ytejjffgolipdmaa
open Go.RowKit Go.Lib
attribute [local go_sem ↓] Go.wp_at_zero Go.wp_at_succ

set_option maxRecDepth 100000 in
set_option maxHeartbeats 2000000 in
theorem drop_any {w : World} {tb : Nat} {D : Nat → Prop} {L : List KV} (h : TB w tb D L) (hN : L.length < 10000000) (key : Int) :
    Calls Try.prog 12 #[.pointer (some ⟨tb, 0, none⟩), .int .i64 key] w fun e w' => e = .returned (.bool (getL key L).isSome) ∧ TB w' tb (Nw D w w') (delL key L) ∧ But (fun k => k = tb) w w' := by
  obtain ⟨p, t, hd, ht, ha, hr, hw, rfl, hD⟩ := h
  have hl := hd.lt
  cases hg : getL key t.ord with
  | none =>
    have HF := hidb (find_any ht hr key)
    rw [hg] at HF
    have HTB : Hid (TB w tb (Nw D w w) (delL key t.ord)) := hidb (by
      rw [del_of_none hg]
      exact ⟨p, t, hd, ht.mono (fun k hk => .inl hk), ha, hr, hw, rfl, fun h => h.elim hD (fun h => by omega)⟩)
    have k0 := hd.c0
    clear hd ht ha hr hw hN hD hl
    go_enter Try.func12, Try.ntmps12
    go_wp2_with (go_at_call 20; refine HF.out.mono ?_; clear HF; rintro e w' ⟨rfl, q, rfl, (⟨rfl, -⟩ | ⟨b, v', x0, x1, x2, rfl, hbx, hgg⟩)⟩; rotate_left; exact absurd hgg (by simp))
    go_ret
    exact ⟨rfl, HTB.out, But.refl _ _⟩
  | some v1 =>
    have CW : Hid (Calls Try.prog 22 #[.pointer p, .int .i64 key] w fun e w1 => ∃ p', e = .returned (.pointer p') ∧ Duo w1 tb (.pointer p) (.int .i64 (t.ord.length : Int)) ∧ Hid ((∃ t', IsT w1 (fun k => D k ∨ w.heap.size ≤ k) p' t' ∧ t'.avl ∧ t'.ord = delL key t.ord) ∧ Below w.heap.size w w1)) := by
      refine hidb ((without_any t (D := fun k => D k ∨ w.heap.size ≤ k) (fun k hk => .inr hk) (ht.mono (fun k hk => .inl hk)) ha hr hw (by rw [hg]; rfl) (by omega)).mono ?_)
      rintro e w1 ⟨b', t', rfl, g1, g2, g3, _, _, hb⟩
      exact ⟨b', rfl, hd.keep hb, hidb ⟨⟨t', g1, g2, g3⟩, hb⟩⟩
    have HF := hidb (find_any ht hr key)
    rw [hg] at HF
    have HL := hidb (del_len (key := key) hr (by rw [hg]; rfl))
    have HWI := hidb (wf_del (key := key) hw)
    have HRI := hidb (rise_del (k := key) hr)
    have k0 := hd.c0
    have hwr : wrap64 ((t.ord.length : Int) - 1) = (t.ord.length : Int) - 1 := by unfold wrap64; omega
    have HDD := hidb hD
    have HLT := hidb hl
    clear hd ht ha hr hw hN hD hl
    go_enter Try.func12, Try.ntmps12
    go_wp2_with (first
      | (go_at_call 20; refine HF.out.mono ?_; clear HF; rintro e w' ⟨rfl, q, rfl, (⟨rfl, hgg⟩ | ⟨b, v', x0, x1, x2, rfl, -, -⟩)⟩; exact absurd hgg (by simp))
      | (go_at_call 22; refine CW.out.mono ?_; clear CW; rintro e w1 ⟨b', rfl, hd1, HT⟩; have m0 := hd1.c0; have m1 := hd1.c1; have m2 := hd1.f0; have m3 := hd1.f1))
    obtain ⟨⟨t', g1, g2, g3⟩, hb⟩ := HT.out
    have hll : (delL key t.ord).length + 1 = t.ord.length := HL.out
    have e5 : ((t.ord.length : Int) - 1) = ((delL key t.ord).length : Int) := by omega
    go_ret
    rw [e5]
    exact ⟨rfl, TB.fin hd1 hb g1 g2 g3 HRI.out HWI.out HDD.out HLT.out⟩

set_option maxHeartbeats 2000000 in
theorem get_any {w : World} {tb : Nat} {D : Nat → Prop} {L : List KV} (h : TB w tb D L) (key : Int) :
    Calls Try.prog 11 #[.pointer (some ⟨tb, 0, none⟩), .int .i64 key] w fun e w' => e = .returned (.tuple #[.int .i64 ((getL key L).getD 0), .bool (getL key L).isSome]) ∧ w' = w := by
  obtain ⟨p, t, hd, ht, ha, hr, hw, rfl, hD⟩ := h
  have HF := hidb (find_any ht hr key)
  have k0 := hd.c0
  clear hd ht ha hr hw hD
  cases hg : getL key t.ord with
  | none =>
    rw [hg] at HF
    go_enter Try.func11, Try.ntmps11
    go_wp2_with (go_at_call 20; refine HF.out.mono ?_; clear HF; rintro e w' ⟨rfl, q, rfl, (⟨rfl, -⟩ | ⟨b, v', x0, x1, x2, rfl, hbx, hgg⟩)⟩; rotate_left; exact absurd hgg (by simp))
    go_ret2
    exact ⟨rfl, rfl⟩
  | some v1 =>
    rw [hg] at HF
    go_enter Try.func11, Try.ntmps11
    go_wp2_with (go_at_call 20; refine HF.out.mono ?_; clear HF; rintro e w' ⟨rfl, q, rfl, (⟨rfl, hgg⟩ | ⟨b, v', x0, x1, x2, rfl, hbx, hgg⟩)⟩; (exact absurd hgg (by simp)); have m4 := hbx.c4; obtain rfl : v1 = v' := (by simpa using hgg))
    go_ret2
    exact ⟨rfl, rfl⟩

set_option maxHeartbeats 1000000 in
theorem len_any {w : World} {tb : Nat} {D : Nat → Prop} {L : List KV} (h : TB w tb D L) : Calls Try.prog 13 #[.pointer (some ⟨tb, 0, none⟩)] w fun e w' => e = .returned (.int .i64 (L.length : Int)) ∧ w' = w := by
  obtain ⟨p, t, hd, -⟩ := h
  have k1 := hd.c1
  clear hd
  go_enter Try.func13, Try.ntmps13
  go_wp2_with fail
  go_ret
  exact ⟨rfl, rfl⟩

set_option maxHeartbeats 1000000 in
theorem hgt_any {w : World} {tb : Nat} {D : Nat → Prop} {L : List KV} (h : TB w tb D L) : Calls Try.prog 14 #[.pointer (some ⟨tb, 0, none⟩)] w fun e w' => ∃ h : Nat, e = .returned (.int .i64 (h : Int)) ∧ w' = w ∧ (fp h).2 ≤ L.length + 1 ∧ (0 < h ↔ 0 < L.length) := by
  obtain ⟨p, t, hd, ht, ha, hr, hw, rfl, hD⟩ := h
  have HT := hidb ht
  have HA := hidb ha
  have k0 := hd.c0
  clear hd ht ha hr hw hD
  go_enter Try.func14, Try.ntmps14
  go_wp2_with (go_at_call 23; refine (height_any HT.out).mono ?_; clear HT; rintro e w' ⟨rfl, rfl⟩)
  go_ret
  have h0 := HA.out.ht_nonneg
  exact ⟨t.ht.toNat, by rw [Int.toNat_of_nonneg h0]; rfl, rfl, HA.out.least, by have := HA.out.ht_zero; omega⟩

set_option maxHeartbeats 2000000 in
theorem First_any {w : World} {tb : Nat} {D : Nat → Prop} {L : List KV} (h : TB w tb D L) :
    Calls Try.prog 18 #[.pointer (some ⟨tb, 0, none⟩)] w fun e w' => Below w.heap.size w w' ∧ e = .returned (.tuple #[.int .i64 (L.headD (0, 0)).1, .int .i64 (L.headD (0, 0)).2, .bool (!L.isEmpty)]) := by
  obtain ⟨p, t, hd, ht, ha, hr, hw, rfl, hD⟩ := h
  have htm := Avt.tell_min hr hw
  have CF : Hid (Calls Try.prog 27 #[.pointer p] w fun e w0 => Hid (Below w.heap.size w w0) ∧ ((e = .returned (.pointer none) ∧ Hid (t.ord = [])) ∨ ∃ (bx : Nat) (kx vx : Int), e = .returned (.pointer (some ⟨bx, 0, none⟩)) ∧ w0.cell? ⟨bx, 3, none⟩ = some (.int .i64 kx) ∧ w0.cell? ⟨bx, 4, none⟩ = some (.int .i64 vx) ∧ Hid (∃ r, t.ord = (kx, vx) :: r))) := by
    refine hidb ((first_any ht).mono ?_)
    rintro e w0 ⟨hb0, (⟨rfl, h0⟩ | ⟨⟨bx, kx, vx⟩, xs, rfl, hcons⟩)⟩
    · rw [h0] at htm; exact ⟨hidb hb0, .inl ⟨rfl, hidb htm.symm⟩⟩
    · obtain ⟨x0, x1, x2, hbx, hDx⟩ := ht.mem (bx, kx, vx) (Avt.tell_mem _ (by rw [hcons]; simp))
      rw [hcons] at htm
      exact ⟨hidb hb0, .inr ⟨bx, kx, vx, rfl, (hbx.keep hb0).c3, (hbx.keep hb0).c4, hidb ⟨_, htm.symm⟩⟩⟩
  have k0 := hd.c0
  clear hd ht ha hr hw hD htm
  go_enter Try.func18, Try.ntmps18
  go_wp2_with (go_at_call 27; refine CF.out.mono ?_; clear CF; rintro e w0 ⟨HB, (⟨rfl, HO⟩ | ⟨bx, kx, vx, rfl, m3, m4, HO⟩)⟩)
  · go_ret3
    rw [HO.out]
    exact ⟨HB.out, rfl⟩
  · go_region
    go_wp2_with fail
    go_ret3
    obtain ⟨r, hr⟩ := HO.out
    rw [hr]
    exact ⟨HB.out.drew, rfl⟩

set_option maxHeartbeats 2000000 in
theorem twin_any {w : World} {tb : Nat} {D : Nat → Prop} {L : List KV} (h : TB w tb D L) (hlt : ∀ k, D k → k < w.heap.size) :
    Calls Try.prog 8 #[.pointer (some ⟨tb, 0, none⟩)] w fun e w' => e = .returned (.pointer (some ⟨w.heap.size, 0, none⟩)) ∧ Below w.heap.size w w' ∧ TB w' w.heap.size D L := by
  have HT := hidb h
  obtain ⟨p, t, hd, -⟩ := h
  have k0 := hd.c0
  have k1 := hd.c1
  have HK := hidb hd
  have HLT := hidb hlt
  clear hd hlt
  go_enter Try.func8, Try.ntmps8
  go_wp2_with fail
  go_region
  go_wp2_with fail
  go_ret
  have hb : Below w.heap.size w (w.alloc (.cells #[.pointer p, .int .i64 (L.length : Int)] 43)).drew := (below_new _ _).drew
  obtain ⟨p', t', hd', g1, g2, g3, g4, g5, g6⟩ := HT.out
  obtain rfl : p = p' := by have := HK.out.c0.symm.trans hd'.c0; simpa using this
  exact ⟨rfl, hb, p, t', (Duo.new _ _ _ _).keep ((Below.refl _ _).drew), g1.keep hb, g2, g3, g4, g5, fun h => absurd (HLT.out _ h) (by omega)⟩

end Go.Proofs.Ytejjffgolipdmaa
