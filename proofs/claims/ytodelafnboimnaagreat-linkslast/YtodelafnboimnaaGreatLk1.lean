/- Half-links: Set, Link, Unlink, OnLink and what drops. -/
import Derived.Test.YtodelafnboimnaaGreatLk0
namespace Go.Proofs.YtodelafnboimnaaGreat
open Go.RowKit Go.Lib
open HV (Hf hf0 getL insL delL Rise Wfk TB Nw Rst)
attribute [local go_sem] store_float f64bits
attribute [local go_sem ↓] Go.wp_at_zero Go.wp_at_succ

/-- A table behind a method. -/
structure LU (w w' : World) (tb : Nat) (D : Nat → Prop) (L : List HV.KV) (n : Int) : Prop where
  lt : LT w' tb (Nw D w w') L n
  bt : But (fun k => k = tb) w w'

theorem LT.nd {D : Nat → Prop} {w : World} {tb : Nat} {L : List HV.KV} {n : Int} (h : LT w tb D L n) : ¬ D tb := by obtain ⟨⟨_, _, _, _, _, _, _, _, h⟩, _⟩ := h; exact h

theorem LU.pre {D : Nat → Prop} {w w1 w' : World} {tb : Nat} {L : List HV.KV} {n : Int} (hb : Below w.heap.size w w1) (hl : tb < w.heap.size) (hD : ¬ D tb) (h : LU w1 w' tb D L n) : LU w w' tb D L n :=
  ⟨h.lt.mono (fun k hk => hk.elim .inl (fun h => .inr ⟨Nat.le_trans hb.size h.1, h.2⟩)) (fun h => h.elim hD (fun h => by omega)), (But.of_below hb).trans h.bt⟩
theorem LU.post {D : Nat → Prop} {w w1 w' : World} {tb : Nat} {L : List HV.KV} {n : Int} (h : LU w w1 tb D L n) (hb : Below w1.heap.size w1 w') (hl : tb < w.heap.size) (hD : ¬ D tb) : LU w w' tb D L n :=
  ⟨(h.lt.keep hb).mono (fun k hk => hk.elim .inl (fun h => .inr ⟨h.1, Nat.lt_of_lt_of_le h.2 hb.size⟩)) (fun h => h.elim hD (fun h => by omega)), h.bt.trans (But.of_below hb)⟩
theorem LU.same {D : Nat → Prop} {w w' : World} {tb : Nat} {L : List HV.KV} {n : Int} (h : LT w tb D L n) (hb : Below w.heap.size w w') : LU w w' tb D L n :=
  ⟨(h.keep hb).mono (fun k hk => .inl hk) (fun q => q.elim h.nd (fun q => by have := h.tr.lt; omega)), But.of_below hb⟩

theorem hok_ins {L : List HV.KV} {p : Int} {v : Hf} (h : HOk L) (hv : v.a = p ∧ (v.b = 1 ∨ v.b = 2)) : HOk (insL p v L) := by
  intro x hx
  simp only [insL, List.mem_append, List.mem_cons, List.mem_filter] at hx
  rcases hx with hx | rfl | hx
  · exact h x hx.1
  · exact hv
  · exact h x hx.1
theorem hok_del {L : List HV.KV} {p : Int} (h : HOk L) : HOk (delL p L) := fun x hx => h x (List.mem_filter.1 hx).1

theorem lput_any {w : World} {tb : Nat} {D : Nat → Prop} {L : List HV.KV} {n : Int} (h : LT w tb D L n) (hN : L.length < 10000000) (p : Int) (v : Hf) (hk : -9223372036854775808 ≤ p) (hv : v.a = p ∧ (v.b = 1 ∨ v.b = 2)) :
    Calls Tryz.prog 30 #[.pointer (some ⟨tb, 0, none⟩), .int .i64 p, .agg #[.int .i64 v.a, .int .i64 v.b, .int .i64 v.c]] w fun e w' => e = .returned (.bool (!(getL p L).isSome)) ∧ LU w w' tb D (insL p v L) n := by
  refine (HV.put_any h.tr hN p v hk).mono ?_
  rintro e w' ⟨rfl, h1, h2, h3⟩
  exact ⟨rfl, ⟨h1, (h3 2 (Nat.le_refl _)).1.trans h.c2, (h3 2 (Nat.le_refl _)).2.trans h.f2, hok_ins h.ok hv⟩, h2⟩

theorem ldrop_any {w : World} {tb : Nat} {D : Nat → Prop} {L : List HV.KV} {n : Int} (h : LT w tb D L n) (hN : L.length < 10000000) (p : Int) :
    Calls Tryz.prog 31 #[.pointer (some ⟨tb, 0, none⟩), .int .i64 p] w fun e w' => e = .returned (.bool (getL p L).isSome) ∧ LU w w' tb D (delL p L) n := by
  refine (HV.drop_any h.tr hN p).mono ?_
  rintro e w' ⟨rfl, h1, h2, h3⟩
  exact ⟨rfl, ⟨h1, (h3 2 (Nat.le_refl _)).1.trans h.c2, (h3 2 (Nat.le_refl _)).2.trans h.f2, hok_del h.ok⟩, h2⟩

theorem LT.bump {w : World} {tb : Nat} {D : Nat → Prop} {L : List HV.KV} {n : Int} (h : LT w tb D L n) (m : Int) : LT (w.setCell ⟨tb, 2, none⟩ (.int .i64 m)) tb D L m := by
  have hb : But (fun k => k = tb) w (w.setCell ⟨tb, 2, none⟩ (.int .i64 m)) := (But.refl (fun k => k = tb) w).setCell (p := ⟨tb, 2, none⟩) (fun _ => rfl) _
  have hD := h.nd
  obtain ⟨⟨p, t, hd, ht, h3⟩, c2, f2, ok⟩ := h
  exact ⟨⟨p, t, ⟨(World.cell?_setCell_other _ _ _ _ (ne_off _ _ _ (by decide))).trans hd.c0, (World.cell?_setCell_other _ _ _ _ (ne_off _ _ _ (by decide))).trans hd.c1, by rw [World.frozen?_setCell]; exact hd.f0, by rw [World.frozen?_setCell]; exact hd.f1, Nat.lt_of_lt_of_le hd.lt hb.size⟩, ht.but hb (fun k hk e => hD (e ▸ hk)), h3⟩,
    World.cell?_setCell_same' _ _ _ (by rw [c2]; rfl), by rw [World.frozen?_setCell]; exact f2, ok⟩

set_option maxHeartbeats 2000000 in
theorem lset_any {w : World} {tb : Nat} {D : Nat → Prop} {L : List HV.KV} {n : Int} (h : LT w tb D L n) (hN : L.length < 10000000) (p : Int) (hk : -9223372036854775808 ≤ p) :
    Calls Tryz.prog 29 #[.pointer (some ⟨tb, 0, none⟩), .int .i64 p] w fun e w' => e = .returned (.tuple #[]) ∧ LU w w' tb D (insL p ⟨p, 1, 0⟩ L) n := by
  have HP := hidb (lput_any h hN p ⟨p, 1, 0⟩ hk ⟨rfl, .inl rfl⟩)
  clear h hN hk
  go_enter Tryz.func29, Tryz.ntmps29
  go_wp2_with (go_at_call 30; refine HP.out.mono ?_; clear HP; rintro e w' ⟨rfl, hu⟩; have HU := hidb hu; clear hu)
  exact bodyPost_end (v := .tuple #[]) (by simp [results, Tryz.results29, go_sem]) rfl ⟨rfl, HU.out⟩

set_option maxHeartbeats 2000000 in
theorem llink_any {w : World} {tb : Nat} {D : Nat → Prop} {L : List HV.KV} {n : Int} (h : LT w tb D L n) (hN : L.length < 10000000) (p : Int) (hk : -9223372036854775808 ≤ p) :
    Calls Tryz.prog 15 #[.pointer (some ⟨tb, 0, none⟩), .int .i64 p] w fun e w' => e = .returned (.bool (!isLk p L)) ∧ LU w w' tb D (lnkL p L) n := by
  have hl := h.tr.lt
  have hD := h.nd
  cases hs : isLk p L with
  | true =>
    rw [show lnkL p L = L by simp [lnkL, hs]]
    have HI : Hid (Calls Tryz.prog 28 #[.pointer (some ⟨tb, 0, none⟩), .int .i64 p] w fun e w' => e = .returned (.bool true) ∧ Hid (LU w w' tb D L n)) := hidb ((isLinked_any h p).mono (by rintro e w' ⟨rfl, hb⟩; exact ⟨by rw [hs], hidb (LU.same h hb)⟩))
    clear h hN hk hs hl hD
    go_enter Tryz.func15, Tryz.ntmps15
    go_wp2_with (go_at_call 28; refine HI.out.mono ?_; clear HI; rintro e w' ⟨rfl, HU⟩)
    go_ret
    exact ⟨rfl, HU.out⟩
  | false =>
    rw [show lnkL p L = insL p ⟨p, 1, 0⟩ L by simp [lnkL, hs]]
    have HI : Hid (Calls Tryz.prog 28 #[.pointer (some ⟨tb, 0, none⟩), .int .i64 p] w fun e w' => e = .returned (.bool false) ∧ Hid (Calls Tryz.prog 29 #[.pointer (some ⟨tb, 0, none⟩), .int .i64 p] w' fun e w2 => e = .returned (.tuple #[]) ∧ Hid (LU w w2 tb D (insL p ⟨p, 1, 0⟩ L) n))) := hidb ((isLinked_any h p).mono (by
      rintro e w' ⟨rfl, hb⟩
      exact ⟨by rw [hs], hidb ((lset_any (h.keep hb) hN p hk).mono (by rintro e w2 ⟨rfl, hu⟩; exact ⟨rfl, hidb (LU.pre hb hl hD hu)⟩))⟩))
    clear h hN hk hs hl hD
    go_enter Tryz.func15, Tryz.ntmps15
    go_wp2_with (first
      | (go_at_call 28; refine HI.out.mono ?_; clear HI; rintro e w' ⟨rfl, HS⟩)
      | (go_at_call 29; refine HS.out.mono ?_; clear HS; rintro e w2 ⟨rfl, HU⟩))
    go_ret
    exact ⟨rfl, HU.out⟩

set_option maxHeartbeats 2000000 in
theorem lunlink_any {w : World} {tb : Nat} {D : Nat → Prop} {L : List HV.KV} {n : Int} (h : LT w tb D L n) (hN : L.length < 10000000) (p : Int) (hk : -9223372036854775808 ≤ p) (hn : 0 ≤ n ∧ n < 1000000) :
    Calls Tryz.prog 16 #[.pointer (some ⟨tb, 0, none⟩), .int .i64 p] w fun e w' => e = .returned (.tuple #[.int .i64 (ulkI p n L), .bool (isLk p L)]) ∧ LU w w' tb D (ulkL p n L) (ulkN p n L) := by
  have hl := h.tr.lt
  have hD := h.nd
  cases hs : isLk p L with
  | false =>
    rw [show ulkI p n L = 0 by simp [ulkI, hs], show ulkL p n L = L by simp [ulkL, hs], show ulkN p n L = n by simp [ulkN, hs]]
    have HI : Hid (Calls Tryz.prog 28 #[.pointer (some ⟨tb, 0, none⟩), .int .i64 p] w fun e w' => e = .returned (.bool false) ∧ Hid (LU w w' tb D L n)) := hidb ((isLinked_any h p).mono (by rintro e w' ⟨rfl, hb⟩; exact ⟨by rw [hs], hidb (LU.same h hb)⟩))
    clear h hN hk hs hl hD hn
    go_enter Tryz.func16, Tryz.ntmps16
    go_wp2_with (go_at_call 28; refine HI.out.mono ?_; clear HI; rintro e w' ⟨rfl, HU⟩)
    go_ret2
    exact ⟨rfl, HU.out⟩
  | true =>
    rw [show ulkI p n L = n + 1 by simp [ulkI, hs], show ulkL p n L = insL p ⟨p, 2, n + 1⟩ L by simp [ulkL, hs], show ulkN p n L = n + 1 by simp [ulkN, hs]]
    have HI : Hid (Calls Tryz.prog 28 #[.pointer (some ⟨tb, 0, none⟩), .int .i64 p] w fun e w' => e = .returned (.bool true) ∧ w'.cell? ⟨tb, 2, none⟩ = some (.int .i64 n) ∧ w'.frozen? ⟨tb, 2, none⟩ = false ∧ Hid (Calls Tryz.prog 30 #[.pointer (some ⟨tb, 0, none⟩), .int .i64 p, .agg #[.int .i64 p, .int .i64 2, .int .i64 (n + 1)]] (w'.setCell ⟨tb, 2, none⟩ (.int .i64 (n + 1))).drew fun e w2 => ∃ z, e = .returned (.bool z) ∧ w2.cell? ⟨tb, 2, none⟩ = some (.int .i64 (n + 1)) ∧ Hid (LU w w2 tb D (insL p ⟨p, 2, n + 1⟩ L) (n + 1)))) := hidb ((isLinked_any h p).mono (by
      rintro e w' ⟨rfl, hb⟩
      have h1 := h.keep hb
      have h2 := (h1.bump (n + 1)).keep ((Below.refl _ _).drew)
      refine ⟨by rw [hs], h1.c2, h1.f2, hidb ((lput_any h2 hN p ⟨p, 2, n + 1⟩ hk ⟨rfl, .inr rfl⟩).mono ?_)⟩
      rintro e w2 ⟨rfl, hu⟩
      refine ⟨_, rfl, hu.lt.c2, hidb ?_⟩
      have hsz : (w'.setCell ⟨tb, 2, none⟩ (.int .i64 (n + 1))).drew.heap.size = w'.heap.size := by simp [World.setCell]
      refine LU.pre hb hl hD ⟨hu.lt.mono (fun k hk => hk.elim .inl (fun h => .inr ⟨by rw [← hsz]; exact h.1, h.2⟩)) (fun h => h.elim hD (fun h => by have := hb.size; omega)), (((But.refl (fun k => k = tb) w').setCell (p := ⟨tb, 2, none⟩) (fun _ => rfl) _)).drew.trans hu.bt⟩))
    have e1 : wrap64 (n + 1) = n + 1 := by unfold wrap64; omega
    clear h hN hk hs hl hD hn
    go_enter Tryz.func16, Tryz.ntmps16
    go_wp2_with (go_at_call 28; refine HI.out.mono ?_; clear HI; rintro e w' ⟨rfl, m2, m3, HS⟩)
    go_region_with (go_at_call 30; refine HS.out.mono ?_; clear HS; rintro e w2 ⟨z, rfl, m4, HU⟩)
    go_wp2_with fail
    go_ret2
    exact ⟨rfl, HU.out⟩

end Go.Proofs.YtodelafnboimnaaGreat
