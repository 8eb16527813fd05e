/- Contracts of the program's registry: what changes it. -/
import Derived.Test.YtfhgohpldpnkbaaNm2
import Derived.Test.YtfhgohpldpnkbaaShelf
namespace Go.Proofs.Ytfhgohpldpnkbaa
open Go.RowKit Go.Lib Go.Maps Go.WideMaps

theorem clone_any (s : ByteArray) (w : World) (hs : s.size ≤ 64) : Calls Try.prog 19 #[.string s] w fun e w' => e = .returned (.string s) ∧ Below w.heap.size w w' := by
  go_enter Try.func19, Try.ntmps19
  go_wp2_with (go_at_call 27; refine (Try.stringslite_Clone s _ (by omega)).mono ?_; rintro e w' ⟨rfl, hb⟩)
  go_ret
  exact ⟨rfl, hb⟩

/-- What a call has made of a registry. -/
structure PU (w w' : World) (b : Nat) (D : Nat → Prop) (K : Nat) (R : List NP) : Prop where
  bt : But (fun k => k = b ∨ D k) w w'
  pn : PN w' b (fun k => D k ∨ w.heap.size ≤ k ∧ k < w'.heap.size) K R
theorem PU.same {w w' : World} {b K : Nat} {D : Nat → Prop} {R : List NP} (h : PN w b D K R) (hb : Below w.heap.size w w') : PU w w' b D K R := by
  obtain ⟨m, h, hd⟩ := h
  exact ⟨But.of_below hb, m, h.keep hb, fun k hk => .inl (hd k hk)⟩
theorem PU.after {w0 w w' : World} {b K : Nat} {D : Nat → Prop} {R : List NP} (hb : Below w0.heap.size w0 w) (h : PU w w' b D K R) : PU w0 w' b D K R := by
  have hs := hb.size
  obtain ⟨m, h1, hd⟩ := h.pn
  refine ⟨(But.of_below hb).trans h.bt, m, h1, fun k hk => ?_⟩
  rcases hd k hk with e | e
  · exact .inl e
  · exact .inr ⟨by omega, e.2⟩

theorem NAt.size_le {R : List NP} (h : Reg R) {i : Nat} (hi : i < R.length) : R[i].1.size ≤ maxLen := by
  have := (ok_size (h.ok _ (List.getElem_mem hi)).1).2.1
  unfold maxLen; omega

set_option maxHeartbeats 1000000 in
theorem strike_any {w : World} {b K : Nat} {D : Nat → Prop} {R : List NP} (h : PN w b D K R) {i : Nat} (hi : i < R.length) {s : ByteArray} {p : Int} (hx : R[i] = (s, p)) :
    Calls Try.prog 25 #[.pointer (some ⟨b, 0, none⟩), .string s, .int .i64 p] w fun e w' => e = .returned (.tuple #[]) ∧ PU w w' b D K (R.eraseIdx i) := by
  obtain ⟨m, h, hd⟩ := h
  have hreg := h.reg
  obtain ⟨-, -, hw⟩ := hreg.ok _ (List.getElem_mem hi)
  have hss := NAt.size_le hreg hi
  rw [hx] at hw hss
  rcases h.mp with ⟨rfl, rfl⟩ | ⟨a, c, Da, Ea, rfl, h1, h2, h3, h4, n1, n2, n3⟩
  · simp at hi
  obtain ⟨w1, hrun1, ho1, ht1⟩ := h1.drop lawS undMO (keyS hss) 0
  have hb1 : But (fun k => k = a) w w1 := by
    have hg := ht1.grown
    exact ⟨hg.os, hg.tape, hg.output, hg.size, fun k hk hs => hg.block k hk (fun e => hs (by simpa using e))⟩
  have h2' := own_but h2 hb1 (fun e => n3 e.symm)
  obtain ⟨w2, hrun2, ho2, ht2⟩ := h2'.drop lawI undMN (keyI hw) 0
  have hb2 : But (fun k => k = c) w1 w2 := by
    have hg := ht2.grown
    exact ⟨hg.os, hg.tape, hg.output, hg.size, fun k hk hs => hg.block k hk (fun e => hs (by simpa using e))⟩
  have hduo := h.duo
  have hd1 := hduo.but hb1 (fun e => n1 e.symm)
  have HP : Hid (PU w w2 b D K (R.eraseIdx i)) := hidb (by
    refine ⟨(hb1.mono (fun k _ e => .inr (hd k ⟨a, c, rfl, .inl e⟩))).trans (hb2.mono (fun k _ e => .inr (hd k ⟨a, c, rfl, .inr e⟩))), some (a, c), ⟨hd1.but hb2 (fun e => n2 e.symm), .inr ⟨a, c, _, _, rfl, own_but ho1 hb2 n3, ho2, ?_, ?_, n1, n2, n3⟩, hreg.cut i⟩, fun k hk => .inl (hd k hk)⟩
    · have := h3.cut hreg hi; rw [hx] at this; exact this
    · have := h4.cut hreg hi; rw [hx] at this; exact this)
  obtain ⟨c0, c1, f0, f1, hlt⟩ := hduo
  obtain ⟨d0, d1, g0, g1, hlt1⟩ := hd1
  simp only [Option.map_some] at c0 c1 d0 d1
  clear h h1 h2 h2' h3 h4 ho1 ho2 ht1 ht2 hb1 hb2 hreg hi hx hw hss n1 n2 n3 hd
  go_enter Try.func25, Try.ntmps25
  go_wp2
  go_end0
  exact ⟨rfl, HP.out⟩

set_option maxHeartbeats 1000000 in
theorem punreg {w : World} {b K : Nat} {D : Nat → Prop} {R : List NP} (h : PN w b D K R) {s : ByteArray} (hs : s.size ≤ maxLen) :
    Calls Try.prog 16 #[.pointer (some ⟨b, 0, none⟩), .string s] w fun e w' => e = .returned (.int .i64 (unrE R s)) ∧ PU w w' b D K (unrN R s) := by
  have h0 := h
  obtain ⟨m, h, hd⟩ := h
  have hl := h.lookO hs
  obtain ⟨c0, c1, f0, f1, hlt⟩ := h.duo
  cases hw : whN R s with
  | none =>
    rw [hw] at hl
    simp only [Option.getD_none, Option.isSome_none] at hl
    rw [show unrE R s = 13 by simp [unrE, hw], whN_gone hw]
    have HP : Hid (PU w (w.alloc (.cells #[.int .i64 0] OT)) b D K R) := hidb (PU.same h0 (below_new _ _))
    generalize m.map Prod.fst = ma at *
    clear h h0 hd hs
    go_enter Try.func16, Try.ntmps16
    go_wp2
    go_ret
    exact ⟨rfl, HP.out⟩
  | some p =>
    rw [hw] at hl
    simp only [Option.getD_some, Option.isSome_some] at hl
    obtain ⟨hi, hx⟩ := whN_at hw
    rw [show unrE R s = 0 by simp [unrE, hw]]
    have C : Hid (Calls Try.prog 25 #[.pointer (some ⟨b, 0, none⟩), .string s, .int .i64 p] (w.alloc (.cells #[.int .i64 p] OT)) fun e w' => e = .returned (.tuple #[]) ∧ PU w w' b D K (unrN R s)) := hidb ((strike_any (h0.keep (below_new _ _)) hi (hx hi)).mono (fun e w' ⟨r1, r2⟩ => ⟨r1, PU.after (below_new _ _) r2⟩))
    generalize m.map Prod.fst = ma at *
    generalize unrN R s = R' at *
    clear h h0 hd hs hi hx
    go_enter Try.func16, Try.ntmps16
    go_wp2_with (go_at_call 25; refine C.out.mono ?_; clear C; rintro e w' ⟨rfl, HP⟩)
    go_ret
    exact ⟨rfl, HP⟩

set_option maxHeartbeats 1000000 in
theorem prelease {w : World} {b K : Nat} {D : Nat → Prop} {R : List NP} (h : PN w b D K R) {q : Int} (hq : wfi q) :
    Calls Try.prog 14 #[.pointer (some ⟨b, 0, none⟩), .int .i64 q] w fun e w' => e = .returned (.bool (ofN R q).isSome) ∧ PU w w' b D K (relN R q) := by
  have h0 := h
  obtain ⟨m, h, hd⟩ := h
  have hl := h.lookN hq
  obtain ⟨c0, c1, f0, f1, hlt⟩ := h.duo
  cases hw : ofN R q with
  | none =>
    rw [hw] at hl
    simp only [Option.getD_none, Option.isSome_none] at hl ⊢
    rw [ofN_gone hw]
    have HP : Hid (PU w (w.alloc (.cells #[.string ⟨#[]⟩] NT)) b D K R) := hidb (PU.same h0 (below_new _ _))
    generalize m.map Prod.snd = ma at *
    clear h h0 hd hq
    go_enter Try.func14, Try.ntmps14
    go_wp2
    go_ret
    exact ⟨rfl, HP.out⟩
  | some s =>
    rw [hw] at hl
    simp only [Option.getD_some, Option.isSome_some] at hl ⊢
    obtain ⟨hi, hx⟩ := ofN_at hw
    have C : Hid (Calls Try.prog 25 #[.pointer (some ⟨b, 0, none⟩), .string s, .int .i64 q] (w.alloc (.cells #[.string s] NT)) fun e w' => e = .returned (.tuple #[]) ∧ PU w w' b D K (relN R q)) := hidb ((strike_any (h0.keep (below_new _ _)) hi (hx hi)).mono (fun e w' ⟨r1, r2⟩ => ⟨r1, PU.after (below_new _ _) r2⟩))
    generalize m.map Prod.snd = ma at *
    generalize relN R q = R' at *
    clear h h0 hd hq hi hx
    go_enter Try.func14, Try.ntmps14
    go_wp2_with (go_at_call 25; refine C.out.mono ?_; clear C; rintro e w' ⟨rfl, HP⟩)
    go_ret
    exact ⟨rfl, HP⟩

set_option maxHeartbeats 1000000 in
theorem pof {w : World} {b K : Nat} {D : Nat → Prop} {R : List NP} (h : PN w b D K R) {q : Int} (hq : wfi q) :
    Calls Try.prog 10 #[.pointer (some ⟨b, 0, none⟩), .int .i64 q] w fun e w' => e = .returned (.tuple #[.string ((ofN R q).getD ⟨#[]⟩), .bool (ofN R q).isSome]) ∧ Below w.heap.size w w' := by
  obtain ⟨m, h, hd⟩ := h
  have hl := h.lookN hq
  obtain ⟨c0, c1, f0, f1, hlt⟩ := h.duo
  have hsz : ((ofN R q).getD ⟨#[]⟩).size ≤ 64 := by
    cases hw : ofN R q with
    | none => simp [ByteArray.size]
    | some s => exact (ok_size (h.reg.ok _ ((ofN_iff h.reg).1 hw)).1).2.1
  generalize (ofN R q).isSome = qq at *
  generalize (ofN R q).getD ⟨#[]⟩ = v at *
  generalize m.map Prod.snd = ma at *
  have C : Hid (Calls Try.prog 19 #[.string v] (w.alloc (.cells #[.string v] NT)) fun e w' => e = .returned (.string v) ∧ Below w.heap.size w w') := hidb ((clone_any v _ hsz).mono (fun e w' ⟨r1, r2⟩ => ⟨r1, (below_new _ _).trans (r2.mono (by simp))⟩))
  clear h hd hq hsz
  go_enter Try.func10, Try.ntmps10
  go_wp2_with (go_at_call 19; refine C.out.mono ?_; clear C; rintro e w' ⟨rfl, HP⟩)
  refine bodyPost_ret (v := .tuple #[.string v, .bool qq]) ?_ rfl ⟨rfl, HP⟩
  simp [results, Try.results10, go_sem]
end Go.Proofs.Ytfhgohpldpnkbaa
