import Derived.Shelf.LaysM
import Derived.Shelf.Strconv.Clone
import Derived.Test.YtceigdeoefhcfaaGreatProg
import Derived.Test.YtceigdeoefhcfaaGreatG07
/- Contracts of the library (Mul64, FormatInt at base 10, Repeat), laid at this program by the kit's own tool, in plain words. -/
namespace Go.Proofs
open Go.Shelf
def Tryz.laysM316_ren : Go.Shelf.Ren := ⟨fun | 316 => 49 | n => n, fun | 9 => 9 | 3 => 3 | 4 => 4 | 37 => 114 | 0 => 0 | 127 => 115 | 5 => 5 | n => n, fun | n => n⟩
theorem Tryz.laysM316 : Go.Proofs.LaysM.n316 Tryz.prog Tryz.laysM316_ren := {
  mixed := by kernel_rfl
  f316 := Tryz.func49.trans (congrArg some (by kernel_rfl))
  t0 := Tryz.underlying0
  a0 := Tryz.isAgg0
  z0 := Tryz.sizeOf0
  v0 := Tryz.zeroValue0
  t3 := Tryz.underlying3
  a3 := Tryz.isAgg3
  z3 := Tryz.sizeOf3
  v3 := Tryz.zeroValue3
  t4 := Tryz.underlying4
  a4 := Tryz.isAgg4
  z4 := Tryz.sizeOf4
  v4 := Tryz.zeroValue4
  t9 := Tryz.underlying9
  a9 := Tryz.isAgg9
  z9 := Tryz.sizeOf9
  v9 := Tryz.zeroValue9
  t37 := Tryz.underlying114
  a37 := Tryz.isAgg114
  z37 := Tryz.sizeOf114
  v37 := Tryz.zeroValue114
  t127 := Tryz.underlying115
  a127 := Tryz.isAgg115
  z127 := Tryz.sizeOf115
  v127 := Tryz.zeroValue115
  t5 := Tryz.underlying5
  a5 := Tryz.isAgg5
  z5 := Tryz.sizeOf5
  v5 := Tryz.zeroValue5
  i0 := by kernel_rfl
  i3 := by kernel_rfl
  i4 := by kernel_rfl
  i5 := by kernel_rfl
  i9 := by kernel_rfl
  i37 := by kernel_rfl
  i127 := by kernel_rfl }
open Go.RowKit in
theorem Tryz.stringslite_Clone (s : ByteArray) (w : World) (hlim : s.size ≤ 281474976710656) :
    Calls Tryz.prog 49 #[.string s] w fun e w' => e = .returned (.string s) ∧ Below w.heap.size w w' := Any.stringslite_Clone Tryz.laysM316 s w hlim
end Go.Proofs


/- Halves of monitors: what halves do (add, take, remove, pop, many). -/
namespace Go.Proofs.YtceigdeoefhcfaaGreat
open Go.RowKit Go.Lib
open MV (Hf hf0 getL insL delL Rise Wfk TB Nw Rst KV)
attribute [local go_sem] store_float f64bits
attribute [local go_sem ↓] Go.wp_at_zero Go.wp_at_succ

set_option maxHeartbeats 1000000 in
theorem clone_any (s : ByteArray) (w : World) (hs : s.size ≤ 281474976710656) : Calls Tryz.prog 33 #[.string s] w fun e w' => e = .returned (.string s) ∧ Below w.heap.size w w' := by
  go_enter Tryz.func33, Tryz.ntmps33
  go_wp2_with (go_at_call 49; refine (Tryz.stringslite_Clone s _ (by omega)).mono ?_; rintro e w' ⟨rfl, hb⟩)
  go_ret
  exact ⟨rfl, hb⟩

theorem MV.TB.nd {D : Nat → Prop} {w : World} {tb o : Nat} {L : List KV} (h : TB w tb o D L) : ¬ D tb := by obtain ⟨_, _, _, _, _, _, _, _, h⟩ := h; exact h
theorem MV.TB.cut {w : World} {tb o : Nat} {D : Nat → Prop} {L : List KV} (h : TB w tb o D L) : TB w tb o (fun k => D k ∧ k < w.heap.size) L := by
  obtain ⟨p, t, hd, ht, h3, h4, h5, h6, h7⟩ := h
  exact ⟨p, t, hd, MV.IsT.cut (fun k a b => ⟨a, b⟩) ht, h3, h4, h5, h6, fun h => h7 h.1⟩
theorem MV.Rst.of_below {tb o : Nat} {w w' : World} (hb : Below w.heap.size w w') (hl : tb < w.heap.size) : Rst tb o w w' := fun _ _ _ => ⟨hb.cell hl, hb.frozen hl⟩
theorem MV.Rst.of_but {S : Nat → Prop} {tb o : Nat} {w w' : World} (hb : But S w w') (hl : tb < w.heap.size) (hs : ¬ S tb) : Rst tb o w w' := fun _ _ _ => ⟨hb.cell hl hs, hb.frozen hl hs⟩
theorem MV.Rst.trans {tb o : Nat} {w w1 w' : World} (h : Rst tb o w w1) (h2 : Rst tb o w1 w') : Rst tb o w w' := fun q a b => ⟨(h2 q a b).1.trans (h q a b).1, (h2 q a b).2.trans (h q a b).2⟩

/-- Halves behind a method. -/
structure HU (w w' : World) (tb o : Nat) (D : Nat → Prop) (L : List KV) : Prop where
  tr : TB w' tb o (Nw D w w') L
  bt : But (fun k => k = tb) w w'
  rs : Rst tb o w w'

theorem HU.pre {D : Nat → Prop} {w w1 w' : World} {tb o : Nat} {L : List KV} (hb : Below w.heap.size w w1) (hl : tb < w.heap.size) (hD : ¬ D tb) (h : HU w1 w' tb o D L) : HU w w' tb o D L :=
  ⟨h.tr.mono (fun k hk => hk.elim .inl (fun h => .inr ⟨Nat.le_trans hb.size h.1, h.2⟩)) (fun h => h.elim hD (fun h => by omega)), (But.of_below hb).trans h.bt, (MV.Rst.of_below hb hl).trans h.rs⟩
theorem HU.post {D : Nat → Prop} {w w1 w' : World} {tb o : Nat} {L : List KV} (h : HU w w1 tb o D L) (hb : Below w1.heap.size w1 w') (hl : tb < w.heap.size) (hD : ¬ D tb) : HU w w' tb o D L :=
  ⟨(h.tr.keep hb).mono (fun k hk => hk.elim .inl (fun h => .inr ⟨h.1, Nat.lt_of_lt_of_le h.2 hb.size⟩)) (fun h => h.elim hD (fun h => by omega)), h.bt.trans (But.of_below hb), h.rs.trans (MV.Rst.of_below hb (Nat.lt_of_lt_of_le hl h.bt.size))⟩
theorem HU.same {D : Nat → Prop} {w w' : World} {tb o : Nat} {L : List KV} (h : TB w tb o D L) (hb : Below w.heap.size w w') : HU w w' tb o D L :=
  ⟨(h.keep hb).mono (fun k hk => .inl hk) (fun q => q.elim h.nd (fun q => by have := h.lt; omega)), But.of_below hb, MV.Rst.of_below hb h.lt⟩

theorem But.trans' {S S' : Nat → Prop} {w w1 w2 : World} (h : But S w w1) (h2 : But S' w1 w2) (hs : ∀ k, k < w.heap.size → S' k → S k) : But S w w2 :=
  ⟨h2.os.trans h.os, h2.tape.trans h.tape, h2.output.trans h.output, Nat.le_trans h.size h2.size, fun k hk hn => (h2.block k (Nat.lt_of_lt_of_le hk h.size) (fun e => hn (hs k hk e))).trans (h.block k hk hn)⟩

theorem hput_any {w : World} {tb o : Nat} {D : Nat → Prop} {L : List KV} (h : TB w tb o D L) (hN : L.length < 10000000) (p : Int) (v : Hf) (hk : -9223372036854775808 ≤ p) :
    Calls Tryz.prog 34 #[.pointer (some ⟨tb, o, none⟩), .int .i64 p, .agg #[.int .i64 v.a, .int .i64 v.b, .string v.c]] w fun e w' => e = .returned (.bool (!(getL p L).isSome)) ∧ HU w w' tb o D (insL p v L) := by
  refine (MV.put_any h hN p v hk).mono ?_
  rintro e w' ⟨rfl, h1, h2, h3⟩
  exact ⟨rfl, h1, h2, h3⟩
theorem hdrop_any {w : World} {tb o : Nat} {D : Nat → Prop} {L : List KV} (h : TB w tb o D L) (hN : L.length < 10000000) (p : Int) :
    Calls Tryz.prog 51 #[.pointer (some ⟨tb, o, none⟩), .int .i64 p] w fun e w' => e = .returned (.bool (getL p L).isSome) ∧ HU w w' tb o D (delL p L) := by
  refine (MV.drop_any h hN p).mono ?_
  rintro e w' ⟨rfl, h1, h2, h3⟩
  exact ⟨rfl, h1, h2, h3⟩

/-- What add tells, and leaves. -/
def addE (v : Hf) (L : List KV) : Int := if (getL v.a L).isSome then 1 else 0
def addL (v : Hf) (L : List KV) : List KV := if (getL v.a L).isSome then L else insL v.a v L

set_option maxHeartbeats 4000000 in
theorem hadd_any {w : World} {tb o : Nat} {D : Nat → Prop} {L : List KV} (h : TB w tb o D L) (hN : L.length < 10000000) (v : Hf) (hk : -9223372036854775808 ≤ v.a) (hsz : v.c.size ≤ 281474976710656) :
    Calls Tryz.prog 21 #[.pointer (some ⟨tb, o, none⟩), .agg #[.int .i64 v.a, .int .i64 v.b, .string v.c]] w fun e w' => e = .returned (.int .i64 (addE v L)) ∧ HU w w' tb o D (addL v L) := by
  have hl := h.lt
  have hD := h.nd
  have hb0 := below_new w (.cells #[.int .i64 v.a, .int .i64 v.b, .string v.c] 40)
  obtain ⟨w0, hw0⟩ : ∃ w0, w.alloc (.cells #[.int .i64 v.a, .int .i64 v.b, .string v.c] 40) = w0 := ⟨_, rfl⟩
  have P0 : Tri w0 w.heap.size (.int .i64 v.a) (.int .i64 v.b) (.string v.c) := hw0 ▸ Tri.new _ _ _ _ _
  rw [hw0] at hb0
  have hs0 : w.heap.size < w0.heap.size := P0.lt
  have HG : Hid (∀ W, Below w0.heap.size w0 W → Calls Tryz.prog 32 #[.pointer (some ⟨tb, o, none⟩), .int .i64 v.a] W fun e w' => e = .returned (.tuple #[.agg #[.int .i64 ((getL v.a L).getD hf0).a, .int .i64 ((getL v.a L).getD hf0).b, .string ((getL v.a L).getD hf0).c], .bool (getL v.a L).isSome]) ∧ Tri w' w.heap.size (.int .i64 v.a) (.int .i64 v.b) (.string v.c) ∧ Below W.heap.size W w' ∧ Hid (Below w0.heap.size w0 w')) := hidb (fun W hW => (MV.get_any ((h.keep hb0).keep hW) v.a).mono (by
    rintro e w' ⟨rfl, hb⟩
    exact ⟨rfl, (P0.keep hW).keep hb, hb, hidb (hW.trans (hb.mono hW.size))⟩))
  have m0 := P0.c0
  have m1 := P0.c1
  have m2 := P0.c2
  have m3 := P0.f2
  unfold addE addL
  cases hs : (getL v.a L).isSome with
  | true =>
    rw [hs] at HG
    simp only [if_true]
    have HT := hidb h
    have HB0 := hidb (⟨hb0, hs0⟩ : Below w.heap.size w w0 ∧ w.heap.size < w0.heap.size)
    clear h hN hk hl hD hb0 hs P0
    have hs1 : w.heap.size ≠ w0.heap.size := by omega
    go_enter Tryz.func21, Tryz.ntmps21
    go_wp2_with fail
    clear hw0
    go_region_with (go_at_call 32; refine (HG.out _ (by (repeat (first | exact Below.refl _ _ | assumption | refine Below.drew ?_ | refine below_drewN ?_ _ | refine Below.setCell ?_ (by simp) _ | refine Below.alloc ?_ (by (first | exact Nat.le_refl _ | (simp; done) | (simp; omega) | omega)) _ | refine Below.trans ?_ (Below.mono (by assumption) (by first | exact Nat.le_refl _ | (simp; done) | (simp; omega) | omega)))))).mono ?_; rintro e w1 ⟨rfl, P1, hb1, HB1⟩; (first | (have P5 : Tri w1 w0.heap.size (.int .i64 0) (.int .i64 0) (.string ⟨#[]⟩) := (show Tri (w0.drew.alloc (.cells #[.int .i64 0, .int .i64 0, .string ⟨#[]⟩] 40)) w0.heap.size _ _ _ from Tri.new _ _ _ _ _).keep hb1; have r0 := P5.c0; have r1 := P5.c1; have r2 := P5.c2; have r3 := P5.f0; have r4 := P5.f1; have r5 := P5.f2) | skip); have n0 := P1.c0; have n1 := P1.c1; have n2 := P1.c2; have n3 := P1.f2)
    all_goals go_wp2_with fail
    all_goals (
      obtain ⟨hb0, hs0⟩ := HB0.out
      have hsy := HB1.out.size
      have hbw : Below w.heap.size w w1 := hb0.trans (HB1.out.mono (by omega))
      go_ret
      exact ⟨rfl, HU.same HT.out (by (repeat (first | exact hbw | refine Below.setCell ?_ (show w.heap.size ≤ w0.heap.size by omega) _ | refine Below.setCell ?_ (show w.heap.size ≤ w1.heap.size by omega) _ | refine Below.alloc ?_ (by omega) _)))⟩)
  | false =>
    rw [hs] at HG
    simp only [Bool.false_eq_true, if_false]
    have HC : Hid (∀ W, Below w0.heap.size w0 W → Calls Tryz.prog 33 #[.string v.c] W fun e w' => e = .returned (.string v.c) ∧ Tri w' w.heap.size (.int .i64 v.a) (.int .i64 v.b) (.string v.c) ∧ Hid (Below w0.heap.size w0 w')) := hidb (fun W hW => (clone_any v.c W hsz).mono (by
      rintro e w' ⟨rfl, hb⟩
      exact ⟨rfl, (P0.keep hW).keep hb, hidb (hW.trans (hb.mono hW.size))⟩))
    have HP : Hid (∀ W, Below w.heap.size w W → Calls Tryz.prog 34 #[.pointer (some ⟨tb, o, none⟩), .int .i64 v.a, .agg #[.int .i64 v.a, .int .i64 v.b, .string v.c]] W fun e w' => ∃ z, e = .returned (.bool z) ∧ Hid (HU w w' tb o D (insL v.a v L))) := hidb (fun W hW => (hput_any (h.keep hW) hN v.a v hk).mono (by
      rintro e w' ⟨rfl, hu⟩
      exact ⟨_, rfl, hidb (HU.pre hW hl hD hu)⟩))
    have HB0 := hidb (⟨hb0, hs0⟩ : Below w.heap.size w w0 ∧ w.heap.size < w0.heap.size)
    clear h hN hk hl hD hb0 hs P0 hsz
    have hs1 : w.heap.size ≠ w0.heap.size := by omega
    go_enter Tryz.func21, Tryz.ntmps21
    go_wp2_with fail
    clear hw0
    go_region_with (go_at_call 32; refine (HG.out _ (by (repeat (first | exact Below.refl _ _ | assumption | refine Below.drew ?_ | refine below_drewN ?_ _ | refine Below.setCell ?_ (by simp) _ | refine Below.alloc ?_ (by (first | exact Nat.le_refl _ | (simp; done) | (simp; omega) | omega)) _ | refine Below.trans ?_ (Below.mono (by assumption) (by first | exact Nat.le_refl _ | (simp; done) | (simp; omega) | omega)))))).mono ?_; rintro e w1 ⟨rfl, P1, hb1, HB1⟩; (first | (have P5 : Tri w1 w0.heap.size (.int .i64 0) (.int .i64 0) (.string ⟨#[]⟩) := (show Tri (w0.drew.alloc (.cells #[.int .i64 0, .int .i64 0, .string ⟨#[]⟩] 40)) w0.heap.size _ _ _ from Tri.new _ _ _ _ _).keep hb1; have r0 := P5.c0; have r1 := P5.c1; have r2 := P5.c2; have r3 := P5.f0; have r4 := P5.f1; have r5 := P5.f2) | skip); have n0 := P1.c0; have n1 := P1.c1; have n2 := P1.c2; have n3 := P1.f2; have hs2 : w0.heap.size ≤ w1.heap.size := HB1.out.size; have hs3 : w.heap.size < w1.heap.size := (by omega); have hs4 : w.heap.size ≠ w1.heap.size := (by omega))
    all_goals go_wp2_with (go_at_call 33; refine (HC.out _ (by (repeat (first | exact HB1.out | refine Below.setCell ?_ (show w0.heap.size ≤ w0.heap.size from Nat.le_refl _) _ | refine Below.setCell ?_ (show w0.heap.size ≤ w1.heap.size by omega) _ | refine Below.drew ?_ | refine Below.alloc ?_ (by first | omega | (simp; omega)) _)))).mono ?_; rintro e w3 ⟨rfl, P3, HB3⟩; have u0 := P3.c0; have u1 := P3.c1; have u2 := P3.c2; have u3 := P3.f0; have u4 := P3.f1; have u5 := P3.f2)
    all_goals (
      have HBW : Hid (Below w.heap.size w w3) := hidb (HB0.out.1.trans (HB3.out.mono (by omega)))
      go_region_with (go_at_call 34; refine (HP.out _ (by (repeat (first | exact HBW.out | refine Below.drew ?_ | refine Below.setCell ?_ (show w.heap.size ≤ w.heap.size from Nat.le_refl _) _)))).mono ?_; rintro e w4 ⟨z, rfl, HU4⟩))
    all_goals go_wp2_with fail
    all_goals (
      go_ret
      exact ⟨rfl, HU4.out⟩)

set_option maxHeartbeats 1000000 in
theorem hmany_any {w : World} {tb o : Nat} {D : Nat → Prop} {L : List KV} (h : TB w tb o D L) : Calls Tryz.prog 23 #[.pointer (some ⟨tb, o, none⟩)] w fun e w' => e = .returned (.int .i64 (L.length : Int)) ∧ w' = w := by
  have HG := hidb (MV.len_any h)
  clear h
  go_enter Tryz.func23, Tryz.ntmps23
  go_wp2_with (go_at_call 37; refine HG.out.mono ?_; clear HG; rintro e w' ⟨rfl, rfl⟩)
  go_ret
  exact ⟨rfl, rfl⟩

/-- What a function tells that finds a half, whatever memory was laid since. -/
def Fnd (w : World) (f : Nat) (lb : Array Value) (m : Hf) (b : Bool) : Prop :=
  ∀ W, Below w.heap.size w W → Calls Tryz.prog f lb W fun e w' => e = .returned (.tuple #[.agg #[.int .i64 m.a, .int .i64 m.b, .string m.c], .bool b]) ∧ Below W.heap.size W w'

set_option maxHeartbeats 4000000 in
theorem htake_any {w : World} {tb o : Nat} {D : Nat → Prop} {L L' : List KV} (h : TB w tb o D L) (hN : L.length < 10000000) (f : Nat) (lb : Array Value) (ent : ∀ args w, (callFunc f args).run Tryz.prog w = .ok (.enter f args) w) (m : Hf) (b : Bool) (hF : Fnd w f lb m b) (h1 : b = true → delL m.a L = L') (h2 : b = false → L = L') :
    Calls Tryz.prog 35 #[.pointer (some ⟨tb, o, none⟩), .func (.func f) #[] lb] w fun e w' => e = .returned (.tuple #[.agg #[.int .i64 m.a, .int .i64 m.b, .string m.c], .bool b]) ∧ HU w w' tb o D L' := by
  have hl := h.lt
  have hD := h.nd
  have hb0 := below_new w (.cells #[.int .i64 0, .int .i64 0, .string ⟨#[]⟩] 40)
  have P0 : Tri (w.alloc (.cells #[.int .i64 0, .int .i64 0, .string ⟨#[]⟩] 40)) w.heap.size (.int .i64 0) (.int .i64 0) (.string ⟨#[]⟩) := Tri.new _ _ _ _ _
  cases b with
  | false =>
    obtain rfl := h2 rfl
    have HF : Hid (Calls Tryz.prog f lb (w.alloc (.cells #[.int .i64 0, .int .i64 0, .string ⟨#[]⟩] 40)) fun e w' => e = .returned (.tuple #[.agg #[.int .i64 m.a, .int .i64 m.b, .string m.c], .bool false]) ∧ Tri w' w.heap.size (.int .i64 0) (.int .i64 0) (.string ⟨#[]⟩) ∧ w.heap.size < w'.heap.size ∧ Hid (Below w.heap.size w w')) := hidb ((hF _ hb0).mono (by
      rintro e w' ⟨rfl, hb⟩
      exact ⟨rfl, P0.keep hb, (P0.keep hb).lt, hidb (hb0.trans (hb.mono hb0.size))⟩))
    have HT := hidb h
    clear h hN hl hD hb0 P0 h1 h2 hF
    go_enter Tryz.func35, Tryz.ntmps35
    go_wp2_with (refine HF.out.mono ?_; clear HF; rintro e w' ⟨rfl, P1, hlt, HB⟩; have hne : w.heap.size ≠ w'.heap.size := (by omega); have p0 := P1.c0; have p1 := P1.c1; have p2 := P1.c2; have q0 := P1.f0; have q1 := P1.f1; have q2 := P1.f2)
    have hb := HB.out
    have hbs := hb.size
    refine bodyPost_ret (v := .tuple #[.agg #[.int .i64 m.a, .int .i64 m.b, .string m.c], .bool false]) (by simp [results, Tryz.results35, go_sem, p0, p1, p2, hlt]) rfl ⟨rfl, HU.same HT.out ?_⟩
    (repeat (first | exact Below.refl _ _ | assumption | refine Below.drew ?_ | refine below_drewN ?_ _ | refine Below.setCell ?_ (by simp) _ | refine Below.alloc ?_ (by (first | exact Nat.le_refl _ | (simp; done) | (simp; omega) | omega)) _ | refine Below.trans ?_ (Below.mono (by assumption) (by first | exact Nat.le_refl _ | (simp; done) | (simp; omega) | omega))))
  | true =>
    have HF : Hid (Calls Tryz.prog f lb (w.alloc (.cells #[.int .i64 0, .int .i64 0, .string ⟨#[]⟩] 40)) fun e w' => e = .returned (.tuple #[.agg #[.int .i64 m.a, .int .i64 m.b, .string m.c], .bool true]) ∧ Hid (Calls Tryz.prog 51 #[.pointer (some ⟨tb, o, none⟩), .int .i64 m.a] (w'.alloc (.cells #[.int .i64 m.a, .int .i64 m.b, .string m.c] 40)).drew fun e w2 => ∃ z, e = .returned (.bool z) ∧ Tri w2 w.heap.size (.int .i64 0) (.int .i64 0) (.string ⟨#[]⟩) ∧ Tri w2 w'.heap.size (.int .i64 m.a) (.int .i64 m.b) (.string m.c) ∧ w.heap.size < w'.heap.size ∧ Hid (HU (w'.alloc (.cells #[.int .i64 m.a, .int .i64 m.b, .string m.c] 40)).drew w2 tb o (fun k => D k ∧ k < w.heap.size) L' ∧ w.heap.size < w2.heap.size ∧ Below w.heap.size w (w'.alloc (.cells #[.int .i64 m.a, .int .i64 m.b, .string m.c] 40)).drew))) := hidb ((hF _ hb0).mono (by
      rintro e w' ⟨rfl, hb⟩
      have hb1 : Below w.heap.size w w' := hb0.trans (hb.mono hb0.size)
      have hb2 : Below w.heap.size w (w'.alloc (.cells #[.int .i64 m.a, .int .i64 m.b, .string m.c] 40)).drew := (hb1.alloc hb1.size _).drew
      have hs : w.heap.size < w'.heap.size := by have := hb.size; simp at this; omega
      refine ⟨rfl, hidb ((hdrop_any (h.cut.keep hb2) hN m.a).mono ?_)⟩
      rintro e w2 ⟨rfl, hu⟩
      have P1 : Tri w2 w.heap.size (.int .i64 0) (.int .i64 0) (.string ⟨#[]⟩) := ((P0.keep hb).keep ((below_new w' (.cells #[.int .i64 m.a, .int .i64 m.b, .string m.c] 40)).drew)).but hu.bt (by omega)
      have P2 : Tri w2 w'.heap.size (.int .i64 m.a) (.int .i64 m.b) (.string m.c) := ((Tri.new w' 40 _ _ _).keep ((Below.refl _ _).drew)).but hu.bt (by omega)
      refine ⟨_, rfl, P1, P2, hs, hidb ⟨?_, by have := P1.lt; omega, hb2⟩⟩
      rw [h1 rfl] at hu
      exact hu))
    have HLD := hidb (⟨hl, hD⟩ : tb < w.heap.size ∧ ¬ D tb)
    clear h hN hl hD hb0 P0 h1 h2 hF
    go_enter Tryz.func35, Tryz.ntmps35
    go_wp2_with (refine HF.out.mono ?_; clear HF; rintro e w' ⟨rfl, HS⟩)
    go_region_with (go_at_call 51; refine HS.out.mono ?_; clear HS; rintro e w2 ⟨z, rfl, P1, P2, hlt, HU9⟩; have p0 := P1.c0; have p1 := P1.c1; have p2 := P1.c2; have q0 := P1.f0; have q1 := P1.f1; have q2 := P1.f2; have r0 := P2.c0; have r1 := P2.c1; have r2 := P2.c2)
    go_wp2_with fail
    obtain ⟨hu, hul, hb2⟩ := HU9.out
    have hll := HLD.out.1
    refine bodyPost_ret (v := .tuple #[.agg #[.int .i64 m.a, .int .i64 m.b, .string m.c], .bool true]) (by simp [results, Tryz.results35, go_sem, p0, p1, p2]) rfl ⟨rfl, ?_⟩
    have hsz : w.heap.size < (w'.alloc (.cells #[.int .i64 m.a, .int .i64 m.b, .string m.c] 40)).drew.heap.size := by simp; omega
    have hS : But (fun k => k = w.heap.size) w2 (((w2.setCell ⟨w.heap.size, 0, none⟩ (.int .i64 m.a)).setCell ⟨w.heap.size, 1, none⟩ (.int .i64 m.b)).setCell ⟨w.heap.size, 2, none⟩ (.string m.c)) := (((But.refl (fun k => k = w.heap.size) w2).setCell (p := ⟨w.heap.size, 0, none⟩) (fun _ => rfl) _).setCell (p := ⟨w.heap.size, 1, none⟩) (fun _ => rfl) _).setCell (p := ⟨w.heap.size, 2, none⟩) (fun _ => rfl) _
    have hss := hS.size
    have hl2 : tb < w2.heap.size := by omega
    refine ⟨(hu.tr.but hS (fun k hk e => hk.elim (fun h => by omega) (fun h => by omega)) (by omega)).mono (fun k hk => hk.elim (fun h => .inl h.1) (fun h => .inr ⟨by omega, by omega⟩)) (fun h => h.elim HLD.out.2 (fun h => by omega)), ?_, ?_⟩
    · exact ((But.of_below hb2).trans hu.bt).trans' hS (fun k hk e => by omega)
    · exact ((MV.Rst.of_below hb2 hll).trans hu.rs).trans (MV.Rst.of_but hS hl2 (by omega))

theorem e_rem : ∀ args w, (callFunc 36 args).run Tryz.prog w = .ok (.enter 36 args) w := enters_of Tryz.func36 (by kernel_rfl) rfl
theorem e_pop : ∀ args w, (callFunc 45 args).run Tryz.prog w = .ok (.enter 45 args) w := enters_of Tryz.func45 (by kernel_rfl) rfl

end Go.Proofs.YtceigdeoefhcfaaGreat


