/- The document's half-links: Get, Set. -/
import Derived.Test.YtodelafnboimnaaLr0
namespace Go.Proofs.Ytodelafnboimnaa
open Go.RowKit Go.Lib
namespace HV
attribute [local go_sem ↓] Go.wp_at_zero Go.wp_at_succ

set_option maxHeartbeats 2000000 in
theorem rget_any {w : World} {rb : Nat} {E : Nat → Prop} {L : List KV} {nn : Int} (h : RT w rb E L nn) (hr : Rise L) (hk : HOk L) (key : Int) (hN : L.length ≤ 100000) :
    Calls Try.prog 9 #[.pointer (some ⟨rb, 0, none⟩), .int .i64 key] w fun e w' => e = .returned (.tuple #[.agg #[.int .i64 (stL key L).a, .int .i64 (stL key L).b, .int .i64 (stL key L).c], .bool (getL key L).isSome]) ∧ Below w.heap.size w w' := by
  obtain ⟨A, B, rfl, h1, h2⟩ := split_at (key := key) hr
  have hb0 := below_new w (.cells #[.int .i64 0, .int .i64 0, .int .i64 0] 34)
  have P0 : Tri (w.alloc (.cells #[.int .i64 0, .int .i64 0, .int .i64 0] 34)) w.heap.size (.int .i64 0) (.int .i64 0) (.int .i64 0) := Tri.new _ _ _ _ _
  have hf := rfind_any (h.keep hb0) hr hk key h1 h2 hN
  have hgs := getL_split hr h1 h2
  unfold stL
  cases hg : getL key (A ++ B) with
  | none =>
    rw [hg] at hf
    have C : Hid (Calls Try.prog 29 #[.pointer (some ⟨rb, 0, none⟩), .int .i64 key] (w.alloc (.cells #[.int .i64 0, .int .i64 0, .int .i64 0] 34)) fun e w1 => e = .returned (.tuple #[.int .i64 (A.length : Int), .bool false]) ∧ Tri w1 w.heap.size (.int .i64 0) (.int .i64 0) (.int .i64 0) ∧ Hid (Below w.heap.size w w1)) := hidb (hf.mono (by
      rintro e w1 ⟨rfl, hb⟩
      exact ⟨rfl, P0.keep hb, hidb (hb0.trans (hb.mono hb0.size))⟩))
    clear h hr h1 h2 hN hgs hf hk hb0 P0
    go_enter Try.func9, Try.ntmps9
    go_wp2_with (go_at_call 29; refine C.out.mono ?_; clear C; rintro e w1 ⟨rfl, P1, HBL⟩; have p0 := P1.c0; have p1 := P1.c1; have p2 := P1.c2; have q0 := P1.f0; have q1 := P1.f1; have q2 := P1.f2)
    have hb := HBL.out
    exact bodyPost_ret (v := .tuple #[.agg #[.int .i64 0, .int .i64 0, .int .i64 0], .bool false]) (by simp [results, Try.results9, go_sem, p0, p1, p2]) rfl ⟨rfl, by (repeat (first | exact Below.refl _ _ | assumption | refine Below.drew ?_ | refine below_drewN ?_ _ | refine Below.setCell ?_ (by simp) _ | refine Below.alloc ?_ (by (first | exact Nat.le_refl _ | (simp; done) | (simp; omega) | omega)) _ | refine Below.trans ?_ (Below.mono (by assumption) (by first | exact Nat.le_refl _ | (simp; done) | (simp; omega) | omega))))⟩
  | some v =>
    rw [hg] at hf hgs
    cases B with
    | nil => cases hgs
    | cons y r =>
      obtain ⟨yk, yv⟩ := y
      have hyv : yv = v := by
        by_cases e : yk = key
        · simp [e] at hgs; exact hgs.symm
        · simp [e] at hgs
      subst hyv
      have C : Hid (Calls Try.prog 29 #[.pointer (some ⟨rb, 0, none⟩), .int .i64 key] (w.alloc (.cells #[.int .i64 0, .int .i64 0, .int .i64 0] 34)) fun e w1 => ∃ g c n, e = .returned (.tuple #[.int .i64 (A.length : Int), .bool true]) ∧ w1.cell? ⟨rb, 0, none⟩ = some (.slice (some ⟨g, 0, none⟩) n c) ∧ w1.cell? ⟨g, A.length * 3, none⟩ = some (.int .i64 yv.a) ∧ w1.cell? ⟨g, A.length * 3 + 1, none⟩ = some (.int .i64 yv.b) ∧ w1.cell? ⟨g, A.length * 3 + 2, none⟩ = some (.int .i64 yv.c) ∧ A.length < n ∧ Tri w1 w.heap.size (.int .i64 0) (.int .i64 0) (.int .i64 0) ∧ Hid (Below w.heap.size w w1)) := by
        refine hidb (hf.mono ?_)
        rintro e w1 ⟨rfl, hb⟩
        obtain ⟨V1, hd, ho1, -⟩ := (h.keep hb0).keep hb
        have hyk : (A ++ (yk, yv) :: r)[A.length]? = some (yk, yv) := by simp
        obtain ⟨g, c, rfl, m1, m2, m3⟩ := row_get ho1 hyk
        exact ⟨g, c, _, rfl, hd.c0, m1, m2, m3, by simp, P0.keep hb, hidb (hb0.trans (hb.mono hb0.size))⟩
      clear h hr h1 h2 hN hgs hf hk hb0 P0
      go_enter Try.func9, Try.ntmps9
      go_wp2_with (go_at_call 29; refine C.out.mono ?_; clear C; rintro e w1 ⟨g, c, n, rfl, d1, d2, d3, d4, d5, P1, HBL⟩; have p0 := P1.c0; have p1 := P1.c1; have p2 := P1.c2; have q0 := P1.f0; have q1 := P1.f1; have q2 := P1.f2; have e1 : (A.length : Int) < (n : Int) := (by omega); have e2 : (0 : Int) ≤ (A.length : Int) := (by omega))
      have hb := HBL.out
      exact bodyPost_ret (v := .tuple #[.agg #[.int .i64 yv.a, .int .i64 yv.b, .int .i64 yv.c], .bool true]) (by simp [results, Try.results9, go_sem, p0, p1, p2]) rfl ⟨rfl, by (repeat (first | exact Below.refl _ _ | assumption | refine Below.drew ?_ | refine below_drewN ?_ _ | refine Below.setCell ?_ (by simp) _ | refine Below.alloc ?_ (by (first | exact Nat.le_refl _ | (simp; done) | (simp; omega) | omega)) _ | refine Below.trans ?_ (Below.mono (by assumption) (by first | exact Nat.le_refl _ | (simp; done) | (simp; omega) | omega))))⟩

/-- The document's table behind a method. -/
structure RU (w w' : World) (rb : Nat) (E : Nat → Prop) (L : List KV) (n : Int) : Prop where
  rt : RT w' rb (Nw E w w') L n
  bt : But (fun k => k = rb ∨ E k) w w'

theorem RU.pre {E : Nat → Prop} {w w1 w' : World} {rb : Nat} {L : List KV} {n : Int} (hb : Below w.heap.size w w1) (h : RU w1 w' rb E L n) : RU w w' rb E L n :=
  ⟨h.rt.mono (fun _ _ hk => hk.elim .inl (fun h => .inr ⟨Nat.le_trans hb.size h.1, h.2⟩)), (But.of_below hb).trans h.bt⟩
theorem RU.post {E : Nat → Prop} {w w1 w' : World} {rb : Nat} {L : List KV} {n : Int} (h : RU w w1 rb E L n) (hb : Below w1.heap.size w1 w') : RU w w' rb E L n :=
  ⟨(h.rt.keep hb).mono (fun _ _ hk => hk.elim .inl (fun h => .inr ⟨h.1, Nat.lt_of_lt_of_le h.2 hb.size⟩)), h.bt.trans (But.of_below hb)⟩
theorem RU.same {E : Nat → Prop} {w w' : World} {rb : Nat} {L : List KV} {n : Int} (h : RT w rb E L n) (hb : Below w.heap.size w w') : RU w w' rb E L n :=
  ⟨(h.keep hb).mono (fun _ _ hk => .inl hk), But.of_below hb⟩

theorem hvs_drop : ∀ (l : List KV) (i : Nat), hvs (l.drop i) = (hvs l).drop (i * 3)
  | l, 0 => by simp
  | [], i + 1 => by simp [hvs]
  | x :: r, i + 1 => by
    rw [show (i + 1) * 3 = i * 3 + 1 + 1 + 1 by omega]
    simp only [hvs, List.drop_succ_cons]
    exact hvs_drop r i

/-- What lies from a place of a row on, as a slice. -/
theorem cut_from {w : World} {B g c n i : Nat} {l : List KV} (h : w.ownsRow B HT 3 (.slice (some ⟨g, 0, none⟩) n c) n (hvs l)) (hi : i ≤ n) (hc : n ≤ c) {ad : Addr} (had : (if c = i then some (⟨g, 0, none⟩ : Addr) else some ⟨g, i * 3, none⟩) = some ad) :
    ∀ j u, (hvs (l.drop i))[j]? = some u → w.cell? (ad.add j) = some u := by
  have hl : n = l.length := by have := h.1; rw [hvs_length] at this; omega
  intro j u hj
  have hjl := (List.getElem?_eq_some_iff.1 hj).1
  rw [hvs_length, List.length_drop] at hjl
  by_cases e : c = i
  · omega
  · rw [if_neg e] at had
    obtain rfl : (⟨g, i * 3, none⟩ : Addr) = ad := by simpa using had
    have e1 : (⟨g, i * 3, none⟩ : Addr).add j = ⟨g, i * 3 + j, none⟩ := by unfold Addr.add; split <;> simp_all
    rw [e1, h.cellAt (i * 3 + j) (by omega), ← hj, hvs_drop, List.getElem?_drop]

theorem infoH : ∃ i0, Try.prog.info? HT = some i0 ∧ i0.zero = some (.agg #[.int .i64 0, .int .i64 0, .int .i64 0]) ∧ i0.size = 3 ∧ i0.bytes = 24 := info_parts (show (Try.prog.info? HT).map (fun i => (i.zero, i.size, i.bytes)) = some (some (.agg #[.int .i64 0, .int .i64 0, .int .i64 0]), 3, 24) by kernel_rfl)

end HV
end Go.Proofs.Ytodelafnboimnaa
