/- The document's half-links: Unlink, Pop. -/
import Derived.Test.YtodelafnboimnaaLr4
import Derived.Deep.RegionHeld3
namespace Go.Proofs.Ytodelafnboimnaa
open Go.RowKit Go.Lib
namespace HV
attribute [local go_sem ↓] Go.wp_at_zero Go.wp_at_succ

set_option maxRecDepth 100000 in
set_option maxHeartbeats 4000000 in
theorem runlink_any {w : World} {rb : Nat} {E : Nat → Prop} {L : List KV} {nn : Int} (h : RT w rb E L nn) (hr : Rise L) (hk : HOk L) (key : Int) (hN : L.length ≤ 90000) (hnn : 0 ≤ nn ∧ nn < 1000000) :
    Calls Try.prog 14 #[.pointer (some ⟨rb, 0, none⟩), .int .i64 key] w fun e w' => e = .returned (.tuple #[.int .i64 (ulkI key nn L), .bool (isLk key L)]) ∧ RU w w' rb E (ulkL key nn L) (ulkN key nn L) := by
  rcases rfind_cases h hr hk key hN with ⟨hg, hf⟩ | ⟨A, r, v, rfl, hg, hf⟩
  · have hs : isLk key L = false := by simp [isLk, stL, hg]
    rw [show ulkI key nn L = 0 by simp [ulkI, hs], show ulkL key nn L = L by simp [ulkL, hs], show ulkN key nn L = nn by simp [ulkN, hs], hs]
    have HF : Hid (Calls Try.prog 29 #[.pointer (some ⟨rb, 0, none⟩), .int .i64 key] w fun e w1 => ∃ k : Nat, e = .returned (.tuple #[.int .i64 (k : Int), .bool false]) ∧ Hid (RU w w1 rb E L nn)) := hidb (hf.mono (by
      rintro e w1 ⟨k, rfl, HB⟩
      exact ⟨k, rfl, hidb (RU.same h HB.out)⟩))
    clear h hr hk hN hf hg hs hnn
    go_enter Try.func14, Try.ntmps14
    go_wp2_with (go_at_call 29; refine HF.out.mono ?_; clear HF; rintro e w1 ⟨k, rfl, HU⟩)
    go_ret2
    exact ⟨rfl, HU.out⟩
  · have hst : stL key (A ++ (key, v) :: r) = v := by simp [stL, hg]
    have hok := (hk (key, v) (by simp)).2
    cases hs : isLk key (A ++ (key, v) :: r) with
    | false =>
      rw [show ulkI key nn (A ++ (key, v) :: r) = 0 by simp [ulkI, hs], show ulkL key nn (A ++ (key, v) :: r) = A ++ (key, v) :: r by simp [ulkL, hs], show ulkN key nn (A ++ (key, v) :: r) = nn by simp [ulkN, hs]]
      have e1 : v.b = 2 := by
        have : ¬ v.b = 1 := by simpa [isLk, hst] using hs
        simp only at hok; omega
      have HF : Hid (Calls Try.prog 29 #[.pointer (some ⟨rb, 0, none⟩), .int .i64 key] w fun e w1 => ∃ g c n, e = .returned (.tuple #[.int .i64 (A.length : Int), .bool true]) ∧ w1.cell? ⟨rb, 0, none⟩ = some (.slice (some ⟨g, 0, none⟩) n c) ∧ w1.cell? ⟨g, A.length * 3 + 1, none⟩ = some (.int .i64 2) ∧ A.length < n ∧ Hid (RU w w1 rb E (A ++ (key, v) :: r) nn)) := hidb (hf.mono (by
        rintro e w1 ⟨g, c, n, rfl, hd, -, m2, -, hl, HB⟩
        exact ⟨g, c, n, rfl, hd.c0, by rw [← e1]; exact m2, hl, hidb (RU.same h HB.out.1)⟩))
      clear h hk hN hf hg hr hs hst hok e1 hnn
      go_enter Try.func14, Try.ntmps14
      go_wp2_with (go_at_call 29; refine HF.out.mono ?_; clear HF; rintro e w1 ⟨g, c, n, rfl, d0, d1, hl, HU⟩; have s1 : (A.length : Int) < (n : Int) := (by omega); have s2 : (0 : Int) ≤ (A.length : Int) := (by omega))
      go_ret2
      exact ⟨rfl, HU.out⟩
    | true =>
      rw [show ulkI key nn (A ++ (key, v) :: r) = nn + 1 by simp [ulkI, hs], show ulkL key nn (A ++ (key, v) :: r) = A ++ (key, ⟨key, 2, nn + 1⟩) :: r by simp only [ulkL, hs, if_true]; exact ins_here hr, show ulkN key nn (A ++ (key, v) :: r) = nn + 1 by simp [ulkN, hs]]
      have e1 : v.b = 1 := by simpa [isLk, hst] using hs
      have HF : Hid (Calls Try.prog 29 #[.pointer (some ⟨rb, 0, none⟩), .int .i64 key] w fun e w1 => ∃ g c n a0 a2, e = .returned (.tuple #[.int .i64 (A.length : Int), .bool true]) ∧ Duo w1 rb (.slice (some ⟨g, 0, none⟩) n c) (.int .i64 nn) ∧ w1.cell? ⟨g, A.length * 3, none⟩ = some (.int .i64 a0) ∧ w1.cell? ⟨g, A.length * 3 + 1, none⟩ = some (.int .i64 1) ∧ w1.cell? ⟨g, A.length * 3 + 2, none⟩ = some (.int .i64 a2) ∧ A.length < n ∧ g ≠ rb ∧ Hid (Below w.heap.size w w1 ∧ w1.ownsRow 0 HT 3 (.slice (some ⟨g, 0, none⟩) n c) n (hvs (A ++ (key, v) :: r)) ∧ E g ∧ n = (A ++ (key, v) :: r).length)) := hidb (hf.mono (by
        rintro e w1 ⟨g, c, n, rfl, hd, m1, m2, m3, hl, HB⟩
        obtain ⟨b1, b2, b3, b4, b5⟩ := HB.out
        exact ⟨g, c, n, _, _, rfl, hd, m1, by rw [← e1]; exact m2, m3, hl, b4, hidb ⟨b1, b2, b3, b5⟩⟩))
      have ew : wrap64 (nn + 1) = nn + 1 := by unfold wrap64; omega
      clear h hk hN hf hg hr hs hst hok e1 hnn
      go_enter Try.func14, Try.ntmps14
      go_wp2_with (go_at_call 29; refine HF.out.mono ?_; clear HF; rintro e w1 ⟨g, c, n, a0, a2, rfl, hd, d0, d1, d2, hl, hgr, HB⟩; have k0 := hd.c0; have k1 := hd.c1; have k2 := hd.f1; have s1 : (A.length : Int) < (n : Int) := (by omega); have s2 : (0 : Int) ≤ (A.length : Int) := (by omega))
      obtain ⟨b1, b2, b3, b4⟩ := HB.out
      have hdd : Duo (w1.setCell ⟨rb, 1, none⟩ (.int .i64 (nn + 1))) rb (.slice (some ⟨g, 0, none⟩) n c) (.int .i64 (nn + 1)) := hd.set1 _
      have hs1 : But (fun k => k = rb) w1 (w1.setCell ⟨rb, 1, none⟩ (.int .i64 (nn + 1))) := (But.refl (fun k => k = rb) w1).setCell (p := ⟨rb, 1, none⟩) (fun _ => rfl) _
      have hoo := row_but b2 hs1 (fun q e e' => hgr (by have : g = q := (by simpa [Value.ownBlock] using e); omega))
      obtain ⟨X, hX⟩ : ∃ X, (w1.setCell ⟨rb, 1, none⟩ (.int .i64 (nn + 1))) = X := ⟨_, rfl⟩
      rw [hX] at hdd hoo hs1
      obtain ⟨g4, c4, he4, t0, t1, t2⟩ := row_get hoo (show (A ++ (key, v) :: r)[A.length]? = some (key, v) by simp)
      obtain ⟨rfl, rfl⟩ : g = g4 ∧ c = c4 := by simpa using he4
      have u3 := row_free b2 (A.length * 3)
      have u4 := row_free b2 (A.length * 3 + 1)
      have u5 := row_free b2 (A.length * 3 + 2)
      have hgr2 : ¬ rb = g := fun e => hgr e.symm
      have u0 := row_free hoo (A.length * 3)
      have u1 := row_free hoo (A.length * 3 + 1)
      have u2 := row_free hoo (A.length * 3 + 2)
      rw [b4] at hdd hoo
      obtain ⟨hp1, hp2⟩ := RT.put (E := E) hdd hoo ⟨b3, hgr⟩ (key, ⟨key, 2, nn + 1⟩)
      rw [← b4] at hdd hoo
      have HFIN : Hid (RU w (((X.setCell ⟨g, A.length * 3, none⟩ (.int .i64 key)).setCell ⟨g, A.length * 3 + 1, none⟩ (.int .i64 2)).setCell ⟨g, A.length * 3 + 2, none⟩ (.int .i64 (nn + 1))).drew rb E (A ++ (key, ⟨key, 2, nn + 1⟩) :: r) (nn + 1)) := hidb (RU.post (w1 := (((X.setCell ⟨g, A.length * 3, none⟩ (.int .i64 key)).setCell ⟨g, A.length * 3 + 1, none⟩ (.int .i64 2)).setCell ⟨g, A.length * 3 + 2, none⟩ (.int .i64 (nn + 1)))) ⟨hp1.mono (fun _ _ hk => .inl hk), ((But.of_below b1).trans (hs1.mono (fun _ _ h => .inl h))).trans (hp2.mono (fun k _ e => .inr (e ▸ b3)))⟩ ((Below.refl _ _).drew))
      have HS0 : Hid ((w1.setCell ⟨rb, 1, none⟩ (.int .i64 (nn + 1))).drew.cell? ⟨rb, 0, none⟩ = some (.slice (some ⟨g, 0, none⟩) n c) ∧ (w1.setCell ⟨rb, 1, none⟩ (.int .i64 (nn + 1))).drew.cell? ⟨rb, 1, none⟩ = some (.int .i64 (nn + 1))) := hidb (by rw [hX]; exact ⟨(hdd.keep ((Below.refl _ _).drew)).c0, (hdd.keep ((Below.refl _ _).drew)).c1⟩)
      have hp3 := (hdd.but hp2 (fun e => hgr e.symm)).keep ((Below.refl _ _).drew)
      have HS1 : Hid ((((X.setCell ⟨g, A.length * 3, none⟩ (.int .i64 key)).setCell ⟨g, A.length * 3 + 1, none⟩ (.int .i64 2)).setCell ⟨g, A.length * 3 + 2, none⟩ (.int .i64 (nn + 1))).drew.cell? ⟨rb, 0, none⟩ = some (.slice (some ⟨g, 0, none⟩) n c) ∧ (((X.setCell ⟨g, A.length * 3, none⟩ (.int .i64 key)).setCell ⟨g, A.length * 3 + 1, none⟩ (.int .i64 2)).setCell ⟨g, A.length * 3 + 2, none⟩ (.int .i64 (nn + 1))).drew.cell? ⟨rb, 1, none⟩ = some (.int .i64 (nn + 1))) := hidb ⟨hp3.c0, hp3.c1⟩
      have z1 := hp3.c1
      clear hp1 hp2 hp3 hs1 hoo hdd b1 b2 b3 b4 HB hd k0 k1 k2 he4 hl
      subst hX
      go_region_held3 (fun w' => w'.cell? ⟨rb, 0, none⟩ = some (.slice (some ⟨g, 0, none⟩) n c) ∧ w'.cell? ⟨rb, 1, none⟩ = some (.int .i64 (nn + 1))) (first | with_reducible exact HS0.out | with_reducible exact HS1.out) (first | fail)
      go_wp2_with fail
      go_ret2
      exact ⟨rfl, HFIN.out⟩

set_option maxRecDepth 100000 in
set_option maxHeartbeats 4000000 in
theorem rpop_any {w : World} {rb : Nat} {E : Nat → Prop} {L : List KV} {nn : Int} (h : RT w rb E L nn) (hN : L.length ≤ 90000) (hE : ∀ k, E k → k < w.heap.size) :
    Calls Try.prog 27 #[.pointer (some ⟨rb, 0, none⟩)] w fun e w' => e = .returned (.tuple #[.agg #[.int .i64 (L.headD (0, hf0)).2.a, .int .i64 (L.headD (0, hf0)).2.b, .int .i64 (L.headD (0, hf0)).2.c], .bool (!L.isEmpty)]) ∧ RU w w' rb E L.tail nn := by
  have hb0 := below_new w (.cells #[.int .i64 0, .int .i64 0, .int .i64 0] 34)
  have P0 : Tri (w.alloc (.cells #[.int .i64 0, .int .i64 0, .int .i64 0] 34)) w.heap.size (.int .i64 0) (.int .i64 0) (.int .i64 0) := Tri.new _ _ _ _ _
  cases L with
  | nil =>
    obtain ⟨V, hd, ho, -⟩ := h.keep hb0
    obtain ⟨a, c, rfl⟩ := own_sl ho
    have k0 := hd.c0
    have HT := hidb h
    clear h hN hb0 hd ho hE P0
    go_enter Try.func27, Try.ntmps27
    go_wp2_with fail
    exact bodyPost_ret (v := .tuple #[.agg #[.int .i64 0, .int .i64 0, .int .i64 0], .bool false]) (by simp [results, Try.results27, go_sem]) rfl ⟨rfl, RU.same HT.out (by (repeat (first | exact Below.refl _ _ | assumption | refine Below.drew ?_ | refine below_drewN ?_ _ | refine Below.setCell ?_ (by simp) _ | refine Below.alloc ?_ (by (first | exact Nat.le_refl _ | (simp; done) | (simp; omega) | omega)) _ | refine Below.trans ?_ (Below.mono (by assumption) (by first | exact Nat.le_refl _ | (simp; done) | (simp; omega) | omega)))))⟩
  | cons x r =>
    have hl := h.lt
    obtain ⟨V, hd, ho, he⟩ := h.keep hb0
    obtain ⟨g, c, rfl, m1, m2, m3⟩ := row_get ho (show (x :: r)[0]? = some x by simp)
    have k0 := hd.c0
    simp only [Nat.zero_mul, Nat.zero_add] at m1 m2 m3
    have HS : Hid (Calls Try.prog 36 #[.pointer (some ⟨rb, 0, none⟩), .int .i64 0] ((w.alloc (.cells #[.int .i64 0, .int .i64 0, .int .i64 0] 34)).alloc (.cells #[.int .i64 x.2.a, .int .i64 x.2.b, .int .i64 x.2.c] 34)) fun e w2 => e = .returned (.tuple #[]) ∧ Tri w2 w.heap.size (.int .i64 0) (.int .i64 0) (.int .i64 0) ∧ Tri w2 (w.heap.size + 1) (.int .i64 x.2.a) (.int .i64 x.2.b) (.int .i64 x.2.c) ∧ Hid (RU ((w.alloc (.cells #[.int .i64 0, .int .i64 0, .int .i64 0] 34)).alloc (.cells #[.int .i64 x.2.a, .int .i64 x.2.b, .int .i64 x.2.c] 34)) w2 rb E r nn)) := hidb ((rdrop_any (A := []) (r := r) (y := x) ((h.keep hb0).keep (below_new _ (.cells #[.int .i64 x.2.a, .int .i64 x.2.b, .int .i64 x.2.c] 34))) (by simpa using hN)).mono (by
      rintro e w2 ⟨rfl, hu⟩
      refine ⟨rfl, (P0.keep (below_new _ _)).but hu.bt ?_, (Tri.but (b := w.heap.size + 1) (by have := Tri.new (w.alloc (.cells #[.int .i64 0, .int .i64 0, .int .i64 0] 34)) 34 (.int .i64 x.2.a) (.int .i64 x.2.b) (.int .i64 x.2.c); simpa using this) hu.bt ?_), hidb hu⟩
      · rintro (e | e)
        · omega
        · have := hE _ e; omega
      · rintro (e | e)
        · omega
        · have := hE _ e; omega))
    obtain ⟨n, hn⟩ : ∃ n, (x :: r).length = n := ⟨_, rfl⟩
    rw [hn] at k0
    have s1 : (0 : Int) < (n : Int) := by simp at hn; omega
    have s3 : ((n : Int) == 0) = false := by simp; omega
    have s2 : ¬ n = 0 := by omega
    have HEE := hidb (And.intro hE hl)
    clear h hN hd ho he hb0 P0 hn hE hl
    go_enter Try.func27, Try.ntmps27
    go_wp2_with (go_at_call 36; refine HS.out.mono ?_; clear HS; rintro e w2 ⟨rfl, P1, P2, HU⟩; have p0 := P1.c0; have p1 := P1.c1; have p2 := P1.c2; have q0 := P1.f0; have q1 := P1.f1; have q2 := P1.f2; have r0 := P2.c0; have r1 := P2.c1; have r2 := P2.c2)
    have hu := HU.out
    refine bodyPost_ret (v := .tuple #[.agg #[.int .i64 x.2.a, .int .i64 x.2.b, .int .i64 x.2.c], .bool true]) (by simp [results, Try.results27, go_sem, p0, p1, p2]) rfl ⟨rfl, ?_⟩
    have hS : But (fun k => k = w.heap.size) w2 (((w2.setCell ⟨w.heap.size, 0, none⟩ (.int .i64 x.2.a)).setCell ⟨w.heap.size, 1, none⟩ (.int .i64 x.2.b)).setCell ⟨w.heap.size, 2, none⟩ (.int .i64 x.2.c)) := (((But.refl (fun k => k = w.heap.size) w2).setCell (p := ⟨w.heap.size, 0, none⟩) (fun _ => rfl) _).setCell (p := ⟨w.heap.size, 1, none⟩) (fun _ => rfl) _).setCell (p := ⟨w.heap.size, 2, none⟩) (fun _ => rfl) _
    obtain ⟨hEe, hl⟩ := HEE.out
    have hss := hS.size
    have hb2 : Below w.heap.size w ((w.alloc (.cells #[.int .i64 0, .int .i64 0, .int .i64 0] 34)).alloc (.cells #[.int .i64 x.2.a, .int .i64 x.2.b, .int .i64 x.2.c] 34)) := (below_new _ _).alloc (by simp) _
    refine ⟨(hu.rt.but hS (by omega) (fun k hk e => hk.elim (fun h => by have := hEe k h; omega) (fun h => by simp at h; omega))).mono (fun k _ hk => hk.elim .inl (fun h => .inr ⟨by simp at h; omega, by omega⟩)), ?_⟩
    exact ((But.of_below hb2).trans hu.bt).trans' hS (fun k hk e => by omega)

end HV
end Go.Proofs.Ytodelafnboimnaa
