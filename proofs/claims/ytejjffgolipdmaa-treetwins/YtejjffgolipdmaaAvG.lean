/- The document's tree: Put walked. -/
import Derived.Test.YtejjffgolipdmaaAvF
namespace Go.Proofs.Ytejjffgolipdmaa
open Go.RowKit Go.Lib
attribute [local go_sem ↓] Go.wp_at_zero Go.wp_at_succ

/-- What may be written: the box, its rows, and new blocks. -/
def Wr (E : Nat → Prop) (rb : Nat) (w : World) (k : Nat) : Prop := k = rb ∨ E k ∨ w.heap.size ≤ k

/-- Blocks of E, and new ones. -/
def Ne (E : Nat → Prop) (w w' : World) (k : Nat) : Prop := E k ∨ (w.heap.size ≤ k ∧ k < w'.heap.size)

theorem keys_split (A B : List KV) : keysOf (A ++ B) = keysOf A ++ keysOf B := by simp
theorem vals_split (A B : List KV) : valsOf (A ++ B) = valsOf A ++ valsOf B := by simp

set_option maxRecDepth 100000 in
set_option maxHeartbeats 8000000 in
theorem rput_any {w : World} {rb : Nat} {E : Nat → Prop} {L : List KV} (h : RB w rb E L) (hr : Rise L) (key v : Int) (hN : L.length ≤ 90000) :
    Calls Try.prog 15 #[.pointer (some ⟨rb, 0, none⟩), .int .i64 key, .int .i64 v] w fun e w' => e = .returned (.bool (!(getL key L).isSome)) ∧ RB w' rb (Ne E w w') (insL key v L) ∧ But (fun k => k = rb ∨ E k) w w' := by
  obtain ⟨A, B, rfl, h1, h2⟩ := split_at (key := key) hr
  have hf := rfind_any h hr key h1 h2 (by omega)
  have hgs := getL_split hr h1 h2
  have his := ins_split (v := v) hr h1 h2
  cases hg : getL key (A ++ B) with
  | some v0 =>
    rw [hg] at hf hgs
    cases B with
    | nil => cases hgs
    | cons y r =>
      obtain ⟨yk, yv⟩ := y
      have hyk : yk = key := by
        by_cases e : yk = key
        · exact e
        · simp [e] at hgs
      subst hyk
      simp only [if_true] at his
      have C : Hid (Calls Try.prog 24 #[.pointer (some ⟨rb, 0, none⟩), .int .i64 yk] w fun e w1 => ∃ g c n u, e = .returned (.tuple #[.int .i64 (A.length : Int), .bool true]) ∧ w1.cell? ⟨rb, 1, none⟩ = some (.slice (some ⟨g, 0, none⟩) n c) ∧ w1.cell? ⟨g, A.length, none⟩ = some (.int .i64 u) ∧ w1.frozen? ⟨g, A.length, none⟩ = false ∧ A.length < n ∧ Hid (RB (w1.setCell ⟨g, A.length, none⟩ (.int .i64 v)) rb (Ne E w (w1.setCell ⟨g, A.length, none⟩ (.int .i64 v))) (A ++ (yk, v) :: r) ∧ But (fun k => k = rb ∨ E k) w (w1.setCell ⟨g, A.length, none⟩ (.int .i64 v)))) := by
        refine hidb (hf.mono ?_)
        rintro e w1 ⟨rfl, hb⟩
        obtain ⟨V1, V2, hF, e1, e2⟩ := Fld.of (h.keep hb)
        have hyk : (valsOf (A ++ (yk, yv) :: r))[A.length]? = some yv := by simp [valsOf]
        obtain ⟨g, c, rfl, hc⟩ := row_get hF.o2 hyk
        obtain ⟨hF2, hs⟩ := hF.set2 A.length v
        have hfz : w1.frozen? ⟨g, A.length, none⟩ = false := by
          rcases hF.o2.2 with ⟨h0, _⟩ | ⟨g', cap, cur, h0, _, hg', _⟩
          · cases h0
          · obtain ⟨rfl, _⟩ : g = g' ∧ c = cap := by simpa using h0
            simp [World.frozen?, hg']
        refine ⟨g, c, _, yv, rfl, hF.duo.c1, hc, hfz, by simp, hidb ⟨?_, (But.of_below hb).trans (hs.mono (fun k _ e => .inr (e ▸ e2 g rfl)))⟩⟩
        have hk : keysOf (A ++ (yk, yv) :: r) = keysOf (A ++ (yk, v) :: r) := by simp
        have hv : (valsOf (A ++ (yk, yv) :: r)).set A.length v = valsOf (A ++ (yk, v) :: r) := by
          rw [vals_split, vals_split, List.set_append_right _ _ (by simp)]; simp
        have hl : (A ++ (yk, yv) :: r).length = (A ++ (yk, v) :: r).length := by simp
        rw [hk, hv, hl] at hF2
        rw [hl] at e2
        exact hF2.rb (fun g e => .inl (e1 g e)) (fun g e => .inl (e2 g e))
      rw [his]
      clear h hr h1 h2 hN hgs hf his hg
      go_enter Try.func15, Try.ntmps15
      go_wp2_with (go_at_call 24; refine C.out.mono ?_; clear C; rintro e w1 ⟨g, c, n, u, rfl, d1, d2, d4, d3, HF⟩; have e1 : (A.length : Int) < (n : Int) := (by omega); have e2 : (0 : Int) ≤ (A.length : Int) := (by omega))
      go_ret
      exact ⟨rfl, HF.out⟩
  | none =>
    rw [hg] at hf hgs
    have hin : insL key v (A ++ B) = A ++ (key, v) :: B := by
      rw [his]
      cases B with
      | nil => rfl
      | cons x r =>
        by_cases e : x.1 = key
        · simp [e] at hgs
        · simp [e]
    rw [hin]
    obtain ⟨n, hn⟩ : ∃ n, (A ++ B).length = n := ⟨_, rfl⟩
    rw [hn] at hN
    have C : Hid (Calls Try.prog 24 #[.pointer (some ⟨rb, 0, none⟩), .int .i64 key] w fun e w1 => ∃ a1 c1 a2 c2, e = .returned (.tuple #[.int .i64 (A.length : Int), .bool false]) ∧ Fld w1 rb (.slice a1 n c1) (.slice a2 n c2) (keysOf (A ++ B)) (valsOf (A ++ B)) n n ∧ Hid ((∀ g, Value.ownBlock (.slice a1 n c1) = some g → E g) ∧ (∀ g, Value.ownBlock (.slice a2 n c2) = some g → E g) ∧ Below w.heap.size w w1)) := by
      refine hidb (hf.mono ?_)
      rintro e w1 ⟨rfl, hb⟩
      obtain ⟨V1, V2, hF, e1, e2⟩ := Fld.of (h.keep hb)
      rw [hn] at hF
      obtain ⟨a1, c1, rfl⟩ := own_sl hF.o1
      obtain ⟨a2, c2, rfl⟩ := own_sl hF.o2
      exact ⟨a1, c1, a2, c2, rfl, hF, hidb ⟨e1, e2, hb⟩⟩
    have HAB : Hid (A.length ≤ n ∧ n ≤ 90000 ∧ (keysOf (A ++ B)).length = n ∧ (valsOf (A ++ B)).length = n ∧ n = A.length + B.length) := hidb (by refine ⟨?_, hN, ?_, ?_, ?_⟩ <;> simp at hn ⊢ <;> omega)
    obtain ⟨i0, hi0, hz0, hz1, hz2⟩ := infoI
    have HL := hidb h.lt
    clear h hr h1 h2 hN hgs hf his hg hin hn
    go_enter Try.func15, Try.ntmps15
    go_wp2_with (first
      | (go_at_call 24; refine C.out.mono ?_; clear C; rintro e w1 ⟨a1, c1, a2, c2, rfl, hF, HE⟩; have k0 := hF.duo.c0; have HF := hidb hF; clear hF)
      | (at_builtin; refine wpList_append_own_at _ rfl (.tmp 28) (.tmp 29) 27 rfl 0 IT i0 (.int .i64 0) 1 8 Try.underlying27 hi0 hz0 hz1 hz2 rfl (by decide) (.slice a1 n c1) n _ rfl (HF.out.o1.alloc _) ⟨w1.heap.size, 0, none⟩ 1 1 [.int .i64 0] rfl rfl (cell_one_new _ _ _) (by simp [Value.oneCell']) (by have := HAB.out; unfold maxLen; omega) (by have := HAB.out; omega) (Nat.zero_le _) ?_; intro v1 Y1 hown1 hgrow1 _ hat1; obtain ⟨b1, d1, rfl⟩ := own_sl hown1; have HQ1 := hidb (HF.out.app1 (zs := keysOf (A ++ B) ++ [0]) hgrow1 (by rw [ivs_append]; exact hown1) hat1); have j0 := HQ1.out.1.c0; have j1 := HQ1.out.1.f0; have j2 := HQ1.out.2.1.duo.c1; clear hown1 hgrow1 hat1)
      | (at_builtin; refine wpList_append_own_at _ rfl (.tmp 37) (.tmp 38) 27 rfl 0 IT i0 (.int .i64 0) 1 8 Try.underlying27 hi0 hz0 hz1 hz2 rfl (by decide) (.slice a2 n c2) n _ rfl (HQ1.out.2.1.o2.alloc _) ⟨(Y1.setCell ⟨rb, 0, none⟩ (.slice b1 (n + 1) d1)).heap.size, 0, none⟩ 1 1 [.int .i64 0] (by simp only [World.setCell, Array.size_modify]; rfl) rfl (cell_one_new _ _ _) (by simp [Value.oneCell']) (by have := HAB.out; unfold maxLen; omega) (by have := HAB.out; omega) (Nat.zero_le _) ?_; intro v2 Y2 hown2 hgrow2 _ hat2; obtain ⟨b2, d2, rfl⟩ := own_sl hown2; have HQ2 := hidb (HQ1.out.2.1.app2 (zs := valsOf (A ++ B) ++ [0]) hgrow2 (by rw [ivs_append]; exact hown2) hat2); have m0 := HQ2.out.1.c1; have m1 := HQ2.out.1.f1; have m2 := HQ2.out.2.1.duo.c0; clear hown2 hgrow2 hat2))
    obtain ⟨-, hF1, hB1, hN1⟩ := HQ1.out
    obtain ⟨-, hF2, hB2, hN2⟩ := HQ2.out
    obtain ⟨E1, E2, hbw⟩ := HE.out
    obtain ⟨g1, q1, hq1⟩ := ownsRow_succ hF2.o1
    obtain ⟨g2, q2, hq2⟩ := ownsRow_succ hF2.o2
    obtain ⟨rfl, -, rfl⟩ : b1 = some ⟨g1, 0, none⟩ ∧ n = n ∧ d1 = q1 := by simpa using hq1
    obtain ⟨rfl, -, rfl⟩ : b2 = some ⟨g2, 0, none⟩ ∧ n = n ∧ d2 = q2 := by simpa using hq2
    have hlt0 := HL.out
    have hw1s := hbw.size
    have hg1 : E g1 ∨ w.heap.size ≤ g1 := (hN1 g1 rfl).elim (fun e => .inl (E1 g1 e)) (fun h => .inr (by omega))
    have hY1s := hB1.size
    have hg2 : E g2 ∨ w.heap.size ≤ g2 := (hN2 g2 rfl).elim (fun e => .inl (E2 g2 e)) (fun h => .inr (by omega))
    have hBall : But (fun k => k = rb ∨ E k) w ((Y2.setCell ⟨rb, 1, none⟩ (.slice (some ⟨g2, 0, none⟩) (n + 1) d2))) := by
      refine ((But.of_below (S := fun k => k = rb ∨ E k) hbw).trans (hB1.mono (fun k _ h => ?_))).trans (hB2.mono (fun k _ h => ?_))
      · exact h.elim .inl (fun e => .inr (E1 k e))
      · exact h.elim .inl (fun e => .inr (E2 k e))
    have HG := hidb (⟨hg1, hg2⟩ : (E g1 ∨ w.heap.size ≤ g1) ∧ (E g2 ∨ w.heap.size ≤ g2))
    obtain ⟨Z, hZ⟩ : ∃ Z, (Y2.setCell ⟨rb, 1, none⟩ (.slice (some ⟨g2, 0, none⟩) (n + 1) d2)) = Z := ⟨_, rfl⟩
    rw [hZ] at hBall hF2
    have HF2 := hidb hF2
    have HBA := hidb hBall
    have HZ := hidb hZ
    have HWN : Hid (wrap64 (n : Int) = (n : Int)) := hidb (by have := HAB.out; unfold wrap64; omega)
    clear HQ1 HQ2 HE HF hF1 hB1 hN1 hF2 hB2 hN2 E1 E2 hbw hq1 hq2 hg1 hg2 hBall k0 j0 j1 j2 m0 m1 m2 hY1s hw1s hlt0
    rw [hZ]
    clear hZ
    rw [HWN.out]
    have hks := sh_start (keysOf (A ++ B))
    have hvs := sh_start (valsOf (A ++ B))
    rw [HAB.out.2.2.1] at hks
    rw [HAB.out.2.2.2.1] at hvs
    have HF3 : Hid (Fld Z rb (.slice (some ⟨g1, 0, none⟩) (n + 1) d1) (.slice (some ⟨g2, 0, none⟩) (n + 1) d2) (sh (keysOf (A ++ B)) n) (sh (valsOf (A ++ B)) n) (n + 1) (n + 1)) := hidb (by rw [hks, hvs]; exact HF2.out)
    clear hks hvs HF2
    go_loopw [9] (fun kv wr => ∃ k : Nat, kv = .int .i64 (k : Int) ∧ A.length ≤ k ∧ k ≤ n ∧ Fld wr rb (.slice (some ⟨g1, 0, none⟩) (n + 1) d1) (.slice (some ⟨g2, 0, none⟩) (n + 1) d2) (sh (keysOf (A ++ B)) k) (sh (valsOf (A ++ B)) k) (n + 1) (n + 1) ∧ But (fun k => k = rb ∨ E k) w wr) (fun kv _ => (intOf kv).toNat - A.length)
    case atStart => exact ⟨n, rfl, HAB.out.1, Nat.le_refl _, HF3.out, HBA.out⟩
    case round =>
    obtain ⟨k, rfl, hk1, hk2, hF, hB⟩ := hrel
    have HF := hidb hF
    have HB := hidb hB
    have HK := hidb (⟨hk1, hk2⟩ : A.length ≤ k ∧ k ≤ n)
    clear hk1 hk2 hB HF3 HBA
    have r0 := hF.duo.c0
    have r1 := hF.duo.c1
    clear hF
    by_cases hka : A.length < k
    · have e1 : (A.length : Int) < (k : Int) := by omega
      obtain ⟨m, hm⟩ : ∃ m, m + 1 = k := ⟨k - 1, by omega⟩
      have hab := HAB.out
      have hkk := HK.out
      have e3 : wrap64 ((k : Int) - 1) = (m : Int) := by unfold wrap64; omega
      have e3' : IntKind.i64.wrap ((k : Int) - 1) = (m : Int) := by rw [IntKind.wrap_i64]; omega
      have e5 : (k : Int) < (n : Int) + 1 := by omega
      have e6 : (0 : Int) ≤ (k : Int) := by omega
      have e7 : (m : Int) < (n : Int) + 1 := by omega
      have e8 : (0 : Int) ≤ (m : Int) := by omega
      obtain ⟨x, hx⟩ : ∃ x, (keysOf (A ++ B))[k - 1]? = some x := ⟨_, List.getElem?_eq_getElem (by omega)⟩
      obtain ⟨y, hy⟩ : ∃ y, (valsOf (A ++ B))[k - 1]? = some y := ⟨_, List.getElem?_eq_getElem (by omega)⟩
      have hkm : k - 1 = m := by omega
      have gx := sh_get (by omega) (by omega) hx
      have gy := sh_get (by omega) (by omega) hy
      have sx := sh_step (by omega) (by omega) hx
      have sy := sh_step (by omega) (by omega) hy
      rw [hkm] at gx gy sx sy
      have cx : wr.cell? ⟨g1, m, none⟩ = some (.int .i64 x) := by rw [HF.out.o1.cellAt m (by omega)]; exact ivs_get gx
      have cy : wr.cell? ⟨g2, m, none⟩ = some (.int .i64 y) := by rw [HF.out.o2.cellAt m (by omega)]; exact ivs_get gy
      obtain ⟨u1, hu1⟩ : ∃ u, (sh (keysOf (A ++ B)) k)[k]? = some u := ⟨_, List.getElem?_eq_getElem (by rw [sh_length]; omega)⟩
      obtain ⟨u2, hu2⟩ : ∃ u, (sh (valsOf (A ++ B)) k)[k]? = some u := ⟨_, List.getElem?_eq_getElem (by rw [sh_length]; omega)⟩
      have cu1 : wr.cell? ⟨g1, k, none⟩ = some (.int .i64 u1) := by rw [HF.out.o1.cellAt k (by omega)]; exact ivs_get hu1
      have cu2 : wr.cell? ⟨g2, k, none⟩ = some (.int .i64 u2) := by rw [HF.out.o2.cellAt k (by omega)]; exact ivs_get hu2
      have fz1 := row_free HF.out.o1 k
      obtain ⟨hA1, hA2⟩ := HF.out.set1 k x
      rw [sx] at hA1
      have hA3 := hA1.keep (show Below (wr.setCell ⟨g1, k, none⟩ (.int .i64 x)).heap.size _ (wr.setCell ⟨g1, k, none⟩ (.int .i64 x)).drew from (Below.refl _ _).drew)
      have hne1 : g1 ≠ rb := fun e => HF.out.d1 (by rw [e]; rfl)
      have hne2 : g1 ≠ g2 := fun e => HF.out.d3 g1 rfl (by rw [e]; rfl)
      have HS0 : Hid (wr.drew.cell? ⟨rb, 0, none⟩ = some (.slice (some ⟨g1, 0, none⟩) (n + 1) d1) ∧ wr.drew.cell? ⟨g1, m, none⟩ = some (.int .i64 x)) := hidb ⟨r0, cx⟩
      have HS1 : Hid ((wr.setCell ⟨g1, k, none⟩ (.int .i64 x)).drew.cell? ⟨rb, 0, none⟩ = some (.slice (some ⟨g1, 0, none⟩) (n + 1) d1) ∧ (wr.setCell ⟨g1, k, none⟩ (.int .i64 x)).drew.cell? ⟨g1, m, none⟩ = some (.int .i64 x)) := hidb ⟨hA3.duo.c0, (World.cell?_setCell_other _ _ _ _ (ne_off _ _ _ (by omega))).trans cx⟩
      have cy1 : (wr.setCell ⟨g1, k, none⟩ (.int .i64 x)).drew.cell? ⟨g2, m, none⟩ = some (.int .i64 y) := (World.cell?_setCell_other _ _ _ _ (ne_blk _ _ _ _ hne2)).trans cy
      have cu3 : (wr.setCell ⟨g1, k, none⟩ (.int .i64 x)).drew.cell? ⟨g2, k, none⟩ = some (.int .i64 u2) := (World.cell?_setCell_other _ _ _ _ (ne_blk _ _ _ _ hne2)).trans cu2
      have fz2 := row_free hA3.o2 k
      obtain ⟨X, hX⟩ : ∃ X, (wr.setCell ⟨g1, k, none⟩ (.int .i64 x)).drew = X := ⟨_, rfl⟩
      have HX := hidb hX
      rw [hX] at hA3 cy1 cu3 fz2
      obtain ⟨hC1, hC2⟩ := hA3.set2 k y
      rw [sy] at hC1
      have hC3 := hC1.keep (show Below (X.setCell ⟨g2, k, none⟩ (.int .i64 y)).heap.size _ (X.setCell ⟨g2, k, none⟩ (.int .i64 y)).drew from (Below.refl _ _).drew)
      have HSA : Hid (X.drew.cell? ⟨rb, 1, none⟩ = some (.slice (some ⟨g2, 0, none⟩) (n + 1) d2) ∧ X.drew.cell? ⟨g2, m, none⟩ = some (.int .i64 y)) := hidb ⟨hA3.duo.c1, cy1⟩
      have HSB : Hid ((X.setCell ⟨g2, k, none⟩ (.int .i64 y)).drew.cell? ⟨rb, 1, none⟩ = some (.slice (some ⟨g2, 0, none⟩) (n + 1) d2) ∧ (X.setCell ⟨g2, k, none⟩ (.int .i64 y)).drew.cell? ⟨g2, m, none⟩ = some (.int .i64 y)) := hidb ⟨hC3.duo.c1, (World.cell?_setCell_other _ _ _ _ (ne_off _ _ _ (by omega))).trans cy1⟩
      have HFIN : Hid (Fld (X.setCell ⟨g2, k, none⟩ (.int .i64 y)).drew rb (.slice (some ⟨g1, 0, none⟩) (n + 1) d1) (.slice (some ⟨g2, 0, none⟩) (n + 1) d2) (sh (keysOf (A ++ B)) m) (sh (valsOf (A ++ B)) m) (n + 1) (n + 1) ∧ But (fun k => k = rb ∨ E k) w (X.setCell ⟨g2, k, none⟩ (.int .i64 y)).drew) := hidb ⟨hC3, by
        have hg := HG.out
        have b1 : But (fun k => k = rb ∨ E k) w (wr.setCell ⟨g1, k, none⟩ (.int .i64 x)).drew := ((HB.out.setCell (p := ⟨g1, k, none⟩) (fun hlt => hg.1.elim .inr (fun h => absurd hlt (by simp; omega))) _)).drew
        rw [hX] at b1
        exact (b1.setCell (p := ⟨g2, k, none⟩) (fun hlt => hg.2.elim .inr (fun h => absurd hlt (by simp; omega))) _).drew⟩
      have HMK := hidb hm
      clear hX hA1 hA2 hA3 hC1 hC2 hC3 hne1 hne2 cx cy hx hy gx gy sx sy hu1 hu2 cu2 hab hkk hkm hm r1
      go_wp2_with fail
      go_region_held3 (fun w' => w'.cell? ⟨rb, 0, none⟩ = some (.slice (some ⟨g1, 0, none⟩) (n + 1) d1) ∧ w'.cell? ⟨g1, m, none⟩ = some (.int .i64 x)) (first | with_reducible exact HS0.out | with_reducible exact HS1.out) (first | fail)
      rw [HX.out]
      go_wp2_with fail
      go_region_held3 (fun w' => w'.cell? ⟨rb, 1, none⟩ = some (.slice (some ⟨g2, 0, none⟩) (n + 1) d2) ∧ w'.cell? ⟨g2, m, none⟩ = some (.int .i64 y)) (first | with_reducible exact HSA.out | with_reducible exact HSB.out) (first | fail)
      go_wp2_with fail
      go_roundw
      case rel =>
        obtain ⟨hf, hb⟩ := HFIN.out
        have hmk := HMK.out
        have hkk := HK.out
        exact ⟨m, rfl, by omega, by omega, hf, hb⟩
      case measure =>
        have hmk := HMK.out
        clear e3 e3'
        simp only [RowKit.intOf, Int.toNat_natCast]
        omega
    · have e1 : ¬ (A.length : Int) < (k : Int) := by omega
      obtain rfl : k = A.length := by have := HK.out; omega
      have hab := HAB.out
      have e5 : (A.length : Int) < (n : Int) + 1 := by omega
      have e6 : (0 : Int) ≤ (A.length : Int) := by omega
      obtain ⟨u1, hu1⟩ : ∃ u, (sh (keysOf (A ++ B)) A.length)[A.length]? = some u := ⟨_, List.getElem?_eq_getElem (by rw [sh_length]; omega)⟩
      obtain ⟨u2, hu2⟩ : ∃ u, (sh (valsOf (A ++ B)) A.length)[A.length]? = some u := ⟨_, List.getElem?_eq_getElem (by rw [sh_length]; omega)⟩
      have cu1 : wr.cell? ⟨g1, A.length, none⟩ = some (.int .i64 u1) := by rw [HF.out.o1.cellAt A.length (by omega)]; exact ivs_get hu1
      have cu2 : wr.cell? ⟨g2, A.length, none⟩ = some (.int .i64 u2) := by rw [HF.out.o2.cellAt A.length (by omega)]; exact ivs_get hu2
      have fz1 := row_free HF.out.o1 A.length
      have hne2 : g1 ≠ g2 := fun e => HF.out.d3 g1 rfl (by rw [e]; rfl)
      obtain ⟨hA1, hA2⟩ := HF.out.set1 A.length key
      have cu3 : (wr.setCell ⟨g1, A.length, none⟩ (.int .i64 key)).cell? ⟨g2, A.length, none⟩ = some (.int .i64 u2) := (World.cell?_setCell_other _ _ _ _ (ne_blk _ _ _ _ hne2)).trans cu2
      have fz2 := row_free hA1.o2 A.length
      have r3 := hA1.duo.c1
      obtain ⟨hC1, hC2⟩ := hA1.set2 A.length v
      have kend : (sh (keysOf (A ++ B)) A.length).set A.length key = keysOf (A ++ (key, v) :: B) := by
        have := sh_end (a := keysOf A) (b := keysOf B) key
        rw [← keys_split, show (keysOf A).length = A.length by simp] at this
        rw [this]; simp
      have vend : (sh (valsOf (A ++ B)) A.length).set A.length v = valsOf (A ++ (key, v) :: B) := by
        have := sh_end (a := valsOf A) (b := valsOf B) v
        rw [← vals_split, show (valsOf A).length = A.length by simp] at this
        rw [this]; simp
      rw [kend, vend, show n + 1 = (A ++ (key, v) :: B).length by simp; omega] at hC1
      have HFIN : Hid (RB ((wr.setCell ⟨g1, A.length, none⟩ (.int .i64 key)).setCell ⟨g2, A.length, none⟩ (.int .i64 v)) rb (Ne E w ((wr.setCell ⟨g1, A.length, none⟩ (.int .i64 key)).setCell ⟨g2, A.length, none⟩ (.int .i64 v))) (A ++ (key, v) :: B) ∧ But (fun k => k = rb ∨ E k) w ((wr.setCell ⟨g1, A.length, none⟩ (.int .i64 key)).setCell ⟨g2, A.length, none⟩ (.int .i64 v))) := hidb (by
        have hg := HG.out
        refine ⟨(hC1.rb (E := fun k => E k ∨ w.heap.size ≤ k) (fun g e => ?_) (fun g e => ?_)).mono (fun k hlt h => h.elim .inl (fun h => .inr ⟨h, hlt⟩)), (HB.out.setCell (p := ⟨g1, A.length, none⟩) (fun hlt => hg.1.elim .inr (fun h => absurd hlt (by simp; omega))) _).setCell (p := ⟨g2, A.length, none⟩) (fun hlt => hg.2.elim .inr (fun h => absurd hlt (by simp; omega))) _⟩
        · obtain rfl : g1 = g := by simpa [Value.ownBlock] using e
          exact hg.1
        · obtain rfl : g2 = g := by simpa [Value.ownBlock] using e
          exact hg.2)
      clear hA1 hA2 hC1 hC2 hne2 kend vend hab hu1 hu2 cu2 hka
      go_wp2_with fail
      go_ret
      exact ⟨rfl, HFIN.out⟩

end Go.Proofs.Ytejjffgolipdmaa
