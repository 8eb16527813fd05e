/- TreeTwins, walked. -/
import Derived.Test.YtejjffgolipdmaaLTL
import Derived.BigQuiet
import Derived.Test.YtejjffgolipdmaaCpB
import Derived.Test.YtejjffgolipdmaaCpC
import Derived.Test.YtejjffgolipdmaaAvC4
namespace Go.Proofs.Ytejjffgolipdmaa
open Go.RowKit Go.Shelf
attribute [local go_sem] Oper.semAt_some
attribute [local go_sem ↓] Go.wp_at_zero Go.wp_at_succ

set_option maxRecDepth 100000 in
set_option maxHeartbeats 8000000 in
theorem treeTwins_walk (v0 v1 v2 : Value) (l0 l1 l2 : List (Int × Int × Int)) (stop : Int) (w : World) (h0 : AC w v0 l0) (h1 : AC w v1 l1) (h2 : AC w v2 l2) (hf0 : ∀ x ∈ l0, (-9223372036854775808 : Int) ≤ x.2.1) (hf1 : ∀ x ∈ l1, (-9223372036854775808 : Int) ≤ x.2.1) (hf2 : ∀ x ∈ l2, (-9223372036854775808 : Int) ≤ x.2.1) :
    Calls Try.prog 3 #[v0, v1, v2, .int .i64 stop] w fun e w' => e = .returned (.bool true) ∧ Below w.heap.size w w' := by
  have H0 := hidb (⟨h0, hf0⟩ : AC w v0 l0 ∧ ∀ x ∈ l0, (-9223372036854775808 : Int) ≤ x.2.1)
  have H1 := hidb (⟨h1, hf1⟩ : AC w v1 l1 ∧ ∀ x ∈ l1, (-9223372036854775808 : Int) ≤ x.2.1)
  have H2 := hidb (⟨h2, hf2⟩ : AC w v2 l2 ∧ ∀ x ∈ l2, (-9223372036854775808 : Int) ≤ x.2.1)
  obtain ⟨q0, c0, rfl, -⟩ := h0
  obtain ⟨q1, c1, rfl, -⟩ := h1
  obtain ⟨q2, c2, rfl, -⟩ := h2
  clear hf0 hf1 hf2
  refine calls_marks Try.func3 rfl ?_
  simp only [Try.ntmps3, List.size_toArray, List.length_cons, List.length_nil, Nat.reduceAdd, Nat.reduceSub, Array.replicate_succ, Array.replicate_zero, List.push_toArray, List.append_toArray, List.nil_append, List.cons_append]
  by_cases hlen : l0.length > 500 ∨ l1.length > 500 ∨ l2.length > 500
  · have e1 : (decide ((500 : Int) < (l0.length : Int)) || decide ((500 : Int) < (l1.length : Int)) || decide ((500 : Int) < (l2.length : Int))) = true := by
      simp only [Bool.or_eq_true, decide_eq_true_eq]
      omega
    clear hlen
    go_wp2_with (go_at_call 4; refine (known13_any _).mono ?_; rintro e w1 ⟨rfl, hb1⟩; have HB1 := hidb hb1; have r1 := (hb1.cell (p := ⟨w.heap.size + 1, 0, none⟩) (by simp)).trans (show _ = some (.bool false) by simp [go_sem]); have r2 := (hb1.frozen (p := ⟨w.heap.size + 1, 0, none⟩) (by simp)).trans (show _ = false by simp [go_sem]); clear hb1)
    all_goals
      have hb := HB1.out
      have hs := hb.size
      simp only [World.size_alloc] at hs
      have z1 : Below w.heap.size w w1 := ((below_new w _).alloc (by simp) _).trans (hb.mono (by simp; omega))
      have hc2 : (w1.setCell ⟨w.heap.size + 1, 0, none⟩ (.bool true)).cell? ⟨w.heap.size + 1, 0, none⟩ = some (.bool true) := World.cell?_setCell_same _ _ _ r1
      refine retM [] rfl (fun E hE => by simp at hE) (by simp) (fun W' hb' => ?_)
      have c5 := (hb'.cell (p := ⟨w.heap.size + 1, 0, none⟩) (World.block_lt_of_cell? _ _ hc2) (by simp)).trans hc2
      exact ⟨.bool true, by simp [results, Try.results3, go_sem, c5], rfl, z1.trans (((Below.refl _ _).setCell (p := ⟨w.heap.size + 1, 0, none⟩) (Nat.le_succ _) _).trans (hb'.below (by simp only [World.setCell, Array.size_modify]; omega) (fun k h => by simp at h)))⟩
  · have e0 : ¬ (500 : Int) < (l0.length : Int) := by omega
    have e1 : ¬ (500 : Int) < (l1.length : Int) := by omega
    have e2 : ¬ (500 : Int) < (l2.length : Int) := by omega
    have HLN := hidb hlen
    clear hlen
    go_wp2_with (first
      | (go_at_call 4; refine (known13_any _).mono ?_; rintro e w1 ⟨rfl, hb1⟩; have HB1 := hidb hb1; clear hb1)
      | (go_at_call 5; refine (new_any _).mono ?_; rintro e w2 ⟨rfl, ht2, hb2, hs2⟩; have HT2 := hidb ht2; have HB2 := hidb hb2; clear ht2 hb2))
    have hb3 : Below w.heap.size w (w2.alloc (.cells #[.slice none 0 0, .slice none 0 0] 29)) := by
      have z1 : Below w.heap.size w w1 := ((below_new w _).alloc (by simp) _).trans (HB1.out.mono (by simp; omega))
      have z2 : Below w.heap.size w w2 := z1.trans (HB2.out.mono z1.size)
      exact z2.alloc (by have := z2.size; omega) _
    have hB : w.heap.size + 2 ≤ w1.heap.size := by have := HB1.out.size; simpa using this
    have hP3 : PZ (w2.alloc (.cells #[.slice none 0 0, .slice none 0 0] 29)) w1.heap.size (fun _ => False) (fun _ => False) w1.heap.size (w1.heap.size + 1) [] [] := by
      obtain ⟨D, E, a1, a2, a3, a4, a5, a6, a7, a8, a9, a10⟩ := PR.new (HT2.out.keep (below_new w2 _)) (by rw [← hs2]; exact RB.start w2)
      exact ⟨D, E, a1, a2, a3, a4, a5, a6, a7, a8, a9, a10, fun _ _ h => h, fun _ h => h.elim⟩
    have CD := hidb (done_z H0.out.1 H0.out.2 hb3 (by omega) hP3 (by simp; omega))
    have HZ : Hid (w.heap.size + 2 ≤ w1.heap.size) := hidb hB
    have HB3 := hidb hb3
    clear hb3 hB hP3
    refine CD.out.mono ?_
    clear CD
    rintro e w4 ⟨rfl, M, hP4, hM4, hB4⟩
    have HM4 : Hid (M.length ≤ 500) := hidb (by simp at hM4; omega)
    obtain ⟨D4, E4, ht4, hr4, hx4⟩ := hP4
    have HP4 := hidb (⟨ht4, hr4, hx4⟩ : TB w4 w1.heap.size D4 M ∧ RB w4 (w1.heap.size + 1) E4 M ∧ _)
    have HB4 := hidb hB4
    have CA := hidb (All_any ht4)
    obtain ⟨V1, V2, d0, o1, o2, -⟩ := hr4
    have HD : Hid (Duo w4 (w1.heap.size + 1) V1 V2 ∧ w4.ownsRow 0 IT 1 V1 M.length (ivs (keysOf M)) ∧ w4.ownsRow 0 IT 1 V2 M.length (ivs (valsOf M))) := hidb ⟨d0, o1, o2⟩
    clear ht4 hx4 hB4 hM4 d0 o1 o2
    go_wp2_with fail
    refine CA.out.mono ?_
    clear CA
    rintro e w5 ⟨f, rfl, hb5, hq5⟩
    have HB5 := hidb hb5
    have HQ5 := hidb hq5
    have HD5 : Hid (Duo w5 (w1.heap.size + 1) V1 V2 ∧ w5.ownsRow 0 IT 1 V1 M.length (ivs (keysOf M)) ∧ w5.ownsRow 0 IT 1 V2 M.length (ivs (valsOf M))) := hidb (by
      obtain ⟨d0, o1, o2⟩ := HD.out
      exact ⟨d0.keep hb5, row_but o1 (But.of_below (S := fun _ => False) hb5) (fun _ _ z => z), row_but o2 (But.of_below (S := fun _ => False) hb5) (fun _ _ z => z)⟩)
    clear hb5 hq5
    go_wp2_with fail
    have HS : Hid (∀ W, Below w5.heap.size w5 W → W.cell? ⟨w1.heap.size + 1, 0, none⟩ = some V1 ∧ W.cell? ⟨w1.heap.size + 1, 1, none⟩ = some V2) := hidb (fun W hb => ⟨(HD5.out.1.keep hb).c0, (HD5.out.1.keep hb).c1⟩)
    have HS0 : Hid (w5.drew.cell? ⟨w1.heap.size + 1, 0, none⟩ = some V1 ∧ w5.drew.cell? ⟨w1.heap.size + 1, 1, none⟩ = some V2) := hidb (HS.out _ ((Below.refl _ _).drew))
    refine wp_region_N (fun w' => w'.cell? ⟨w1.heap.size + 1, 0, none⟩ = some V1 ∧ w'.cell? ⟨w1.heap.size + 1, 1, none⟩ = some V2) [15] (by kernel_rfl) ?_
    refine wpAnyD_takeL (i := 1) (v := ?vv1) rfl (by kernel_rfl) (by kernel_rfl) (by kernel_rfl) (by kernel_rfl) (fun _ _ _ h => nomatch h.1) HS0.out rfl ?hy1 ?_
    case hy1 => intro wy hSw; obtain ⟨hSw0, hSw1⟩ := hSw; go_simp; try with_reducible rfl
    simp only [Act.put, List.setIfInBounds_toArray, List.set_cons_zero, List.set_cons_succ]
    refine wpAnyD_takeL (i := 2) (v := ?vv2) rfl (by kernel_rfl) (by kernel_rfl) (by kernel_rfl) (by kernel_rfl) (fun _ _ _ h => nomatch h.1) HS0.out rfl ?hy2 ?_
    case hy2 => intro wy hSw; obtain ⟨hSw0, hSw1⟩ := hSw; go_simp; try with_reducible rfl
    simp only [Act.put, List.setIfInBounds_toArray, List.set_cons_zero, List.set_cons_succ]
    refine wpAnyD_takeL (i := 3) (v := ?vv3) rfl (by kernel_rfl) (by kernel_rfl) (by kernel_rfl) (by kernel_rfl) (fun _ _ _ h => nomatch h.1) HS0.out rfl ?hy3 ?_
    case hy3 => intro wy hSw; obtain ⟨hSw0, hSw1⟩ := hSw; go_simp; try with_reducible rfl
    simp only [Act.put, List.setIfInBounds_toArray, List.set_cons_zero, List.set_cons_succ]
    refine wpAnyD_takeL (i := 4) (v := ?vv4) rfl (by kernel_rfl) (by kernel_rfl) (by kernel_rfl) (by kernel_rfl) (fun _ _ _ h => nomatch h.1) HS0.out rfl ?hy4 ?_
    case hy4 => intro wy hSw; obtain ⟨hSw0, hSw1⟩ := hSw; go_simp; try with_reducible rfl
    simp only [Act.put, List.setIfInBounds_toArray, List.set_cons_zero, List.set_cons_succ]
    refine wpAnyD_takeL (i := 7) (v := ?vv7) rfl (by kernel_rfl) (by kernel_rfl) (by kernel_rfl) (by kernel_rfl) (fun _ _ _ h => nomatch h.1) HS0.out rfl ?hy7 ?_
    case hy7 => intro wy hSw; obtain ⟨hSw0, hSw1⟩ := hSw; go_simp; try with_reducible rfl
    simp only [Act.put, List.setIfInBounds_toArray, List.set_cons_zero, List.set_cons_succ]
    refine wpAnyD_takeL (i := 8) (v := ?vv8) rfl (by kernel_rfl) (by kernel_rfl) (by kernel_rfl) (by kernel_rfl) (fun _ _ _ h => nomatch h.1) HS0.out rfl ?hy8 ?_
    case hy8 => intro wy hSw; obtain ⟨hSw0, hSw1⟩ := hSw; go_simp; try with_reducible rfl
    simp only [Act.put, List.setIfInBounds_toArray, List.set_cons_zero, List.set_cons_succ]
    refine wpAnyD_takeL (i := 9) (v := ?vv9) rfl (by kernel_rfl) (by kernel_rfl) (by kernel_rfl) (by kernel_rfl) (fun _ _ _ h => nomatch h.1) HS0.out rfl ?hy9 ?_
    case hy9 => intro wy hSw; obtain ⟨hSw0, hSw1⟩ := hSw; go_simp; try with_reducible rfl
    simp only [Act.put, List.setIfInBounds_toArray, List.set_cons_zero, List.set_cons_succ]
    refine wpAnyD_takeL (i := 10) (v := ?vv10) rfl (by kernel_rfl) (by kernel_rfl) (by kernel_rfl) (by kernel_rfl) (fun _ _ _ h => nomatch h.1) HS0.out rfl ?hy10 ?_
    case hy10 => intro wy hSw; obtain ⟨hSw0, hSw1⟩ := hSw; go_simp; try with_reducible rfl
    simp only [Act.put, List.setIfInBounds_toArray, List.set_cons_zero, List.set_cons_succ]
    refine s11_0000 HS.out HD5.out.2.1 HD5.out.2.2 (by have := HM4.out; omega) ?_ (Cp.start w5)
    rintro x1 x2 x3 x4 sb vb w6 hb6 hr6 hf6
    refine ⟨rfl, ?_⟩
    have HB6 := hidb hb6
    have HR6 := hidb (⟨hr6, hf6⟩ : _ ∧ _)
    have CT := hidb (twin_any ((HP4.out.1.keep HB5.out).keep HB6.out) (fun k hk => by have := (HP4.out.2.2.1 k hk).2.1; have := HB5.out.size; have := HB6.out.size; omega))
    clear hb6 hr6 hf6
    go_wp2_with fail
    refine CT.out.mono ?_
    clear CT
    rintro e w7 ⟨rfl, hb7, ht7⟩
    have HT7 := hidb ht7
    have HB7 := hidb hb7
    clear ht7 hb7
    go_wp2_with fail
    have HD7 : Hid (Duo w7 (w1.heap.size + 1) V1 V2 ∧ w7.ownsRow 0 IT 1 V1 M.length (ivs (keysOf M)) ∧ w7.ownsRow 0 IT 1 V2 M.length (ivs (valsOf M))) := hidb (by
      obtain ⟨d0, o1, o2⟩ := HD5.out
      have hb := HB6.out.trans (HB7.out.mono HB6.out.size)
      exact ⟨d0.keep hb, row_but o1 (But.of_below (S := fun _ => False) hb) (fun _ _ z => z), row_but o2 (But.of_below (S := fun _ => False) hb) (fun _ _ z => z)⟩)
    have HS7 : Hid (∀ W, Below w7.heap.size w7 W → W.cell? ⟨w1.heap.size + 1, 0, none⟩ = some V1 ∧ W.cell? ⟨w1.heap.size + 1, 1, none⟩ = some V2) := hidb (fun W hb => ⟨(HD7.out.1.keep hb).c0, (HD7.out.1.keep hb).c1⟩)
    have HS70 : Hid (w7.drew.cell? ⟨w1.heap.size + 1, 0, none⟩ = some V1 ∧ w7.drew.cell? ⟨w1.heap.size + 1, 1, none⟩ = some V2) := hidb (HS7.out _ ((Below.refl _ _).drew))
    refine wp_region_N (fun w' => w'.cell? ⟨w1.heap.size + 1, 0, none⟩ = some V1 ∧ w'.cell? ⟨w1.heap.size + 1, 1, none⟩ = some V2) [] (by kernel_rfl) ?_
    refine wpAnyD_takeL (i := 1) (v := ?uu1) rfl (by kernel_rfl) (by kernel_rfl) (by kernel_rfl) (by kernel_rfl) (fun _ _ _ h => nomatch h.1) HS70.out rfl ?hz1 ?_
    case hz1 => intro wy hSw; obtain ⟨hSw0, hSw1⟩ := hSw; go_simp; try with_reducible rfl
    simp only [Act.put, List.setIfInBounds_toArray, List.set_cons_zero, List.set_cons_succ]
    refine wpAnyD_takeL (i := 2) (v := ?uu2) rfl (by kernel_rfl) (by kernel_rfl) (by kernel_rfl) (by kernel_rfl) (fun _ _ _ h => nomatch h.1) HS70.out rfl ?hz2 ?_
    case hz2 => intro wy hSw; obtain ⟨hSw0, hSw1⟩ := hSw; go_simp; try with_reducible rfl
    simp only [Act.put, List.setIfInBounds_toArray, List.set_cons_zero, List.set_cons_succ]
    refine wpAnyD_takeL (i := 3) (v := ?uu3) rfl (by kernel_rfl) (by kernel_rfl) (by kernel_rfl) (by kernel_rfl) (fun _ _ _ h => nomatch h.1) HS70.out rfl ?hz3 ?_
    case hz3 => intro wy hSw; obtain ⟨hSw0, hSw1⟩ := hSw; go_simp; try with_reducible rfl
    simp only [Act.put, List.setIfInBounds_toArray, List.set_cons_zero, List.set_cons_succ]
    refine wpAnyD_takeL (i := 4) (v := ?uu4) rfl (by kernel_rfl) (by kernel_rfl) (by kernel_rfl) (by kernel_rfl) (fun _ _ _ h => nomatch h.1) HS70.out rfl ?hz4 ?_
    case hz4 => intro wy hSw; obtain ⟨hSw0, hSw1⟩ := hSw; go_simp; try with_reducible rfl
    simp only [Act.put, List.setIfInBounds_toArray, List.set_cons_zero, List.set_cons_succ]
    refine wpAnyD_takeL (i := 7) (v := ?uu7) rfl (by kernel_rfl) (by kernel_rfl) (by kernel_rfl) (by kernel_rfl) (fun _ _ _ h => nomatch h.1) HS70.out rfl ?hz7 ?_
    case hz7 => intro wy hSw; obtain ⟨hSw0, hSw1⟩ := hSw; go_simp; try with_reducible rfl
    simp only [Act.put, List.setIfInBounds_toArray, List.set_cons_zero, List.set_cons_succ]
    refine wpAnyD_takeL (i := 8) (v := ?uu8) rfl (by kernel_rfl) (by kernel_rfl) (by kernel_rfl) (by kernel_rfl) (fun _ _ _ h => nomatch h.1) HS70.out rfl ?hz8 ?_
    case hz8 => intro wy hSw; obtain ⟨hSw0, hSw1⟩ := hSw; go_simp; try with_reducible rfl
    simp only [Act.put, List.setIfInBounds_toArray, List.set_cons_zero, List.set_cons_succ]
    refine wpAnyD_takeL (i := 9) (v := ?uu9) rfl (by kernel_rfl) (by kernel_rfl) (by kernel_rfl) (by kernel_rfl) (fun _ _ _ h => nomatch h.1) HS70.out rfl ?hz9 ?_
    case hz9 => intro wy hSw; obtain ⟨hSw0, hSw1⟩ := hSw; go_simp; try with_reducible rfl
    simp only [Act.put, List.setIfInBounds_toArray, List.set_cons_zero, List.set_cons_succ]
    refine wpAnyD_takeL (i := 10) (v := ?uu10) rfl (by kernel_rfl) (by kernel_rfl) (by kernel_rfl) (by kernel_rfl) (fun _ _ _ h => nomatch h.1) HS70.out rfl ?hz10 ?_
    case hz10 => intro wy hSw; obtain ⟨hSw0, hSw1⟩ := hSw; go_simp; try with_reducible rfl
    simp only [Act.put, List.setIfInBounds_toArray, List.set_cons_zero, List.set_cons_succ]
    refine s13_0001 HS7.out HD7.out.2.1 HD7.out.2.2 (by have := HM4.out; omega) ?_ (Cp.start w7)
    rintro x5 x6 x7 x8 ub w8 hb8 hr8 hf8
    refine ⟨rfl, ?_⟩
    have HB8 := hidb hb8
    have HR8 := hidb (⟨hr8, hf8⟩ : _ ∧ _)
    clear hb8 hr8 hf8 HS HS0 HS7 HS70
    have HA8 : Hid (TwA w8 w4.heap.size w1.heap.size w1.heap.size (w1.heap.size + 1) w6.heap.size ub sb vb D4 E4 (fun k => x6.ownBlock = some k ∨ x8.ownBlock = some k) (fun k => x2.ownBlock = some k ∨ x4.ownBlock = some k) (Nw D4 w4 w5) M f) := hidb (by
      obtain ⟨ht4, hr4, hD, hE, hne, -, -, -, -, -, -, -⟩ := HP4.out
      obtain ⟨hr6, f1, f2, f3, f4, f5, f6⟩ := HR6.out
      obtain ⟨hr8, g1, g2⟩ := HR8.out
      have z5 := HB5.out
      have z6 := HB6.out
      have z7 := HB7.out
      have z8 := HB8.out
      have s5 := z5.size
      have s6 := z6.size
      have s7 := z7.size
      have s8 := z8.size
      have k58 := z6.trans ((z7.trans (z8.mono s7)).mono s6)
      have k48 := z5.trans (k58.mono s5)
      have k68 := z7.trans (z8.mono s7)
      have l1 := ht4.lt
      have l2 := hr4.lt
      have lu := HT7.out.lt
      have lw := hr6.lt
      have ls := hr8.lt
      have og : ∀ k, k < w6.heap.size → Off w8 w6.heap.size ub (fun k => x6.ownBlock = some k ∨ x8.ownBlock = some k) k := fun k hk => ⟨by omega, by omega, by omega, fun e => by have := (g2 k e).1; omega⟩
      refine ⟨ht4.keep k48, hr4.keep k48, HT7.out.keep z8, hr8, hr6.keep k68, (k68.cell (p := ⟨vb, 0, none⟩) f4).trans f6, HQ5.out.keep k58, fun k hk => by obtain ⟨a, b, c, d⟩ := hD k hk; exact ⟨a, b, c, d⟩, fun k hk => by obtain ⟨a, b, c, d⟩ := hE k hk; exact ⟨a, b, c⟩, ⟨Nat.le_refl _, l1⟩, ⟨Nat.le_succ _, l2⟩, hne, by omega, ⟨by omega, by omega⟩, ⟨by omega, ls⟩, by omega, fun k hk => ?_, fun k hk => ?_, fun k hk => ?_, ⟨by omega, og sb lw⟩, ⟨by omega, og vb f4⟩⟩
      · obtain ⟨a, b, c⟩ := g2 k hk; exact ⟨by omega, b, by omega⟩
      · obtain ⟨a, b, c⟩ := f2 k hk; exact ⟨by omega, og k b⟩
      · rcases hk with hk | ⟨a, b⟩
        · have := (hD k hk).2.1; exact ⟨.inl hk, og k (by omega)⟩
        · exact ⟨.inr a, og k (by omega)⟩)
    have hbw8 : Below w.heap.size w w8 := by
      have z1 : Below w.heap.size w w1 := ((below_new w _).alloc (by simp) _).trans (HB1.out.mono (by simp; omega))
      have z3 := HB3.out
      have hz := HZ.out
      have z4 : Below w.heap.size w w4 := z3.trans (HB4.out.below z3.size (fun k hk => by omega))
      have s4 := z4.size
      have z5 := z4.trans (HB5.out.mono s4)
      have z6 := z5.trans (HB6.out.mono z5.size)
      have z7 := z6.trans (HB7.out.mono z6.size)
      exact z7.trans (HB8.out.mono z7.size)
    have HBW8 := hidb hbw8
    have CD1 := hidb (done_z H1.out.1 H1.out.2 hbw8 (by have := HZ.out; omega) HA8.out.pz (by have := HM4.out; have := HLN.out; omega))
    clear hbw8
    go_wp2_with fail
    refine CD1.out.mono ?_
    clear CD1
    rintro e w9 ⟨rfl, L, hp9, hl9, hb9⟩
    have HT9 := hidb (HA8.out.next hp9 hb9)
    have HB9 := hidb hb9
    have HL9 : Hid (L.length ≤ 1000) := hidb (by have := HM4.out; have := HLN.out; omega)
    clear hp9 hl9 hb9
    have hbw9 : Below w.heap.size w w9 := HBW8.out.trans (HB9.out.below HBW8.out.size (fun k hk => by have := HZ.out; omega))
    have HBW9 := hidb hbw9
    have CD2 := hidb (done_z H2.out.1 H2.out.2 hbw9 (by have := HZ.out; omega) HT9.out.pz (by have := HM4.out; have := HLN.out; omega))
    clear hbw9
    go_wp2_with fail
    refine CD2.out.mono ?_
    clear CD2
    rintro e w10 ⟨rfl, R, hp10, hl10, hb10⟩
    have HT10 := hidb (HT9.out.next hp10 hb10)
    have HB10 := hidb hb10
    have HR10 : Hid (R.length ≤ 1000) := hidb (by have := HM4.out; have := HLN.out; omega)
    have HBW10 : Hid (Below w.heap.size w w10) := hidb (HBW9.out.trans (hb10.below HBW9.out.size (fun k hk => by have := HZ.out; omega)))
    have HRS : Hid (w10.cell? ⟨w.heap.size, 0, none⟩ = some (.int .i64 stop) ∧ w10.cell? ⟨w.heap.size + 1, 0, none⟩ = some (.bool false) ∧ w10.frozen? ⟨w.heap.size + 1, 0, none⟩ = false ∧ (∀ k, Nw D4 w4 w5 k → w1.heap.size ≤ k) ∧ w1.heap.size ≤ w10.heap.size) := hidb (by
      have hz := HZ.out
      have z1 := HB1.out
      have z3 : Below w1.heap.size w1 (w2.alloc (.cells #[.slice none 0 0, .slice none 0 0] 29)) := HB2.out.alloc HB2.out.size _
      have z4 : Below w1.heap.size w1 w4 := z3.trans (HB4.out.below z3.size (fun k hk => hk.1))
      have z5 := z4.trans (HB5.out.mono z4.size)
      have z6 := z5.trans (HB6.out.mono z5.size)
      have z7 := z6.trans (HB7.out.mono z6.size)
      have z8 := z7.trans (HB8.out.mono z7.size)
      have z9 := z8.trans (HB9.out.below z8.size (fun k hk => hk.1))
      have z10 := z9.trans (HB10.out.below z9.size (fun k hk => hk.1))
      refine ⟨(z10.cell (p := ⟨w.heap.size, 0, none⟩) (by simp; omega)).trans ((z1.cell (p := ⟨w.heap.size, 0, none⟩) (by simp; omega)).trans (by simp [go_sem])), (z10.cell (p := ⟨w.heap.size + 1, 0, none⟩) (by simp; omega)).trans ((z1.cell (p := ⟨w.heap.size + 1, 0, none⟩) (by simp)).trans (by simp [go_sem])), (z10.frozen (p := ⟨w.heap.size + 1, 0, none⟩) (by simp; omega)).trans ((z1.frozen (p := ⟨w.heap.size + 1, 0, none⟩) (by simp)).trans (by simp [go_sem])), fun k hk => ?_, z10.size⟩
      have s4 := z4.size
      rcases hk with hk | ⟨a, b⟩
      · exact (HP4.out.2.2.1 k hk).1
      · omega)
    clear hp10 hl10 hb10
    go_wp2_with fail
    refine wp_loop_rounds 3 ?_
    rw [rounds_succ]
    go_wp2_with fail
    have hl1 : Lp w ((w10.alloc (.cells #[.int .i64 0] 3)).alloc (.cells #[.int .i64 0] 3)) w10.heap.size (w10.heap.size + 1) vb sb stop 0 (fun k => x2.ownBlock = some k ∨ x4.ownBlock = some k) (Nw D4 w4 w5) M f := by
      obtain ⟨rc1, rc2, rc3, ws, ss⟩ := HRS.out
      have hz := HZ.out
      exact HT10.out.lp HP4.out.1.wf (by omega) rc1 rc2 rc3 (fun e => by have := ws _ e; omega) 0
    have HL1 := hidb hl1
    have CL1 := hidb (hl1.t0)
    refine twLoop hl1 (by have := HM4.out; omega) ?dn ?bk
    case' dn => rintro De W hDe hK hB hn; obtain ⟨p, hp⟩ : ∃ p : Int, W.cell? ⟨w10.heap.size + 1, 0, none⟩ = some (.int .i64 p) := ⟨_, hn⟩; clear hn
    case' bk => rintro - De W hDe hK hB ⟨p, hp⟩
    all_goals
      clear hl1
      have hl1 := HL1.out
      have hz := HZ.out
      obtain ⟨rc1, rc2, rc3, ws, ss⟩ := HRS.out
      obtain ⟨a1, m1, a2, m2, d0, d1, -⟩ := hl1.q.cells
      have k0 := (hB.cell (p := ⟨w10.heap.size, 0, none⟩) (World.block_lt_of_cell? _ _ hl1.t0) (show ¬ w10.heap.size = w10.heap.size + 1 by omega)).trans hl1.t0
      have k1 := (hB.cell (p := ⟨vb, 0, none⟩) (World.block_lt_of_cell? _ _ hl1.v0) (show ¬ vb = w10.heap.size + 1 from fun e => hl1.hB.2.1 e.symm)).trans hl1.v0
      have k2 := (hB.cell (p := ⟨sb, 0, none⟩) hl1.q.lt (show ¬ sb = w10.heap.size + 1 from fun e => hl1.hB.2.2.1 e.symm)).trans d0
      obtain ⟨tv, htv⟩ : ∃ tv : Int, tv = 0 := ⟨0, rfl⟩
      have gd : (tv == 1) = false := by rw [htv]; rfl
      rw [← htv] at k0
      have HTV := hidb htv
      clear htv
      have HS1 : Hid (W.drew.cell? ⟨w10.heap.size, 0, none⟩ = some (.int .i64 tv) ∧ W.drew.cell? ⟨w10.heap.size + 1, 0, none⟩ = some (.int .i64 p) ∧ W.drew.cell? ⟨vb, 0, none⟩ = some (.pointer (some ⟨sb, 0, none⟩)) ∧ W.drew.cell? ⟨sb, 0, none⟩ = some (.slice a1 M.length m1)) := hidb ⟨k0, hp, k1, k2⟩
      have HK1 := hidb (⟨hDe, hK, hB⟩ : _ ∧ _ ∧ _)
      clear hl1 hz rc1 rc2 rc3 ws ss d0 d1 k1 k2 hDe hK hB hp
      go_wp2_with fail
      obtain ⟨y0, y1, y2, y3⟩ := HS1.out
      replace y1 : W.cell? ⟨w10.heap.size + 1, 0, none⟩ = some (.int .i64 p) := y1
      replace y2 : W.cell? ⟨vb, 0, none⟩ = some (.pointer (some ⟨sb, 0, none⟩)) := y2
      replace y3 : W.cell? ⟨sb, 0, none⟩ = some (.slice a1 M.length m1) := y3
      clear y0
      go_big_quiet (fail)
      generalize hV : W.drewN _ = V
      have HV : Hid (((w10.alloc (.cells #[.int .i64 0] 3)).alloc (.cells #[.int .i64 0] 3)).heap.size ≤ De ∧ V.heap[De]? = some (.deferred (some [])) ∧ But (fun k => k = w10.heap.size + 1) ((w10.alloc (.cells #[.int .i64 0] 3)).alloc (.cells #[.int .i64 0] 3)) V) := hidb (by subst hV; exact ⟨HK1.out.1, HK1.out.2.1, HK1.out.2.2.drewN _⟩)
      replace k0 : V.cell? ⟨w10.heap.size, 0, none⟩ = some (.int .i64 tv) := by rw [← hV]; exact k0
      clear hV y1 y2 y3 HS1 HK1 gd
      obtain rfl : tv = 0 := HTV.out
      go_wp2_with fail
      clear k0
      rw [rounds_succ]
      go_wp2_with fail
      have hbV : Below w10.heap.size w10 V := by
        have hk : Below w10.heap.size w10 ((w10.alloc (.cells #[.int .i64 0] 3)).alloc (.cells #[.int .i64 0] 3)) := (below_new _ _).alloc (by simp) _
        exact hk.trans (HV.out.2.2.below hk.size (fun k e => by omega))
      have HTC := hidb (HT10.out.keep hbV)
      have HRV : Hid (V.cell? ⟨w.heap.size, 0, none⟩ = some (.int .i64 stop) ∧ V.cell? ⟨w.heap.size + 1, 0, none⟩ = some (.bool false) ∧ V.frozen? ⟨w.heap.size + 1, 0, none⟩ = false ∧ w.heap.size + 2 ≤ V.heap.size ∧ ¬ Nw D4 w4 w5 (w.heap.size + 1) ∧ w10.heap.size + 2 ≤ V.heap.size) := hidb (by
        obtain ⟨rc1, rc2, rc3, ws, ss⟩ := HRS.out
        have hz := HZ.out
        have hs := hbV.size
        have hs2 := HV.out.2.2.size
        simp only [World.size_alloc] at hs2
        exact ⟨(hbV.cell (p := ⟨w.heap.size, 0, none⟩) (by simp; omega)).trans rc1, (hbV.cell (p := ⟨w.heap.size + 1, 0, none⟩) (by simp; omega)).trans rc2, (hbV.frozen (p := ⟨w.heap.size + 1, 0, none⟩) (by simp; omega)).trans rc3, by omega, fun e => by have := ws _ e; omega, by omega⟩)
      have HBV := hidb hbV
      have hl2 : Lp w ((V.alloc (.cells #[.int .i64 1] 3)).alloc (.cells #[.int .i64 0] 3)) V.heap.size (V.heap.size + 1) vb sb stop 1 (fun k => x2.ownBlock = some k ∨ x4.ownBlock = some k) (Nw D4 w4 w5) M f := by
        obtain ⟨rc1, rc2, rc3, hz, ws, -⟩ := HRV.out
        exact HTC.out.lp HP4.out.1.wf hz rc1 rc2 rc3 ws 1
      have HL2 := hidb hl2
      clear hbV
      refine twLoop hl2 (by have := HM4.out; omega) ?_ (fun e => by omega)
      clear hl2
      rintro De2 U hDe2 hK2 hB2 hn2
      have hl2 := HL2.out
      obtain ⟨b1, n1', b2, n2', d0, d1, -⟩ := hl2.q.cells
      have k0 := (hB2.cell (p := ⟨V.heap.size, 0, none⟩) (World.block_lt_of_cell? _ _ hl2.t0) (show ¬ V.heap.size = V.heap.size + 1 by omega)).trans hl2.t0
      have y2 := (hB2.cell (p := ⟨vb, 0, none⟩) (World.block_lt_of_cell? _ _ hl2.v0) (show ¬ vb = V.heap.size + 1 from fun e => hl2.hB.2.1 e.symm)).trans hl2.v0
      have y3 := (hB2.cell (p := ⟨sb, 0, none⟩) hl2.q.lt (show ¬ sb = V.heap.size + 1 from fun e => hl2.hB.2.2.1 e.symm)).trans d0
      have HK2 := hidb (⟨hDe2, hK2, hB2⟩ : _ ∧ _ ∧ _)
      clear hl2 d0 d1 hDe2 hK2 hB2
      go_wp2_with fail
      go_big_quiet (fail)
      generalize hX : U.drewN _ = X
      have HX : Hid (((V.alloc (.cells #[.int .i64 1] 3)).alloc (.cells #[.int .i64 0] 3)).heap.size ≤ De2 ∧ X.heap[De2]? = some (.deferred (some [])) ∧ But (fun k => k = V.heap.size + 1) ((V.alloc (.cells #[.int .i64 1] 3)).alloc (.cells #[.int .i64 0] 3)) X) := hidb (by subst hX; exact ⟨HK2.out.1, HK2.out.2.1, HK2.out.2.2.drewN _⟩)
      replace k0 : X.cell? ⟨V.heap.size, 0, none⟩ = some (.int .i64 1) := by rw [← hX]; exact k0
      clear hX y2 y3 HK2 hn2
      go_wp2_with fail
      clear k0
      rw [rounds_succ]
      go_wp2_with fail
      have hk2 : Below V.heap.size V ((V.alloc (.cells #[.int .i64 1] 3)).alloc (.cells #[.int .i64 0] 3)) := (below_new _ _).alloc (by simp) _
      have hbX0 : Below V.heap.size V X := hk2.trans (HX.out.2.2.below hk2.size (fun k e => by omega))
      have hbX : Below V.heap.size V (X.alloc (.cells #[.int .i64 2] 3)) := hbX0.alloc hbX0.size _
      have HTX := hidb (HTC.out.keep hbX)
      obtain ⟨Da, ta, tb2⟩ := HTX.out.t
      obtain ⟨Ea, ra⟩ := HTX.out.r
      have CA := hidb (all_law ta ra (by have := HL9.out; omega) tb2)
      have HBX := hidb hbX
      have HBX0 := hidb hbX0
      clear hk2 hbX0 hbX ta tb2 ra
      refine CA.out.mono ?_
      clear CA
      rintro e wA ⟨rfl, hbA⟩
      obtain ⟨Db, ub1, ub2⟩ := (HTX.out.keep hbA).u
      obtain ⟨Eb, rb1⟩ := (HTX.out.keep hbA).s
      have CB := hidb (all_law ub1 rb1 (by have := HR10.out; omega) ub2)
      have HBA := hidb hbA
      clear hbA ub1 ub2 rb1
      go_wp2_with fail
      refine CB.out.mono ?_
      clear CB
      rintro e wB ⟨rfl, hbB⟩
      have hbXB : Below X.heap.size X wB := (below_new X (.cells #[.int .i64 2] 3)).trans ((HBA.out.trans (hbB.mono HBA.out.size)).mono (by simp))
      have hbVB : Below V.heap.size V wB := HBX0.out.trans (hbXB.mono HBX0.out.size)
      have rr := (hbVB.cell (p := ⟨w.heap.size + 1, 0, none⟩) (by have := HRV.out; simp; omega)).trans HRV.out.2.1
      have rf := (hbVB.frozen (p := ⟨w.heap.size + 1, 0, none⟩) (by have := HRV.out; simp; omega)).trans HRV.out.2.2.1
      have HVB := hidb hbVB
      have HXB := hidb hbXB
      clear hbB hbVB hbXB
      go_wp2_with fail
      have hc2 : (wB.setCell ⟨w.heap.size + 1, 0, none⟩ (.bool true)).cell? ⟨w.heap.size + 1, 0, none⟩ = some (.bool true) := World.cell?_setCell_same _ _ _ rr
      obtain ⟨e1', e2', e3'⟩ := HV.out
      obtain ⟨f1', f2', f3'⟩ := HX.out
      simp only [World.size_alloc] at e1' f1'
      have hz2 := HRV.out.2.2.2
      have hz3 := HRS.out.2.2.2.2
      have hz4 := HZ.out
      have hDV : De < V.heap.size := (Array.getElem?_eq_some_iff.mp e2').1
      have hDX : De2 < X.heap.size := (Array.getElem?_eq_some_iff.mp f2').1
      refine retM [De2, De] rfl (fun E hE => ?_) (by simp; omega) (fun W' hb' => ?_)
      · rcases List.mem_cons.1 hE with rfl | hE
        · exact (Below.heap_setCell wB _ _ E (by simp; omega)).trans ((HXB.out.block _ hDX).trans f2')
        · obtain rfl : E = De := by simpa using hE
          exact (Below.heap_setCell wB _ _ E (by simp; omega)).trans ((HVB.out.block _ hDV).trans e2')
      · have c5 := (hb'.cell (p := ⟨w.heap.size + 1, 0, none⟩) (World.block_lt_of_cell? _ _ hc2) (by simp; omega)).trans hc2
        have hwV : Below w.heap.size w V := HBW10.out.trans (HBV.out.mono HBW10.out.size)
        have hwB : Below w.heap.size w wB := hwV.trans (HVB.out.mono hwV.size)
        have hsB := hwB.size
        exact ⟨.bool true, by simp [results, Try.results3, go_sem, c5], rfl, (hwB.setCell (p := ⟨w.heap.size + 1, 0, none⟩) (Nat.le_succ _) _).trans (hb'.below (by simp only [World.setCell, Array.size_modify]; omega) (fun k hk => by
          rcases List.mem_cons.1 hk with rfl | hk
          · omega
          · obtain rfl : k = De := by simpa using hk
            omega))⟩

end Go.Proofs.Ytejjffgolipdmaa
