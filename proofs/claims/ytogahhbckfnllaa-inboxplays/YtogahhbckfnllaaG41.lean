import Derived.Test.YtogahhbckfnllaaG40
/- An act of the play. -/
namespace Go.Proofs.Ytogahhbckfnllaa
open Go.RowKit Go.Lib Go.Deep
attribute [local go_sem] store_float f64bits
attribute [local go_sem ↓] Go.wp_at_zero Go.wp_at_succ

/-- The play's step: what it is handed, what stands. -/
structure SA (w : World) (bb rb : Nat) (lv : Value) (ms : List Msg) (ds : List Tr) (place most puts : Nat) (R T O : Nat → Prop) (x : Tr) : Prop where
  pb : PB w bb rb lv ms ds place most puts R T
  xin : x.In w 0
  xon : x.On O
  xo : ∀ q, O q → q < w.heap.size ∧ ¬ PS bb rb ms lv q
  xs : Small x
  xc : cnT x ≤ 60001
  ml : ms.length ≤ 1000
  pl : puts ≤ 1000
theorem SA.keep {w w' : World} {bb rb : Nat} {lv : Value} {ms : List Msg} {ds : List Tr} {place most puts : Nat} {R T O : Nat → Prop} {x : Tr} (h : SA w bb rb lv ms ds place most puts R T O x) (hb : Below w.heap.size w w') : SA w' bb rb lv ms ds place most puts R T O x :=
  ⟨h.pb.keep hb, in_below hb h.xin, h.xon, fun q hq => ⟨Nat.lt_of_lt_of_le (h.xo q hq).1 hb.size, (h.xo q hq).2⟩, h.xs, h.xc, h.ml, h.pl⟩
theorem Nxt.from {w W w' : World} {bb rb : Nat} {lv : Value} {ms : List Msg} {most puts : Nat} (h : Nxt W bb rb lv ms most puts w') (hb : Below w.heap.size w W) : Nxt w bb rb lv ms most puts w' := by
  obtain ⟨lv', ms', ds', place', puts', R', T', a1, a2, a3, a4, a5⟩ := h
  have := hb.size
  exact ⟨lv', ms', ds', place', puts', R', T', a1, fun q hq => (a2 q hq).imp id (fun e => by omega), a3, a4, (But.of_below hb).trans a5⟩
theorem Nxt.keep {w W w' : World} {bb rb : Nat} {lv : Value} {ms : List Msg} {most puts : Nat} (h : Nxt w bb rb lv ms most puts W) (hb : Below W.heap.size W w') : Nxt w bb rb lv ms most puts w' := by
  obtain ⟨lv', ms', ds', place', puts', R', T', a1, a2, a3, a4, a5⟩ := h
  exact ⟨lv', ms', ds', place', puts', R', T', a1.keep hb, a2, a3, a4, a5.trans (But.of_below hb)⟩

variable {w : World} {bb rb place most puts : Nat} {lv : Value} {ms : List Msg} {ds : List Tr} {R T O : Nat → Prop} {k n : Int} {f : Nat} {s : ByteArray} {a : Option Addr} {c : Nat} {kids : List Tr}
abbrev actV (op k n : Int) (f : Nat) (s : ByteArray) (a : Option Addr) (l c : Nat) : Value := .agg #[.int .i64 op, .int .i64 k, .int .i64 n, .float .f64 f, .string s, .slice a l c]
theorem ent_pput : Ent 13 := by
  intro args w
  kernel_rfl
theorem ent_rput : Ent 18 := by
  intro args w
  kernel_rfl

abbrev actO (op k n : Int) (f : Nat) (s : ByteArray) (a : Option Addr) (l c : Nat) : Obj := .cells #[.int .i64 op, .int .i64 k, .int .i64 n, .float .f64 f, .string s, .slice a l c] 38

set_option maxHeartbeats 2000000 in
set_option maxRecDepth 100000 in
theorem step_1 (h : SA w bb rb lv ms ds place most puts R T O (.mk k n f s a c kids)) : Calls Try.prog 8 #[.pointer (some ⟨bb, 0, none⟩), .pointer (some ⟨rb, 0, none⟩), actV 1 k n f s a kids.length c] w fun e w' => e = .returned (.bool true) ∧ Nxt w bb rb lv ms most puts w' := by
  obtain ⟨WX, hWX⟩ : ∃ WX, w.alloc (actO 1 k n f s a kids.length c) = WX := ⟨_, rfl⟩
  have hbX : Below w.heap.size w WX := by rw [← hWX]; exact below_new w _
  have hAX : At WX w.heap.size [.int .i64 1, .int .i64 k, .int .i64 n, .float .f64 f, .string s, .slice a kids.length c] := by rw [← hWX]; exact At.new w [.int .i64 1, .int .i64 k, .int .i64 n, .float .f64 f, .string s, .slice a kids.length c] 38
  have HX := hidb (h.keep hbX)
  have HAX := hidb hAX
  have HBX := hidb hbX
  have HWX := hidb hWX
  have hzx : w.heap.size < WX.heap.size := hAX.2
  have hnx : ∀ q, PS bb rb ms lv q → q < w.heap.size := fun q hq => h.pb.lt hq
  have HNX := hidb hnx
  obtain ⟨x0, -⟩ := hAX.1 0 _ rfl
  obtain ⟨x1, -⟩ := hAX.1 1 _ rfl
  obtain ⟨x2, -⟩ := hAX.1 2 _ rfl
  obtain ⟨x3, -⟩ := hAX.1 3 _ rfl
  obtain ⟨x4, -⟩ := hAX.1 4 _ rfl
  obtain ⟨x5, -⟩ := hAX.1 5 _ rfl
  clear h hbX hAX hWX hnx
  go_enter Try.func8, Try.ntmps8
  go_wp2_with fail
  rw [HWX.out]
  have hD := HX.out.keep ((Below.refl _ _).drew)
  obtain ⟨er, Q1, P1, P2⟩ := put_two hD.pb hD.xin hD.xon hD.xo hD.xs hD.xc hD.ml hD.pl
  have HP1 := hidb P1
  have HP2 := hidb P2
  simp only [Tr.val, Tr.cells] at HP1 HP2
  have HSF : Hid (∀ w', At w' w.heap.size [.int .i64 1, .int .i64 k, .int .i64 n, .float .f64 f, .string s, .slice a kids.length c] → (w'.cell? ⟨w.heap.size, 1, none⟩ = some (.int .i64 k) ∧ w'.cell? ⟨w.heap.size, 2, none⟩ = some (.int .i64 n) ∧ w'.cell? ⟨w.heap.size, 3, none⟩ = some (.float .f64 f) ∧ w'.cell? ⟨w.heap.size, 4, none⟩ = some (.string s) ∧ w'.cell? ⟨w.heap.size, 5, none⟩ = some (.slice a kids.length c))) := hidb (fun w' h => ⟨(h.1 1 _ rfl).1, (h.1 2 _ rfl).1, (h.1 3 _ rfl).1, (h.1 4 _ rfl).1, (h.1 5 _ rfl).1⟩)
  have HA0 := hidb (HAX.out.keep ((Below.refl _ _).drew))
  have HS0 := hidb (HSF.out _ HA0.out)
  clear hD P1 P2
  go_wp2_with fail
  refine wp_region_D (fun w' => w'.cell? ⟨w.heap.size, 1, none⟩ = some (.int .i64 k) ∧ w'.cell? ⟨w.heap.size, 2, none⟩ = some (.int .i64 n) ∧ w'.cell? ⟨w.heap.size, 3, none⟩ = some (.float .f64 f) ∧ w'.cell? ⟨w.heap.size, 4, none⟩ = some (.string s) ∧ w'.cell? ⟨w.heap.size, 5, none⟩ = some (.slice a kids.length c)) [] (by kernel_rfl) ?_
  refine wpAnyD_takeL (i := 0) (v := ?vv0x0) rfl (by kernel_rfl) (by kernel_rfl) (by kernel_rfl) (by kernel_rfl) (fun _ _ _ h => h) HS0.out rfl ?hy0x0 ?_
  case hy0x0 => intro wy hSw; obtain ⟨y1, y2, y3, y4, y5⟩ := hSw; go_simp; try with_reducible rfl
  simp only [Act.put, List.setIfInBounds_toArray, List.set_cons_zero, List.set_cons_succ]
  refine wpAnyD_takeL (i := 1) (v := ?vv1x0) rfl (by kernel_rfl) (by kernel_rfl) (by kernel_rfl) (by kernel_rfl) (fun _ _ _ h => h) HS0.out rfl ?hy1x0 ?_
  case hy1x0 => intro wy hSw; obtain ⟨y1, y2, y3, y4, y5⟩ := hSw; go_simp; try with_reducible rfl
  simp only [Act.put, List.setIfInBounds_toArray, List.set_cons_zero, List.set_cons_succ]
  refine wpAnyD_takeL (i := 2) (v := ?vv2x0) rfl (by kernel_rfl) (by kernel_rfl) (by kernel_rfl) (by kernel_rfl) (fun _ _ _ h => h) HS0.out rfl ?hy2x0 ?_
  case hy2x0 => intro wy hSw; obtain ⟨y1, y2, y3, y4, y5⟩ := hSw; go_simp; try with_reducible rfl
  simp only [Act.put, List.setIfInBounds_toArray, List.set_cons_zero, List.set_cons_succ]
  refine wpAnyD_takeL (i := 4) (v := ?vv4x0) rfl (by kernel_rfl) (by kernel_rfl) (by kernel_rfl) (by kernel_rfl) (fun _ _ _ h => h) HS0.out rfl ?hy4x0 ?_
  case hy4x0 => intro wy hSw; obtain ⟨y1, y2, y3, y4, y5⟩ := hSw; go_simp; try with_reducible rfl
  simp only [Act.put, List.setIfInBounds_toArray, List.set_cons_zero, List.set_cons_succ]
  refine wpAnyD_takeL (i := 5) (v := ?vv5x0) rfl (by kernel_rfl) (by kernel_rfl) (by kernel_rfl) (by kernel_rfl) (fun _ _ _ h => h) HS0.out rfl ?hy5x0 ?_
  case hy5x0 => intro wy hSw; obtain ⟨y1, y2, y3, y4, y5⟩ := hSw; go_simp; try with_reducible rfl
  simp only [Act.put, List.setIfInBounds_toArray, List.set_cons_zero, List.set_cons_succ]
  refine wpAnyD_takeL (i := 6) (v := ?vv6x0) rfl (by kernel_rfl) (by kernel_rfl) (by kernel_rfl) (by kernel_rfl) (fun _ _ _ h => h) HS0.out rfl ?hy6x0 ?_
  case hy6x0 => intro wy hSw; obtain ⟨y1, y2, y3, y4, y5⟩ := hSw; go_simp; try with_reducible rfl
  simp only [Act.put, List.setIfInBounds_toArray, List.set_cons_zero, List.set_cons_succ]
  refine wpAnyD_stepL (i := 3) (by kernel_rfl) rfl (fun K hK => ?_)
  refine step_call rfl (run_call ent_pput #[.tmp 25, .tmp 27] _ rfl #[.pointer (some ⟨bb, 0, none⟩), .agg #[.int .i64 k, .int .i64 n, .float .f64 f, .string s, .slice a kids.length c]] rfl) HP1.out (fun e w1 hh => ?_)
  obtain ⟨rfl, hq1, hb1⟩ := hh
  have HA1 := hidb (HA0.out.but hb1 (fun e => by have := HNX.out _ (.inl e); omega))
  have HS1 := hidb (HSF.out _ HA1.out)
  have HB1 := hidb (And.intro hq1 hb1)
  refine hK _ _ (fun _ => HS1.out) ?_
  clear hK K hq1 hb1
  simp only [Act.put, List.setIfInBounds_toArray, List.set_cons_zero, List.set_cons_succ]
  refine wpAnyD_stepL (i := 7) (by kernel_rfl) rfl (fun K hK => ?_)
  refine step_call rfl (run_call ent_rput #[.tmp 29, .tmp 31] _ rfl #[.pointer (some ⟨rb, 0, none⟩), .agg #[.int .i64 k, .int .i64 n, .float .f64 f, .string s, .slice a kids.length c]] rfl) (HP2.out w1 w1 HB1.out.1 HB1.out.2 (Below.refl _ _)) (fun e w2 hh => ?_)
  obtain ⟨rfl, hn2, hb2⟩ := hh
  have HS2 := hidb (HSF.out _ (HA1.out.but hb2 (fun e => by have := HNX.out _ (.inr e); omega)))
  have HN2 := hidb hn2
  refine hK _ _ (fun _ => HS2.out) ?_
  clear hK K hn2 hb2
  simp only [Act.put, List.setIfInBounds_toArray, List.set_cons_zero, List.set_cons_succ]
  refine wpAnyD_stepL (i := 8) (by kernel_rfl) rfl (fun K hK => ?_)
  go_simp
  refine hK _ _ (fun _ => HS2.out) ?_
  clear hK K
  refine wpAnyD_stepL (i := 9) (by kernel_rfl) rfl (fun K hK => ?_)
  go_simp
  refine hK _ _ (fun _ => HS2.out) ?_
  clear hK K
  refine wpAnyD_done (by kernel_rfl) ?_ _
  go_wp2_with fail
  go_ret
  exact ⟨rfl, HN2.out.from HBX.out.drew⟩

set_option maxHeartbeats 2000000 in
set_option maxRecDepth 100000 in
theorem step_2 (h : SA w bb rb lv ms ds place most puts R T O (.mk k n f s a c kids)) : Calls Try.prog 8 #[.pointer (some ⟨bb, 0, none⟩), .pointer (some ⟨rb, 0, none⟩), actV 2 k n f s a kids.length c] w fun e w' => e = .returned (.bool true) ∧ Nxt w bb rb lv ms most puts w' := by
  obtain ⟨WX, hWX⟩ : ∃ WX, w.alloc (actO 2 k n f s a kids.length c) = WX := ⟨_, rfl⟩
  have hbX : Below w.heap.size w WX := by rw [← hWX]; exact below_new w _
  have hAX : At WX w.heap.size [.int .i64 2, .int .i64 k, .int .i64 n, .float .f64 f, .string s, .slice a kids.length c] := by rw [← hWX]; exact At.new w [.int .i64 2, .int .i64 k, .int .i64 n, .float .f64 f, .string s, .slice a kids.length c] 38
  have HX := hidb (h.keep hbX)
  have HAX := hidb hAX
  have HBX := hidb hbX
  have HWX := hidb hWX
  have hzx : w.heap.size < WX.heap.size := hAX.2
  have hnx : ∀ q, PS bb rb ms lv q → q < w.heap.size := fun q hq => h.pb.lt hq
  have HNX := hidb hnx
  obtain ⟨x0, -⟩ := hAX.1 0 _ rfl
  obtain ⟨x1, -⟩ := hAX.1 1 _ rfl
  obtain ⟨x2, -⟩ := hAX.1 2 _ rfl
  obtain ⟨x3, -⟩ := hAX.1 3 _ rfl
  obtain ⟨x4, -⟩ := hAX.1 4 _ rfl
  obtain ⟨x5, -⟩ := hAX.1 5 _ rfl
  clear h hbX hAX hWX hnx
  go_enter Try.func8, Try.ntmps8
  go_wp2_with fail
  rw [HWX.out]
  obtain ⟨fl, Q1, P1, P2⟩ := next_two HX.out.pb HX.out.ml
  have HP1 := hidb P1
  have HP2 := hidb P2
  clear P1 P2
  go_wp2_with fail
  refine HP1.out.mono ?_
  rintro e w1 ⟨k1, n1, f1, s1, a1, c1, kids1, rfl, hq1, hb1⟩
  have HB1 := hidb (And.intro hq1 hb1)
  clear hq1 hb1
  have HA1 := hidb (At.new w1 [.int .i64 k1, .int .i64 n1, .float .f64 f1, .string s1, .slice a1 kids1.length c1] 36)
  have hz1 := HB1.out.2.size
  go_wp2_with fail
  refine (HP2.out _ w1 _ HB1.out.1 HB1.out.2 (below_new w1 _)).mono ?_
  rintro e w2 ⟨k2, n2, f2, s2, a2, c2, kids2, rfl, hsm, hi1, hi2, hn2, hb2⟩
  have HA2 := hidb (HA1.out.but hb2 (fun e => by have := HNX.out _ (.inr e); omega))
  have HN2 := hidb (And.intro hsm (And.intro hi1 (And.intro hi2 hn2)))
  have hz2 : w1.heap.size < w2.heap.size := HA2.out.2
  clear hsm hi1 hi2 hn2 hb2
  obtain ⟨t0, t1, t2, t3, t4⟩ := at_results HA2.out
  have hfl : (fl == fl) = true := by simp
  have TW := hidb (twin_same _ _ HN2.out.1 (w2.alloc (.cells #[.int .i64 k2, .int .i64 n2, .float .f64 f2, .string s2, .slice a2 kids2.length c2] 36)) (in_below (below_new w2 _) HN2.out.2.1) (in_below (below_new w2 _) HN2.out.2.2.1))
  simp only [Tr.val, Tr.cells] at TW
  go_wp2_with fail
  refine TW.out.mono ?_
  rintro e w3 ⟨rfl, hb3⟩
  have HB3 := hidb (show Below w2.heap.size w2 w3 from (below_new w2 _).trans (hb3.mono (by simp)))
  clear hb3
  go_wp2_with fail
  go_ret
  exact ⟨rfl, (HN2.out.2.2.2.keep HB3.out).from HBX.out⟩

set_option maxHeartbeats 2000000 in
set_option maxRecDepth 100000 in
theorem step_3 (h : SA w bb rb lv ms ds place most puts R T O (.mk k n f s a c kids)) : Calls Try.prog 8 #[.pointer (some ⟨bb, 0, none⟩), .pointer (some ⟨rb, 0, none⟩), actV 3 k n f s a kids.length c] w fun e w' => e = .returned (.bool true) ∧ Nxt w bb rb lv ms most puts w' := by
  obtain ⟨WX, hWX⟩ : ∃ WX, w.alloc (actO 3 k n f s a kids.length c) = WX := ⟨_, rfl⟩
  have hbX : Below w.heap.size w WX := by rw [← hWX]; exact below_new w _
  have hAX : At WX w.heap.size [.int .i64 3, .int .i64 k, .int .i64 n, .float .f64 f, .string s, .slice a kids.length c] := by rw [← hWX]; exact At.new w [.int .i64 3, .int .i64 k, .int .i64 n, .float .f64 f, .string s, .slice a kids.length c] 38
  have HX := hidb (h.keep hbX)
  have HAX := hidb hAX
  have HBX := hidb hbX
  have HWX := hidb hWX
  have hzx : w.heap.size < WX.heap.size := hAX.2
  have hnx : ∀ q, PS bb rb ms lv q → q < w.heap.size := fun q hq => h.pb.lt hq
  have HNX := hidb hnx
  obtain ⟨x0, -⟩ := hAX.1 0 _ rfl
  obtain ⟨x1, -⟩ := hAX.1 1 _ rfl
  obtain ⟨x2, -⟩ := hAX.1 2 _ rfl
  obtain ⟨x3, -⟩ := hAX.1 3 _ rfl
  obtain ⟨x4, -⟩ := hAX.1 4 _ rfl
  obtain ⟨x5, -⟩ := hAX.1 5 _ rfl
  clear h hbX hAX hWX hnx
  go_enter Try.func8, Try.ntmps8
  go_wp2_with fail
  rw [HWX.out]
  obtain ⟨fl, Q1, P1, P2⟩ := take_two HX.out.pb HX.out.ml
  have HP1 := hidb P1
  have HP2 := hidb P2
  clear P1 P2
  go_wp2_with fail
  refine HP1.out.mono ?_
  rintro e w1 ⟨k1, n1, f1, s1, a1, c1, kids1, rfl, hq1, hb1⟩
  have HB1 := hidb (And.intro hq1 hb1)
  clear hq1 hb1
  have HA1 := hidb (At.new w1 [.int .i64 k1, .int .i64 n1, .float .f64 f1, .string s1, .slice a1 kids1.length c1] 36)
  have hz1 := HB1.out.2.size
  go_wp2_with fail
  refine (HP2.out _ w1 _ HB1.out.1 HB1.out.2 (below_new w1 _)).mono ?_
  rintro e w2 ⟨k2, n2, f2, s2, a2, c2, kids2, rfl, hsm, hi1, hi2, hn2, hb2⟩
  have HA2 := hidb (HA1.out.but hb2 (fun e => by have := HNX.out _ (.inr e); omega))
  have HN2 := hidb (And.intro hsm (And.intro hi1 (And.intro hi2 hn2)))
  have hz2 : w1.heap.size < w2.heap.size := HA2.out.2
  clear hsm hi1 hi2 hn2 hb2
  obtain ⟨t0, t1, t2, t3, t4⟩ := at_results HA2.out
  have hfl : (fl == fl) = true := by simp
  have TW := hidb (twin_same _ _ HN2.out.1 (w2.alloc (.cells #[.int .i64 k2, .int .i64 n2, .float .f64 f2, .string s2, .slice a2 kids2.length c2] 36)) (in_below (below_new w2 _) HN2.out.2.1) (in_below (below_new w2 _) HN2.out.2.2.1))
  simp only [Tr.val, Tr.cells] at TW
  go_wp2_with fail
  refine TW.out.mono ?_
  rintro e w3 ⟨rfl, hb3⟩
  have HB3 := hidb (show Below w2.heap.size w2 w3 from (below_new w2 _).trans (hb3.mono (by simp)))
  clear hb3
  go_wp2_with fail
  go_ret
  exact ⟨rfl, (HN2.out.2.2.2.keep HB3.out).from HBX.out⟩

set_option maxHeartbeats 2000000 in
set_option maxRecDepth 100000 in
theorem step_4 (h : SA w bb rb lv ms ds place most puts R T O (.mk k n f s a c kids)) : Calls Try.prog 8 #[.pointer (some ⟨bb, 0, none⟩), .pointer (some ⟨rb, 0, none⟩), actV 4 k n f s a kids.length c] w fun e w' => e = .returned (.bool true) ∧ Nxt w bb rb lv ms most puts w' := by
  obtain ⟨WX, hWX⟩ : ∃ WX, w.alloc (actO 4 k n f s a kids.length c) = WX := ⟨_, rfl⟩
  have hbX : Below w.heap.size w WX := by rw [← hWX]; exact below_new w _
  have hAX : At WX w.heap.size [.int .i64 4, .int .i64 k, .int .i64 n, .float .f64 f, .string s, .slice a kids.length c] := by rw [← hWX]; exact At.new w [.int .i64 4, .int .i64 k, .int .i64 n, .float .f64 f, .string s, .slice a kids.length c] 38
  have HX := hidb (h.keep hbX)
  have HAX := hidb hAX
  have HBX := hidb hbX
  have HWX := hidb hWX
  have hzx : w.heap.size < WX.heap.size := hAX.2
  have hnx : ∀ q, PS bb rb ms lv q → q < w.heap.size := fun q hq => h.pb.lt hq
  have HNX := hidb hnx
  obtain ⟨x0, -⟩ := hAX.1 0 _ rfl
  obtain ⟨x1, -⟩ := hAX.1 1 _ rfl
  obtain ⟨x2, -⟩ := hAX.1 2 _ rfl
  obtain ⟨x3, -⟩ := hAX.1 3 _ rfl
  obtain ⟨x4, -⟩ := hAX.1 4 _ rfl
  obtain ⟨x5, -⟩ := hAX.1 5 _ rfl
  clear h hbX hAX hWX hnx
  go_enter Try.func8, Try.ntmps8
  go_wp2_with fail
  rw [HWX.out]
  obtain ⟨Q1, P1, P2⟩ := wind_two HX.out.pb
  have HP1 := hidb P1
  have HP2 := hidb P2
  clear P1 P2
  go_wp2_with fail
  refine HP1.out.mono ?_
  rintro e w1 ⟨rfl, hq1, hb1⟩
  have HB1 := hidb (And.intro hq1 hb1)
  clear hq1 hb1
  go_wp2_with fail
  refine (HP2.out w1 w1 HB1.out.1 HB1.out.2 (Below.refl _ _)).mono ?_
  rintro e w2 ⟨rfl, hn2⟩
  have HN2 := hidb hn2
  clear hn2
  go_wp2_with fail
  go_ret
  exact ⟨rfl, HN2.out.from HBX.out⟩

set_option maxHeartbeats 2000000 in
set_option maxRecDepth 100000 in
theorem step_0 {op : Int} (h : SA w bb rb lv ms ds place most puts R T O (.mk k n f s a c kids)) (o1 : (op == 1) = false) (o2 : (op == 2) = false) (o3 : (op == 3) = false) (o4 : (op == 4) = false) (o5 : (op == 5) = false) : Calls Try.prog 8 #[.pointer (some ⟨bb, 0, none⟩), .pointer (some ⟨rb, 0, none⟩), actV op k n f s a kids.length c] w fun e w' => e = .returned (.bool true) ∧ Nxt w bb rb lv ms most puts w' := by
  obtain ⟨WX, hWX⟩ : ∃ WX, w.alloc (actO op k n f s a kids.length c) = WX := ⟨_, rfl⟩
  have hbX : Below w.heap.size w WX := by rw [← hWX]; exact below_new w _
  have hAX : At WX w.heap.size [.int .i64 op, .int .i64 k, .int .i64 n, .float .f64 f, .string s, .slice a kids.length c] := by rw [← hWX]; exact At.new w [.int .i64 op, .int .i64 k, .int .i64 n, .float .f64 f, .string s, .slice a kids.length c] 38
  have HX := hidb (h.keep hbX)
  have HAX := hidb hAX
  have HBX := hidb hbX
  have HWX := hidb hWX
  have hzx : w.heap.size < WX.heap.size := hAX.2
  have hnx : ∀ q, PS bb rb ms lv q → q < w.heap.size := fun q hq => h.pb.lt hq
  have HNX := hidb hnx
  obtain ⟨x0, -⟩ := hAX.1 0 _ rfl
  obtain ⟨x1, -⟩ := hAX.1 1 _ rfl
  obtain ⟨x2, -⟩ := hAX.1 2 _ rfl
  obtain ⟨x3, -⟩ := hAX.1 3 _ rfl
  obtain ⟨x4, -⟩ := hAX.1 4 _ rfl
  obtain ⟨x5, -⟩ := hAX.1 5 _ rfl
  clear h hbX hAX hWX hnx
  go_enter Try.func8, Try.ntmps8
  go_wp2_with fail
  rw [HWX.out]
  go_wp2_with fail
  go_ret
  exact ⟨rfl, HX.out.pb.same (Below.refl _ _) |>.from HBX.out⟩
end Go.Proofs.Ytogahhbckfnllaa


/- The act that drops. -/
namespace Go.Proofs.Ytogahhbckfnllaa
open Go.RowKit Go.Lib Go.Deep
attribute [local go_sem] store_float f64bits
attribute [local go_sem ↓] Go.wp_at_zero Go.wp_at_succ
variable {w : World} {bb rb place most puts : Nat} {lv : Value} {ms : List Msg} {ds : List Tr} {R T O : Nat → Prop} {k n : Int} {f : Nat} {s : ByteArray} {a : Option Addr} {c : Nat} {kids : List Tr}

theorem infoB : (Try.prog.info? 4).map (fun i => (i.zero, i.size, i.bytes)) = some (some (.bool false), 1, 1) := by kernel_rfl
theorem infoB' : ∃ i0, Try.prog.info? 4 = some i0 ∧ i0.zero = some (.bool false) ∧ i0.size = 1 ∧ i0.bytes = 1 := info_parts infoB
abbrev bvs (bs : List Bool) : List Value := bs.map Value.bool
theorem row_keep1 {w w' : World} {base : Nat} {e : TypeId} {v : Value} {n : Nat} {xs : List Value} (h : w.ownsRow base e 1 v n xs) (hb : Below w.heap.size w w') : w'.ownsRow base e 1 v n xs :=
  row_but h (But.of_below (S := fun _ => False) hb) (fun _ _ h => h)
theorem bool_one (bs : List Bool) : ∀ u ∈ bvs bs, u.oneCell' = true := by
  intro u hu
  obtain ⟨b, _, rfl⟩ := List.mem_map.1 hu
  rfl
theorem ent_idn : Ent 23 := by
  intro args w
  kernel_rfl
theorem bools_snoc {α : Type} (p : α → Bool) (l : List α) {m : Nat} {t : α} (h : l[m]? = some t) : bvs ((l.take m).map p) ++ [.bool (p t)] = bvs ((l.take (m + 1)).map p) := by
  rw [List.take_add_one, h]
  simp
theorem bools_row {w : World} {base : Nat} {q : Option Addr} {c m : Nat} {bs : List Bool} (h : w.ownsRow base 4 1 (.slice q m c) m (bvs bs)) : BRow w q bs := by
  intro j b hj
  have hu : (bvs bs)[j]? = some (.bool b) := by simp [hj]
  rcases h.2 with ⟨e, h0⟩ | ⟨g, cap, cur, hv, _⟩
  · have := (List.getElem?_eq_some_iff.1 hj).1
    have hl := h.1
    simp at hl
    omega
  · have hq : q = some ⟨g, 0, none⟩ := by simpa using (Value.slice.inj hv).1
    subst hq
    exact ⟨g, rfl, (h.cellAt j (by have := (List.getElem?_eq_some_iff.1 hu).1; have := h.1; omega)).trans hu⟩
set_option maxHeartbeats 2000000 in
set_option maxRecDepth 100000 in
theorem step_5 (h : SA w bb rb lv ms ds place most puts R T O (.mk k n f s a c kids)) : Calls Try.prog 8 #[.pointer (some ⟨bb, 0, none⟩), .pointer (some ⟨rb, 0, none⟩), actV 5 k n f s a kids.length c] w fun e w' => e = .returned (.bool true) ∧ Nxt w bb rb lv ms most puts w' := by
  obtain ⟨WX, hWX⟩ : ∃ WX, w.alloc (actO 5 k n f s a kids.length c) = WX := ⟨_, rfl⟩
  have hbX : Below w.heap.size w WX := by rw [← hWX]; exact below_new w _
  have hAX : At WX w.heap.size [.int .i64 5, .int .i64 k, .int .i64 n, .float .f64 f, .string s, .slice a kids.length c] := by rw [← hWX]; exact At.new w [.int .i64 5, .int .i64 k, .int .i64 n, .float .f64 f, .string s, .slice a kids.length c] 38
  have HX := hidb (h.keep hbX)
  have HAX := hidb hAX
  have HBX := hidb hbX
  have HWX := hidb hWX
  have hzx : w.heap.size < WX.heap.size := hAX.2
  have hnx : ∀ q, PS bb rb ms lv q → q < w.heap.size := fun q hq => h.pb.lt hq
  have HNX := hidb hnx
  obtain ⟨x0, -⟩ := hAX.1 0 _ rfl
  obtain ⟨x1, -⟩ := hAX.1 1 _ rfl
  obtain ⟨x2, -⟩ := hAX.1 2 _ rfl
  obtain ⟨x3, -⟩ := hAX.1 3 _ rfl
  obtain ⟨x4, -⟩ := hAX.1 4 _ rfl
  obtain ⟨x5, -⟩ := hAX.1 5 _ rfl
  clear h hbX hAX hWX hnx
  go_enter Try.func8, Try.ntmps8
  go_wp2_with fail
  rw [HWX.out]
  obtain ⟨ga, gc, rfl⟩ := own_sl HX.out.pb.hr.row
  obtain ⟨i0, hi0, hz0, hz1', hz2'⟩ := infoB'
  have hlen := HX.out.pb.len
  have hml := HX.out.ml
  go_wp2_with fail
  clear x0 x1 x2 x3 x4 x5
  go_loopw [15, 16] (fun lv2 iv wr => ∃ (m : Nat), m ≤ ds.length ∧ iv = .int .i64 m ∧ wr.ownsRow WX.heap.size 4 1 lv2 m (bvs ((ds.take m).map (fun t => idT t (Tr.mk k n f s a c kids)))) ∧ Below WX.heap.size WX wr) (fun _ iv _ => ds.length - (RowKit.intOf iv).toNat)
  case atStart => exact ⟨0, by omega, rfl, by simpa using World.ownsRow_nil _ _ _ _, Below.refl _ _⟩
  case round =>
  obtain ⟨m, hm, rfl, hrow, hbw⟩ := hrel
  obtain ⟨q2, c2, rfl⟩ := own_sl hrow
  have HROW := hidb hrow
  have HBW := hidb hbw
  have hRw := HX.out.pb.hr.keep hbw
  obtain ⟨d0, -⟩ := hRw.box.1 0 _ rfl
  have hmw : IntKind.i64.wrap ((m : Int) + 1) = (m : Int) + 1 := by rw [IntKind.wrap_i64]; omega
  by_cases hml2 : m < ds.length
  · have hmb : (m : Int) < (ds.length : Int) := by omega
    have hmz : (0 : Int) ≤ (m : Int) := by omega
    obtain ⟨t, ht⟩ : ∃ t, ds[m]? = some t := ⟨_, List.getElem?_eq_getElem hml2⟩
    obtain ⟨k1, n1, f1, s1, a1, c1, kids1⟩ := t
    obtain ⟨g, cap, hv, -, hgl, -⟩ := hRw.at ht
    obtain ⟨rfl, rfl⟩ : ga = some ⟨g, 0, none⟩ ∧ gc = cap := by simpa using hv
    have HSF : Hid (∀ w', Below wr.heap.size wr w' → w'.cell? ⟨rb, 0, none⟩ = some (.slice (some ⟨g, 0, none⟩) ds.length gc) ∧ w'.cell? ⟨g, m * 5, none⟩ = some (.int .i64 k1) ∧ w'.cell? ⟨g, m * 5 + 1, none⟩ = some (.int .i64 n1) ∧ w'.cell? ⟨g, m * 5 + 2, none⟩ = some (.float .f64 f1) ∧ w'.cell? ⟨g, m * 5 + 3, none⟩ = some (.string s1) ∧ w'.cell? ⟨g, m * 5 + 4, none⟩ = some (.slice a1 kids1.length c1) ∧ w'.cell? ⟨w.heap.size, 1, none⟩ = some (.int .i64 k) ∧ w'.cell? ⟨w.heap.size, 2, none⟩ = some (.int .i64 n) ∧ w'.cell? ⟨w.heap.size, 3, none⟩ = some (.float .f64 f) ∧ w'.cell? ⟨w.heap.size, 4, none⟩ = some (.string s) ∧ w'.cell? ⟨w.heap.size, 5, none⟩ = some (.slice a kids.length c)) := hidb (fun w' hb => by
      have hr2 := hRw.keep hb
      have h := (HAX.out.keep hbw).keep hb
      obtain ⟨g', cap', hv', -, -, u0, u1, u2, u3, u4⟩ := hr2.at ht
      obtain ⟨rfl, rfl⟩ : g = g' ∧ gc = cap' := by simpa using hv'
      exact ⟨(hr2.box.1 0 _ rfl).1, u0, u1, u2, u3, u4, (h.1 1 _ rfl).1, (h.1 2 _ rfl).1, (h.1 3 _ rfl).1, (h.1 4 _ rfl).1, (h.1 5 _ rfl).1⟩)
    have hti := (hRw.tr _ (List.mem_of_getElem? ht)).1
    have ID := hidb (idn_any (Tr.mk k1 n1 f1 s1 a1 c1 kids1) (Tr.mk k n f s a c kids) wr.drew (in_below ((Below.refl _ _).drew) hti) (in_below ((Below.refl _ _).drew) (in_below hbw HX.out.xin)))
    simp only [Tr.val, Tr.cells] at ID
    have HNXT := hidb (bools_snoc (fun t => idT t (Tr.mk k n f s a c kids)) ds ht)
    obtain ⟨r, hr⟩ : ∃ r, idT (Tr.mk k1 n1 f1 s1 a1 c1 kids1) (Tr.mk k n f s a c kids) = r := ⟨_, rfl⟩
    rw [hr] at ID
    simp only [hr] at HNXT
    have HS0 := hidb (HSF.out wr.drew ((Below.refl _ _).drew))
    have hzw := hbw.size
    clear hrow hbw hRw ht hv hti hr
    go_wp2_with fail
    refine wp_region_D (fun w' => w'.cell? ⟨rb, 0, none⟩ = some (.slice (some ⟨g, 0, none⟩) ds.length gc) ∧ w'.cell? ⟨g, m * 5, none⟩ = some (.int .i64 k1) ∧ w'.cell? ⟨g, m * 5 + 1, none⟩ = some (.int .i64 n1) ∧ w'.cell? ⟨g, m * 5 + 2, none⟩ = some (.float .f64 f1) ∧ w'.cell? ⟨g, m * 5 + 3, none⟩ = some (.string s1) ∧ w'.cell? ⟨g, m * 5 + 4, none⟩ = some (.slice a1 kids1.length c1) ∧ w'.cell? ⟨w.heap.size, 1, none⟩ = some (.int .i64 k) ∧ w'.cell? ⟨w.heap.size, 2, none⟩ = some (.int .i64 n) ∧ w'.cell? ⟨w.heap.size, 3, none⟩ = some (.float .f64 f) ∧ w'.cell? ⟨w.heap.size, 4, none⟩ = some (.string s) ∧ w'.cell? ⟨w.heap.size, 5, none⟩ = some (.slice a kids.length c)) [] (by kernel_rfl) ?_
    refine wpAnyD_takeL (i := 0) (v := ?vv0x0) rfl (by kernel_rfl) (by kernel_rfl) (by kernel_rfl) (by kernel_rfl) (fun _ _ _ h => h) HS0.out rfl ?hy0x0 ?_
    case hy0x0 => intro wy hSw; obtain ⟨y0, y1, y2, y3, y4, y5, z1, z2, z3, z4, z5⟩ := hSw; go_simp; try with_reducible rfl
    simp only [Act.put, List.setIfInBounds_toArray, List.set_cons_zero, List.set_cons_succ]
    refine wpAnyD_takeL (i := 1) (v := ?vv1x0) rfl (by kernel_rfl) (by kernel_rfl) (by kernel_rfl) (by kernel_rfl) (fun _ _ _ h => h) HS0.out rfl ?hy1x0 ?_
    case hy1x0 => intro wy hSw; obtain ⟨y0, y1, y2, y3, y4, y5, z1, z2, z3, z4, z5⟩ := hSw; go_simp; try with_reducible rfl
    simp only [Act.put, List.setIfInBounds_toArray, List.set_cons_zero, List.set_cons_succ]
    refine wpAnyD_takeL (i := 2) (v := ?vv2x0) rfl (by kernel_rfl) (by kernel_rfl) (by kernel_rfl) (by kernel_rfl) (fun _ _ _ h => h) HS0.out rfl ?hy2x0 ?_
    case hy2x0 => intro wy hSw; obtain ⟨y0, y1, y2, y3, y4, y5, z1, z2, z3, z4, z5⟩ := hSw; go_simp; try with_reducible rfl
    simp only [Act.put, List.setIfInBounds_toArray, List.set_cons_zero, List.set_cons_succ]
    refine wpAnyD_takeL (i := 3) (v := ?vv3x0) rfl (by kernel_rfl) (by kernel_rfl) (by kernel_rfl) (by kernel_rfl) (fun _ _ _ h => h) HS0.out rfl ?hy3x0 ?_
    case hy3x0 => intro wy hSw; obtain ⟨y0, y1, y2, y3, y4, y5, z1, z2, z3, z4, z5⟩ := hSw; go_simp; try with_reducible rfl
    simp only [Act.put, List.setIfInBounds_toArray, List.set_cons_zero, List.set_cons_succ]
    refine wpAnyD_takeL (i := 4) (v := ?vv4x0) rfl (by kernel_rfl) (by kernel_rfl) (by kernel_rfl) (by kernel_rfl) (fun _ _ _ h => h) HS0.out rfl ?hy4x0 ?_
    case hy4x0 => intro wy hSw; obtain ⟨y0, y1, y2, y3, y4, y5, z1, z2, z3, z4, z5⟩ := hSw; go_simp; try with_reducible rfl
    simp only [Act.put, List.setIfInBounds_toArray, List.set_cons_zero, List.set_cons_succ]
    refine wpAnyD_takeL (i := 5) (v := ?vv5x0) rfl (by kernel_rfl) (by kernel_rfl) (by kernel_rfl) (by kernel_rfl) (fun _ _ _ h => h) HS0.out rfl ?hy5x0 ?_
    case hy5x0 => intro wy hSw; obtain ⟨y0, y1, y2, y3, y4, y5, z1, z2, z3, z4, z5⟩ := hSw; go_simp; try with_reducible rfl
    simp only [Act.put, List.setIfInBounds_toArray, List.set_cons_zero, List.set_cons_succ]
    refine wpAnyD_takeL (i := 6) (v := ?vv6x0) rfl (by kernel_rfl) (by kernel_rfl) (by kernel_rfl) (by kernel_rfl) (fun _ _ _ h => h) HS0.out rfl ?hy6x0 ?_
    case hy6x0 => intro wy hSw; obtain ⟨y0, y1, y2, y3, y4, y5, z1, z2, z3, z4, z5⟩ := hSw; go_simp; try with_reducible rfl
    simp only [Act.put, List.setIfInBounds_toArray, List.set_cons_zero, List.set_cons_succ]
    refine wpAnyD_takeL (i := 7) (v := ?vv7x0) rfl (by kernel_rfl) (by kernel_rfl) (by kernel_rfl) (by kernel_rfl) (fun _ _ _ h => h) HS0.out rfl ?hy7x0 ?_
    case hy7x0 => intro wy hSw; obtain ⟨y0, y1, y2, y3, y4, y5, z1, z2, z3, z4, z5⟩ := hSw; go_simp; try with_reducible rfl
    simp only [Act.put, List.setIfInBounds_toArray, List.set_cons_zero, List.set_cons_succ]
    refine wpAnyD_takeL (i := 8) (v := ?vv8x0) rfl (by kernel_rfl) (by kernel_rfl) (by kernel_rfl) (by kernel_rfl) (fun _ _ _ h => h) HS0.out rfl ?hy8x0 ?_
    case hy8x0 => intro wy hSw; obtain ⟨y0, y1, y2, y3, y4, y5, z1, z2, z3, z4, z5⟩ := hSw; go_simp; try with_reducible rfl
    simp only [Act.put, List.setIfInBounds_toArray, List.set_cons_zero, List.set_cons_succ]
    refine wpAnyD_takeL (i := 9) (v := ?vv9x0) rfl (by kernel_rfl) (by kernel_rfl) (by kernel_rfl) (by kernel_rfl) (fun _ _ _ h => h) HS0.out rfl ?hy9x0 ?_
    case hy9x0 => intro wy hSw; obtain ⟨y0, y1, y2, y3, y4, y5, z1, z2, z3, z4, z5⟩ := hSw; go_simp; try with_reducible rfl
    simp only [Act.put, List.setIfInBounds_toArray, List.set_cons_zero, List.set_cons_succ]
    refine wpAnyD_stepL (i := 10) (by kernel_rfl) rfl (fun K hK => ?_)
    refine step_call rfl (run_call ent_idn #[.tmp 98, .tmp 100] _ rfl #[.agg #[.int .i64 k1, .int .i64 n1, .float .f64 f1, .string s1, .slice a1 kids1.length c1], .agg #[.int .i64 k, .int .i64 n, .float .f64 f, .string s, .slice a kids.length c]] rfl) ID.out (fun e w4 hh => ?_)
    obtain ⟨rfl, hb4⟩ := hh
    have HB4 := hidb (undrew hb4)
    refine hK _ _ (fun _ => HSF.out w4 HB4.out) ?_
    clear hK K hb4 ID
    simp only [Act.put, List.setIfInBounds_toArray, List.set_cons_zero, List.set_cons_succ]
    have HB5 : Hid (Below wr.heap.size wr (w4.alloc (.cells #[.bool r] 4))) := hidb (HB4.out.alloc HB4.out.size _)
    refine wpAnyD_stepL (i := 11) (by kernel_rfl) rfl (fun K hK => ?_)
    go_simp
    refine hK _ _ (fun _ => HSF.out _ HB5.out) ?_
    clear hK K
    refine wpAnyD_stepL (i := 12) (by kernel_rfl) rfl (fun K hK => ?_)
    refine step_app rfl (.tmp 91) (.tmp 102) 60 rfl WX.heap.size 4 i0 (.bool false) 1 1 Try.underlying60 hi0 hz0 hz1' hz2' rfl (by decide) (.slice q2 m c2) m (bvs ((ds.take m).map (fun t => idT t (Tr.mk k n f s a c kids)))) rfl ?own ⟨w4.heap.size, 0, none⟩ 1 1 [.bool r] rfl rfl (cell_one_new w4 _ _) (by simp [Value.oneCell']) (by unfold maxLen; omega) (by omega) (by have := HB5.out.size; omega) ?_
    case own => exact row_keep1 HROW.out HB5.out
    intro v9 w9 hown9 hgr9 hat9
    rw [HNXT.out] at hown9
    have HO9 := hidb hown9
    have HB9 : Hid (Below WX.heap.size WX w9) := hidb ((HBW.out.trans (HB5.out.mono HBW.out.size)).grown hgr9 (by have := HB5.out.size; omega) (fun q e => (HROW.out.lt q e).1))
    have HS9 : Hid (w9.cell? ⟨rb, 0, none⟩ = some (.slice (some ⟨g, 0, none⟩) ds.length gc) ∧ w9.cell? ⟨g, m * 5, none⟩ = some (.int .i64 k1) ∧ w9.cell? ⟨g, m * 5 + 1, none⟩ = some (.int .i64 n1) ∧ w9.cell? ⟨g, m * 5 + 2, none⟩ = some (.float .f64 f1) ∧ w9.cell? ⟨g, m * 5 + 3, none⟩ = some (.string s1) ∧ w9.cell? ⟨g, m * 5 + 4, none⟩ = some (.slice a1 kids1.length c1) ∧ w9.cell? ⟨w.heap.size, 1, none⟩ = some (.int .i64 k) ∧ w9.cell? ⟨w.heap.size, 2, none⟩ = some (.int .i64 n) ∧ w9.cell? ⟨w.heap.size, 3, none⟩ = some (.float .f64 f) ∧ w9.cell? ⟨w.heap.size, 4, none⟩ = some (.string s) ∧ w9.cell? ⟨w.heap.size, 5, none⟩ = some (.slice a kids.length c)) := hidb (by
      have hbb := HSF.out _ HB5.out
      have hgb := grown_but hgr9
      have hno : ∀ q, q < WX.heap.size → ¬ (Value.slice q2 m c2).ownBlock = some q := fun q hq e => by have := (HROW.out.lt q e).1; omega
      have hgx : g < WX.heap.size := HX.out.pb.hr.lt (.inl (.inr rfl))
      have hrx : rb < WX.heap.size := HX.out.pb.hr.box.2
      have cl : ∀ (p : Addr) (v : Value), p.block < WX.heap.size → (w4.alloc (.cells #[.bool r] 4)).cell? p = some v → w9.cell? p = some v := fun p v hp hv => (hgb.cell (World.block_lt_of_cell? _ _ hv) (hno _ hp)).trans hv
      exact ⟨cl _ _ hrx hbb.1, cl _ _ hgx hbb.2.1, cl _ _ hgx hbb.2.2.1, cl _ _ hgx hbb.2.2.2.1, cl _ _ hgx hbb.2.2.2.2.1, cl _ _ hgx hbb.2.2.2.2.2.1, cl _ _ hzx hbb.2.2.2.2.2.2.1, cl _ _ hzx hbb.2.2.2.2.2.2.2.1, cl _ _ hzx hbb.2.2.2.2.2.2.2.2.1, cl _ _ hzx hbb.2.2.2.2.2.2.2.2.2.1, cl _ _ hzx hbb.2.2.2.2.2.2.2.2.2.2⟩)
    refine hK _ _ (fun _ => HS9.out) ?_
    clear hK K hown9 hgr9 hat9
    simp only [Act.put, List.setIfInBounds_toArray, List.set_cons_zero, List.set_cons_succ]
    refine wpAnyD_stepL (i := 13) (by kernel_rfl) rfl (fun K hK => ?_)
    go_simp
    refine hK _ _ (fun _ => HS9.out) ?_
    clear hK K
    refine wpAnyD_done (by kernel_rfl) ?_ _
    go_wp2_with fail
    go_roundw
    case rel => exact ⟨m + 1, by omega, by go_num, HO9.out, HB9.out⟩
    case measure => simp [RowKit.intOf]; omega
  · obtain rfl : m = ds.length := by omega
    have hmn : ¬ (ds.length : Int) < (ds.length : Int) := by omega
    rw [List.take_length] at HROW
    have hPW := HX.out.pb.keep hbw
    have hxw : XA wr w.heap.size 5 (Tr.mk k n f s a c kids) O := ⟨HAX.out.keep hbw, ⟨in_below hbw HX.out.xin, HX.out.xon⟩, fun q hq => Nat.lt_of_lt_of_le (HX.out.xo q hq).1 hbw.size⟩
    have hbl : (ds.map (fun t => idT t (Tr.mk k n f s a c kids))).length = ds.length := by simp
    have DT := drop_two (q := q2) (c0 := c2) hPW HX.out.ml hxw (fun q hq e => by
      rcases hq with rfl | hq
      · have := HNX.out _ (.inl e); omega
      · exact (HX.out.xo q hq).2 (.inl e)) (bools_row HROW.out) (fun g e hb => by
        have h1 := (HROW.out.lt g (by rw [e]; rfl)).1
        have := HNX.out _ (.inl hb); omega) hbl (fun j t ht => by rw [List.getElem?_map, ht]; rfl)
    rw [hbl] at DT
    obtain ⟨fl, Q1, P1, P2⟩ := DT
    have HP1 := hidb P1
    have HP2 := hidb P2
    clear P1 P2 hrow hbw hRw hPW hxw
    have hzr := HBW.out.size
    go_wp2_with fail
    refine HP1.out.mono ?_
    rintro e w1 ⟨k1, n1, f1, s1, a1, c1, kids1, rfl, hq1, hb1⟩
    have HB1 := hidb (And.intro hq1 hb1)
    clear hq1 hb1
    have HA1 := hidb (At.new w1 [.int .i64 k1, .int .i64 n1, .float .f64 f1, .string s1, .slice a1 kids1.length c1] 36)
    have hz1 := HB1.out.2.size
    go_wp2_with fail
    refine (HP2.out _ w1 _ HB1.out.1 HB1.out.2 (below_new w1 _)).mono ?_
    rintro e w2 ⟨k2, n2, f2, s2, a2, c2', kids2, rfl, hsm, hi1, hi2, hn2, hb2⟩
    have HA2 := hidb (HA1.out.but hb2 (fun e => by have := HNX.out _ (.inr e); omega))
    have HN2 := hidb (And.intro hsm (And.intro hi1 (And.intro hi2 hn2)))
    have hz2 : w1.heap.size < w2.heap.size := HA2.out.2
    clear hsm hi1 hi2 hn2 hb2
    obtain ⟨t0, t1, t2, t3, t4⟩ := at_results HA2.out
    have hfl : (fl == fl) = true := by simp
    have TW := hidb (twin_same _ _ HN2.out.1 (w2.alloc (.cells #[.int .i64 k2, .int .i64 n2, .float .f64 f2, .string s2, .slice a2 kids2.length c2'] 36)) (in_below (below_new w2 _) HN2.out.2.1) (in_below (below_new w2 _) HN2.out.2.2.1))
    simp only [Tr.val, Tr.cells] at TW
    go_wp2_with fail
    refine TW.out.mono ?_
    rintro e w3 ⟨rfl, hb3⟩
    have HB3 := hidb (show Below w2.heap.size w2 w3 from (below_new w2 _).trans (hb3.mono (by simp)))
    clear hb3
    go_wp2_with fail
    go_ret
    exact ⟨rfl, (HN2.out.2.2.2.keep HB3.out).from (HBX.out.trans (HBW.out.mono HBX.out.size))⟩
end Go.Proofs.Ytogahhbckfnllaa


