import Derived.Test.YtjiigabfdigkaaaG11
import Derived.Deep.LoopGhost
import Derived.Test.YtjiigabfdigkaaaG05
/- Lanes that rise, as the program asks. -/
namespace Go.Proofs.Ytjiigabfdigkaaa
open Go.RowKit
attribute [local go_sem] store_float

def orZ (u v : Int) : Int := if u ≠ 0 then u else v
theorem orZ_l {u v : Int} (h : ¬ u = 0) : orZ u v = u := by unfold orZ; rw [if_pos h]
theorem orZ_r {u v : Int} (h : u = 0) : orZ u v = v := by unfold orZ; rw [if_neg (fun k => k h)]
set_option maxHeartbeats 1000000 in
theorem or_any (u v : Int) (w : World) (b : Nat) (h0 : w.cell? ⟨b, 0, none⟩ = some (.int .i64 u)) (h1 : w.cell? ⟨b, 1, none⟩ = some (.int .i64 v)) : Calls Try.prog 45 #[.slice (some ⟨b, 0, none⟩) 2 2] w fun e w' => e = .returned (.int .i64 (orZ u v)) ∧ Below w.heap.size w w' := by
  have HC := hidb (And.intro h0 h1)
  clear h0 h1
  go_enter Try.func45, Try.ntmps45
  go_wp2_with fail
  go_loopw [8] (fun iv wr => ∃ (m : Nat), m ≤ 2 ∧ iv = .int .i64 m ∧ (1 ≤ m → u = 0) ∧ (2 ≤ m → v = 0) ∧ wr = w) (fun iv _ => 2 - (RowKit.intOf iv).toNat)
  case atStart => exact ⟨0, by omega, rfl, fun h => by omega, fun h => by omega, rfl⟩
  case round =>
    obtain ⟨m, hm, rfl, hu, hv, hwx⟩ := hrel
    obtain rfl := hwx.symm
    have HU := hidb hu
    have HV := hidb hv
    clear hu hv
    rcases (show m = 0 ∨ m = 1 ∨ m = 2 by omega) with rfl | rfl | rfl
    · have c0 := HC.out.1
      by_cases hz : u = 0
      · have HZ := hidb hz
        go_wp2_with fail
        go_roundw
        case rel => exact ⟨1, by simp [HZ.out]⟩
        case measure => simp [RowKit.intOf]
      · have HZ := hidb hz
        go_wp2_with fail
        go_ret
        exact ⟨by rw [orZ_l HZ.out]; rfl, Below.refl _ _⟩
    · have c1 := HC.out.2
      have hu0 := hidb (HU.out (by omega))
      by_cases hz : v = 0
      · have HZ := hidb hz
        go_wp2_with fail
        go_roundw
        case rel => exact ⟨2, by simp [HZ.out, hu0.out]⟩
        case measure => simp [RowKit.intOf]
      · have HZ := hidb hz
        go_wp2_with fail
        go_ret
        exact ⟨by rw [orZ_r hu0.out]; rfl, Below.refl _ _⟩
    · have HE := hidb (And.intro (HU.out (by omega)) (HV.out (by omega)))
      go_wp2_with fail
      go_ret
      exact ⟨by rw [orZ_r HE.out.1, HE.out.2]; rfl, Below.refl _ _⟩
theorem ent_cmp : Ent 46 := by
  intro args w
  kernel_rfl
theorem ent_or : Ent 45 := by
  intro args w
  kernel_rfl
theorem ent_ends : Ent 29 := by
  intro args w
  kernel_rfl
/-- How two lanes stand. -/
def cmpE (a b : Ln) : Int := orZ (cmpZ a.frm b.frm) (cmpZ a.to b.to)
set_option maxHeartbeats 1000000 in
theorem ends_any (a b : Ln) (w : World) : Calls Try.prog 29 #[.agg #[.int .i64 a.frm, .int .i64 a.to, .slice a.a a.n a.c], .agg #[.int .i64 b.frm, .int .i64 b.to, .slice b.a b.n b.c]] w fun e w' => e = .returned (.int .i64 (cmpE a b)) ∧ Below w.heap.size w w' := by
  have HA := hidb ((At.new w [.int .i64 a.frm, .int .i64 a.to, .slice a.a a.n a.c] 49).keep (below_new _ (.cells #[.int .i64 b.frm, .int .i64 b.to, .slice b.a b.n b.c] 49)))
  have HB0 := At.new (w.alloc (.cells #[.int .i64 a.frm, .int .i64 a.to, .slice a.a a.n a.c] 49)) [.int .i64 b.frm, .int .i64 b.to, .slice b.a b.n b.c] 49
  rw [show (w.alloc (.cells #[.int .i64 a.frm, .int .i64 a.to, .slice a.a a.n a.c] 49)).heap.size = w.heap.size + 1 by simp] at HB0
  have HB := hidb HB0
  clear HB0
  go_enter Try.func29, Try.ntmps29
  go_wp2_with fail
  obtain ⟨X, hX⟩ : ∃ X, ((w.alloc (.cells #[.int .i64 a.frm, .int .i64 a.to, .slice a.a a.n a.c] 49)).alloc (.cells #[.int .i64 b.frm, .int .i64 b.to, .slice b.a b.n b.c] 49)) = X := ⟨_, rfl⟩
  have HWX : Hid (Below w.heap.size w X) := hidb (by rw [← hX]; exact ((Below.refl _ _).alloc (Nat.le_refl _) _).alloc (by simp) _)
  have HSA : Hid (∀ W9, Below X.heap.size X W9 → W9.cell? ⟨w.heap.size, 0, none⟩ = some (.int .i64 a.frm) ∧ W9.cell? ⟨w.heap.size, 1, none⟩ = some (.int .i64 a.to) ∧ W9.cell? ⟨w.heap.size + 1, 0, none⟩ = some (.int .i64 b.frm) ∧ W9.cell? ⟨w.heap.size + 1, 1, none⟩ = some (.int .i64 b.to)) := hidb (fun W9 hb => by
    rw [← hX] at hb
    have h1 := HA.out.keep hb
    have h2 := HB.out.keep hb
    exact ⟨(h1.1 0 _ rfl).1, (h1.1 1 _ rfl).1, (h2.1 0 _ rfl).1, (h2.1 1 _ rfl).1⟩)
  rw [hX]
  clear hX HA HB
  refine wp_region_D (fun W9 => W9.cell? ⟨w.heap.size, 0, none⟩ = some (.int .i64 a.frm) ∧ W9.cell? ⟨w.heap.size, 1, none⟩ = some (.int .i64 a.to) ∧ W9.cell? ⟨w.heap.size + 1, 0, none⟩ = some (.int .i64 b.frm) ∧ W9.cell? ⟨w.heap.size + 1, 1, none⟩ = some (.int .i64 b.to)) [] (by kernel_rfl) ?_
  have hbd : Below X.heap.size X X.drew := (Below.refl _ _).drew
  generalize X.drew = wd at hbd ⊢
  have HD := hidb hbd
  have HT := hidb (HSA.out wd hbd)
  clear hbd
  refine wpAnyD_takeL (i := 0) (v := ?vv0r) rfl (by kernel_rfl) (by kernel_rfl) (by kernel_rfl) (by kernel_rfl) (fun _ _ _ h => h) HT.out rfl ?hy0r ?_
  case hy0r => intro wy hSw; obtain ⟨q0, q1, q2, q3⟩ := hSw; go_simp; try with_reducible rfl
  simp only [Act.put, List.setIfInBounds_toArray, List.set_cons_zero, List.set_cons_succ]
  refine wpAnyD_takeL (i := 1) (v := ?vv1r) rfl (by kernel_rfl) (by kernel_rfl) (by kernel_rfl) (by kernel_rfl) (fun _ _ _ h => h) HT.out rfl ?hy1r ?_
  case hy1r => intro wy hSw; obtain ⟨q0, q1, q2, q3⟩ := hSw; go_simp; try with_reducible rfl
  simp only [Act.put, List.setIfInBounds_toArray, List.set_cons_zero, List.set_cons_succ]
  refine wpAnyD_takeL (i := 2) (v := ?vv2r) rfl (by kernel_rfl) (by kernel_rfl) (by kernel_rfl) (by kernel_rfl) (fun _ _ _ h => h) HT.out rfl ?hy2r ?_
  case hy2r => intro wy hSw; obtain ⟨q0, q1, q2, q3⟩ := hSw; go_simp; try with_reducible rfl
  simp only [Act.put, List.setIfInBounds_toArray, List.set_cons_zero, List.set_cons_succ]
  refine wpAnyD_takeL (i := 3) (v := ?vv3r) rfl (by kernel_rfl) (by kernel_rfl) (by kernel_rfl) (by kernel_rfl) (fun _ _ _ h => h) HT.out rfl ?hy3r ?_
  case hy3r => intro wy hSw; obtain ⟨q0, q1, q2, q3⟩ := hSw; go_simp; try with_reducible rfl
  simp only [Act.put, List.setIfInBounds_toArray, List.set_cons_zero, List.set_cons_succ]
  refine wpAnyD_takeL (i := 5) (v := ?vv5r) rfl (by kernel_rfl) (by kernel_rfl) (by kernel_rfl) (by kernel_rfl) (fun _ _ _ h => h) HT.out rfl ?hy5r ?_
  case hy5r => intro wy hSw; obtain ⟨q0, q1, q2, q3⟩ := hSw; go_simp; try with_reducible rfl
  simp only [Act.put, List.setIfInBounds_toArray, List.set_cons_zero, List.set_cons_succ]
  refine wpAnyD_takeL (i := 6) (v := ?vv6r) rfl (by kernel_rfl) (by kernel_rfl) (by kernel_rfl) (by kernel_rfl) (fun _ _ _ h => h) HT.out rfl ?hy6r ?_
  case hy6r => intro wy hSw; obtain ⟨q0, q1, q2, q3⟩ := hSw; go_simp; try with_reducible rfl
  simp only [Act.put, List.setIfInBounds_toArray, List.set_cons_zero, List.set_cons_succ]
  refine wpAnyD_takeL (i := 7) (v := ?vv7r) rfl (by kernel_rfl) (by kernel_rfl) (by kernel_rfl) (by kernel_rfl) (fun _ _ _ h => h) HT.out rfl ?hy7r ?_
  case hy7r => intro wy hSw; obtain ⟨q0, q1, q2, q3⟩ := hSw; go_simp; try with_reducible rfl
  simp only [Act.put, List.setIfInBounds_toArray, List.set_cons_zero, List.set_cons_succ]
  refine wpAnyD_takeL (i := 8) (v := ?vv8r) rfl (by kernel_rfl) (by kernel_rfl) (by kernel_rfl) (by kernel_rfl) (fun _ _ _ h => h) HT.out rfl ?hy8r ?_
  case hy8r => intro wy hSw; obtain ⟨q0, q1, q2, q3⟩ := hSw; go_simp; try with_reducible rfl
  simp only [Act.put, List.setIfInBounds_toArray, List.set_cons_zero, List.set_cons_succ]
  refine wpAnyD_stepL (i := 4) (by kernel_rfl) rfl (fun K hK => ?_)
  refine step_call rfl (run_call ent_cmp #[.tmp 6, .tmp 8] _ rfl #[.int .i64 a.frm, .int .i64 b.frm] rfl) (compare_any _ _ wd) ?_
  rintro e w7 ⟨rfl, hw7⟩
  rw [hw7]
  clear hw7
  refine hK _ _ (fun _ => HT.out) ?_
  clear hK K
  simp only [Act.put, List.setIfInBounds_toArray, List.set_cons_zero, List.set_cons_succ]
  refine wpAnyD_stepL (i := 9) (by kernel_rfl) rfl (fun K hK => ?_)
  refine step_call rfl (run_call ent_cmp #[.tmp 11, .tmp 13] _ rfl #[.int .i64 a.to, .int .i64 b.to] rfl) (compare_any _ _ wd) ?_
  rintro e w7 ⟨rfl, hw7⟩
  rw [hw7]
  clear hw7
  refine hK _ _ (fun _ => HT.out) ?_
  clear hK K
  simp only [Act.put, List.setIfInBounds_toArray, List.set_cons_zero, List.set_cons_succ]
  refine wpAnyD_stepL (i := 10) (by kernel_rfl) rfl (fun K hK => ?_)
  go_simp
  have HAR := hidb (At.new wd [.int .i64 (cmpZ a.frm b.frm), .int .i64 (cmpZ a.to b.to)] 3)
  have HDA := hidb (HD.out.alloc HD.out.size (.cells #[.int .i64 (cmpZ a.frm b.frm), .int .i64 (cmpZ a.to b.to)] 3))
  refine hK _ _ (fun _ => HSA.out _ HDA.out) ?_
  clear hK K
  refine wpAnyD_stepL (i := 11) (by kernel_rfl) rfl (fun K hK => ?_)
  refine step_call rfl (run_call ent_or #[.tmp 15] _ rfl #[.slice (some ⟨wd.heap.size, 0, none⟩) 2 2] rfl) (or_any _ _ _ wd.heap.size (HAR.out.1 0 _ rfl).1 (HAR.out.1 1 _ rfl).1) ?_
  rintro e w8 ⟨rfl, hb8⟩
  have HD8 := hidb (HDA.out.trans (hb8.mono HDA.out.size))
  refine hK _ _ (fun _ => HSA.out _ HD8.out) ?_
  clear hK K hb8
  simp only [Act.put, List.setIfInBounds_toArray, List.set_cons_zero, List.set_cons_succ]
  have HT8 := hidb (HSA.out _ HD8.out)
  refine wpAnyD_stepL (i := 12) (by kernel_rfl) rfl (fun K hK => ?_)
  go_simp
  refine hK _ _ (fun _ => HT8.out) ?_
  clear hK K
  refine wpAnyD_done (by kernel_rfl) ?_ _
  go_wp2_with fail
  go_ret
  exact ⟨rfl, HWX.out.trans (HD8.out.mono HWX.out.size)⟩
def LtE (a b : Ln) : Prop := a.frm < b.frm ∨ (a.frm = b.frm ∧ a.to < b.to)
instance (a b : Ln) : Decidable (LtE a b) := by unfold LtE; infer_instance
theorem cmpE_ge (x y : Ln) : decide (0 ≤ cmpE x y) = !decide (LtE x y) := by
  unfold cmpE orZ LtE cmpZ
  by_cases h1 : x.frm < y.frm
  · simp [h1]
  · by_cases h2 : y.frm < x.frm
    · have h3 : ¬ x.frm = y.frm := by omega
      simp [h1, h2, h3]
    · have h3 : x.frm = y.frm := by omega
      by_cases h4 : x.to < y.to
      · simp [h3, h4]
      · by_cases h5 : y.to < x.to <;> simp [h3, h4, h5]
def RiseE (l : List Ln) : Prop := ∀ (i : Nat) (a b : Ln), l[i]? = some a → l[i + 1]? = some b → LtE a b
set_option maxHeartbeats 4000000 in
set_option maxRecDepth 10000 in
theorem risingL_any (w : World) (q : Option Addr) (c n : Nat) (l : List Ln) (hr : RowC 3 Ln.cells w q l) (hn : l.length = n) (h63 : n ≤ 9223372036854775807) :
    Calls Try.prog 28 #[.slice q n c, .func (.func 29) #[] #[]] w (Says (RiseE l) w) := by
  have HR := hidb hr
  have HN := hidb hn
  clear hr hn
  go_enter Try.func28, Try.ntmps28
  go_wp2_with fail
  go_loopw [5] (fun iv wr => ∃ (m : Nat), 1 ≤ m ∧ (m ≤ n ∨ m = 1) ∧ iv = .int .i64 m ∧ (∀ (i : Nat) (a b : Ln), i + 1 < m → l[i]? = some a → l[i + 1]? = some b → LtE a b) ∧ Below w.heap.size w wr) (fun iv _ => n - (RowKit.intOf iv).toNat)
  case atStart => exact ⟨1, by omega, by omega, rfl, fun i a b h => by omega, Below.refl _ _⟩
  case round =>
    obtain ⟨m, hm1, hm, rfl, hri, hb⟩ := hrel
    have HRI := hidb hri
    have HB := hidb hb
    have hmv : IntKind.i64.wrap ((m : Int) - 1) = ((m - 1 : Nat) : Int) := by rw [IntKind.wrap_i64]; omega
    have HR' := HR.out.keep hb
    clear hri hb
    by_cases hml : m < n
    · have hmb : (m : Int) < (n : Int) := by omega
      have hmw : IntKind.i64.wrap ((m : Int) + 1) = (m : Int) + 1 := by rw [IntKind.wrap_i64]; omega
      have hmz : (0 : Int) ≤ (m : Int) := by omega
      have hmy : ((m - 1 : Nat) : Int) < (n : Int) := by omega
      have hmx : (0 : Int) ≤ ((m - 1 : Nat) : Int) := by omega
      obtain ⟨x, b, o, hx, rfl, hlt, hc⟩ := HR'.at (m - 1) (by have := HN.out; omega)
      obtain ⟨y, b2, o2, hy, hq, -, hd⟩ := HR'.at m (by have := HN.out; omega)
      obtain ⟨rfl, rfl⟩ : b = b2 ∧ o = o2 := by simpa using hq
      have HXY := hidb (And.intro hx hy)
      have HSA : Hid (∀ W9, Below wr.heap.size wr W9 → W9.cell? ⟨b, o + (m - 1) * 3, none⟩ = some (.int .i64 x.frm) ∧ W9.cell? ⟨b, o + (m - 1) * 3 + 1, none⟩ = some (.int .i64 x.to) ∧ W9.cell? ⟨b, o + (m - 1) * 3 + 2, none⟩ = some (.slice x.a x.n x.c) ∧ W9.cell? ⟨b, o + m * 3, none⟩ = some (.int .i64 y.frm) ∧ W9.cell? ⟨b, o + m * 3 + 1, none⟩ = some (.int .i64 y.to) ∧ W9.cell? ⟨b, o + m * 3 + 2, none⟩ = some (.slice y.a y.n y.c)) := hidb (fun W9 hb => by
        have cl : ∀ (k : Nat), W9.cell? ⟨b, k, none⟩ = wr.cell? ⟨b, k, none⟩ := fun k => hb.cell (p := ⟨b, k, none⟩) hlt
        exact ⟨(cl _).trans (hc 0 (by omega)), (cl _).trans (hc 1 (by omega)), (cl _).trans (hc 2 (by omega)), (cl _).trans (hd 0 (by omega)), (cl _).trans (hd 1 (by omega)), (cl _).trans (hd 2 (by omega))⟩)
      clear hx hy hq hc hd HR'
      go_wp2_with fail
      refine wp_region_D (fun W9 => W9.cell? ⟨b, o + (m - 1) * 3, none⟩ = some (.int .i64 x.frm) ∧ W9.cell? ⟨b, o + (m - 1) * 3 + 1, none⟩ = some (.int .i64 x.to) ∧ W9.cell? ⟨b, o + (m - 1) * 3 + 2, none⟩ = some (.slice x.a x.n x.c) ∧ W9.cell? ⟨b, o + m * 3, none⟩ = some (.int .i64 y.frm) ∧ W9.cell? ⟨b, o + m * 3 + 1, none⟩ = some (.int .i64 y.to) ∧ W9.cell? ⟨b, o + m * 3 + 2, none⟩ = some (.slice y.a y.n y.c)) [] (by kernel_rfl) ?_
      have hbd : Below wr.heap.size wr wr.drew := (Below.refl _ _).drew
      generalize wr.drew = wd at hbd ⊢
      have HD := hidb hbd
      have HT := hidb (HSA.out wd hbd)
      clear hbd
      refine wpAnyD_takeL (i := 0) (v := ?vv0r) rfl (by kernel_rfl) (by kernel_rfl) (by kernel_rfl) (by kernel_rfl) (fun _ _ _ h => h) HT.out rfl ?hy0r ?_
      case hy0r => intro wy hSw; obtain ⟨q0, q1, q2, q3, q4, q5⟩ := hSw; go_simp; try with_reducible rfl
      simp only [Act.put, List.setIfInBounds_toArray, List.set_cons_zero, List.set_cons_succ]
      refine wpAnyD_takeL (i := 1) (v := ?vv1r) rfl (by kernel_rfl) (by kernel_rfl) (by kernel_rfl) (by kernel_rfl) (fun _ _ _ h => h) HT.out rfl ?hy1r ?_
      case hy1r => intro wy hSw; obtain ⟨q0, q1, q2, q3, q4, q5⟩ := hSw; go_simp; try with_reducible rfl
      simp only [Act.put, List.setIfInBounds_toArray, List.set_cons_zero, List.set_cons_succ]
      refine wpAnyD_takeL (i := 2) (v := ?vv2r) rfl (by kernel_rfl) (by kernel_rfl) (by kernel_rfl) (by kernel_rfl) (fun _ _ _ h => h) HT.out rfl ?hy2r ?_
      case hy2r => intro wy hSw; obtain ⟨q0, q1, q2, q3, q4, q5⟩ := hSw; go_simp; try with_reducible rfl
      simp only [Act.put, List.setIfInBounds_toArray, List.set_cons_zero, List.set_cons_succ]
      refine wpAnyD_takeL (i := 3) (v := ?vv3r) rfl (by kernel_rfl) (by kernel_rfl) (by kernel_rfl) (by kernel_rfl) (fun _ _ _ h => h) HT.out rfl ?hy3r ?_
      case hy3r => intro wy hSw; obtain ⟨q0, q1, q2, q3, q4, q5⟩ := hSw; go_simp; try with_reducible rfl
      simp only [Act.put, List.setIfInBounds_toArray, List.set_cons_zero, List.set_cons_succ]
      refine wpAnyD_takeL (i := 4) (v := ?vv4r) rfl (by kernel_rfl) (by kernel_rfl) (by kernel_rfl) (by kernel_rfl) (fun _ _ _ h => h) HT.out rfl ?hy4r ?_
      case hy4r => intro wy hSw; obtain ⟨q0, q1, q2, q3, q4, q5⟩ := hSw; go_simp; try with_reducible rfl
      simp only [Act.put, List.setIfInBounds_toArray, List.set_cons_zero, List.set_cons_succ]
      refine wpAnyD_takeL (i := 5) (v := ?vv5r) rfl (by kernel_rfl) (by kernel_rfl) (by kernel_rfl) (by kernel_rfl) (fun _ _ _ h => h) HT.out rfl ?hy5r ?_
      case hy5r => intro wy hSw; obtain ⟨q0, q1, q2, q3, q4, q5⟩ := hSw; go_simp; try with_reducible rfl
      simp only [Act.put, List.setIfInBounds_toArray, List.set_cons_zero, List.set_cons_succ]
      refine wpAnyD_takeL (i := 6) (v := ?vv6r) rfl (by kernel_rfl) (by kernel_rfl) (by kernel_rfl) (by kernel_rfl) (fun _ _ _ h => h) HT.out rfl ?hy6r ?_
      case hy6r => intro wy hSw; obtain ⟨q0, q1, q2, q3, q4, q5⟩ := hSw; go_simp; try with_reducible rfl
      simp only [Act.put, List.setIfInBounds_toArray, List.set_cons_zero, List.set_cons_succ]
      refine wpAnyD_takeL (i := 7) (v := ?vv7r) rfl (by kernel_rfl) (by kernel_rfl) (by kernel_rfl) (by kernel_rfl) (fun _ _ _ h => h) HT.out rfl ?hy7r ?_
      case hy7r => intro wy hSw; obtain ⟨q0, q1, q2, q3, q4, q5⟩ := hSw; go_simp; try with_reducible rfl
      simp only [Act.put, List.setIfInBounds_toArray, List.set_cons_zero, List.set_cons_succ]
      refine wpAnyD_takeL (i := 8) (v := ?vv8r) rfl (by kernel_rfl) (by kernel_rfl) (by kernel_rfl) (by kernel_rfl) (fun _ _ _ h => h) HT.out rfl ?hy8r ?_
      case hy8r => intro wy hSw; obtain ⟨q0, q1, q2, q3, q4, q5⟩ := hSw; go_simp; try with_reducible rfl
      simp only [Act.put, List.setIfInBounds_toArray, List.set_cons_zero, List.set_cons_succ]
      refine wpAnyD_takeL (i := 9) (v := ?vv9r) rfl (by kernel_rfl) (by kernel_rfl) (by kernel_rfl) (by kernel_rfl) (fun _ _ _ h => h) HT.out rfl ?hy9r ?_
      case hy9r => intro wy hSw; obtain ⟨q0, q1, q2, q3, q4, q5⟩ := hSw; go_simp; try with_reducible rfl
      simp only [Act.put, List.setIfInBounds_toArray, List.set_cons_zero, List.set_cons_succ]
      refine wpAnyD_stepL (i := 10) (by kernel_rfl) rfl (fun K hK => ?_)
      refine step_call rfl (run_callV ent_ends 12 #[.tmp 17, .tmp 21] _ rfl rfl #[.agg #[.int .i64 x.frm, .int .i64 x.to, .slice x.a x.n x.c], .agg #[.int .i64 y.frm, .int .i64 y.to, .slice y.a y.n y.c]] rfl) (ends_any x y wd) ?_
      rintro e w7 ⟨rfl, hb7⟩
      have HE7 := hidb (HD.out.trans (hb7.mono HD.out.size))
      have HB7 := hidb (HB.out.trans (HE7.out.mono HB.out.size))
      refine hK _ _ (fun _ => HSA.out _ HE7.out) ?_
      clear hK K hb7 HT
      have HT := hidb (HSA.out _ HE7.out)
      simp only [Act.put, List.setIfInBounds_toArray, List.set_cons_zero, List.set_cons_succ]
      refine wpAnyD_takeL (i := 11) (v := .bool (!decide (LtE x y))) rfl (by kernel_rfl) (by kernel_rfl) (by kernel_rfl) (by kernel_rfl) (fun _ _ _ h => h) HT.out rfl ?hz ?_
      case hz => intro wy hSw; clear hSw; rw [← cmpE_ge]; go_simp
      simp only [Act.put, List.setIfInBounds_toArray, List.set_cons_zero, List.set_cons_succ]
      refine wpAnyD_done (by kernel_rfl) ?_ _
      by_cases hle : LtE x y
      · have HL := hidb hle
        rw [decide_eq_true hle]
        clear hle
        go_wp2_with fail
        go_roundw
        case rel =>
          refine ⟨m + 1, by omega, by omega, by go_num, fun i a b h ha hb => ?_, HB7.out⟩
          by_cases hi : i + 1 < m
          · exact HRI.out i a b hi ha hb
          · obtain rfl : i = m - 1 := by omega
            rw [HXY.out.1] at ha
            rw [show m - 1 + 1 = m by omega, HXY.out.2] at hb
            obtain rfl := Option.some.inj ha
            obtain rfl := Option.some.inj hb
            exact HL.out
        case measure => simp [RowKit.intOf]; omega
      · have HL := hidb hle
        rw [decide_eq_false hle]
        clear hle
        go_wp2_with fail
        go_ret
        refine ⟨⟨false, rfl, ?_⟩, HB7.out⟩
        refine ⟨fun h => (by cases h), fun h => ?_⟩
        exact absurd (h (m - 1) x y HXY.out.1 (by rw [show m - 1 + 1 = m by omega]; exact HXY.out.2)) HL.out
    · have hmn : ¬ (m : Int) < (n : Int) := by omega
      go_wp2_with fail
      go_ret
      refine ⟨⟨true, rfl, fun _ i a b ha hb => ?_, fun _ => rfl⟩, HB.out⟩
      have hlt := (List.getElem?_eq_some_iff.1 hb).1
      have := HN.out
      exact HRI.out i a b (by omega) ha hb
end Go.Proofs.Ytjiigabfdigkaaa


/- A loop over an iterator whose variable lies in memory: the law (range_p, where the assignment lays memory). -/
namespace Go.Proofs.Ytjiigabfdigkaaa
open Go.RowKit Go.Shelf

set_option maxHeartbeats 1000000 in
theorem range_q {α : Type} {P : Program} {g : Operand} {ps : Array Tmp} {assign body : Code} {Q : Exit → Act → World → Prop} {a : Act} {w : World}
    {gf : Nat} {lb : Array Value} (hg : a.eval g = .func (.func gf) #[] lb) (eg : ∀ args w, (callFunc gf args).run P w = .ok (.enter gf args) w)
    {encs : α → Array Value} {Ok : α → Prop} {M : Nat → Prop} {c : Nat} {S Sp : List α → Prop} {N : Nat} {w0 : World} (hseq : SeqO P gf lb encs Ok M c S Sp N w0) (hM : ∀ k, w.heap.size ≤ k → M k) (hb0 : Below w0.heap.size w0 w) (hps : ∀ x, (encs x).size = ps.size)
    (I : List α → World → Prop) (Ix : Code → List α → World → Prop) (hI : OwnFrom w.heap.size I) (hIx : ∀ c, OwnFrom w.heap.size (Ix c)) (h0 : I [] w) (H : List α × α × Act → World → Prop) (hH : OwnFrom w.heap.size H)
    (hround : ∀ (l : Nat) (pre : List α) (x : α) (W : World), Ok x → pre.length < N → I pre W → w.heap.size + 2 + c ≤ W.heap.size →
      assign.wpIn (Fence.wide.inRound l) 0 P (Exit.then (fun a' W' => Below W.heap.size W W' ∧ H (pre, x, a') W' ∧ ∀ W1, H (pre, x, a') W1 → w.heap.size + 2 + c ≤ W1.heap.size → body.wpIn (Fence.wide.inRound l) 0 P (postO M c w.heap.size I Ix (pre ++ [x]) W1) a' W1) (fun _ _ _ => False)) { tmps := (ps.zip (encs x)).foldl (fun t (p, v) => t.setIfInBounds p v) a.tmps, defers := [] } W)
    (hdone : ∀ (D : Nat) (xs : List α) (W : World), w.heap.size ≤ D → S xs → I xs W → W.heap[D]? = some (.deferred (some [])) → Q .normal { a with defers := { target := .collected D, args := #[] } :: a.defers } W)
    (hstop : ∀ (D : Nat) (c : Code) (pre : List α) (W : World), w.heap.size ≤ D → Sp pre → Ix c pre W → W.heap[D]? = some (.deferred (some [])) → c.wp P Q { a with defers := { target := .collected D, args := #[] } :: a.defers } W) :
    (Code.rangeFunc g ps assign body).wp P Q a w := by
  refine (wpIn_wide (n := 0)).1 (wpIn_rangeFunc ?_)
  intro fn hfn
  rw [Fence.wide_round]
  obtain ⟨rec, hrec⟩ : ∃ rec : LoopState → Option Code → Loop, rec = fun st pe => { state := st, pending := pe, fn, tmps := a.tmps, params := ps, assign, body, defers := w.heap.size } := ⟨_, rfl⟩
  obtain ⟨W1, hW1⟩ : ∃ W1, (w.alloc (.deferred (some []))).alloc (.loop (rec .ready none)) = W1 := ⟨_, rfl⟩
  have hsz : W1.heap.size = w.heap.size + 2 := by rw [← hW1]; simp
  have hL1 : W1.heap[w.heap.size + 1]? = some (.loop (rec .ready none)) := by
    rw [← hW1]; have := World.alloc_heap_new (w.alloc (.deferred (some []))) (.loop (rec .ready none)); rwa [World.size_alloc] at this
  have hK1 : W1.heap[w.heap.size]? = some (.deferred (some [])) := by
    rw [← hW1]; exact (Below.heap_alloc _ _ _ (by simp)).trans (World.alloc_heap_new w _)
  have hI1 : I [] W1 := by rw [← hW1]; exact hI.alloc _ (hI.alloc _ h0)
  have hb1 : Below w0.heap.size w0 W1 := by
    rw [← hW1]; exact hb0.trans ((((Below.refl _ w).alloc (Nat.le_refl _) _).alloc (by simp) _).mono hb0.size)
  refine ⟨w.heap.size + 1, [{ target := .collected w.heap.size, args := #[] }], W1, { target := .fn (.func gf) lb, args := #[.func (.yield (w.heap.size + 1)) #[] #[]] }, W1, gf,
    #[.func (.yield (w.heap.size + 1)) #[] #[]] ++ lb, W1, ?_, ?_, ?_, ?_, (fun h => by cases h), ?_⟩
  · rw [← hW1, hrec]; exact run_enterLoop_outer _ _ _ _ _
  · simp only [resolve, hg]
    simp [go_sem]
  · intro f' hf'; trivial
  · simp [invoke, go_sem, eg]
  · have keep : ∀ {A B : World} {row : Option Nat} {k : Nat} {o : Obj}, A.grownBy B row → (∀ r, row = some r → W1.heap.size ≤ r ∧ ∃ o : Obj, A.heap[r]? = some o ∧ o.isCells = false) → k < w.heap.size + 2 → A.heap[k]? = some o → B.heap[k]? = some o := fun hg' hr hk h =>
      (hg'.block _ (Array.getElem?_eq_some_iff.1 h).1 (fun e => by have := (hr _ e.symm).1; omega)).trans h
    have hnw : ∀ {A : World} {row : Option Nat}, (∀ r, row = some r → W1.heap.size ≤ r ∧ ∃ o : Obj, A.heap[r]? = some o ∧ o.isCells = false) → (∀ r, row = some r → w.heap.size ≤ r ∧ ∃ o : Obj, A.heap[r]? = some o ∧ o.isCells = false) :=
      fun hr r e => ⟨by have := (hr r e).1; omega, (hr r e).2⟩
    refine (hseq (w.heap.size + 1)
      (fun pre W => I pre W ∧ W.heap[w.heap.size + 1]? = some (.loop (rec .ready none)) ∧ W.heap[w.heap.size]? = some (.deferred (some [])))
      (fun pre W => ∃ c, Ix c pre W ∧ W.heap[w.heap.size + 1]? = some (.loop (rec .done (some c))) ∧ W.heap[w.heap.size]? = some (.deferred (some [])))
      W1 hb1
      (fun s A B row hs hg' hr => ⟨hI s A B row hs.1 hg' (hnw hr), keep hg' hr (by omega) hs.2.1, keep hg' hr (by omega) hs.2.2⟩)
      (fun s A B row hs hg' hr => by
        obtain ⟨c, hc, hl, hk⟩ := hs
        exact ⟨c, hIx c s A B row hc hg' (hnw hr), keep hg' hr (by omega) hl, keep hg' hr (by omega) hk⟩)
      ?_ ⟨hI1, hL1, hK1⟩).mono ?_
    · -- one round
      rintro pre x W hok ⟨hi, hl, hk⟩ hlen hszW
      have hlt : w.heap.size + 1 < W.heap.size := (Array.getElem?_eq_some_iff.1 hl).1
      have hy := run_yield (P := P) (args := encs x) hl (by rw [hrec]; exact hps x)
      rw [hrec] at hy
      refine ⟨fn, _, assign, body, hy, roundIn_of_wpIn hfn (wpIn_mono (hround _ pre x W hok hlen hi (by omega)) ?_)⟩
      rintro e0 a₁ W₀ hx0
      cases e0 with
      | ret => exact hx0.elim
      | exit id => exact hx0.elim
      | goto t => exact hx0.elim
      | panic _ => exact hx0.elim
      | outgrown => exact hx0.elim
      | normal =>
      obtain ⟨hb0', hh, hbody⟩ := hx0
      have hlA : W₀.heap[w.heap.size + 1]? = some (.loop (rec .ready none)) := ((But.of_below (S := fun _ => False) hb0').block _ hlt id).trans hl
      have hkA : W₀.heap[w.heap.size]? = some (.deferred (some [])) := ((But.of_below (S := fun _ => False) hb0').block _ (by omega) id).trans hk
      have hltA : w.heap.size + 1 < W₀.heap.size := (Array.getElem?_eq_some_iff.1 hlA).1
      refine ⟨_, run_beginRound hlA (by rw [hrec]), ?_⟩
      have hl2 : (W₀.putObj (w.heap.size + 1) (.loop { rec .ready none with state := .busy })).heap[w.heap.size + 1]? = some (.loop { rec .ready none with state := .busy }) := World.putObj_heap_same hltA
      have hk2 : (W₀.putObj (w.heap.size + 1) (.loop { rec .ready none with state := .busy })).heap[w.heap.size]? = some (.deferred (some [])) := (World.putObj_heap_other (by omega)).trans hkA
      have hw2 : But (fun k => M k ∧ (k < W1.heap.size ∨ W1.heap.size + c ≤ k)) W (W₀.putObj (w.heap.size + 1) (.loop { rec .ready none with state := .busy })) := (But.of_below hb0').trans (But.putObj _ _ _ (fun _ => ⟨hM _ (by omega), by omega⟩))
      have hszA := hb0'.size
      refine wpIn_mono (hbody _ (hH.putObj _ hh (by omega) hlA rfl) (Nat.le_trans (by omega) (grownBy_putObj' W₀ _ _).size)) ?_
      have fin : ∀ (jump : Option Code) (W3 : World), But (fun k => M k ∧ (k < w.heap.size ∨ w.heap.size + 2 + c ≤ k)) (W₀.putObj (w.heap.size + 1) (.loop { rec .ready none with state := .busy })) W3 →
          (Instr.endRound (w.heap.size + 1) jump).run P W3 = .ok (.bool jump.isNone) (W3.putObj (w.heap.size + 1) (.loop (rec (if jump.isNone then .ready else .done) jump))) ∧
          W3.heap[w.heap.size + 1]? = some (.loop { rec .ready none with state := .busy }) ∧
          (W3.putObj (w.heap.size + 1) (.loop (rec (if jump.isNone then .ready else .done) jump))).heap[w.heap.size + 1]? = some (.loop (rec (if jump.isNone then .ready else .done) jump)) ∧
          (W3.putObj (w.heap.size + 1) (.loop (rec (if jump.isNone then .ready else .done) jump))).heap[w.heap.size]? = some (.deferred (some [])) ∧
          But (fun k => M k ∧ (k < W1.heap.size ∨ W1.heap.size + c ≤ k)) W (W3.putObj (w.heap.size + 1) (.loop (rec (if jump.isNone then .ready else .done) jump))) := fun jump W3 hk3 => by
        have hl3 := (hk3.block _ (Array.getElem?_eq_some_iff.1 hl2).1 (by omega)).trans hl2
        have hd3 := (hk3.block _ (Array.getElem?_eq_some_iff.1 hk2).1 (by omega)).trans hk2
        have := run_endRound (P := P) jump hl3
        rw [hrec] at this ⊢
        exact ⟨this, by rw [hrec] at hl3; exact hl3, World.putObj_heap_same (Array.getElem?_eq_some_iff.1 hl3).1, (World.putObj_heap_other (by omega)).trans hd3, by rw [hrec] at hw2 hk3; exact (hw2.trans (hk3.mono (fun k _ h => ⟨h.1, by have := h.2; omega⟩))).trans (But.putObj _ _ _ (fun _ => ⟨hM _ (by omega), by omega⟩))⟩
      rintro e a3 W3 hp
      cases e with
      | normal =>
        obtain ⟨hk3, hi3⟩ := hp
        obtain ⟨hr, hl3, hl4, hk4, hb4⟩ := fin none W3 hk3
        exact ⟨_, _, hr, hb4, .inl ⟨rfl, hI.putObj _ hi3 (by omega) hl3 rfl, hl4, hk4⟩⟩
      | ret =>
        obtain ⟨hk3, hi3⟩ := hp
        obtain ⟨hr, hl3, hl4, hk4, hb4⟩ := fin (some .ret) W3 hk3
        exact ⟨_, _, hr, hb4, .inr ⟨rfl, .ret, (hIx _).putObj _ hi3 (by omega) hl3 rfl, hl4, hk4⟩⟩
      | exit id =>
        obtain ⟨hk3, hi3⟩ := hp
        obtain ⟨hr, hl3, hl4, hk4, hb4⟩ := fin (some (.exit id)) W3 hk3
        exact ⟨_, _, hr, hb4, .inr ⟨rfl, .exit id, (hIx _).putObj _ hi3 (by omega) hl3 rfl, hl4, hk4⟩⟩
      | goto t =>
        obtain ⟨hk3, hi3⟩ := hp
        obtain ⟨hr, hl3, hl4, hk4, hb4⟩ := fin (some (.goto t)) W3 hk3
        exact ⟨_, _, hr, hb4, .inr ⟨rfl, .goto t, (hIx _).putObj _ hi3 (by omega) hl3 rfl, hl4, hk4⟩⟩
      | panic ch => exact hp.elim
      | outgrown => exact hp.elim
    · -- behind the iterator
      rintro e W2 ⟨⟨v, rfl⟩, (⟨xs, hS, hi, hl, hk⟩ | ⟨pre, hSp, c, hi, hl, hk⟩)⟩
      · exact ⟨none, _, by have := run_endLoop (P := P) hl (by rw [hrec]; simp); rw [hrec] at this; exact this, hdone _ xs _ (Nat.le_refl _) hS (hI.putObj _ hi (by omega) hl rfl) ((World.putObj_heap_other (by omega)).trans hk)⟩
      · exact ⟨some c, _, by have := run_endLoop (P := P) hl (by rw [hrec]; simp); rw [hrec] at this; exact this, wpIn_wide.2 (hstop _ c pre _ (Nat.le_refl _) hSp ((hIx c).putObj _ hi (by omega) hl rfl) ((World.putObj_heap_other (by omega)).trans hk))⟩


end Go.Proofs.Ytjiigabfdigkaaa


