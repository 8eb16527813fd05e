import Derived.Test.YtjiigabfdigkaaaG24
import Derived.Test.YtjiigabfdigkaaaG05
import Derived.Test.YtjiigabfdigkaaaG15
import Derived.Test.YtjiigabfdigkaaaG16
import Derived.Test.YtjiigabfdigkaaaG25
import Derived.Test.YtjiigabfdigkaaaG13
import Derived.Test.YtjiigabfdigkaaaSdP
import Derived.Test.YtjiigabfdigkaaaG10
import Derived.Deep.LoopGhost
import Derived.Maps.AppendAt
/- Of a state: the rules that it breaks. -/
namespace Go.Proofs.Ytjiigabfdigkaaa
open Go.RowKit

attribute [local go_sem] store_float
theorem ent_rorder : Ent 20 := by
  intro args w
  kernel_rfl
theorem ent_rghost : Ent 21 := by
  intro args w
  kernel_rfl
theorem ent_rliving : Ent 22 := by
  intro args w
  kernel_rfl
theorem ent_rnamed : Ent 23 := by
  intro args w
  kernel_rfl
theorem ent_rdead : Ent 24 := by
  intro args w
  kernel_rfl
theorem ent_rpaired : Ent 25 := by
  intro args w
  kernel_rfl
/-- Which rules hold. -/
structure RuOk (ps : List Pc) (ls : List Ln) (r1 r2 r3 r4 r5 r6 r7 r8 : Bool) : Prop where
  h1 : r1 = true ↔ OrPs ps ∧ OrLs ls
  h2 : r2 = true ↔ ∀ p ∈ ps, GhOk p
  h3 : r3 = true ↔ ∀ p ∈ ps, LivOk p
  h4 : r4 = true ↔ NmOk ps
  h5 : r5 = true ↔ (Calm ps ls → ∀ p ∈ ps, AllL p)
  h6 : r6 = true ↔ (Calm ps ls → ∀ p ∈ ps, MutL ps p)
  h7 : r7 = true ↔ (Calm ps ls → ∀ p ∈ ps, DeadOk ps p)
  h8 : r8 = true ↔ (Calm ps ls → ∀ p ∈ ps, PairOk ps p)
/-- The numbers of those that do not. -/
def brk (bs : List Bool) (m : Nat) : List Int := ((List.range m).filter (fun i => bs[i]? == some false)).map (fun (i : Nat) => (i : Int) + 1)
theorem brk_yes {bs : List Bool} {m : Nat} (h : bs[m]? = some true) : brk bs (m + 1) = brk bs m := by
  unfold brk
  rw [List.range_succ, List.filter_append]
  simp [h]
theorem brk_no {bs : List Bool} {m : Nat} (h : bs[m]? = some false) : brk bs (m + 1) = brk bs m ++ [(m : Int) + 1] := by
  unfold brk
  rw [List.range_succ, List.filter_append]
  simp [h]
theorem brk_len (bs : List Bool) (m : Nat) : (brk bs m).length ≤ m := by
  unfold brk
  rw [List.length_map]
  exact Nat.le_trans (List.length_filter_le _ _) (by simp)
theorem brk_zero (bs : List Bool) : brk bs 0 = [] := rfl
theorem own_baseN {w : World} {C C' e size n : Nat} {v : Value} {xs : List Value} (h : w.ownsRow C e size v n xs) (hC : C' ≤ C) : w.ownsRow C' e size v n xs := by
  refine ⟨h.1, ?_⟩
  rcases h.2 with h | ⟨g, cap, cur, h1, h2, h3⟩
  · exact .inl h
  · exact .inr ⟨g, cap, cur, h1, Nat.le_trans hC h2, h3⟩
theorem infoInt : (Try.prog.info? 3).map (fun i => (i.zero, i.size, i.bytes)) = some (some (.int .i64 0), 1, 8) := by kernel_rfl
theorem info_int : ∃ i0, Try.prog.info? 3 = some i0 ∧ i0.zero = some (.int .i64 0) ∧ i0.size = 1 ∧ i0.bytes = 8 := by
  have h := infoInt
  cases hi : Try.prog.info? 3 with
  | none => rw [hi] at h; cases h
  | some i =>
    rw [hi] at h
    simp only [Option.map_some, Option.some.injEq, Prod.mk.injEq] at h
    exact ⟨i, rfl, h.1, h.2.1, h.2.2⟩
abbrev InT : TypeId := 3
def zX (l : List Int) : List Value := l.map (Value.int .i64)
/-- What is told. -/
def CkSays (ps : List Pc) (ls : List Ln) (w : World) (e : Ending) (w' : World) : Prop :=
  ∃ (r1 r2 r3 r4 r5 r6 r7 r8 : Bool) (a : Option Addr) (n c : Nat), RuOk ps ls r1 r2 r3 r4 r5 r6 r7 r8 ∧ e = .returned (.slice a n c) ∧ (brk [r1, r2, r3, r4, r5, r6, r7, r8] 8).length = n ∧
    w'.ownsRow w.heap.size InT 1 (.slice a n c) n (zX (brk [r1, r2, r3, r4, r5, r6, r7, r8] 8)) ∧ Below w.heap.size w w'
set_option maxHeartbeats 8000000 in
set_option maxRecDepth 10000 in
theorem rcheck_any (w : World) (pa la : Option Addr) (cp cl np nl : Nat) (ps : List Pc) (ls : List Ln) (oa : Option Addr) (no co : Nat) (hs : StIn w pa ps la ls) (hnp : ps.length = np) (hnl : ls.length = nl) (hfew : np ≤ 1000) :
    Calls Try.prog 10 #[stV pa np cp la nl cl oa no co] w (CkSays ps ls w) := by
  have HM := hidb hnl
  have HNP := hidb hfew
  clear hnl hfew
  have HS := hidb hs
  have HN := hidb hnp
  have h63 : np ≤ 9223372036854775807 := hnp ▸ hs.lp
  clear hs hnp
  have HX0 := hidb (At.new w [.slice pa np cp, .slice la nl cl, .slice oa no co] 26)
  go_enter Try.func10, Try.ntmps10
  go_wp2_with fail
  obtain ⟨W0, hW0⟩ : ∃ W0, w.alloc (.cells #[.slice pa np cp, .slice la nl cl, .slice oa no co] 26) = W0 := ⟨_, rfl⟩
  have HB1 : Hid (Below w.heap.size w W0) := hidb (by rw [← hW0]; exact below_new w _)
  rw [hW0] at HX0 ⊢
  clear hW0

  refine (rcalmed_any _ pa la cp cl np nl ps ls oa no co (HS.out.keep HB1.out) HN.out HM.out).mono ?_
  rintro e w1 ⟨⟨cb, rfl, hcb⟩, hb1⟩
  have HCB := hidb hcb
  have HBx := hidb (HB1.out.trans (hb1.mono HB1.out.size))
  have HXx := hidb (HX0.out.keep hb1)
  clear hcb hb1
  obtain ⟨x0, -⟩ := HXx.out.1 0 _ rfl
  obtain ⟨x1, -⟩ := HXx.out.1 1 _ rfl
  obtain ⟨x2, -⟩ := HXx.out.1 2 _ rfl
  cases cb
  · have HNC : Hid (¬ Calm ps ls) := hidb (fun h => (by have h9 := HCB.out.2 h; cases h9))
    clear HCB
    go_wp2_with fail
    clear x0 x1 x2
    have HSA : Hid (∀ W9, Below w1.heap.size w1 W9 → W9.cell? ⟨w.heap.size, 0, none⟩ = some (.slice pa np cp) ∧ W9.cell? ⟨w.heap.size, 1, none⟩ = some (.slice la nl cl) ∧ W9.cell? ⟨w.heap.size, 2, none⟩ = some (.slice oa no co)) := hidb (fun W9 hb => by
      have h := HXx.out.keep hb
      exact ⟨(h.1 0 _ rfl).1, (h.1 1 _ rfl).1, (h.1 2 _ rfl).1⟩)
    refine wp_region_D (fun W9 => W9.cell? ⟨w.heap.size, 0, none⟩ = some (.slice pa np cp) ∧ W9.cell? ⟨w.heap.size, 1, none⟩ = some (.slice la nl cl) ∧ W9.cell? ⟨w.heap.size, 2, none⟩ = some (.slice oa no co)) [] (by kernel_rfl) ?_
    have hbd : Below w1.heap.size w1 w1.drew := (Below.refl _ _).drew
    generalize w1.drew = v0 at hbd ⊢
    have HFv0 := hidb hbd
    have HDv0 := hidb (HBx.out.trans (hbd.mono HBx.out.size))
    have HT := hidb (HSA.out v0 hbd)
    clear hbd
    refine wpAnyD_takeL (i := 0) (v := ?vv0kn) rfl (by kernel_rfl) (by kernel_rfl) (by kernel_rfl) (by kernel_rfl) (fun _ _ _ h => h) HT.out rfl ?hy0kn ?_
    case hy0kn => intro wy hSw; obtain ⟨q0, q1, q2⟩ := hSw; go_simp; try with_reducible rfl
    simp only [Act.put, List.setIfInBounds_toArray, List.set_cons_zero, List.set_cons_succ]
    refine wpAnyD_takeL (i := 2) (v := ?vv2kn) rfl (by kernel_rfl) (by kernel_rfl) (by kernel_rfl) (by kernel_rfl) (fun _ _ _ h => h) HT.out rfl ?hy2kn ?_
    case hy2kn => intro wy hSw; obtain ⟨q0, q1, q2⟩ := hSw; go_simp; try with_reducible rfl
    simp only [Act.put, List.setIfInBounds_toArray, List.set_cons_zero, List.set_cons_succ]
    refine wpAnyD_takeL (i := 4) (v := ?vv4kn) rfl (by kernel_rfl) (by kernel_rfl) (by kernel_rfl) (by kernel_rfl) (fun _ _ _ h => h) HT.out rfl ?hy4kn ?_
    case hy4kn => intro wy hSw; obtain ⟨q0, q1, q2⟩ := hSw; go_simp; try with_reducible rfl
    simp only [Act.put, List.setIfInBounds_toArray, List.set_cons_zero, List.set_cons_succ]
    refine wpAnyD_takeL (i := 6) (v := ?vv6kn) rfl (by kernel_rfl) (by kernel_rfl) (by kernel_rfl) (by kernel_rfl) (fun _ _ _ h => h) HT.out rfl ?hy6kn ?_
    case hy6kn => intro wy hSw; obtain ⟨q0, q1, q2⟩ := hSw; go_simp; try with_reducible rfl
    simp only [Act.put, List.setIfInBounds_toArray, List.set_cons_zero, List.set_cons_succ]
    refine wpAnyD_takeL (i := 8) (v := ?vv8kn) rfl (by kernel_rfl) (by kernel_rfl) (by kernel_rfl) (by kernel_rfl) (fun _ _ _ h => h) HT.out rfl ?hy8kn ?_
    case hy8kn => intro wy hSw; obtain ⟨q0, q1, q2⟩ := hSw; go_simp; try with_reducible rfl
    simp only [Act.put, List.setIfInBounds_toArray, List.set_cons_zero, List.set_cons_succ]
    refine wpAnyD_takeL (i := 9) (v := ?vv9kn) rfl (by kernel_rfl) (by kernel_rfl) (by kernel_rfl) (by kernel_rfl) (fun _ _ _ h => h) HT.out rfl ?hy9kn ?_
    case hy9kn => intro wy hSw; obtain ⟨q0, q1, q2⟩ := hSw; go_simp; try with_reducible rfl
    simp only [Act.put, List.setIfInBounds_toArray, List.set_cons_zero, List.set_cons_succ]
    refine wpAnyD_takeL (i := 10) (v := ?vv10kn) rfl (by kernel_rfl) (by kernel_rfl) (by kernel_rfl) (by kernel_rfl) (fun _ _ _ h => h) HT.out rfl ?hy10kn ?_
    case hy10kn => intro wy hSw; obtain ⟨q0, q1, q2⟩ := hSw; go_simp; try with_reducible rfl
    simp only [Act.put, List.setIfInBounds_toArray, List.set_cons_zero, List.set_cons_succ]
    refine wpAnyD_takeL (i := 11) (v := ?vv11kn) rfl (by kernel_rfl) (by kernel_rfl) (by kernel_rfl) (by kernel_rfl) (fun _ _ _ h => h) HT.out rfl ?hy11kn ?_
    case hy11kn => intro wy hSw; obtain ⟨q0, q1, q2⟩ := hSw; go_simp; try with_reducible rfl
    simp only [Act.put, List.setIfInBounds_toArray, List.set_cons_zero, List.set_cons_succ]
    refine wpAnyD_takeL (i := 16) (v := ?vv16kn) rfl (by kernel_rfl) (by kernel_rfl) (by kernel_rfl) (by kernel_rfl) (fun _ _ _ h => h) HT.out rfl ?hy16kn ?_
    case hy16kn => intro wy hSw; obtain ⟨q0, q1, q2⟩ := hSw; go_simp; try with_reducible rfl
    simp only [Act.put, List.setIfInBounds_toArray, List.set_cons_zero, List.set_cons_succ]
    refine wpAnyD_takeL (i := 17) (v := ?vv17kn) rfl (by kernel_rfl) (by kernel_rfl) (by kernel_rfl) (by kernel_rfl) (fun _ _ _ h => h) HT.out rfl ?hy17kn ?_
    case hy17kn => intro wy hSw; obtain ⟨q0, q1, q2⟩ := hSw; go_simp; try with_reducible rfl
    simp only [Act.put, List.setIfInBounds_toArray, List.set_cons_zero, List.set_cons_succ]
    refine wpAnyD_stepL (i := 1) (by kernel_rfl) rfl (fun K hK => ?_)
    refine step_call rfl (run_call ent_rorder #[.tmp 17] _ rfl #[stV pa np cp la nl cl oa no co] rfl) (order_any v0 pa la cp cl np nl ps ls oa no co (HS.out.keep HDv0.out) HN.out HM.out) ?_
    rintro e v1 ⟨⟨rorder, rfl, hr⟩, hb7⟩
    have HRorder := hidb hr
    have HDv1 := hidb (HDv0.out.trans (hb7.mono HDv0.out.size))
    have HFv1 := hidb (HFv0.out.trans (hb7.mono HFv0.out.size))
    refine hK _ _ (fun _ => HSA.out _ HFv1.out) ?_
    clear hK K hb7 hr HT
    have HT := hidb (HSA.out _ HFv1.out)
    simp only [Act.put, List.setIfInBounds_toArray, List.set_cons_zero, List.set_cons_succ]
    refine wpAnyD_stepL (i := 3) (by kernel_rfl) rfl (fun K hK => ?_)
    refine step_call rfl (run_call ent_rghost #[.tmp 19] _ rfl #[stV pa np cp la nl cl oa no co] rfl) (ghost_any v1 pa la cp cl np nl ps ls oa no co (HS.out.keep HDv1.out) HN.out) ?_
    rintro e v2 ⟨⟨rghost, rfl, hr⟩, hb7⟩
    have HRghost := hidb hr
    have HDv2 := hidb (HDv1.out.trans (hb7.mono HDv1.out.size))
    have HFv2 := hidb (HFv1.out.trans (hb7.mono HFv1.out.size))
    refine hK _ _ (fun _ => HSA.out _ HFv2.out) ?_
    clear hK K hb7 hr HT
    have HT := hidb (HSA.out _ HFv2.out)
    simp only [Act.put, List.setIfInBounds_toArray, List.set_cons_zero, List.set_cons_succ]
    refine wpAnyD_stepL (i := 5) (by kernel_rfl) rfl (fun K hK => ?_)
    refine step_call rfl (run_call ent_rliving #[.tmp 21] _ rfl #[stV pa np cp la nl cl oa no co] rfl) (living_any v2 pa la cp cl np nl ps ls oa no co (HS.out.keep HDv2.out) HN.out) ?_
    rintro e v3 ⟨⟨rliving, rfl, hr⟩, hb7⟩
    have HRliving := hidb hr
    have HDv3 := hidb (HDv2.out.trans (hb7.mono HDv2.out.size))
    have HFv3 := hidb (HFv2.out.trans (hb7.mono HFv2.out.size))
    refine hK _ _ (fun _ => HSA.out _ HFv3.out) ?_
    clear hK K hb7 hr HT
    have HT := hidb (HSA.out _ HFv3.out)
    simp only [Act.put, List.setIfInBounds_toArray, List.set_cons_zero, List.set_cons_succ]
    refine wpAnyD_stepL (i := 7) (by kernel_rfl) rfl (fun K hK => ?_)
    refine step_call rfl (run_call ent_rnamed #[.tmp 23] _ rfl #[stV pa np cp la nl cl oa no co] rfl) (named_any v3 pa la cp cl np nl ps ls oa no co (HS.out.keep HDv3.out) HN.out HNP.out) ?_
    rintro e v4 ⟨⟨rnamed, rfl, hr⟩, hb7⟩
    have HRnamed := hidb hr
    have HDv4 := hidb (HDv3.out.trans (hb7.mono HDv3.out.size))
    have HFv4 := hidb (HFv3.out.trans (hb7.mono HFv3.out.size))
    refine hK _ _ (fun _ => HSA.out _ HFv4.out) ?_
    clear hK K hb7 hr HT
    have HT := hidb (HSA.out _ HFv4.out)
    simp only [Act.put, List.setIfInBounds_toArray, List.set_cons_zero, List.set_cons_succ]
    refine wpAnyD_takeL (i := 12) (v := ?vv12kn) rfl (by kernel_rfl) (by kernel_rfl) (by kernel_rfl) (by kernel_rfl) (fun _ _ _ h => h) HT.out rfl ?hy12kn ?_
    case hy12kn => intro wy hSw; obtain ⟨q0, q1, q2⟩ := hSw; go_simp; try with_reducible rfl
    simp only [Act.put, List.setIfInBounds_toArray, List.set_cons_zero, List.set_cons_succ]
    refine wpAnyD_skipG (i := 13) rfl (by kernel_rfl) (by kernel_rfl) (by kernel_rfl) (by kernel_rfl) (fun _ _ _ h => h) HT.out (by simp [Region.wanted, yielded]) ?_
    simp only [Act.put, List.setIfInBounds_toArray, List.set_cons_zero, List.set_cons_succ]
    refine wpAnyD_skipG (i := 14) rfl (by kernel_rfl) (by kernel_rfl) (by kernel_rfl) (by kernel_rfl) (fun _ _ _ h => h) HT.out (by simp [Region.wanted, yielded]) ?_
    simp only [Act.put, List.setIfInBounds_toArray, List.set_cons_zero, List.set_cons_succ]
    refine wpAnyD_takeL (i := 15) (v := ?vv15kn) rfl (by kernel_rfl) (by kernel_rfl) (by kernel_rfl) (by kernel_rfl) (fun _ _ _ h => h) HT.out rfl ?hy15kn ?_
    case hy15kn => intro wy hSw; obtain ⟨q0, q1, q2⟩ := hSw; go_simp; try with_reducible rfl
    simp only [Act.put, List.setIfInBounds_toArray, List.set_cons_zero, List.set_cons_succ]
    refine wpAnyD_takeL (i := 18) (v := ?vv18kn) rfl (by kernel_rfl) (by kernel_rfl) (by kernel_rfl) (by kernel_rfl) (fun _ _ _ h => h) HT.out rfl ?hy18kn ?_
    case hy18kn => intro wy hSw; obtain ⟨q0, q1, q2⟩ := hSw; go_simp; try with_reducible rfl
    simp only [Act.put, List.setIfInBounds_toArray, List.set_cons_zero, List.set_cons_succ]
    refine wpAnyD_skipG (i := 19) rfl (by kernel_rfl) (by kernel_rfl) (by kernel_rfl) (by kernel_rfl) (fun _ _ _ h => h) HT.out (by simp [Region.wanted, yielded]) ?_
    simp only [Act.put, List.setIfInBounds_toArray, List.set_cons_zero, List.set_cons_succ]
    refine wpAnyD_skipG (i := 20) rfl (by kernel_rfl) (by kernel_rfl) (by kernel_rfl) (by kernel_rfl) (fun _ _ _ h => h) HT.out (by simp [Region.wanted, yielded]) ?_
    simp only [Act.put, List.setIfInBounds_toArray, List.set_cons_zero, List.set_cons_succ]
    refine wpAnyD_takeL (i := 21) (v := ?vv21kn) rfl (by kernel_rfl) (by kernel_rfl) (by kernel_rfl) (by kernel_rfl) (fun _ _ _ h => h) HT.out rfl ?hy21kn ?_
    case hy21kn => intro wy hSw; obtain ⟨q0, q1, q2⟩ := hSw; go_simp; try with_reducible rfl
    simp only [Act.put, List.setIfInBounds_toArray, List.set_cons_zero, List.set_cons_succ]
    refine wpAnyD_stepL (i := 22) (by kernel_rfl) rfl (fun K hK => ?_)
    go_simp
    have HAR := hidb (At.new v4 [.bool rorder, .bool rghost, .bool rliving, .bool rnamed, .bool true, .bool true, .bool true, .bool true] 4)
    have HFx := hidb (HFv4.out.alloc HFv4.out.size (.cells #[.bool rorder, .bool rghost, .bool rliving, .bool rnamed, .bool true, .bool true, .bool true, .bool true] 4))
    have HDx := hidb (HDv4.out.alloc HDv4.out.size (.cells #[.bool rorder, .bool rghost, .bool rliving, .bool rnamed, .bool true, .bool true, .bool true, .bool true] 4))
    refine hK _ _ (fun _ => HSA.out _ HFx.out) ?_
    clear hK K HT
    have HT := hidb (HSA.out _ HFx.out)
    refine wpAnyD_stepL (i := 23) (by kernel_rfl) rfl (fun K hK => ?_)
    go_simp
    refine hK _ _ (fun _ => HT.out) ?_
    clear hK K HT
    refine wpAnyD_done (by kernel_rfl) ?_ _
    have HRU : Hid (RuOk ps ls rorder rghost rliving rnamed true true true true) := hidb ⟨HRorder.out, HRghost.out, HRliving.out, HRnamed.out, ⟨fun _ h => absurd h HNC.out, fun _ => rfl⟩, ⟨fun _ h => absurd h HNC.out, fun _ => rfl⟩, ⟨fun _ h => absurd h HNC.out, fun _ => rfl⟩, ⟨fun _ h => absurd h HNC.out, fun _ => rfl⟩⟩
    obtain ⟨X, hX⟩ : ∃ X, v4.alloc (.cells #[.bool rorder, .bool rghost, .bool rliving, .bool rnamed, .bool true, .bool true, .bool true, .bool true] 4) = X := ⟨_, rfl⟩
    have HAX : Hid (At X v4.heap.size [.bool rorder, .bool rghost, .bool rliving, .bool rnamed, .bool true, .bool true, .bool true, .bool true]) := hidb (by rw [← hX]; exact HAR.out)
    rw [hX] at HDx ⊢
    clear hX HFx HAR
    obtain ⟨bb, hbb⟩ : ∃ bb, v4.heap.size = bb := ⟨_, rfl⟩
    rw [hbb] at HAX ⊢
    clear hbb
    have HL8 : Hid ([rorder, rghost, rliving, rnamed, true, true, true, true].length = 8) := hidb rfl
    obtain ⟨BS, hBS⟩ : ∃ BS : List Bool, [rorder, rghost, rliving, rnamed, true, true, true, true] = BS := ⟨_, rfl⟩
    have HAX : Hid (At X bb (BS.map Value.bool)) := hidb (by rw [← hBS]; exact HAX.out)
    rw [hBS] at HL8
    have HBS := hidb hBS
    clear hBS
    obtain ⟨i0, hi, hz0, hz1, hz2⟩ := info_int
    go_wp2_with fail
    go_loopw [7, 8] (fun av iv wr => ∃ (m n c : Nat) (a : Option Addr), m ≤ 8 ∧ av = .slice a n c ∧ iv = .int .i64 m ∧ (brk BS m).length = n ∧ wr.ownsRow X.heap.size InT 1 (.slice a n c) n (zX (brk BS m)) ∧ Below X.heap.size X wr) (fun _ iv _ => 8 - (RowKit.intOf iv).toNat)
    case atStart => exact ⟨0, 0, 0, none, by omega, rfl, rfl, rfl, ⟨rfl, .inl ⟨rfl, rfl⟩⟩, Below.refl _ _⟩
    case round =>
      obtain ⟨m, n, c, a, hm, rfl, rfl, hln, hown, hb⟩ := hrel
      have HLN := hidb hln
      have HOWN := hidb hown
      have HB := hidb hb
      clear hln hown hb
      have HNN : Hid (n ≤ 8) := hidb (by have h1 := brk_len BS m; have h2 := HLN.out; omega)
      by_cases hml : m < 8
      · have hmb : (m : Int) < 8 := by omega
        have hmz : (0 : Int) ≤ (m : Int) := by omega
        have hmw : IntKind.i64.wrap ((m : Int) + 1) = (m : Int) + 1 := by rw [IntKind.wrap_i64]; omega
        obtain ⟨b, hb⟩ : ∃ b, BS[m]? = some b := ⟨_, List.getElem?_eq_getElem (by have := HL8.out; omega)⟩
        have c0 : wr.cell? ⟨bb, m, none⟩ = some (.bool b) := ((HAX.out.keep HB.out).1 m (.bool b) (by rw [List.getElem?_map, hb]; rfl)).1
        have HBM := hidb hb
        clear hb
        cases b
        · have HOA := hidb (HOWN.out.alloc (.cells #[.int .i64 ((m : Int) + 1)] 3))
          go_wp2_with (first
            | (at_builtin; refine wpList_append_own _ rfl _ _ 34 rfl X.heap.size 3 i0 (.int .i64 0) 1 8 Try.underlying34 hi hz0 hz1 hz2 rfl (by decide) (.slice a n c) n (zX (brk BS m)) rfl HOA.out ⟨wr.heap.size, 0, none⟩ 1 1 [.int .i64 ((m : Int) + 1)] rfl rfl (cell_one_new _ _ _) (by simp [Value.oneCell']) (by have := HNN.out; unfold maxLen; omega) (by have := HNN.out; omega) (by have := HB.out.size; simp; omega) ?_; intro v4 w4 hown hg hnil; have HO4 := hidb hown; have HG4 := hidb hg; obtain ⟨a4, c4, m4, rfl, hm4⟩ := own_slN hown; subst hm4; clear hown hg hnil))
          have HB4 : Hid (Below X.heap.size X w4) := hidb ((HB.out.alloc HB.out.size _).grown HG4.out (by have := HB.out.size; simp; omega) (fun j hj => (HOWN.out.lt j hj).1))
          go_roundw
          case rel =>
            refine ⟨m + 1, _, _, _, by omega, rfl, by go_num, by rw [brk_no HBM.out, List.length_append, HLN.out]; rfl, by rw [brk_no HBM.out, show zX (brk BS m ++ [(m : Int) + 1]) = zX (brk BS m) ++ [.int .i64 ((m : Int) + 1)] by simp [zX]]; exact HO4.out, HB4.out⟩
          case measure => simp [RowKit.intOf]; omega
        · go_wp2_with fail
          go_roundw
          case rel =>
            refine ⟨m + 1, n, c, a, by omega, rfl, by go_num, by rw [brk_yes HBM.out]; exact HLN.out, by rw [brk_yes HBM.out]; exact HOWN.out, HB.out⟩
          case measure => simp [RowKit.intOf]; omega
      · have hmn : ¬ (m : Int) < 8 := by omega
        obtain rfl : m = 8 := by omega
        go_wp2_with fail
        go_ret
        refine ⟨rorder, rghost, rliving, rnamed, true, true, true, true, a, n, c, HRU.out, rfl, ?_, ?_, HDx.out.trans (HB.out.mono HDx.out.size)⟩
        · rw [HBS.out]; exact HLN.out
        · rw [HBS.out]; exact own_baseN HOWN.out HDx.out.size
  · have HNC : Hid (Calm ps ls) := hidb (HCB.out.1 rfl)
    clear HCB
    go_wp2_with fail
    refine (linked_any _ pa la cp cl np nl ps ls oa no co (HS.out.keep HBx.out) HN.out).mono ?_
    rintro e w2 ⟨⟨al, mu, rfl, hal, hmu⟩, hb2⟩
    have HAL := hidb hal
    have HMU := hidb hmu
    have HXx := hidb (HXx.out.keep hb2)
    have HBx := hidb (HBx.out.trans (hb2.mono HBx.out.size))
    clear hal hmu hb2 x0 x1 x2
    go_wp2_with fail
    have HSA : Hid (∀ W9, Below w2.heap.size w2 W9 → W9.cell? ⟨w.heap.size, 0, none⟩ = some (.slice pa np cp) ∧ W9.cell? ⟨w.heap.size, 1, none⟩ = some (.slice la nl cl) ∧ W9.cell? ⟨w.heap.size, 2, none⟩ = some (.slice oa no co)) := hidb (fun W9 hb => by
      have h := HXx.out.keep hb
      exact ⟨(h.1 0 _ rfl).1, (h.1 1 _ rfl).1, (h.1 2 _ rfl).1⟩)
    refine wp_region_D (fun W9 => W9.cell? ⟨w.heap.size, 0, none⟩ = some (.slice pa np cp) ∧ W9.cell? ⟨w.heap.size, 1, none⟩ = some (.slice la nl cl) ∧ W9.cell? ⟨w.heap.size, 2, none⟩ = some (.slice oa no co)) [] (by kernel_rfl) ?_
    have hbd : Below w2.heap.size w2 w2.drew := (Below.refl _ _).drew
    generalize w2.drew = v0 at hbd ⊢
    have HFv0 := hidb hbd
    have HDv0 := hidb (HBx.out.trans (hbd.mono HBx.out.size))
    have HT := hidb (HSA.out v0 hbd)
    clear hbd
    refine wpAnyD_takeL (i := 0) (v := ?vv0ky) rfl (by kernel_rfl) (by kernel_rfl) (by kernel_rfl) (by kernel_rfl) (fun _ _ _ h => h) HT.out rfl ?hy0ky ?_
    case hy0ky => intro wy hSw; obtain ⟨q0, q1, q2⟩ := hSw; go_simp; try with_reducible rfl
    simp only [Act.put, List.setIfInBounds_toArray, List.set_cons_zero, List.set_cons_succ]
    refine wpAnyD_takeL (i := 2) (v := ?vv2ky) rfl (by kernel_rfl) (by kernel_rfl) (by kernel_rfl) (by kernel_rfl) (fun _ _ _ h => h) HT.out rfl ?hy2ky ?_
    case hy2ky => intro wy hSw; obtain ⟨q0, q1, q2⟩ := hSw; go_simp; try with_reducible rfl
    simp only [Act.put, List.setIfInBounds_toArray, List.set_cons_zero, List.set_cons_succ]
    refine wpAnyD_takeL (i := 4) (v := ?vv4ky) rfl (by kernel_rfl) (by kernel_rfl) (by kernel_rfl) (by kernel_rfl) (fun _ _ _ h => h) HT.out rfl ?hy4ky ?_
    case hy4ky => intro wy hSw; obtain ⟨q0, q1, q2⟩ := hSw; go_simp; try with_reducible rfl
    simp only [Act.put, List.setIfInBounds_toArray, List.set_cons_zero, List.set_cons_succ]
    refine wpAnyD_takeL (i := 6) (v := ?vv6ky) rfl (by kernel_rfl) (by kernel_rfl) (by kernel_rfl) (by kernel_rfl) (fun _ _ _ h => h) HT.out rfl ?hy6ky ?_
    case hy6ky => intro wy hSw; obtain ⟨q0, q1, q2⟩ := hSw; go_simp; try with_reducible rfl
    simp only [Act.put, List.setIfInBounds_toArray, List.set_cons_zero, List.set_cons_succ]
    refine wpAnyD_takeL (i := 8) (v := ?vv8ky) rfl (by kernel_rfl) (by kernel_rfl) (by kernel_rfl) (by kernel_rfl) (fun _ _ _ h => h) HT.out rfl ?hy8ky ?_
    case hy8ky => intro wy hSw; obtain ⟨q0, q1, q2⟩ := hSw; go_simp; try with_reducible rfl
    simp only [Act.put, List.setIfInBounds_toArray, List.set_cons_zero, List.set_cons_succ]
    refine wpAnyD_takeL (i := 9) (v := ?vv9ky) rfl (by kernel_rfl) (by kernel_rfl) (by kernel_rfl) (by kernel_rfl) (fun _ _ _ h => h) HT.out rfl ?hy9ky ?_
    case hy9ky => intro wy hSw; obtain ⟨q0, q1, q2⟩ := hSw; go_simp; try with_reducible rfl
    simp only [Act.put, List.setIfInBounds_toArray, List.set_cons_zero, List.set_cons_succ]
    refine wpAnyD_takeL (i := 10) (v := ?vv10ky) rfl (by kernel_rfl) (by kernel_rfl) (by kernel_rfl) (by kernel_rfl) (fun _ _ _ h => h) HT.out rfl ?hy10ky ?_
    case hy10ky => intro wy hSw; obtain ⟨q0, q1, q2⟩ := hSw; go_simp; try with_reducible rfl
    simp only [Act.put, List.setIfInBounds_toArray, List.set_cons_zero, List.set_cons_succ]
    refine wpAnyD_takeL (i := 11) (v := ?vv11ky) rfl (by kernel_rfl) (by kernel_rfl) (by kernel_rfl) (by kernel_rfl) (fun _ _ _ h => h) HT.out rfl ?hy11ky ?_
    case hy11ky => intro wy hSw; obtain ⟨q0, q1, q2⟩ := hSw; go_simp; try with_reducible rfl
    simp only [Act.put, List.setIfInBounds_toArray, List.set_cons_zero, List.set_cons_succ]
    refine wpAnyD_takeL (i := 16) (v := ?vv16ky) rfl (by kernel_rfl) (by kernel_rfl) (by kernel_rfl) (by kernel_rfl) (fun _ _ _ h => h) HT.out rfl ?hy16ky ?_
    case hy16ky => intro wy hSw; obtain ⟨q0, q1, q2⟩ := hSw; go_simp; try with_reducible rfl
    simp only [Act.put, List.setIfInBounds_toArray, List.set_cons_zero, List.set_cons_succ]
    refine wpAnyD_takeL (i := 17) (v := ?vv17ky) rfl (by kernel_rfl) (by kernel_rfl) (by kernel_rfl) (by kernel_rfl) (fun _ _ _ h => h) HT.out rfl ?hy17ky ?_
    case hy17ky => intro wy hSw; obtain ⟨q0, q1, q2⟩ := hSw; go_simp; try with_reducible rfl
    simp only [Act.put, List.setIfInBounds_toArray, List.set_cons_zero, List.set_cons_succ]
    refine wpAnyD_stepL (i := 1) (by kernel_rfl) rfl (fun K hK => ?_)
    refine step_call rfl (run_call ent_rorder #[.tmp 17] _ rfl #[stV pa np cp la nl cl oa no co] rfl) (order_any v0 pa la cp cl np nl ps ls oa no co (HS.out.keep HDv0.out) HN.out HM.out) ?_
    rintro e v1 ⟨⟨rorder, rfl, hr⟩, hb7⟩
    have HRorder := hidb hr
    have HDv1 := hidb (HDv0.out.trans (hb7.mono HDv0.out.size))
    have HFv1 := hidb (HFv0.out.trans (hb7.mono HFv0.out.size))
    refine hK _ _ (fun _ => HSA.out _ HFv1.out) ?_
    clear hK K hb7 hr HT
    have HT := hidb (HSA.out _ HFv1.out)
    simp only [Act.put, List.setIfInBounds_toArray, List.set_cons_zero, List.set_cons_succ]
    refine wpAnyD_stepL (i := 3) (by kernel_rfl) rfl (fun K hK => ?_)
    refine step_call rfl (run_call ent_rghost #[.tmp 19] _ rfl #[stV pa np cp la nl cl oa no co] rfl) (ghost_any v1 pa la cp cl np nl ps ls oa no co (HS.out.keep HDv1.out) HN.out) ?_
    rintro e v2 ⟨⟨rghost, rfl, hr⟩, hb7⟩
    have HRghost := hidb hr
    have HDv2 := hidb (HDv1.out.trans (hb7.mono HDv1.out.size))
    have HFv2 := hidb (HFv1.out.trans (hb7.mono HFv1.out.size))
    refine hK _ _ (fun _ => HSA.out _ HFv2.out) ?_
    clear hK K hb7 hr HT
    have HT := hidb (HSA.out _ HFv2.out)
    simp only [Act.put, List.setIfInBounds_toArray, List.set_cons_zero, List.set_cons_succ]
    refine wpAnyD_stepL (i := 5) (by kernel_rfl) rfl (fun K hK => ?_)
    refine step_call rfl (run_call ent_rliving #[.tmp 21] _ rfl #[stV pa np cp la nl cl oa no co] rfl) (living_any v2 pa la cp cl np nl ps ls oa no co (HS.out.keep HDv2.out) HN.out) ?_
    rintro e v3 ⟨⟨rliving, rfl, hr⟩, hb7⟩
    have HRliving := hidb hr
    have HDv3 := hidb (HDv2.out.trans (hb7.mono HDv2.out.size))
    have HFv3 := hidb (HFv2.out.trans (hb7.mono HFv2.out.size))
    refine hK _ _ (fun _ => HSA.out _ HFv3.out) ?_
    clear hK K hb7 hr HT
    have HT := hidb (HSA.out _ HFv3.out)
    simp only [Act.put, List.setIfInBounds_toArray, List.set_cons_zero, List.set_cons_succ]
    refine wpAnyD_stepL (i := 7) (by kernel_rfl) rfl (fun K hK => ?_)
    refine step_call rfl (run_call ent_rnamed #[.tmp 23] _ rfl #[stV pa np cp la nl cl oa no co] rfl) (named_any v3 pa la cp cl np nl ps ls oa no co (HS.out.keep HDv3.out) HN.out HNP.out) ?_
    rintro e v4 ⟨⟨rnamed, rfl, hr⟩, hb7⟩
    have HRnamed := hidb hr
    have HDv4 := hidb (HDv3.out.trans (hb7.mono HDv3.out.size))
    have HFv4 := hidb (HFv3.out.trans (hb7.mono HFv3.out.size))
    refine hK _ _ (fun _ => HSA.out _ HFv4.out) ?_
    clear hK K hb7 hr HT
    have HT := hidb (HSA.out _ HFv4.out)
    simp only [Act.put, List.setIfInBounds_toArray, List.set_cons_zero, List.set_cons_succ]
    refine wpAnyD_takeL (i := 12) (v := ?vv12ky) rfl (by kernel_rfl) (by kernel_rfl) (by kernel_rfl) (by kernel_rfl) (fun _ _ _ h => h) HT.out rfl ?hy12ky ?_
    case hy12ky => intro wy hSw; obtain ⟨q0, q1, q2⟩ := hSw; go_simp; try with_reducible rfl
    simp only [Act.put, List.setIfInBounds_toArray, List.set_cons_zero, List.set_cons_succ]
    refine wpAnyD_takeG (i := 13) (v := ?vv13ky) rfl (by kernel_rfl) (by kernel_rfl) (by kernel_rfl) (by kernel_rfl) (fun _ _ _ h => h) HT.out (by simp [Region.wanted, yielded]) ?hy13ky ?_
    case hy13ky => intro wy hSw; obtain ⟨q0, q1, q2⟩ := hSw; go_simp; try with_reducible rfl
    simp only [Act.put, List.setIfInBounds_toArray, List.set_cons_zero, List.set_cons_succ]
    refine wpAnyD_stepL (i := 14) (by kernel_rfl) rfl (fun K hK => ?_)
    refine step_call (by simp [Region.wanted, yielded]) (run_call ent_rdead #[.tmp 30] _ rfl #[stV pa np cp la nl cl oa no co] rfl) (dead_any v4 pa la cp cl np nl ps ls oa no co (HS.out.keep HDv4.out) HN.out) ?_
    rintro e v5 ⟨⟨rdead, rfl, hr⟩, hb7⟩
    have HRdead := hidb hr
    have HDv5 := hidb (HDv4.out.trans (hb7.mono HDv4.out.size))
    have HFv5 := hidb (HFv4.out.trans (hb7.mono HFv4.out.size))
    refine hK _ _ (fun _ => HSA.out _ HFv5.out) ?_
    clear hK K hb7 hr HT
    have HT := hidb (HSA.out _ HFv5.out)
    simp only [Act.put, List.setIfInBounds_toArray, List.set_cons_zero, List.set_cons_succ]
    refine wpAnyD_takeL (i := 15) (v := ?vv15ky) rfl (by kernel_rfl) (by kernel_rfl) (by kernel_rfl) (by kernel_rfl) (fun _ _ _ h => h) HT.out rfl ?hy15ky ?_
    case hy15ky => intro wy hSw; obtain ⟨q0, q1, q2⟩ := hSw; go_simp; try with_reducible rfl
    simp only [Act.put, List.setIfInBounds_toArray, List.set_cons_zero, List.set_cons_succ]
    refine wpAnyD_takeL (i := 18) (v := ?vv18ky) rfl (by kernel_rfl) (by kernel_rfl) (by kernel_rfl) (by kernel_rfl) (fun _ _ _ h => h) HT.out rfl ?hy18ky ?_
    case hy18ky => intro wy hSw; obtain ⟨q0, q1, q2⟩ := hSw; go_simp; try with_reducible rfl
    simp only [Act.put, List.setIfInBounds_toArray, List.set_cons_zero, List.set_cons_succ]
    refine wpAnyD_takeG (i := 19) (v := ?vv19ky) rfl (by kernel_rfl) (by kernel_rfl) (by kernel_rfl) (by kernel_rfl) (fun _ _ _ h => h) HT.out (by simp [Region.wanted, yielded]) ?hy19ky ?_
    case hy19ky => intro wy hSw; obtain ⟨q0, q1, q2⟩ := hSw; go_simp; try with_reducible rfl
    simp only [Act.put, List.setIfInBounds_toArray, List.set_cons_zero, List.set_cons_succ]
    refine wpAnyD_stepL (i := 20) (by kernel_rfl) rfl (fun K hK => ?_)
    refine step_call (by simp [Region.wanted, yielded]) (run_call ent_rpaired #[.tmp 36] _ rfl #[stV pa np cp la nl cl oa no co] rfl) (paired_any v5 pa la cp cl np nl ps ls oa no co (HS.out.keep HDv5.out) HN.out) ?_
    rintro e v6 ⟨⟨rpaired, rfl, hr⟩, hb7⟩
    have HRpaired := hidb hr
    have HDv6 := hidb (HDv5.out.trans (hb7.mono HDv5.out.size))
    have HFv6 := hidb (HFv5.out.trans (hb7.mono HFv5.out.size))
    refine hK _ _ (fun _ => HSA.out _ HFv6.out) ?_
    clear hK K hb7 hr HT
    have HT := hidb (HSA.out _ HFv6.out)
    simp only [Act.put, List.setIfInBounds_toArray, List.set_cons_zero, List.set_cons_succ]
    refine wpAnyD_takeL (i := 21) (v := ?vv21ky) rfl (by kernel_rfl) (by kernel_rfl) (by kernel_rfl) (by kernel_rfl) (fun _ _ _ h => h) HT.out rfl ?hy21ky ?_
    case hy21ky => intro wy hSw; obtain ⟨q0, q1, q2⟩ := hSw; go_simp; try with_reducible rfl
    simp only [Act.put, List.setIfInBounds_toArray, List.set_cons_zero, List.set_cons_succ]
    refine wpAnyD_stepL (i := 22) (by kernel_rfl) rfl (fun K hK => ?_)
    go_simp
    have HAR := hidb (At.new v6 [.bool rorder, .bool rghost, .bool rliving, .bool rnamed, .bool al, .bool mu, .bool rdead, .bool rpaired] 4)
    have HFx := hidb (HFv6.out.alloc HFv6.out.size (.cells #[.bool rorder, .bool rghost, .bool rliving, .bool rnamed, .bool al, .bool mu, .bool rdead, .bool rpaired] 4))
    have HDx := hidb (HDv6.out.alloc HDv6.out.size (.cells #[.bool rorder, .bool rghost, .bool rliving, .bool rnamed, .bool al, .bool mu, .bool rdead, .bool rpaired] 4))
    refine hK _ _ (fun _ => HSA.out _ HFx.out) ?_
    clear hK K HT
    have HT := hidb (HSA.out _ HFx.out)
    refine wpAnyD_stepL (i := 23) (by kernel_rfl) rfl (fun K hK => ?_)
    go_simp
    refine hK _ _ (fun _ => HT.out) ?_
    clear hK K HT
    refine wpAnyD_done (by kernel_rfl) ?_ _
    have HRU : Hid (RuOk ps ls rorder rghost rliving rnamed al mu rdead rpaired) := hidb ⟨HRorder.out, HRghost.out, HRliving.out, HRnamed.out, ⟨fun h _ => HAL.out.1 h, fun h => HAL.out.2 (h HNC.out)⟩, ⟨fun h _ => HMU.out.1 h, fun h => HMU.out.2 (h HNC.out)⟩, ⟨fun h _ => HRdead.out.1 h, fun h => HRdead.out.2 (h HNC.out)⟩, ⟨fun h _ => HRpaired.out.1 h, fun h => HRpaired.out.2 (h HNC.out)⟩⟩
    obtain ⟨X, hX⟩ : ∃ X, v6.alloc (.cells #[.bool rorder, .bool rghost, .bool rliving, .bool rnamed, .bool al, .bool mu, .bool rdead, .bool rpaired] 4) = X := ⟨_, rfl⟩
    have HAX : Hid (At X v6.heap.size [.bool rorder, .bool rghost, .bool rliving, .bool rnamed, .bool al, .bool mu, .bool rdead, .bool rpaired]) := hidb (by rw [← hX]; exact HAR.out)
    rw [hX] at HDx ⊢
    clear hX HFx HAR
    obtain ⟨bb, hbb⟩ : ∃ bb, v6.heap.size = bb := ⟨_, rfl⟩
    rw [hbb] at HAX ⊢
    clear hbb
    have HL8 : Hid ([rorder, rghost, rliving, rnamed, al, mu, rdead, rpaired].length = 8) := hidb rfl
    obtain ⟨BS, hBS⟩ : ∃ BS : List Bool, [rorder, rghost, rliving, rnamed, al, mu, rdead, rpaired] = BS := ⟨_, rfl⟩
    have HAX : Hid (At X bb (BS.map Value.bool)) := hidb (by rw [← hBS]; exact HAX.out)
    rw [hBS] at HL8
    have HBS := hidb hBS
    clear hBS
    obtain ⟨i0, hi, hz0, hz1, hz2⟩ := info_int
    go_wp2_with fail
    go_loopw [7, 8] (fun av iv wr => ∃ (m n c : Nat) (a : Option Addr), m ≤ 8 ∧ av = .slice a n c ∧ iv = .int .i64 m ∧ (brk BS m).length = n ∧ wr.ownsRow X.heap.size InT 1 (.slice a n c) n (zX (brk BS m)) ∧ Below X.heap.size X wr) (fun _ iv _ => 8 - (RowKit.intOf iv).toNat)
    case atStart => exact ⟨0, 0, 0, none, by omega, rfl, rfl, rfl, ⟨rfl, .inl ⟨rfl, rfl⟩⟩, Below.refl _ _⟩
    case round =>
      obtain ⟨m, n, c, a, hm, rfl, rfl, hln, hown, hb⟩ := hrel
      have HLN := hidb hln
      have HOWN := hidb hown
      have HB := hidb hb
      clear hln hown hb
      have HNN : Hid (n ≤ 8) := hidb (by have h1 := brk_len BS m; have h2 := HLN.out; omega)
      by_cases hml : m < 8
      · have hmb : (m : Int) < 8 := by omega
        have hmz : (0 : Int) ≤ (m : Int) := by omega
        have hmw : IntKind.i64.wrap ((m : Int) + 1) = (m : Int) + 1 := by rw [IntKind.wrap_i64]; omega
        obtain ⟨b, hb⟩ : ∃ b, BS[m]? = some b := ⟨_, List.getElem?_eq_getElem (by have := HL8.out; omega)⟩
        have c0 : wr.cell? ⟨bb, m, none⟩ = some (.bool b) := ((HAX.out.keep HB.out).1 m (.bool b) (by rw [List.getElem?_map, hb]; rfl)).1
        have HBM := hidb hb
        clear hb
        cases b
        · have HOA := hidb (HOWN.out.alloc (.cells #[.int .i64 ((m : Int) + 1)] 3))
          go_wp2_with (first
            | (at_builtin; refine wpList_append_own _ rfl _ _ 34 rfl X.heap.size 3 i0 (.int .i64 0) 1 8 Try.underlying34 hi hz0 hz1 hz2 rfl (by decide) (.slice a n c) n (zX (brk BS m)) rfl HOA.out ⟨wr.heap.size, 0, none⟩ 1 1 [.int .i64 ((m : Int) + 1)] rfl rfl (cell_one_new _ _ _) (by simp [Value.oneCell']) (by have := HNN.out; unfold maxLen; omega) (by have := HNN.out; omega) (by have := HB.out.size; simp; omega) ?_; intro v4 w4 hown hg hnil; have HO4 := hidb hown; have HG4 := hidb hg; obtain ⟨a4, c4, m4, rfl, hm4⟩ := own_slN hown; subst hm4; clear hown hg hnil))
          have HB4 : Hid (Below X.heap.size X w4) := hidb ((HB.out.alloc HB.out.size _).grown HG4.out (by have := HB.out.size; simp; omega) (fun j hj => (HOWN.out.lt j hj).1))
          go_roundw
          case rel =>
            refine ⟨m + 1, _, _, _, by omega, rfl, by go_num, by rw [brk_no HBM.out, List.length_append, HLN.out]; rfl, by rw [brk_no HBM.out, show zX (brk BS m ++ [(m : Int) + 1]) = zX (brk BS m) ++ [.int .i64 ((m : Int) + 1)] by simp [zX]]; exact HO4.out, HB4.out⟩
          case measure => simp [RowKit.intOf]; omega
        · go_wp2_with fail
          go_roundw
          case rel =>
            refine ⟨m + 1, n, c, a, by omega, rfl, by go_num, by rw [brk_yes HBM.out]; exact HLN.out, by rw [brk_yes HBM.out]; exact HOWN.out, HB.out⟩
          case measure => simp [RowKit.intOf]; omega
      · have hmn : ¬ (m : Int) < 8 := by omega
        obtain rfl : m = 8 := by omega
        go_wp2_with fail
        go_ret
        refine ⟨rorder, rghost, rliving, rnamed, al, mu, rdead, rpaired, a, n, c, HRU.out, rfl, ?_, ?_, HDx.out.trans (HB.out.mono HDx.out.size)⟩
        · rw [HBS.out]; exact HLN.out
        · rw [HBS.out]; exact own_baseN HOWN.out HDx.out.size
end Go.Proofs.Ytjiigabfdigkaaa


