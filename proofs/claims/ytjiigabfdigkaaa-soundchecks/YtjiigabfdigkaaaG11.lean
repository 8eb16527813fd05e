import Derived.Test.YtjiigabfdigkaaaG08
import Derived.Test.YtjiigabfdigkaaaG10
import Derived.BigQuiet
/- Of a state: who holds whom, asked where it still matters. -/
namespace Go.Proofs.Ytjiigabfdigkaaa
open Go.RowKit
attribute [local go_sem] store_float
theorem ent_holds : Ent 40 := by
  intro args w
  kernel_rfl
section
variable {t0 t1 t2 t3 t4 t5 t6 t7 t8 t9 t10 t11 t12 t13 t14 t15 t16 t17 t18 t19 t20 t21 t22 t23 t24 t25 t26 t27 t28 t29 t30 t31 t32 t33 t34 t35 t36 t37 t38 t39 t40 t41 t42 t43 t44 t45 t46 t47 t48 t49 t50 t51 t52 t53 t54 : Value}
set_option maxHeartbeats 4000000 in
set_option maxRecDepth 100000 in
theorem lkReg {wr : World} {dfs : List Deferred} {pa la : Option Addr} {cp cl np nl : Nat} {ps : List Pc} {ls : List Ln} {oa : Option Addr} {no co : Nat} {sb pb b2 o2 k ll lc : Nat} {ppid xpid : Int} (mu : Bool) (hs : StIn wr pa ps la ls) (hnp : ps.length = np) (HSA : Hid (∀ W9, Below wr.heap.size wr W9 → W9.cell? ⟨sb, 0, none⟩ = some (.slice pa np cp) ∧ W9.cell? ⟨sb, 1, none⟩ = some (.slice la nl cl) ∧ W9.cell? ⟨sb, 2, none⟩ = some (.slice oa no co) ∧ W9.cell? ⟨pb, 9, none⟩ = some (.slice (some ⟨b2, o2, none⟩) ll lc) ∧ W9.cell? ⟨pb, 0, none⟩ = some (.int .i64 ppid) ∧ W9.cell? ⟨b2, o2 + k * 3, none⟩ = some (.int .i64 xpid))) (e1 : (k : Int) < (ll : Int)) (e2 : (0 : Int) ≤ (k : Int)) :
    (Code.region 12 #[{ dst := some 40, op := Op.move (Operand.tmp 5), type := 4, pos := "ref.go:172", after := #[], guard := none }, { dst := some 41, op := Op.move (Operand.tmp 40), type := 4, pos := "ref.go:172", after := #[{ on := 0, ground := Ground.data }], guard := none }, { dst := some 42, op := Op.load 26 (Operand.tmp 1), type := 26, pos := "ref.go:172", after := #[{ on := 1, ground := Ground.guard }], guard := some (1, true) }, { dst := some 43, op := Op.fieldAddr 45 (Operand.tmp 7) 5, type := 0, pos := "ref.go:172", after := #[{ on := 1, ground := Ground.guard }], guard := some (1, true) }, { dst := some 44, op := Op.load 37 (Operand.tmp 43), type := 37, pos := "ref.go:172", after := #[{ on := 3, ground := Ground.data }, { on := 1, ground := Ground.guard }], guard := some (1, true) }, { dst := some 45, op := Op.move (Operand.tmp 8), type := 3, pos := "ref.go:172", after := #[{ on := 1, ground := Ground.guard }], guard := some (1, true) }, { dst := some 46, op := Op.indexAddr 37 (Operand.tmp 44) (Operand.tmp 45), type := 0, pos := "ref.go:172", after := #[{ on := 4, ground := Ground.data }, { on := 5, ground := Ground.data }, { on := 1, ground := Ground.guard }], guard := some (1, true) }, { dst := some 47, op := Op.fieldAddr 61 (Operand.tmp 46) 0, type := 0, pos := "ref.go:172", after := #[{ on := 6, ground := Ground.data }, { on := 1, ground := Ground.guard }], guard := some (1, true) }, { dst := some 48, op := Op.load 3 (Operand.tmp 47), type := 3, pos := "ref.go:172", after := #[{ on := 7, ground := Ground.data }, { on := 1, ground := Ground.guard }], guard := some (1, true) }, { dst := some 49, op := Op.fieldAddr 45 (Operand.tmp 7) 0, type := 0, pos := "ref.go:172", after := #[{ on := 1, ground := Ground.guard }], guard := some (1, true) }, { dst := some 50, op := Op.load 3 (Operand.tmp 49), type := 3, pos := "ref.go:172", after := #[{ on := 9, ground := Ground.data }, { on := 1, ground := Ground.guard }], guard := some (1, true) }, { dst := some 51, op := Op.call { callee := Callee.value (Operand.func 40), args := #[Operand.tmp 42, Operand.tmp 48, Operand.tmp 50], argTypes := #[26, 3, 3] }, type := 4, pos := "ref.go:172", after := #[{ on := 2, ground := Ground.data }, { on := 8, ground := Ground.data }, { on := 10, ground := Ground.data }, { on := 1, ground := Ground.chain }, { on := 1, ground := Ground.guard }], guard := some (1, true) }, { dst := some 52, op := Op.pick (Operand.tmp 41) (Operand.tmp 51) (Operand.const (Value.bool false)), type := 4, pos := "ref.go:172", after := #[{ on := 1, ground := Ground.data }, { on := 11, ground := Ground.data }], guard := none }, { dst := some 5, op := Op.assign (Operand.tmp 52), type := 4, pos := "ref.go:172", after := #[{ on := 12, ground := Ground.data }, { on := 11, ground := Ground.chain }, { on := 0, ground := Ground.phase }, { on := 1, ground := Ground.phase }, { on := 2, ground := Ground.phase }, { on := 3, ground := Ground.phase }, { on := 4, ground := Ground.phase }, { on := 5, ground := Ground.phase }, { on := 6, ground := Ground.phase }, { on := 7, ground := Ground.phase }, { on := 8, ground := Ground.phase }, { on := 9, ground := Ground.phase }, { on := 10, ground := Ground.phase }, { on := 11, ground := Ground.phase }, { on := 12, ground := Ground.phase }], guard := none }] true).wp Try.prog (fun ex a9 w9 => ex = .normal ∧ ∃ (r2 : Bool) (u40 u41 u42 u43 u44 u45 u46 u47 u48 u49 u50 u51 u52 : Value), a9 = ⟨#[t0, .pointer (some ⟨sb, 0, none⟩), t2, t3, t4, .bool r2, t6, .pointer (some ⟨pb, 0, none⟩), .int .i64 (k : Int), t9, t10, t11, t12, t13, t14, t15, t16, t17, t18, t19, t20, t21, t22, t23, t24, t25, t26, t27, t28, t29, t30, t31, t32, t33, t34, t35, t36, t37, t38, t39, u40, u41, u42, u43, u44, u45, u46, u47, u48, u49, u50, u51, u52, t53, t54], dfs⟩ ∧ Below wr.heap.size wr w9 ∧ (mu = false → r2 = false) ∧ (mu = true → (r2 = true ↔ Holds ps xpid ppid))) ⟨#[t0, .pointer (some ⟨sb, 0, none⟩), t2, t3, t4, .bool mu, t6, .pointer (some ⟨pb, 0, none⟩), .int .i64 (k : Int), t9, t10, t11, t12, t13, t14, t15, t16, t17, t18, t19, t20, t21, t22, t23, t24, t25, t26, t27, t28, t29, t30, t31, t32, t33, t34, t35, t36, t37, t38, t39, t40, t41, t42, t43, t44, t45, t46, t47, t48, t49, t50, t51, t52, t53, t54], dfs⟩ wr := by
  have HS := hidb hs
  have HN := hidb hnp
  clear hs hnp
  refine wp_region_D (fun W9 => W9.cell? ⟨sb, 0, none⟩ = some (.slice pa np cp) ∧ W9.cell? ⟨sb, 1, none⟩ = some (.slice la nl cl) ∧ W9.cell? ⟨sb, 2, none⟩ = some (.slice oa no co) ∧ W9.cell? ⟨pb, 9, none⟩ = some (.slice (some ⟨b2, o2, none⟩) ll lc) ∧ W9.cell? ⟨pb, 0, none⟩ = some (.int .i64 ppid) ∧ W9.cell? ⟨b2, o2 + k * 3, none⟩ = some (.int .i64 xpid)) [] (by kernel_rfl) ?_
  have hbd : Below wr.heap.size wr wr.drew := (Below.refl _ _).drew
  generalize wr.drew = wd at hbd ⊢
  have HBwd := hidb hbd
  have HS0 := hidb (HSA.out wd hbd)
  clear hbd
  cases mu
  · skip
    refine wpAnyD_takeL (i := 0) (v := ?vv0a) rfl (by kernel_rfl) (by kernel_rfl) (by kernel_rfl) (by kernel_rfl) (fun _ _ _ h => Exit.noConfusion h.1) HS0.out rfl ?hy0a ?_
    case hy0a => intro wy hSw; obtain ⟨y0, y1, y2, y3, y4, y5⟩ := hSw; go_simp; try with_reducible rfl
    simp only [Act.put, List.setIfInBounds_toArray, List.set_cons_zero, List.set_cons_succ]
    refine wpAnyD_takeL (i := 1) (v := ?vv1a) rfl (by kernel_rfl) (by kernel_rfl) (by kernel_rfl) (by kernel_rfl) (fun _ _ _ h => Exit.noConfusion h.1) HS0.out rfl ?hy1a ?_
    case hy1a => intro wy hSw; obtain ⟨y0, y1, y2, y3, y4, y5⟩ := hSw; go_simp; try with_reducible rfl
    simp only [Act.put, List.setIfInBounds_toArray, List.set_cons_zero, List.set_cons_succ]
    refine wpAnyD_skipG (i := 2) rfl (by kernel_rfl) (by kernel_rfl) (by kernel_rfl) (by kernel_rfl) (fun _ _ _ h => Exit.noConfusion h.1) HS0.out (by simp [Region.wanted, yielded]) ?_
    simp only [Act.put, List.setIfInBounds_toArray, List.set_cons_zero, List.set_cons_succ]
    refine wpAnyD_skipG (i := 3) rfl (by kernel_rfl) (by kernel_rfl) (by kernel_rfl) (by kernel_rfl) (fun _ _ _ h => Exit.noConfusion h.1) HS0.out (by simp [Region.wanted, yielded]) ?_
    simp only [Act.put, List.setIfInBounds_toArray, List.set_cons_zero, List.set_cons_succ]
    refine wpAnyD_skipG (i := 4) rfl (by kernel_rfl) (by kernel_rfl) (by kernel_rfl) (by kernel_rfl) (fun _ _ _ h => Exit.noConfusion h.1) HS0.out (by simp [Region.wanted, yielded]) ?_
    simp only [Act.put, List.setIfInBounds_toArray, List.set_cons_zero, List.set_cons_succ]
    refine wpAnyD_skipG (i := 5) rfl (by kernel_rfl) (by kernel_rfl) (by kernel_rfl) (by kernel_rfl) (fun _ _ _ h => Exit.noConfusion h.1) HS0.out (by simp [Region.wanted, yielded]) ?_
    simp only [Act.put, List.setIfInBounds_toArray, List.set_cons_zero, List.set_cons_succ]
    refine wpAnyD_skipG (i := 6) rfl (by kernel_rfl) (by kernel_rfl) (by kernel_rfl) (by kernel_rfl) (fun _ _ _ h => Exit.noConfusion h.1) HS0.out (by simp [Region.wanted, yielded]) ?_
    simp only [Act.put, List.setIfInBounds_toArray, List.set_cons_zero, List.set_cons_succ]
    refine wpAnyD_skipG (i := 7) rfl (by kernel_rfl) (by kernel_rfl) (by kernel_rfl) (by kernel_rfl) (fun _ _ _ h => Exit.noConfusion h.1) HS0.out (by simp [Region.wanted, yielded]) ?_
    simp only [Act.put, List.setIfInBounds_toArray, List.set_cons_zero, List.set_cons_succ]
    refine wpAnyD_skipG (i := 8) rfl (by kernel_rfl) (by kernel_rfl) (by kernel_rfl) (by kernel_rfl) (fun _ _ _ h => Exit.noConfusion h.1) HS0.out (by simp [Region.wanted, yielded]) ?_
    simp only [Act.put, List.setIfInBounds_toArray, List.set_cons_zero, List.set_cons_succ]
    refine wpAnyD_skipG (i := 9) rfl (by kernel_rfl) (by kernel_rfl) (by kernel_rfl) (by kernel_rfl) (fun _ _ _ h => Exit.noConfusion h.1) HS0.out (by simp [Region.wanted, yielded]) ?_
    simp only [Act.put, List.setIfInBounds_toArray, List.set_cons_zero, List.set_cons_succ]
    refine wpAnyD_skipG (i := 10) rfl (by kernel_rfl) (by kernel_rfl) (by kernel_rfl) (by kernel_rfl) (fun _ _ _ h => Exit.noConfusion h.1) HS0.out (by simp [Region.wanted, yielded]) ?_
    simp only [Act.put, List.setIfInBounds_toArray, List.set_cons_zero, List.set_cons_succ]
    refine wpAnyD_skipG (i := 11) rfl (by kernel_rfl) (by kernel_rfl) (by kernel_rfl) (by kernel_rfl) (fun _ _ _ h => Exit.noConfusion h.1) HS0.out (by simp [Region.wanted, yielded]) ?_
    simp only [Act.put, List.setIfInBounds_toArray, List.set_cons_zero, List.set_cons_succ]
    refine wpAnyD_takeL (i := 12) (v := ?vv12a) rfl (by kernel_rfl) (by kernel_rfl) (by kernel_rfl) (by kernel_rfl) (fun _ _ _ h => Exit.noConfusion h.1) HS0.out rfl ?hy12a ?_
    case hy12a => intro wy hSw; obtain ⟨y0, y1, y2, y3, y4, y5⟩ := hSw; go_simp; try with_reducible rfl
    simp only [Act.put, List.setIfInBounds_toArray, List.set_cons_zero, List.set_cons_succ]
    refine wpAnyD_takeL (i := 13) (v := ?vv13a) rfl (by kernel_rfl) (by kernel_rfl) (by kernel_rfl) (by kernel_rfl) (fun _ _ _ h => Exit.noConfusion h.1) HS0.out rfl ?hy13a ?_
    case hy13a => intro wy hSw; obtain ⟨y0, y1, y2, y3, y4, y5⟩ := hSw; go_simp; try with_reducible rfl
    simp only [Act.put, List.setIfInBounds_toArray, List.set_cons_zero, List.set_cons_succ]
    refine wpAnyD_done (by kernel_rfl) ?_ _
    exact ⟨rfl, false, _, _, _, _, _, _, _, _, _, _, _, _, _, rfl, HBwd.out, fun _ => rfl, fun h => (by cases h)⟩
  · skip
    refine wpAnyD_takeL (i := 0) (v := ?vv0b) rfl (by kernel_rfl) (by kernel_rfl) (by kernel_rfl) (by kernel_rfl) (fun _ _ _ h => Exit.noConfusion h.1) HS0.out rfl ?hy0b ?_
    case hy0b => intro wy hSw; obtain ⟨y0, y1, y2, y3, y4, y5⟩ := hSw; go_simp; try with_reducible rfl
    simp only [Act.put, List.setIfInBounds_toArray, List.set_cons_zero, List.set_cons_succ]
    refine wpAnyD_takeL (i := 1) (v := ?vv1b) rfl (by kernel_rfl) (by kernel_rfl) (by kernel_rfl) (by kernel_rfl) (fun _ _ _ h => Exit.noConfusion h.1) HS0.out rfl ?hy1b ?_
    case hy1b => intro wy hSw; obtain ⟨y0, y1, y2, y3, y4, y5⟩ := hSw; go_simp; try with_reducible rfl
    simp only [Act.put, List.setIfInBounds_toArray, List.set_cons_zero, List.set_cons_succ]
    refine wpAnyD_takeG (i := 2) (v := ?vv2b) rfl (by kernel_rfl) (by kernel_rfl) (by kernel_rfl) (by kernel_rfl) (fun _ _ _ h => Exit.noConfusion h.1) HS0.out (by simp [Region.wanted, yielded]) ?hy2b ?_
    case hy2b => intro wy hSw; obtain ⟨y0, y1, y2, y3, y4, y5⟩ := hSw; go_simp; try with_reducible rfl
    simp only [Act.put, List.setIfInBounds_toArray, List.set_cons_zero, List.set_cons_succ]
    refine wpAnyD_takeG (i := 3) (v := ?vv3b) rfl (by kernel_rfl) (by kernel_rfl) (by kernel_rfl) (by kernel_rfl) (fun _ _ _ h => Exit.noConfusion h.1) HS0.out (by simp [Region.wanted, yielded]) ?hy3b ?_
    case hy3b => intro wy hSw; obtain ⟨y0, y1, y2, y3, y4, y5⟩ := hSw; go_simp; try with_reducible rfl
    simp only [Act.put, List.setIfInBounds_toArray, List.set_cons_zero, List.set_cons_succ]
    refine wpAnyD_takeG (i := 4) (v := ?vv4b) rfl (by kernel_rfl) (by kernel_rfl) (by kernel_rfl) (by kernel_rfl) (fun _ _ _ h => Exit.noConfusion h.1) HS0.out (by simp [Region.wanted, yielded]) ?hy4b ?_
    case hy4b => intro wy hSw; obtain ⟨y0, y1, y2, y3, y4, y5⟩ := hSw; go_simp; try with_reducible rfl
    simp only [Act.put, List.setIfInBounds_toArray, List.set_cons_zero, List.set_cons_succ]
    refine wpAnyD_takeG (i := 5) (v := ?vv5b) rfl (by kernel_rfl) (by kernel_rfl) (by kernel_rfl) (by kernel_rfl) (fun _ _ _ h => Exit.noConfusion h.1) HS0.out (by simp [Region.wanted, yielded]) ?hy5b ?_
    case hy5b => intro wy hSw; obtain ⟨y0, y1, y2, y3, y4, y5⟩ := hSw; go_simp; try with_reducible rfl
    simp only [Act.put, List.setIfInBounds_toArray, List.set_cons_zero, List.set_cons_succ]
    refine wpAnyD_takeG (i := 6) (v := ?vv6b) rfl (by kernel_rfl) (by kernel_rfl) (by kernel_rfl) (by kernel_rfl) (fun _ _ _ h => Exit.noConfusion h.1) HS0.out (by simp [Region.wanted, yielded]) ?hy6b ?_
    case hy6b => intro wy hSw; obtain ⟨y0, y1, y2, y3, y4, y5⟩ := hSw; go_simp; try with_reducible rfl
    simp only [Act.put, List.setIfInBounds_toArray, List.set_cons_zero, List.set_cons_succ]
    refine wpAnyD_takeG (i := 7) (v := ?vv7b) rfl (by kernel_rfl) (by kernel_rfl) (by kernel_rfl) (by kernel_rfl) (fun _ _ _ h => Exit.noConfusion h.1) HS0.out (by simp [Region.wanted, yielded]) ?hy7b ?_
    case hy7b => intro wy hSw; obtain ⟨y0, y1, y2, y3, y4, y5⟩ := hSw; go_simp; try with_reducible rfl
    simp only [Act.put, List.setIfInBounds_toArray, List.set_cons_zero, List.set_cons_succ]
    refine wpAnyD_takeG (i := 8) (v := ?vv8b) rfl (by kernel_rfl) (by kernel_rfl) (by kernel_rfl) (by kernel_rfl) (fun _ _ _ h => Exit.noConfusion h.1) HS0.out (by simp [Region.wanted, yielded]) ?hy8b ?_
    case hy8b => intro wy hSw; obtain ⟨y0, y1, y2, y3, y4, y5⟩ := hSw; go_simp; try with_reducible rfl
    simp only [Act.put, List.setIfInBounds_toArray, List.set_cons_zero, List.set_cons_succ]
    refine wpAnyD_takeG (i := 9) (v := ?vv9b) rfl (by kernel_rfl) (by kernel_rfl) (by kernel_rfl) (by kernel_rfl) (fun _ _ _ h => Exit.noConfusion h.1) HS0.out (by simp [Region.wanted, yielded]) ?hy9b ?_
    case hy9b => intro wy hSw; obtain ⟨y0, y1, y2, y3, y4, y5⟩ := hSw; go_simp; try with_reducible rfl
    simp only [Act.put, List.setIfInBounds_toArray, List.set_cons_zero, List.set_cons_succ]
    refine wpAnyD_takeG (i := 10) (v := ?vv10b) rfl (by kernel_rfl) (by kernel_rfl) (by kernel_rfl) (by kernel_rfl) (fun _ _ _ h => Exit.noConfusion h.1) HS0.out (by simp [Region.wanted, yielded]) ?hy10b ?_
    case hy10b => intro wy hSw; obtain ⟨y0, y1, y2, y3, y4, y5⟩ := hSw; go_simp; try with_reducible rfl
    simp only [Act.put, List.setIfInBounds_toArray, List.set_cons_zero, List.set_cons_succ]
    refine wpAnyD_stepL (i := 11) (by kernel_rfl) rfl (fun K hK => ?_)
    refine step_call (by simp [Region.wanted, yielded]) (run_call ent_holds #[.tmp 42, .tmp 48, .tmp 50] _ rfl #[stV pa np cp la nl cl oa no co, .int .i64 xpid, .int .i64 ppid] rfl) (holds_any wd pa la cp cl np nl ps ls oa no co xpid ppid (HS.out.keep HBwd.out) HN.out) ?_
    rintro e w5 ⟨⟨r, rfl, hr⟩, hb5⟩
    have HB5 := hidb (HBwd.out.trans (hb5.mono HBwd.out.size))
    have HR := hidb hr
    refine hK _ _ (fun _ => HSA.out _ HB5.out) ?_
    clear hK K hb5 HS0 hr
    have HS0 := hidb (HSA.out w5 HB5.out)
    simp only [Act.put, List.setIfInBounds_toArray, List.set_cons_zero, List.set_cons_succ]
    refine wpAnyD_takeL (i := 12) (v := ?vv12c) rfl (by kernel_rfl) (by kernel_rfl) (by kernel_rfl) (by kernel_rfl) (fun _ _ _ h => Exit.noConfusion h.1) HS0.out rfl ?hy12c ?_
    case hy12c => intro wy hSw; obtain ⟨y0, y1, y2, y3, y4, y5⟩ := hSw; go_simp; try with_reducible rfl
    simp only [Act.put, List.setIfInBounds_toArray, List.set_cons_zero, List.set_cons_succ]
    refine wpAnyD_takeL (i := 13) (v := ?vv13c) rfl (by kernel_rfl) (by kernel_rfl) (by kernel_rfl) (by kernel_rfl) (fun _ _ _ h => Exit.noConfusion h.1) HS0.out rfl ?hy13c ?_
    case hy13c => intro wy hSw; obtain ⟨y0, y1, y2, y3, y4, y5⟩ := hSw; go_simp; try with_reducible rfl
    simp only [Act.put, List.setIfInBounds_toArray, List.set_cons_zero, List.set_cons_succ]
    refine wpAnyD_done (by kernel_rfl) ?_ _
    exact ⟨rfl, r, _, _, _, _, _, _, _, _, _, _, _, _, _, rfl, HB5.out, fun h => (by cases h), fun _ => HR.out⟩
end
end Go.Proofs.Ytjiigabfdigkaaa


/- Halves that rise, as the program asks. -/
namespace Go.Proofs.Ytjiigabfdigkaaa
open Go.RowKit
attribute [local go_sem] store_float

def cmpZ (x y : Int) : Int := if x < y then -1 else if y < x then 1 else 0
theorem notNaN (x : Int) (w : World) : Calls Try.prog 53 #[.int .i64 x] w fun e w' => e = .returned (.bool false) ∧ w' = w := by
  go_enter Try.func53, Try.ntmps53
  go_wp2_with fail
  go_ret
  exact ⟨by simp, rfl⟩
theorem compare_any (x y : Int) (w : World) : Calls Try.prog 46 #[.int .i64 x, .int .i64 y] w fun e w' => e = .returned (.int .i64 (cmpZ x y)) ∧ w' = w := by
  unfold cmpZ
  by_cases h1 : x < y
  · rw [if_pos h1]
    go_enter Try.func46, Try.ntmps46
    go_wp2_with (go_at_call 53; refine (notNaN _ _).mono ?_; rintro e w' ⟨rfl, rfl⟩)
    go_ret
    exact ⟨rfl, rfl⟩
  · rw [if_neg h1]
    by_cases h2 : y < x
    · rw [if_pos h2]
      go_enter Try.func46, Try.ntmps46
      go_wp2_with (go_at_call 53; refine (notNaN _ _).mono ?_; rintro e w' ⟨rfl, rfl⟩)
      go_ret
      exact ⟨rfl, rfl⟩
    · rw [if_neg h2]
      go_enter Try.func46, Try.ntmps46
      go_wp2_with (go_at_call 53; refine (notNaN _ _).mono ?_; rintro e w' ⟨rfl, rfl⟩)
      go_ret
      exact ⟨rfl, rfl⟩
theorem refs_any (a b : Mn) (w : World) : Calls Try.prog 50 #[.agg #[.int .i64 a.ref, .int .i64 a.pid, .string a.name], .agg #[.int .i64 b.ref, .int .i64 b.pid, .string b.name]] w fun e w' => e = .returned (.int .i64 (cmpZ a.ref b.ref)) ∧ Below w.heap.size w w' := by
  go_enter Try.func50, Try.ntmps50
  go_wp2_with (go_at_call 46; refine (compare_any _ _ _).mono ?_; rintro e w' ⟨rfl, rfl⟩)
  go_ret
  exact ⟨rfl, ((Below.refl _ _).alloc (Nat.le_refl _) _).alloc (by simp) _⟩
theorem pids_any (a b : Hf) (w : World) : Calls Try.prog 48 #[.agg #[.int .i64 a.pid, .int .i64 a.st, .int .i64 a.id], .agg #[.int .i64 b.pid, .int .i64 b.st, .int .i64 b.id]] w fun e w' => e = .returned (.int .i64 (cmpZ a.pid b.pid)) ∧ Below w.heap.size w w' := by
  go_enter Try.func48, Try.ntmps48
  go_wp2_with (go_at_call 46; refine (compare_any _ _ _).mono ?_; rintro e w' ⟨rfl, rfl⟩)
  go_ret
  exact ⟨rfl, ((Below.refl _ _).alloc (Nat.le_refl _) _).alloc (by simp) _⟩

theorem cmpZ_ge (x y : Int) : decide (0 ≤ cmpZ x y) = !decide (x < y) := by
  unfold cmpZ
  by_cases h1 : x < y
  · rw [if_pos h1]; simp [h1]
  · rw [if_neg h1]
    by_cases h2 : y < x
    · rw [if_pos h2]; simp [h1]
    · rw [if_neg h2]; simp [h1]
theorem run_callV {f : Nat} (ent : Ent f) {o : Oper} {a : Act} {w : World} (t : Nat) (xs : Array Operand) (ts : Array TypeId) (hop : o.op = Op.call { callee := .value (.tmp t), args := xs, argTypes := ts }) (ht : a.eval (.tmp t) = .func (.func f) #[] #[]) (vs : Array Value) (hx' : xs.toList.map a.eval = vs.toList) :
    (execOp a.eval o).run Try.prog w = .ok (.enter f vs) w := by
  have hx : xs.map a.eval = vs := by apply Array.ext'; simpa using hx'
  unfold execOp
  rw [hop]
  have ent2 := ent vs w
  simp only [resolve, ht, hx]
  go_simp
theorem ent_refs : Ent 50 := by
  intro args w
  kernel_rfl
theorem ent_pids : Ent 48 := by
  intro args w
  kernel_rfl
set_option maxHeartbeats 4000000 in
set_option maxRecDepth 10000 in
theorem risingM_any (w : World) (q : Option Addr) (c n : Nat) (l : List Mn) (hr : RowC 3 Mn.cells w q l) (hn : l.length = n) (h63 : n ≤ 9223372036854775807) :
    Calls Try.prog 49 #[.slice q n c, .func (.func 50) #[] #[]] w (Says (Rise (l.map Mn.ref)) w) := by
  have HR := hidb hr
  have HN := hidb hn
  clear hr hn
  go_enter Try.func49, Try.ntmps49
  go_wp2_with fail
  go_loopw [5] (fun iv wr => ∃ (m : Nat), 1 ≤ m ∧ (m ≤ n ∨ m = 1) ∧ iv = .int .i64 m ∧ (∀ (i : Nat) (a b : Mn), i + 1 < m → l[i]? = some a → l[i + 1]? = some b → a.ref < b.ref) ∧ Below w.heap.size w wr) (fun iv _ => n - (RowKit.intOf iv).toNat)
  case atStart => exact ⟨1, by omega, by omega, rfl, fun i a b h => by omega, Below.refl _ _⟩
  case round =>
    obtain ⟨m, hm1, hm, rfl, hri, hb⟩ := hrel
    have HRI := hidb hri
    have HB := hidb hb
    have hmv : IntKind.i64.wrap ((m : Int) - 1) = ((m - 1 : Nat) : Int) := by rw [IntKind.wrap_i64]; omega
    have HR' := HR.out.keep hb
    clear hri hb
    by_cases hml : m < n
    · have hmb : (m : Int) < (n : Int) := by omega
      have hmw : IntKind.i64.wrap ((m : Int) + 1) = (m : Int) + 1 := by rw [IntKind.wrap_i64]; omega
      have hmz : (0 : Int) ≤ (m : Int) := by omega
      have hmy : ((m - 1 : Nat) : Int) < (n : Int) := by omega
      have hmx : (0 : Int) ≤ ((m - 1 : Nat) : Int) := by omega
      obtain ⟨x, b, o, hx, rfl, hlt, hc⟩ := HR'.at (m - 1) (by have := HN.out; omega)
      obtain ⟨y, b2, o2, hy, hq, -, hd⟩ := HR'.at m (by have := HN.out; omega)
      obtain ⟨rfl, rfl⟩ : b = b2 ∧ o = o2 := by simpa using hq
      have HXY := hidb (And.intro hx hy)
      have HSA : Hid (∀ W9, Below wr.heap.size wr W9 → W9.cell? ⟨b, o + (m - 1) * 3, none⟩ = some (.int .i64 x.ref) ∧ W9.cell? ⟨b, o + (m - 1) * 3 + 1, none⟩ = some (.int .i64 x.pid) ∧ W9.cell? ⟨b, o + (m - 1) * 3 + 2, none⟩ = some (.string x.name) ∧ W9.cell? ⟨b, o + m * 3, none⟩ = some (.int .i64 y.ref) ∧ W9.cell? ⟨b, o + m * 3 + 1, none⟩ = some (.int .i64 y.pid) ∧ W9.cell? ⟨b, o + m * 3 + 2, none⟩ = some (.string y.name)) := hidb (fun W9 hb => by
        have cl : ∀ (k : Nat), W9.cell? ⟨b, k, none⟩ = wr.cell? ⟨b, k, none⟩ := fun k => hb.cell (p := ⟨b, k, none⟩) hlt
        exact ⟨(cl _).trans (hc 0 (by omega)), (cl _).trans (hc 1 (by omega)), (cl _).trans (hc 2 (by omega)), (cl _).trans (hd 0 (by omega)), (cl _).trans (hd 1 (by omega)), (cl _).trans (hd 2 (by omega))⟩)
      clear hx hy hq hc hd HR'
      go_wp2_with fail
      refine wp_region_D (fun W9 => W9.cell? ⟨b, o + (m - 1) * 3, none⟩ = some (.int .i64 x.ref) ∧ W9.cell? ⟨b, o + (m - 1) * 3 + 1, none⟩ = some (.int .i64 x.pid) ∧ W9.cell? ⟨b, o + (m - 1) * 3 + 2, none⟩ = some (.string x.name) ∧ W9.cell? ⟨b, o + m * 3, none⟩ = some (.int .i64 y.ref) ∧ W9.cell? ⟨b, o + m * 3 + 1, none⟩ = some (.int .i64 y.pid) ∧ W9.cell? ⟨b, o + m * 3 + 2, none⟩ = some (.string y.name)) [] (by kernel_rfl) ?_
      have hbd : Below wr.heap.size wr wr.drew := (Below.refl _ _).drew
      generalize wr.drew = wd at hbd ⊢
      have HD := hidb hbd
      have HT := hidb (HSA.out wd hbd)
      clear hbd
      refine wpAnyD_takeL (i := 0) (v := ?vv0r) rfl (by kernel_rfl) (by kernel_rfl) (by kernel_rfl) (by kernel_rfl) (fun _ _ _ h => h) HT.out rfl ?hy0r ?_
      case hy0r => intro wy hSw; obtain ⟨q0, q1, q2, q3, q4, q5⟩ := hSw; go_simp; try with_reducible rfl
      simp only [Act.put, List.setIfInBounds_toArray, List.set_cons_zero, List.set_cons_succ]
      refine wpAnyD_takeL (i := 1) (v := ?vv1r) rfl (by kernel_rfl) (by kernel_rfl) (by kernel_rfl) (by kernel_rfl) (fun _ _ _ h => h) HT.out rfl ?hy1r ?_
      case hy1r => intro wy hSw; obtain ⟨q0, q1, q2, q3, q4, q5⟩ := hSw; go_simp; try with_reducible rfl
      simp only [Act.put, List.setIfInBounds_toArray, List.set_cons_zero, List.set_cons_succ]
      refine wpAnyD_takeL (i := 2) (v := ?vv2r) rfl (by kernel_rfl) (by kernel_rfl) (by kernel_rfl) (by kernel_rfl) (fun _ _ _ h => h) HT.out rfl ?hy2r ?_
      case hy2r => intro wy hSw; obtain ⟨q0, q1, q2, q3, q4, q5⟩ := hSw; go_simp; try with_reducible rfl
      simp only [Act.put, List.setIfInBounds_toArray, List.set_cons_zero, List.set_cons_succ]
      refine wpAnyD_takeL (i := 3) (v := ?vv3r) rfl (by kernel_rfl) (by kernel_rfl) (by kernel_rfl) (by kernel_rfl) (fun _ _ _ h => h) HT.out rfl ?hy3r ?_
      case hy3r => intro wy hSw; obtain ⟨q0, q1, q2, q3, q4, q5⟩ := hSw; go_simp; try with_reducible rfl
      simp only [Act.put, List.setIfInBounds_toArray, List.set_cons_zero, List.set_cons_succ]
      refine wpAnyD_takeL (i := 4) (v := ?vv4r) rfl (by kernel_rfl) (by kernel_rfl) (by kernel_rfl) (by kernel_rfl) (fun _ _ _ h => h) HT.out rfl ?hy4r ?_
      case hy4r => intro wy hSw; obtain ⟨q0, q1, q2, q3, q4, q5⟩ := hSw; go_simp; try with_reducible rfl
      simp only [Act.put, List.setIfInBounds_toArray, List.set_cons_zero, List.set_cons_succ]
      refine wpAnyD_takeL (i := 5) (v := ?vv5r) rfl (by kernel_rfl) (by kernel_rfl) (by kernel_rfl) (by kernel_rfl) (fun _ _ _ h => h) HT.out rfl ?hy5r ?_
      case hy5r => intro wy hSw; obtain ⟨q0, q1, q2, q3, q4, q5⟩ := hSw; go_simp; try with_reducible rfl
      simp only [Act.put, List.setIfInBounds_toArray, List.set_cons_zero, List.set_cons_succ]
      refine wpAnyD_takeL (i := 6) (v := ?vv6r) rfl (by kernel_rfl) (by kernel_rfl) (by kernel_rfl) (by kernel_rfl) (fun _ _ _ h => h) HT.out rfl ?hy6r ?_
      case hy6r => intro wy hSw; obtain ⟨q0, q1, q2, q3, q4, q5⟩ := hSw; go_simp; try with_reducible rfl
      simp only [Act.put, List.setIfInBounds_toArray, List.set_cons_zero, List.set_cons_succ]
      refine wpAnyD_takeL (i := 7) (v := ?vv7r) rfl (by kernel_rfl) (by kernel_rfl) (by kernel_rfl) (by kernel_rfl) (fun _ _ _ h => h) HT.out rfl ?hy7r ?_
      case hy7r => intro wy hSw; obtain ⟨q0, q1, q2, q3, q4, q5⟩ := hSw; go_simp; try with_reducible rfl
      simp only [Act.put, List.setIfInBounds_toArray, List.set_cons_zero, List.set_cons_succ]
      refine wpAnyD_takeL (i := 8) (v := ?vv8r) rfl (by kernel_rfl) (by kernel_rfl) (by kernel_rfl) (by kernel_rfl) (fun _ _ _ h => h) HT.out rfl ?hy8r ?_
      case hy8r => intro wy hSw; obtain ⟨q0, q1, q2, q3, q4, q5⟩ := hSw; go_simp; try with_reducible rfl
      simp only [Act.put, List.setIfInBounds_toArray, List.set_cons_zero, List.set_cons_succ]
      refine wpAnyD_takeL (i := 9) (v := ?vv9r) rfl (by kernel_rfl) (by kernel_rfl) (by kernel_rfl) (by kernel_rfl) (fun _ _ _ h => h) HT.out rfl ?hy9r ?_
      case hy9r => intro wy hSw; obtain ⟨q0, q1, q2, q3, q4, q5⟩ := hSw; go_simp; try with_reducible rfl
      simp only [Act.put, List.setIfInBounds_toArray, List.set_cons_zero, List.set_cons_succ]
      refine wpAnyD_stepL (i := 10) (by kernel_rfl) rfl (fun K hK => ?_)
      refine step_call rfl (run_callV ent_refs 12 #[.tmp 17, .tmp 21] _ rfl rfl #[.agg #[.int .i64 x.ref, .int .i64 x.pid, .string x.name], .agg #[.int .i64 y.ref, .int .i64 y.pid, .string y.name]] rfl) (refs_any x y wd) ?_
      rintro e w7 ⟨rfl, hb7⟩
      have HE7 := hidb (HD.out.trans (hb7.mono HD.out.size))
      have HB7 := hidb (HB.out.trans (HE7.out.mono HB.out.size))
      refine hK _ _ (fun _ => HSA.out _ HE7.out) ?_
      clear hK K hb7 HT
      have HT := hidb (HSA.out _ HE7.out)
      simp only [Act.put, List.setIfInBounds_toArray, List.set_cons_zero, List.set_cons_succ]
      refine wpAnyD_takeL (i := 11) (v := .bool (!decide (x.ref < y.ref))) rfl (by kernel_rfl) (by kernel_rfl) (by kernel_rfl) (by kernel_rfl) (fun _ _ _ h => h) HT.out rfl ?hz ?_
      case hz => intro wy hSw; clear hSw; rw [← cmpZ_ge]; go_simp
      simp only [Act.put, List.setIfInBounds_toArray, List.set_cons_zero, List.set_cons_succ]
      refine wpAnyD_done (by kernel_rfl) ?_ _
      by_cases hle : x.ref < y.ref
      · have HL := hidb hle
        rw [decide_eq_true hle]
        clear hle
        go_wp2_with fail
        go_roundw
        case rel =>
          refine ⟨m + 1, by omega, by omega, by go_num, fun i a b h ha hb => ?_, HB7.out⟩
          by_cases hi : i + 1 < m
          · exact HRI.out i a b hi ha hb
          · obtain rfl : i = m - 1 := by omega
            rw [HXY.out.1] at ha
            rw [show m - 1 + 1 = m by omega, HXY.out.2] at hb
            obtain rfl := Option.some.inj ha
            obtain rfl := Option.some.inj hb
            exact HL.out
        case measure => simp [RowKit.intOf]; omega
      · have HL := hidb hle
        rw [decide_eq_false hle]
        clear hle
        go_wp2_with fail
        go_ret
        refine ⟨⟨false, rfl, ?_⟩, HB7.out⟩
        refine ⟨fun h => (by cases h), fun h => ?_⟩
        have := h (m - 1) x.ref y.ref (by simp [HXY.out.1]) (by rw [show m - 1 + 1 = m by omega]; simp [HXY.out.2])
        have h5 := HL.out
        omega
    · have hmn : ¬ (m : Int) < (n : Int) := by omega
      go_wp2_with fail
      go_ret
      refine ⟨⟨true, rfl, fun _ i a b ha hb => ?_, fun _ => rfl⟩, HB.out⟩
      rw [List.getElem?_map] at ha hb
      obtain ⟨x, hx, rfl⟩ := Option.map_eq_some_iff.1 ha
      obtain ⟨y, hy, rfl⟩ := Option.map_eq_some_iff.1 hb
      have hlt := (List.getElem?_eq_some_iff.1 hy).1
      have := HN.out
      exact HRI.out i x y (by omega) hx hy
set_option maxHeartbeats 4000000 in
set_option maxRecDepth 10000 in
theorem risingH_any (w : World) (q : Option Addr) (c n : Nat) (l : List Hf) (hr : RowC 3 Hf.cells w q l) (hn : l.length = n) (h63 : n ≤ 9223372036854775807) :
    Calls Try.prog 47 #[.slice q n c, .func (.func 48) #[] #[]] w (Says (Rise (l.map Hf.pid)) w) := by
  have HR := hidb hr
  have HN := hidb hn
  clear hr hn
  go_enter Try.func47, Try.ntmps47
  go_wp2_with fail
  go_loopw [5] (fun iv wr => ∃ (m : Nat), 1 ≤ m ∧ (m ≤ n ∨ m = 1) ∧ iv = .int .i64 m ∧ (∀ (i : Nat) (a b : Hf), i + 1 < m → l[i]? = some a → l[i + 1]? = some b → a.pid < b.pid) ∧ Below w.heap.size w wr) (fun iv _ => n - (RowKit.intOf iv).toNat)
  case atStart => exact ⟨1, by omega, by omega, rfl, fun i a b h => by omega, Below.refl _ _⟩
  case round =>
    obtain ⟨m, hm1, hm, rfl, hri, hb⟩ := hrel
    have HRI := hidb hri
    have HB := hidb hb
    have hmv : IntKind.i64.wrap ((m : Int) - 1) = ((m - 1 : Nat) : Int) := by rw [IntKind.wrap_i64]; omega
    have HR' := HR.out.keep hb
    clear hri hb
    by_cases hml : m < n
    · have hmb : (m : Int) < (n : Int) := by omega
      have hmw : IntKind.i64.wrap ((m : Int) + 1) = (m : Int) + 1 := by rw [IntKind.wrap_i64]; omega
      have hmz : (0 : Int) ≤ (m : Int) := by omega
      have hmy : ((m - 1 : Nat) : Int) < (n : Int) := by omega
      have hmx : (0 : Int) ≤ ((m - 1 : Nat) : Int) := by omega
      obtain ⟨x, b, o, hx, rfl, hlt, hc⟩ := HR'.at (m - 1) (by have := HN.out; omega)
      obtain ⟨y, b2, o2, hy, hq, -, hd⟩ := HR'.at m (by have := HN.out; omega)
      obtain ⟨rfl, rfl⟩ : b = b2 ∧ o = o2 := by simpa using hq
      have HXY := hidb (And.intro hx hy)
      have HSA : Hid (∀ W9, Below wr.heap.size wr W9 → W9.cell? ⟨b, o + (m - 1) * 3, none⟩ = some (.int .i64 x.pid) ∧ W9.cell? ⟨b, o + (m - 1) * 3 + 1, none⟩ = some (.int .i64 x.st) ∧ W9.cell? ⟨b, o + (m - 1) * 3 + 2, none⟩ = some (.int .i64 x.id) ∧ W9.cell? ⟨b, o + m * 3, none⟩ = some (.int .i64 y.pid) ∧ W9.cell? ⟨b, o + m * 3 + 1, none⟩ = some (.int .i64 y.st) ∧ W9.cell? ⟨b, o + m * 3 + 2, none⟩ = some (.int .i64 y.id)) := hidb (fun W9 hb => by
        have cl : ∀ (k : Nat), W9.cell? ⟨b, k, none⟩ = wr.cell? ⟨b, k, none⟩ := fun k => hb.cell (p := ⟨b, k, none⟩) hlt
        exact ⟨(cl _).trans (hc 0 (by omega)), (cl _).trans (hc 1 (by omega)), (cl _).trans (hc 2 (by omega)), (cl _).trans (hd 0 (by omega)), (cl _).trans (hd 1 (by omega)), (cl _).trans (hd 2 (by omega))⟩)
      clear hx hy hq hc hd HR'
      go_wp2_with fail
      refine wp_region_D (fun W9 => W9.cell? ⟨b, o + (m - 1) * 3, none⟩ = some (.int .i64 x.pid) ∧ W9.cell? ⟨b, o + (m - 1) * 3 + 1, none⟩ = some (.int .i64 x.st) ∧ W9.cell? ⟨b, o + (m - 1) * 3 + 2, none⟩ = some (.int .i64 x.id) ∧ W9.cell? ⟨b, o + m * 3, none⟩ = some (.int .i64 y.pid) ∧ W9.cell? ⟨b, o + m * 3 + 1, none⟩ = some (.int .i64 y.st) ∧ W9.cell? ⟨b, o + m * 3 + 2, none⟩ = some (.int .i64 y.id)) [] (by kernel_rfl) ?_
      have hbd : Below wr.heap.size wr wr.drew := (Below.refl _ _).drew
      generalize wr.drew = wd at hbd ⊢
      have HD := hidb hbd
      have HT := hidb (HSA.out wd hbd)
      clear hbd
      refine wpAnyD_takeL (i := 0) (v := ?vv0r) rfl (by kernel_rfl) (by kernel_rfl) (by kernel_rfl) (by kernel_rfl) (fun _ _ _ h => h) HT.out rfl ?hy0r ?_
      case hy0r => intro wy hSw; obtain ⟨q0, q1, q2, q3, q4, q5⟩ := hSw; go_simp; try with_reducible rfl
      simp only [Act.put, List.setIfInBounds_toArray, List.set_cons_zero, List.set_cons_succ]
      refine wpAnyD_takeL (i := 1) (v := ?vv1r) rfl (by kernel_rfl) (by kernel_rfl) (by kernel_rfl) (by kernel_rfl) (fun _ _ _ h => h) HT.out rfl ?hy1r ?_
      case hy1r => intro wy hSw; obtain ⟨q0, q1, q2, q3, q4, q5⟩ := hSw; go_simp; try with_reducible rfl
      simp only [Act.put, List.setIfInBounds_toArray, List.set_cons_zero, List.set_cons_succ]
      refine wpAnyD_takeL (i := 2) (v := ?vv2r) rfl (by kernel_rfl) (by kernel_rfl) (by kernel_rfl) (by kernel_rfl) (fun _ _ _ h => h) HT.out rfl ?hy2r ?_
      case hy2r => intro wy hSw; obtain ⟨q0, q1, q2, q3, q4, q5⟩ := hSw; go_simp; try with_reducible rfl
      simp only [Act.put, List.setIfInBounds_toArray, List.set_cons_zero, List.set_cons_succ]
      refine wpAnyD_takeL (i := 3) (v := ?vv3r) rfl (by kernel_rfl) (by kernel_rfl) (by kernel_rfl) (by kernel_rfl) (fun _ _ _ h => h) HT.out rfl ?hy3r ?_
      case hy3r => intro wy hSw; obtain ⟨q0, q1, q2, q3, q4, q5⟩ := hSw; go_simp; try with_reducible rfl
      simp only [Act.put, List.setIfInBounds_toArray, List.set_cons_zero, List.set_cons_succ]
      refine wpAnyD_takeL (i := 4) (v := ?vv4r) rfl (by kernel_rfl) (by kernel_rfl) (by kernel_rfl) (by kernel_rfl) (fun _ _ _ h => h) HT.out rfl ?hy4r ?_
      case hy4r => intro wy hSw; obtain ⟨q0, q1, q2, q3, q4, q5⟩ := hSw; go_simp; try with_reducible rfl
      simp only [Act.put, List.setIfInBounds_toArray, List.set_cons_zero, List.set_cons_succ]
      refine wpAnyD_takeL (i := 5) (v := ?vv5r) rfl (by kernel_rfl) (by kernel_rfl) (by kernel_rfl) (by kernel_rfl) (fun _ _ _ h => h) HT.out rfl ?hy5r ?_
      case hy5r => intro wy hSw; obtain ⟨q0, q1, q2, q3, q4, q5⟩ := hSw; go_simp; try with_reducible rfl
      simp only [Act.put, List.setIfInBounds_toArray, List.set_cons_zero, List.set_cons_succ]
      refine wpAnyD_takeL (i := 6) (v := ?vv6r) rfl (by kernel_rfl) (by kernel_rfl) (by kernel_rfl) (by kernel_rfl) (fun _ _ _ h => h) HT.out rfl ?hy6r ?_
      case hy6r => intro wy hSw; obtain ⟨q0, q1, q2, q3, q4, q5⟩ := hSw; go_simp; try with_reducible rfl
      simp only [Act.put, List.setIfInBounds_toArray, List.set_cons_zero, List.set_cons_succ]
      refine wpAnyD_takeL (i := 7) (v := ?vv7r) rfl (by kernel_rfl) (by kernel_rfl) (by kernel_rfl) (by kernel_rfl) (fun _ _ _ h => h) HT.out rfl ?hy7r ?_
      case hy7r => intro wy hSw; obtain ⟨q0, q1, q2, q3, q4, q5⟩ := hSw; go_simp; try with_reducible rfl
      simp only [Act.put, List.setIfInBounds_toArray, List.set_cons_zero, List.set_cons_succ]
      refine wpAnyD_takeL (i := 8) (v := ?vv8r) rfl (by kernel_rfl) (by kernel_rfl) (by kernel_rfl) (by kernel_rfl) (fun _ _ _ h => h) HT.out rfl ?hy8r ?_
      case hy8r => intro wy hSw; obtain ⟨q0, q1, q2, q3, q4, q5⟩ := hSw; go_simp; try with_reducible rfl
      simp only [Act.put, List.setIfInBounds_toArray, List.set_cons_zero, List.set_cons_succ]
      refine wpAnyD_takeL (i := 9) (v := ?vv9r) rfl (by kernel_rfl) (by kernel_rfl) (by kernel_rfl) (by kernel_rfl) (fun _ _ _ h => h) HT.out rfl ?hy9r ?_
      case hy9r => intro wy hSw; obtain ⟨q0, q1, q2, q3, q4, q5⟩ := hSw; go_simp; try with_reducible rfl
      simp only [Act.put, List.setIfInBounds_toArray, List.set_cons_zero, List.set_cons_succ]
      refine wpAnyD_stepL (i := 10) (by kernel_rfl) rfl (fun K hK => ?_)
      refine step_call rfl (run_callV ent_pids 12 #[.tmp 17, .tmp 21] _ rfl rfl #[.agg #[.int .i64 x.pid, .int .i64 x.st, .int .i64 x.id], .agg #[.int .i64 y.pid, .int .i64 y.st, .int .i64 y.id]] rfl) (pids_any x y wd) ?_
      rintro e w7 ⟨rfl, hb7⟩
      have HE7 := hidb (HD.out.trans (hb7.mono HD.out.size))
      have HB7 := hidb (HB.out.trans (HE7.out.mono HB.out.size))
      refine hK _ _ (fun _ => HSA.out _ HE7.out) ?_
      clear hK K hb7 HT
      have HT := hidb (HSA.out _ HE7.out)
      simp only [Act.put, List.setIfInBounds_toArray, List.set_cons_zero, List.set_cons_succ]
      refine wpAnyD_takeL (i := 11) (v := .bool (!decide (x.pid < y.pid))) rfl (by kernel_rfl) (by kernel_rfl) (by kernel_rfl) (by kernel_rfl) (fun _ _ _ h => h) HT.out rfl ?hz ?_
      case hz => intro wy hSw; clear hSw; rw [← cmpZ_ge]; go_simp
      simp only [Act.put, List.setIfInBounds_toArray, List.set_cons_zero, List.set_cons_succ]
      refine wpAnyD_done (by kernel_rfl) ?_ _
      by_cases hle : x.pid < y.pid
      · have HL := hidb hle
        rw [decide_eq_true hle]
        clear hle
        go_wp2_with fail
        go_roundw
        case rel =>
          refine ⟨m + 1, by omega, by omega, by go_num, fun i a b h ha hb => ?_, HB7.out⟩
          by_cases hi : i + 1 < m
          · exact HRI.out i a b hi ha hb
          · obtain rfl : i = m - 1 := by omega
            rw [HXY.out.1] at ha
            rw [show m - 1 + 1 = m by omega, HXY.out.2] at hb
            obtain rfl := Option.some.inj ha
            obtain rfl := Option.some.inj hb
            exact HL.out
        case measure => simp [RowKit.intOf]; omega
      · have HL := hidb hle
        rw [decide_eq_false hle]
        clear hle
        go_wp2_with fail
        go_ret
        refine ⟨⟨false, rfl, ?_⟩, HB7.out⟩
        refine ⟨fun h => (by cases h), fun h => ?_⟩
        have := h (m - 1) x.pid y.pid (by simp [HXY.out.1]) (by rw [show m - 1 + 1 = m by omega]; simp [HXY.out.2])
        have h5 := HL.out
        omega
    · have hmn : ¬ (m : Int) < (n : Int) := by omega
      go_wp2_with fail
      go_ret
      refine ⟨⟨true, rfl, fun _ i a b ha hb => ?_, fun _ => rfl⟩, HB.out⟩
      rw [List.getElem?_map] at ha hb
      obtain ⟨x, hx, rfl⟩ := Option.map_eq_some_iff.1 ha
      obtain ⟨y, hy, rfl⟩ := Option.map_eq_some_iff.1 hb
      have hlt := (List.getElem?_eq_some_iff.1 hy).1
      have := HN.out
      exact HRI.out i x y (by omega) hx hy
set_option maxHeartbeats 4000000 in
set_option maxRecDepth 10000 in
theorem hasorder_any (w : World) (p : Pc) (hp : PcIn w p) : Calls Try.prog 30 #[pcV p] w (Says (Rise (p.links.map Hf.pid) ∧ Rise (p.origins.map Mn.ref) ∧ Rise (p.targets.map Mn.ref)) w) := by
  have HPI := hidb hp
  clear hp
  have HX0 := hidb (At.new w [.int .i64 p.pid, .int .i64 p.st, .int .i64 p.rk, .int .i64 p.rn, .float .f64 p.rf, .string p.rs, .slice p.ra p.rl p.rc, .bool p.trap, .slice p.ia p.il p.ic, .slice p.la p.ll p.lc, .slice p.oa p.ol p.oc, .slice p.ta p.tl p.tc, .slice p.na p.nl p.nc] 45)
  go_enter Try.func30, Try.ntmps30
  go_wp2_with fail
  have HB0 : Hid (Below w.heap.size w (w.alloc (.cells #[.int .i64 p.pid, .int .i64 p.st, .int .i64 p.rk, .int .i64 p.rn, .float .f64 p.rf, .string p.rs, .slice p.ra p.rl p.rc, .bool p.trap, .slice p.ia p.il p.ic, .slice p.la p.ll p.lc, .slice p.oa p.ol p.oc, .slice p.ta p.tl p.tc, .slice p.na p.nl p.nc] 45))) := hidb (below_new w _)
  refine (risingH_any _ p.la p.lc p.ll p.links (HPI.out.links.keep HB0.out) HPI.out.ll.1 HPI.out.ll.2).mono ?_
  rintro e w1 ⟨⟨r1, rfl, hr1⟩, hb1⟩
  have HR1 := hidb hr1
  have HB1 := hidb (HB0.out.trans (hb1.mono HB0.out.size))
  have HX1 := hidb (HX0.out.keep hb1)
  clear hr1 hb1
  cases r1
  · go_wp2_with fail
    go_ret
    exact ⟨⟨false, rfl, fun h => (by cases h), fun h => (by have h9 := HR1.out.2 h.1; cases h9)⟩, HB1.out⟩
  have HG1 := hidb (HR1.out.1 rfl)
  obtain ⟨x10, -⟩ := HX1.out.1 10 _ rfl
  clear HR1
  go_wp2_with fail
  refine (risingM_any _ p.oa p.oc p.ol p.origins (HPI.out.origins.keep HB1.out) HPI.out.lo.1 HPI.out.lo.2).mono ?_
  rintro e w2 ⟨⟨r2, rfl, hr2⟩, hb2⟩
  have HR2 := hidb hr2
  have HB2 := hidb (HB1.out.trans (hb2.mono HB1.out.size))
  have HX2 := hidb (HX1.out.keep hb2)
  clear hr2 hb2 x10
  cases r2
  · go_wp2_with fail
    go_ret
    exact ⟨⟨false, rfl, fun h => (by cases h), fun h => (by have h9 := HR2.out.2 h.2.1; cases h9)⟩, HB2.out⟩
  have HG2 := hidb (HR2.out.1 rfl)
  obtain ⟨x11, -⟩ := HX2.out.1 11 _ rfl
  clear HR2
  go_wp2_with fail
  refine (risingM_any _ p.ta p.tc p.tl p.targets (HPI.out.targets.keep HB2.out) HPI.out.lt.1 HPI.out.lt.2).mono ?_
  rintro e w3 ⟨⟨r3, rfl, hr3⟩, hb3⟩
  have HR3 := hidb hr3
  have HB3 := hidb (HB2.out.trans (hb3.mono HB2.out.size))
  clear hr3 hb3 x11
  go_wp2_with fail
  go_ret
  exact ⟨⟨r3, rfl, fun h => ⟨HG1.out, HG2.out, HR3.out.1 h⟩, fun h => HR3.out.2 h.2.2⟩, HB3.out⟩
end Go.Proofs.Ytjiigabfdigkaaa


