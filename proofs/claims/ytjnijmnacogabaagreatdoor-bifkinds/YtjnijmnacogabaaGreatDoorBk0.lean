import Derived.Test.YtjnijmnacogabaaGreatDoorG28
import Derived.Test.YtjnijmnacogabaaGreatDoorG31
/- The kinds' tests as the law calls them. -/
namespace Go.Proofs.YtjnijmnacogabaaGreatDoor
open Go.RowKit Go.Lib Go.Deep
attribute [local go_sem] store_float f64bits store_func store_nilFunc
attribute [local go_sem ↓] Go.wp_at_zero Go.wp_at_succ

def ToldB (b : Bool) (w : World) (e : Ending) (w' : World) : Prop := (∃ a c, e = .returned (.tuple #[.agg #[.int .i64 3, .int .i64 0, .float .f64 0, .string (bolS b), .slice a 0 c], .int .i64 0])) ∧ Below w.heap.size w w'
def LawB (b : Bool) (w : World) (e : Ending) (w' : World) : Prop := (∃ a c, e = .returned (.tuple #[.agg #[.int .i64 3, .int .i64 0, .float .f64 0, .string (bolS b), .slice a 0 c], .bool true])) ∧ Below w.heap.size w w'
theorem toldB {b : Bool} {w : World} {e : Ending} {w' : World} (h : Ans (fun x => x = bolT b) (fun _ => False) w e w') : ToldB b w e w' := by
  obtain ⟨a, c, rfl, hb, -⟩ := ans_bool h
  exact ⟨⟨a, c, rfl⟩, hb⟩

set_option maxRecDepth 100000 in
theorem kc_0 {W : World} {a : Option Addr} {c : Nat} {t : Tr} (hin : ArgsIn W a c [t]) : Calls Tryz.prog 16 #[.string ⟨#[105, 115, 95, 97, 116, 111, 109]⟩, .slice a 1 c, noneF] W (ToldB (decide (t.kd ∈ ([3] : List Int))) W) := by
  have hf : (bfnd grdL ⟨#[105, 115, 95, 97, 116, 111, 109]⟩ ((1 : Nat) : Int)).or (bfnd othL ⟨#[105, 115, 95, 97, 116, 111, 109]⟩ ((1 : Nat) : Int)) = some (⟨#[105, 115, 95, 97, 116, 111, 109]⟩, 1, 34) := by kernel_rfl
  refine (call_any (P := fun x => x = bolT (decide (t.kd ∈ ([3] : List Int)))) (E := fun _ => False) (n := 1) (fun r hr => ?_) (fun h => ?_)).mono (fun e w' h => toldB h)
  · rw [hf] at hr
    obtain rfl := Option.some.inj hr
    exact isAtom_tc hin rfl
  · rw [hf] at h
    cases h

set_option maxRecDepth 100000 in
theorem kc_1 {W : World} {a : Option Addr} {c : Nat} {t : Tr} (hin : ArgsIn W a c [t]) : Calls Tryz.prog 16 #[.string ⟨#[105, 115, 95, 105, 110, 116, 101, 103, 101, 114]⟩, .slice a 1 c, noneF] W (ToldB (decide (t.kd ∈ ([1] : List Int))) W) := by
  have hf : (bfnd grdL ⟨#[105, 115, 95, 105, 110, 116, 101, 103, 101, 114]⟩ ((1 : Nat) : Int)).or (bfnd othL ⟨#[105, 115, 95, 105, 110, 116, 101, 103, 101, 114]⟩ ((1 : Nat) : Int)) = some (⟨#[105, 115, 95, 105, 110, 116, 101, 103, 101, 114]⟩, 1, 35) := by kernel_rfl
  refine (call_any (P := fun x => x = bolT (decide (t.kd ∈ ([1] : List Int)))) (E := fun _ => False) (n := 1) (fun r hr => ?_) (fun h => ?_)).mono (fun e w' h => toldB h)
  · rw [hf] at hr
    obtain rfl := Option.some.inj hr
    exact isInteger_tc hin rfl
  · rw [hf] at h
    cases h

set_option maxRecDepth 100000 in
theorem kc_2 {W : World} {a : Option Addr} {c : Nat} {t : Tr} (hin : ArgsIn W a c [t]) : Calls Tryz.prog 16 #[.string ⟨#[105, 115, 95, 102, 108, 111, 97, 116]⟩, .slice a 1 c, noneF] W (ToldB (decide (t.kd ∈ ([2] : List Int))) W) := by
  have hf : (bfnd grdL ⟨#[105, 115, 95, 102, 108, 111, 97, 116]⟩ ((1 : Nat) : Int)).or (bfnd othL ⟨#[105, 115, 95, 102, 108, 111, 97, 116]⟩ ((1 : Nat) : Int)) = some (⟨#[105, 115, 95, 102, 108, 111, 97, 116]⟩, 1, 36) := by kernel_rfl
  refine (call_any (P := fun x => x = bolT (decide (t.kd ∈ ([2] : List Int)))) (E := fun _ => False) (n := 1) (fun r hr => ?_) (fun h => ?_)).mono (fun e w' h => toldB h)
  · rw [hf] at hr
    obtain rfl := Option.some.inj hr
    exact isFloat_tc hin rfl
  · rw [hf] at h
    cases h

set_option maxRecDepth 100000 in
theorem kc_3 {W : World} {a : Option Addr} {c : Nat} {t : Tr} (hin : ArgsIn W a c [t]) : Calls Tryz.prog 16 #[.string ⟨#[105, 115, 95, 108, 105, 115, 116]⟩, .slice a 1 c, noneF] W (ToldB (decide (t.kd ∈ ([8] : List Int))) W) := by
  have hf : (bfnd grdL ⟨#[105, 115, 95, 108, 105, 115, 116]⟩ ((1 : Nat) : Int)).or (bfnd othL ⟨#[105, 115, 95, 108, 105, 115, 116]⟩ ((1 : Nat) : Int)) = some (⟨#[105, 115, 95, 108, 105, 115, 116]⟩, 1, 38) := by kernel_rfl
  refine (call_any (P := fun x => x = bolT (decide (t.kd ∈ ([8] : List Int)))) (E := fun _ => False) (n := 1) (fun r hr => ?_) (fun h => ?_)).mono (fun e w' h => toldB h)
  · rw [hf] at hr
    obtain rfl := Option.some.inj hr
    exact isList_tc hin rfl
  · rw [hf] at h
    cases h

set_option maxRecDepth 100000 in
theorem kc_4 {W : World} {a : Option Addr} {c : Nat} {t : Tr} (hin : ArgsIn W a c [t]) : Calls Tryz.prog 16 #[.string ⟨#[105, 115, 95, 116, 117, 112, 108, 101]⟩, .slice a 1 c, noneF] W (ToldB (decide (t.kd ∈ ([7] : List Int))) W) := by
  have hf : (bfnd grdL ⟨#[105, 115, 95, 116, 117, 112, 108, 101]⟩ ((1 : Nat) : Int)).or (bfnd othL ⟨#[105, 115, 95, 116, 117, 112, 108, 101]⟩ ((1 : Nat) : Int)) = some (⟨#[105, 115, 95, 116, 117, 112, 108, 101]⟩, 1, 39) := by kernel_rfl
  refine (call_any (P := fun x => x = bolT (decide (t.kd ∈ ([7] : List Int)))) (E := fun _ => False) (n := 1) (fun r hr => ?_) (fun h => ?_)).mono (fun e w' h => toldB h)
  · rw [hf] at hr
    obtain rfl := Option.some.inj hr
    exact isTuple_tc hin rfl
  · rw [hf] at h
    cases h

set_option maxRecDepth 100000 in
theorem kc_5 {W : World} {a : Option Addr} {c : Nat} {t : Tr} (hin : ArgsIn W a c [t]) : Calls Tryz.prog 16 #[.string ⟨#[105, 115, 95, 112, 105, 100]⟩, .slice a 1 c, noneF] W (ToldB (decide (t.kd ∈ ([6] : List Int))) W) := by
  have hf : (bfnd grdL ⟨#[105, 115, 95, 112, 105, 100]⟩ ((1 : Nat) : Int)).or (bfnd othL ⟨#[105, 115, 95, 112, 105, 100]⟩ ((1 : Nat) : Int)) = some (⟨#[105, 115, 95, 112, 105, 100]⟩, 1, 40) := by kernel_rfl
  refine (call_any (P := fun x => x = bolT (decide (t.kd ∈ ([6] : List Int)))) (E := fun _ => False) (n := 1) (fun r hr => ?_) (fun h => ?_)).mono (fun e w' h => toldB h)
  · rw [hf] at hr
    obtain rfl := Option.some.inj hr
    exact isPid_tc hin rfl
  · rw [hf] at h
    cases h

set_option maxRecDepth 100000 in
theorem kc_6 {W : World} {a : Option Addr} {c : Nat} {t : Tr} (hin : ArgsIn W a c [t]) : Calls Tryz.prog 16 #[.string ⟨#[105, 115, 95, 114, 101, 102, 101, 114, 101, 110, 99, 101]⟩, .slice a 1 c, noneF] W (ToldB (decide (t.kd ∈ ([4] : List Int))) W) := by
  have hf : (bfnd grdL ⟨#[105, 115, 95, 114, 101, 102, 101, 114, 101, 110, 99, 101]⟩ ((1 : Nat) : Int)).or (bfnd othL ⟨#[105, 115, 95, 114, 101, 102, 101, 114, 101, 110, 99, 101]⟩ ((1 : Nat) : Int)) = some (⟨#[105, 115, 95, 114, 101, 102, 101, 114, 101, 110, 99, 101]⟩, 1, 41) := by kernel_rfl
  refine (call_any (P := fun x => x = bolT (decide (t.kd ∈ ([4] : List Int)))) (E := fun _ => False) (n := 1) (fun r hr => ?_) (fun h => ?_)).mono (fun e w' h => toldB h)
  · rw [hf] at hr
    obtain rfl := Option.some.inj hr
    exact isReference_tc hin rfl
  · rw [hf] at h
    cases h

set_option maxRecDepth 100000 in
theorem kc_7 {W : World} {a : Option Addr} {c : Nat} {t : Tr} (hin : ArgsIn W a c [t]) : Calls Tryz.prog 16 #[.string ⟨#[105, 115, 95, 102, 117, 110, 99, 116, 105, 111, 110]⟩, .slice a 1 c, noneF] W (ToldB (decide (t.kd ∈ ([5] : List Int))) W) := by
  have hf : (bfnd grdL ⟨#[105, 115, 95, 102, 117, 110, 99, 116, 105, 111, 110]⟩ ((1 : Nat) : Int)).or (bfnd othL ⟨#[105, 115, 95, 102, 117, 110, 99, 116, 105, 111, 110]⟩ ((1 : Nat) : Int)) = some (⟨#[105, 115, 95, 102, 117, 110, 99, 116, 105, 111, 110]⟩, 1, 42) := by kernel_rfl
  refine (call_any (P := fun x => x = bolT (decide (t.kd ∈ ([5] : List Int)))) (E := fun _ => False) (n := 1) (fun r hr => ?_) (fun h => ?_)).mono (fun e w' h => toldB h)
  · rw [hf] at hr
    obtain rfl := Option.some.inj hr
    exact isFunction_tc hin rfl
  · rw [hf] at h
    cases h

set_option maxRecDepth 100000 in
theorem kc_8 {W : World} {a : Option Addr} {c : Nat} {t : Tr} (hin : ArgsIn W a c [t]) : Calls Tryz.prog 16 #[.string ⟨#[105, 115, 95, 110, 117, 109, 98, 101, 114]⟩, .slice a 1 c, noneF] W (ToldB (decide (t.kd ∈ ([1, 2] : List Int))) W) := by
  have hf : (bfnd grdL ⟨#[105, 115, 95, 110, 117, 109, 98, 101, 114]⟩ ((1 : Nat) : Int)).or (bfnd othL ⟨#[105, 115, 95, 110, 117, 109, 98, 101, 114]⟩ ((1 : Nat) : Int)) = some (⟨#[105, 115, 95, 110, 117, 109, 98, 101, 114]⟩, 1, 37) := by kernel_rfl
  refine (call_any (P := fun x => x = bolT (decide (t.kd ∈ ([1, 2] : List Int)))) (E := fun _ => False) (n := 1) (fun r hr => ?_) (fun h => ?_)).mono (fun e w' h => toldB h)
  · rw [hf] at hr
    obtain rfl := Option.some.inj hr
    exact isNumber_tc hin rfl
  · rw [hf] at h
    cases h

set_option maxRecDepth 100000 in
theorem kc_b {W : World} {a : Option Addr} {c : Nat} {t : Tr} (hin : ArgsIn W a c [t]) : Calls Tryz.prog 16 #[.string ⟨#[105, 115, 95, 98, 111, 111, 108, 101, 97, 110]⟩, .slice a 1 c, noneF] W (ToldB (isBol t) W) := by
  have hf : (bfnd grdL ⟨#[105, 115, 95, 98, 111, 111, 108, 101, 97, 110]⟩ ((1 : Nat) : Int)).or (bfnd othL ⟨#[105, 115, 95, 98, 111, 111, 108, 101, 97, 110]⟩ ((1 : Nat) : Int)) = some (⟨#[105, 115, 95, 98, 111, 111, 108, 101, 97, 110]⟩, 1, 43) := by kernel_rfl
  refine (call_any (P := fun x => x = bolT (isBol t)) (E := fun _ => False) (n := 1) (fun r hr => ?_) (fun h => ?_)).mono (fun e w' h => toldB h)
  · rw [hf] at hr
    obtain rfl := Option.some.inj hr
    exact isBoolean_tc hin rfl
  · rw [hf] at h
    cases h
set_option maxHeartbeats 1600000 in
set_option maxRecDepth 100000 in
theorem lawcall {W : World} {a : Option Addr} {c : Nat} {nm : ByteArray} {b : Bool} (hC : ∀ W1, Below W.heap.size W W1 → Calls Tryz.prog 16 #[.string nm, .slice a 1 c, noneF] W1 (ToldB b W1)) :
    Calls Tryz.prog 13 #[.string nm, .slice a 1 c] W (LawB b W) := by
  have HX0 := hidb (Box.new W 29 (.int .i64 0) (.int .i64 0) (.float .f64 0) (.string ⟨#[]⟩) (.slice none 0 0))
  have HC := hidb hC
  obtain ⟨PP, hPP⟩ : ∃ PP : Ending → World → Prop, LawB b W = PP := ⟨_, rfl⟩
  have HPP := hidb hPP
  rw [hPP]
  clear hC hPP
  go_enter Tryz.func13, Tryz.ntmps13
  go_wp2_with fail
  refine (HC.out _ (below_new _ _)).mono ?_
  rintro e w2 ⟨⟨a2, c2, rfl⟩, hb2⟩
  have HX2 := hidb (HX0.out.keep hb2)
  have HB2 := hidb ((below_new W _).trans (hb2.mono (by simp)))
  obtain ⟨S, hS⟩ : ∃ S, bolS b = S := ⟨_, rfl⟩
  have HS := hidb hS
  rw [hS]
  obtain ⟨⟨x0, x1, x2, x3, x4⟩, ⟨y0, y1, y2, y3, y4⟩, xl⟩ := Box.six HX2.out
  clear hb2 hS
  go_wp2_with fail
  have bx9 := (HX2.out.set (.int .i64 3) (.int .i64 0) (.float .f64 0) (.string S) (.slice a2 0 c2)).keep (below_new _ (.cells #[.int .i64 3, .int .i64 0, .float .f64 0, .string S, .slice a2 0 c2] 29))
  obtain ⟨⟨k0, k1', k2, k3, k4⟩, -, -⟩ := Box.six bx9
  simp only [set5] at k0 k1' k2 k3 k4
  refine bodyPost_ret (v := .tuple #[.agg #[.int .i64 3, .int .i64 0, .float .f64 0, .string S, .slice a2 0 c2], .bool true]) (by simp [results, Tryz.results13, go_sem, k0, k1', k2, k3, k4]) rfl ?_
  rw [← HPP.out]
  refine ⟨⟨a2, c2, by rw [HS.out]⟩, ?_⟩
  exact (((((HB2.out.setCell (by simp) _).setCell (by simp) _).setCell (by simp) _).setCell (by simp) _).setCell (by simp) _).alloc (by have := HB2.out.size; simpa using this) _
end Go.Proofs.YtjnijmnacogabaaGreatDoor


