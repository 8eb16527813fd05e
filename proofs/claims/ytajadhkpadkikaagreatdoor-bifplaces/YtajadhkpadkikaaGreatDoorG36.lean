import Derived.Test.YtajadhkpadkikaaGreatDoorG34
import Derived.Test.YtajadhkpadkikaaGreatDoorG33
import Derived.Test.YtajadhkpadkikaaGreatDoorG35
/- The kinds' tests as the law calls them. -/
namespace Go.Proofs.YtajadhkpadkikaaGreatDoor
open Go.RowKit Go.Lib Go.Deep
attribute [local go_sem] store_float f64bits store_func store_nilFunc
attribute [local go_sem ↓] Go.wp_at_zero Go.wp_at_succ

def ToldB (b : Bool) (w : World) (e : Ending) (w' : World) : Prop := (∃ a c, e = .returned (.tuple #[.agg #[.int .i64 3, .int .i64 0, .float .f64 0, .string (bolS b), .slice a 0 c], .int .i64 0])) ∧ Below w.heap.size w w'
def LawB (b : Bool) (w : World) (e : Ending) (w' : World) : Prop := (∃ a c, e = .returned (.tuple #[.agg #[.int .i64 3, .int .i64 0, .float .f64 0, .string (bolS b), .slice a 0 c], .bool true])) ∧ Below w.heap.size w w'
theorem toldB {b : Bool} {w : World} {e : Ending} {w' : World} (h : Ans (fun x => x = bolT b) (fun _ => False) w e w') : ToldB b w e w' := by
  obtain ⟨a, c, rfl, hb, -⟩ := ans_bool h
  exact ⟨⟨a, c, rfl⟩, hb⟩

set_option maxRecDepth 100000 in
theorem kc_0 {W : World} {a : Option Addr} {c : Nat} {t : Tr} (hin : ArgsIn W a c [t]) : Calls Tryz.prog 16 #[.string ⟨#[105, 115, 95, 97, 116, 111, 109]⟩, .slice a 1 c, noneF] W (ToldB (decide (t.kd ∈ ([3] : List Int))) W) := by
  have hf : (bfnd grdL ⟨#[105, 115, 95, 97, 116, 111, 109]⟩ ((1 : Nat) : Int)).or (bfnd othL ⟨#[105, 115, 95, 97, 116, 111, 109]⟩ ((1 : Nat) : Int)) = some (⟨#[105, 115, 95, 97, 116, 111, 109]⟩, 1, 55) := by kernel_rfl
  refine (call_any (P := fun x => x = bolT (decide (t.kd ∈ ([3] : List Int)))) (E := fun _ => False) (n := 1) (fun r hr => ?_) (fun h => ?_)).mono (fun e w' h => toldB h)
  · rw [hf] at hr
    obtain rfl := Option.some.inj hr
    exact isAtom_tc hin rfl
  · rw [hf] at h
    cases h

set_option maxRecDepth 100000 in
theorem kc_1 {W : World} {a : Option Addr} {c : Nat} {t : Tr} (hin : ArgsIn W a c [t]) : Calls Tryz.prog 16 #[.string ⟨#[105, 115, 95, 105, 110, 116, 101, 103, 101, 114]⟩, .slice a 1 c, noneF] W (ToldB (decide (t.kd ∈ ([1] : List Int))) W) := by
  have hf : (bfnd grdL ⟨#[105, 115, 95, 105, 110, 116, 101, 103, 101, 114]⟩ ((1 : Nat) : Int)).or (bfnd othL ⟨#[105, 115, 95, 105, 110, 116, 101, 103, 101, 114]⟩ ((1 : Nat) : Int)) = some (⟨#[105, 115, 95, 105, 110, 116, 101, 103, 101, 114]⟩, 1, 56) := by kernel_rfl
  refine (call_any (P := fun x => x = bolT (decide (t.kd ∈ ([1] : List Int)))) (E := fun _ => False) (n := 1) (fun r hr => ?_) (fun h => ?_)).mono (fun e w' h => toldB h)
  · rw [hf] at hr
    obtain rfl := Option.some.inj hr
    exact isInteger_tc hin rfl
  · rw [hf] at h
    cases h

set_option maxRecDepth 100000 in
theorem kc_2 {W : World} {a : Option Addr} {c : Nat} {t : Tr} (hin : ArgsIn W a c [t]) : Calls Tryz.prog 16 #[.string ⟨#[105, 115, 95, 102, 108, 111, 97, 116]⟩, .slice a 1 c, noneF] W (ToldB (decide (t.kd ∈ ([2] : List Int))) W) := by
  have hf : (bfnd grdL ⟨#[105, 115, 95, 102, 108, 111, 97, 116]⟩ ((1 : Nat) : Int)).or (bfnd othL ⟨#[105, 115, 95, 102, 108, 111, 97, 116]⟩ ((1 : Nat) : Int)) = some (⟨#[105, 115, 95, 102, 108, 111, 97, 116]⟩, 1, 57) := by kernel_rfl
  refine (call_any (P := fun x => x = bolT (decide (t.kd ∈ ([2] : List Int)))) (E := fun _ => False) (n := 1) (fun r hr => ?_) (fun h => ?_)).mono (fun e w' h => toldB h)
  · rw [hf] at hr
    obtain rfl := Option.some.inj hr
    exact isFloat_tc hin rfl
  · rw [hf] at h
    cases h

set_option maxRecDepth 100000 in
theorem kc_3 {W : World} {a : Option Addr} {c : Nat} {t : Tr} (hin : ArgsIn W a c [t]) : Calls Tryz.prog 16 #[.string ⟨#[105, 115, 95, 108, 105, 115, 116]⟩, .slice a 1 c, noneF] W (ToldB (decide (t.kd ∈ ([8] : List Int))) W) := by
  have hf : (bfnd grdL ⟨#[105, 115, 95, 108, 105, 115, 116]⟩ ((1 : Nat) : Int)).or (bfnd othL ⟨#[105, 115, 95, 108, 105, 115, 116]⟩ ((1 : Nat) : Int)) = some (⟨#[105, 115, 95, 108, 105, 115, 116]⟩, 1, 59) := by kernel_rfl
  refine (call_any (P := fun x => x = bolT (decide (t.kd ∈ ([8] : List Int)))) (E := fun _ => False) (n := 1) (fun r hr => ?_) (fun h => ?_)).mono (fun e w' h => toldB h)
  · rw [hf] at hr
    obtain rfl := Option.some.inj hr
    exact isList_tc hin rfl
  · rw [hf] at h
    cases h

set_option maxRecDepth 100000 in
theorem kc_4 {W : World} {a : Option Addr} {c : Nat} {t : Tr} (hin : ArgsIn W a c [t]) : Calls Tryz.prog 16 #[.string ⟨#[105, 115, 95, 116, 117, 112, 108, 101]⟩, .slice a 1 c, noneF] W (ToldB (decide (t.kd ∈ ([7] : List Int))) W) := by
  have hf : (bfnd grdL ⟨#[105, 115, 95, 116, 117, 112, 108, 101]⟩ ((1 : Nat) : Int)).or (bfnd othL ⟨#[105, 115, 95, 116, 117, 112, 108, 101]⟩ ((1 : Nat) : Int)) = some (⟨#[105, 115, 95, 116, 117, 112, 108, 101]⟩, 1, 60) := by kernel_rfl
  refine (call_any (P := fun x => x = bolT (decide (t.kd ∈ ([7] : List Int)))) (E := fun _ => False) (n := 1) (fun r hr => ?_) (fun h => ?_)).mono (fun e w' h => toldB h)
  · rw [hf] at hr
    obtain rfl := Option.some.inj hr
    exact isTuple_tc hin rfl
  · rw [hf] at h
    cases h

set_option maxRecDepth 100000 in
theorem kc_5 {W : World} {a : Option Addr} {c : Nat} {t : Tr} (hin : ArgsIn W a c [t]) : Calls Tryz.prog 16 #[.string ⟨#[105, 115, 95, 112, 105, 100]⟩, .slice a 1 c, noneF] W (ToldB (decide (t.kd ∈ ([6] : List Int))) W) := by
  have hf : (bfnd grdL ⟨#[105, 115, 95, 112, 105, 100]⟩ ((1 : Nat) : Int)).or (bfnd othL ⟨#[105, 115, 95, 112, 105, 100]⟩ ((1 : Nat) : Int)) = some (⟨#[105, 115, 95, 112, 105, 100]⟩, 1, 61) := by kernel_rfl
  refine (call_any (P := fun x => x = bolT (decide (t.kd ∈ ([6] : List Int)))) (E := fun _ => False) (n := 1) (fun r hr => ?_) (fun h => ?_)).mono (fun e w' h => toldB h)
  · rw [hf] at hr
    obtain rfl := Option.some.inj hr
    exact isPid_tc hin rfl
  · rw [hf] at h
    cases h

set_option maxRecDepth 100000 in
theorem kc_6 {W : World} {a : Option Addr} {c : Nat} {t : Tr} (hin : ArgsIn W a c [t]) : Calls Tryz.prog 16 #[.string ⟨#[105, 115, 95, 114, 101, 102, 101, 114, 101, 110, 99, 101]⟩, .slice a 1 c, noneF] W (ToldB (decide (t.kd ∈ ([4] : List Int))) W) := by
  have hf : (bfnd grdL ⟨#[105, 115, 95, 114, 101, 102, 101, 114, 101, 110, 99, 101]⟩ ((1 : Nat) : Int)).or (bfnd othL ⟨#[105, 115, 95, 114, 101, 102, 101, 114, 101, 110, 99, 101]⟩ ((1 : Nat) : Int)) = some (⟨#[105, 115, 95, 114, 101, 102, 101, 114, 101, 110, 99, 101]⟩, 1, 62) := by kernel_rfl
  refine (call_any (P := fun x => x = bolT (decide (t.kd ∈ ([4] : List Int)))) (E := fun _ => False) (n := 1) (fun r hr => ?_) (fun h => ?_)).mono (fun e w' h => toldB h)
  · rw [hf] at hr
    obtain rfl := Option.some.inj hr
    exact isReference_tc hin rfl
  · rw [hf] at h
    cases h

set_option maxRecDepth 100000 in
theorem kc_7 {W : World} {a : Option Addr} {c : Nat} {t : Tr} (hin : ArgsIn W a c [t]) : Calls Tryz.prog 16 #[.string ⟨#[105, 115, 95, 102, 117, 110, 99, 116, 105, 111, 110]⟩, .slice a 1 c, noneF] W (ToldB (decide (t.kd ∈ ([5] : List Int))) W) := by
  have hf : (bfnd grdL ⟨#[105, 115, 95, 102, 117, 110, 99, 116, 105, 111, 110]⟩ ((1 : Nat) : Int)).or (bfnd othL ⟨#[105, 115, 95, 102, 117, 110, 99, 116, 105, 111, 110]⟩ ((1 : Nat) : Int)) = some (⟨#[105, 115, 95, 102, 117, 110, 99, 116, 105, 111, 110]⟩, 1, 63) := by kernel_rfl
  refine (call_any (P := fun x => x = bolT (decide (t.kd ∈ ([5] : List Int)))) (E := fun _ => False) (n := 1) (fun r hr => ?_) (fun h => ?_)).mono (fun e w' h => toldB h)
  · rw [hf] at hr
    obtain rfl := Option.some.inj hr
    exact isFunction_tc hin rfl
  · rw [hf] at h
    cases h

set_option maxRecDepth 100000 in
theorem kc_8 {W : World} {a : Option Addr} {c : Nat} {t : Tr} (hin : ArgsIn W a c [t]) : Calls Tryz.prog 16 #[.string ⟨#[105, 115, 95, 110, 117, 109, 98, 101, 114]⟩, .slice a 1 c, noneF] W (ToldB (decide (t.kd ∈ ([1, 2] : List Int))) W) := by
  have hf : (bfnd grdL ⟨#[105, 115, 95, 110, 117, 109, 98, 101, 114]⟩ ((1 : Nat) : Int)).or (bfnd othL ⟨#[105, 115, 95, 110, 117, 109, 98, 101, 114]⟩ ((1 : Nat) : Int)) = some (⟨#[105, 115, 95, 110, 117, 109, 98, 101, 114]⟩, 1, 58) := by kernel_rfl
  refine (call_any (P := fun x => x = bolT (decide (t.kd ∈ ([1, 2] : List Int)))) (E := fun _ => False) (n := 1) (fun r hr => ?_) (fun h => ?_)).mono (fun e w' h => toldB h)
  · rw [hf] at hr
    obtain rfl := Option.some.inj hr
    exact isNumber_tc hin rfl
  · rw [hf] at h
    cases h

set_option maxRecDepth 100000 in
theorem kc_b {W : World} {a : Option Addr} {c : Nat} {t : Tr} (hin : ArgsIn W a c [t]) : Calls Tryz.prog 16 #[.string ⟨#[105, 115, 95, 98, 111, 111, 108, 101, 97, 110]⟩, .slice a 1 c, noneF] W (ToldB (isBol t) W) := by
  have hf : (bfnd grdL ⟨#[105, 115, 95, 98, 111, 111, 108, 101, 97, 110]⟩ ((1 : Nat) : Int)).or (bfnd othL ⟨#[105, 115, 95, 98, 111, 111, 108, 101, 97, 110]⟩ ((1 : Nat) : Int)) = some (⟨#[105, 115, 95, 98, 111, 111, 108, 101, 97, 110]⟩, 1, 64) := by kernel_rfl
  refine (call_any (P := fun x => x = bolT (isBol t)) (E := fun _ => False) (n := 1) (fun r hr => ?_) (fun h => ?_)).mono (fun e w' h => toldB h)
  · rw [hf] at hr
    obtain rfl := Option.some.inj hr
    exact isBoolean_tc hin rfl
  · rw [hf] at h
    cases h
set_option maxHeartbeats 1600000 in
set_option maxRecDepth 100000 in
theorem lawcall {W : World} {a : Option Addr} {c : Nat} {nm : ByteArray} {b : Bool} (hC : ∀ W1, Below W.heap.size W W1 → Calls Tryz.prog 16 #[.string nm, .slice a 1 c, noneF] W1 (ToldB b W1)) :
    Calls Tryz.prog 9 #[.string nm, .slice a 1 c] W (LawB b W) := by
  have HX0 := hidb (Box.new W 25 (.int .i64 0) (.int .i64 0) (.float .f64 0) (.string ⟨#[]⟩) (.slice none 0 0))
  have HC := hidb hC
  obtain ⟨PP, hPP⟩ : ∃ PP : Ending → World → Prop, LawB b W = PP := ⟨_, rfl⟩
  have HPP := hidb hPP
  rw [hPP]
  clear hC hPP
  go_enter Tryz.func9, Tryz.ntmps9
  go_wp2_with fail
  refine (HC.out _ (below_new _ _)).mono ?_
  rintro e w2 ⟨⟨a2, c2, rfl⟩, hb2⟩
  have HX2 := hidb (HX0.out.keep hb2)
  have HB2 := hidb ((below_new W _).trans (hb2.mono (by simp)))
  obtain ⟨S, hS⟩ : ∃ S, bolS b = S := ⟨_, rfl⟩
  have HS := hidb hS
  rw [hS]
  obtain ⟨⟨x0, x1, x2, x3, x4⟩, ⟨y0, y1, y2, y3, y4⟩, xl⟩ := Box.six HX2.out
  clear hb2 hS
  go_wp2_with fail
  have bx9 := (HX2.out.set (.int .i64 3) (.int .i64 0) (.float .f64 0) (.string S) (.slice a2 0 c2)).keep (below_new _ (.cells #[.int .i64 3, .int .i64 0, .float .f64 0, .string S, .slice a2 0 c2] 25))
  obtain ⟨⟨k0, k1', k2, k3, k4⟩, -, -⟩ := Box.six bx9
  simp only [set5] at k0 k1' k2 k3 k4
  refine bodyPost_ret (v := .tuple #[.agg #[.int .i64 3, .int .i64 0, .float .f64 0, .string S, .slice a2 0 c2], .bool true]) (by simp [results, Tryz.results9, go_sem, k0, k1', k2, k3, k4]) rfl ?_
  rw [← HPP.out]
  refine ⟨⟨a2, c2, by rw [HS.out]⟩, ?_⟩
  exact (((((HB2.out.setCell (by simp) _).setCell (by simp) _).setCell (by simp) _).setCell (by simp) _).setCell (by simp) _).alloc (by have := HB2.out.size; simpa using this) _
end Go.Proofs.YtajadhkpadkikaaGreatDoor


/- What the law's call tells of a builtin. -/
namespace Go.Proofs.YtajadhkpadkikaaGreatDoor
open Go.RowKit Go.Lib Go.Deep
attribute [local go_sem] store_float f64bits store_func store_nilFunc
attribute [local go_sem ↓] Go.wp_at_zero Go.wp_at_succ

/-- What the law's call tells: a term of which P holds, and true; or false, where the builtin raised something, or told what is not right. -/
def LawA (P : Tr → Prop) (E : Int → Prop) (w : World) (e : Ending) (w' : World) : Prop :=
  Below w.heap.size w w' ∧ ((∃ t t' : Tr, P t ∧ errT t = 0 ∧ Sm t t' ∧ t'.In w' 0 ∧ t'.On (fun k => w.heap.size ≤ k) ∧ e = .returned (.tuple #[t'.val, .bool true])) ∨ (((∃ er, E er) ∨ ∃ t, P t ∧ errT t ≠ 0) ∧ e = .returned (.tuple #[zterm, .bool false])))
set_option maxHeartbeats 1600000 in
set_option maxRecDepth 100000 in
theorem lawcallA {W : World} {a : Option Addr} {c n : Nat} {nm : ByteArray} {P : Tr → Prop} {E : Int → Prop} (hE : ∀ er, E er → er ≠ 0) (hC : ∀ W1, Below W.heap.size W W1 → Calls Tryz.prog 16 #[.string nm, .slice a n c, noneF] W1 (Ans P E W1)) :
    Calls Tryz.prog 9 #[.string nm, .slice a n c] W (LawA P E W) := by
  have HX0 := hidb (Box.new W 25 (.int .i64 0) (.int .i64 0) (.float .f64 0) (.string ⟨#[]⟩) (.slice none 0 0))
  have HC := hidb hC
  have HE := hidb hE
  obtain ⟨PP, hPP⟩ : ∃ PP : Ending → World → Prop, LawA P E W = PP := ⟨_, rfl⟩
  have HPP := hidb hPP
  rw [hPP]
  clear hC hPP hE
  go_enter Tryz.func9, Tryz.ntmps9
  go_wp2_with fail
  refine (HC.out _ (below_new _ _)).mono ?_
  rintro e w2 ⟨hb2, ⟨t, ⟨k', n', f', s', a', c', ks'⟩, hP, he, hs, hin, rfl⟩ | ⟨er, hEr, rfl⟩⟩
  · have HX2 := hidb (HX0.out.keep hb2)
    have HB2 := hidb ((below_new W _).trans (hb2.mono (by simp)))
    obtain ⟨⟨x0, x1, x2, x3, x4⟩, ⟨y0, y1, y2, y3, y4⟩, xl⟩ := Box.six HX2.out
    have HT := hidb (And.intro hP (And.intro he (And.intro hs hin)))
    obtain ⟨L9, hL9⟩ : ∃ L9, ks'.length = L9 := ⟨_, rfl⟩
    have HL9 := hidb hL9
    simp only [Tr.val, Tr.cells]
    rw [hL9]
    clear hb2 hP he hs hin hL9
    go_wp2_with fail
    have bx9 := (HX2.out.set (.int .i64 k') (.int .i64 n') (.float .f64 f') (.string s') (.slice a' L9 c')).keep (below_new _ (.cells #[.int .i64 k', .int .i64 n', .float .f64 f', .string s', .slice a' L9 c'] 25))
    obtain ⟨⟨k0, k1', k2, k3, k4⟩, -, -⟩ := Box.six bx9
    simp only [set5] at k0 k1' k2 k3 k4
    refine bodyPost_ret (v := .tuple #[(Tr.mk k' n' f' s' a' c' ks').val, .bool true]) (by simp [Tr.val, Tr.cells, HL9.out, results, Tryz.results9, go_sem, k0, k1', k2, k3, k4]) rfl ?_
    rw [← HPP.out]
    have hl2 : W.heap.size + 1 ≤ w2.heap.size := by have := HX2.out.lt; omega
    have hon : (Tr.mk k' n' f' s' a' c' ks').On (fun q => q < 0 ∨ W.heap.size + 1 ≤ q) := on_mono (fun q hq => .inr (by have := hq.2; simpa using this)) _ (on_in _ HT.out.2.2.2)
    refine ⟨(((((HB2.out.setCell (by simp) _).setCell (by simp) _).setCell (by simp) _).setCell (by simp) _).setCell (by simp) _).alloc (by have := HB2.out.size; simpa using this) _, .inl ⟨t, _, HT.out.1, HT.out.2.1, HT.out.2.2.1, ?_, on_mono (fun q hq => by omega) _ hon, rfl⟩⟩
    exact in_below (below_new _ _) (in_on5 (B := 0) (c := W.heap.size + 1) (in_mono (Nat.zero_le _) _ HT.out.2.2.2) hon (Nat.zero_le _) (by omega) _ _ _ _ _)
  · have HX2 := hidb (HX0.out.keep hb2)
    have HB2 := hidb ((below_new W _).trans (hb2.mono (by simp)))
    obtain ⟨⟨x0, x1, x2, x3, x4⟩, ⟨y0, y1, y2, y3, y4⟩, xl⟩ := Box.six HX2.out
    have hne : er ≠ 0 := by
      rcases hEr with h | ⟨t, h1, h2, rfl⟩
      · exact HE.out er h
      · unfold mb; split <;> omega
    have HR : Hid ((∃ er, E er) ∨ ∃ t, P t ∧ errT t ≠ 0) := hidb (by
      rcases hEr with h | ⟨t, h1, h2, rfl⟩
      · exact .inl ⟨_, h⟩
      · exact .inr ⟨t, h1, h2⟩)
    have hne' : (er == 0) = false := by simpa using hne
    clear hb2 hEr hne
    go_wp2_with fail
    have bx9 := (HX2.out.set (.int .i64 0) (.int .i64 0) (.float .f64 0) (.string ⟨#[]⟩) (.slice none 0 0)).keep (below_new _ (.cells #[.int .i64 0, .int .i64 0, .float .f64 0, .string ⟨#[]⟩, .slice none 0 0] 25))
    obtain ⟨⟨k0, k1', k2, k3, k4⟩, -, -⟩ := Box.six bx9
    simp only [set5] at k0 k1' k2 k3 k4
    refine bodyPost_ret (v := .tuple #[zterm, .bool false]) (by simp [results, Tryz.results9, go_sem, k0, k1', k2, k3, k4]) rfl ?_
    rw [← HPP.out]
    exact ⟨(((((HB2.out.setCell (by simp) _).setCell (by simp) _).setCell (by simp) _).setCell (by simp) _).setCell (by simp) _).alloc (by have := HB2.out.size; simpa using this) _, .inr ⟨HR.out, rfl⟩⟩

/-- More room, and more depth, measures the same. -/
theorem measAll_more (kids : List Tr) (hk : ∀ t, t ∈ kids → ∀ d d' m m', d ≤ d' → m ≤ m' → 0 ≤ meas t d m → meas t d' m' = meas t d m) : ∀ d d' m m' n : Int, d ≤ d' → m ≤ m' → 0 ≤ measAll kids d m n → measAll kids d' m' n = measAll kids d m n := by
  induction kids with
  | nil => intro d d' m m' n _ _ _; simp [measAll]
  | cons t r ih =>
    intro d d' m m' n hd hm h
    unfold measAll at h ⊢
    split at h
    · omega
    · rename_i h1
      have e := hk t (by simp) d d' (m - n) (m' - n) hd (by omega) (by omega)
      rw [e, if_neg h1, if_neg h1]
      exact ih (fun u hu => hk u (by simp [hu])) d d' m m' _ hd hm h
theorem meas_more : ∀ t : Tr, ∀ d d' m m', d ≤ d' → m ≤ m' → 0 ≤ meas t d m → meas t d' m' = meas t d m := by
  refine Tr.ind fun k n f s a c kids hk d d' m m' hd hm h => ?_
  unfold meas at h ⊢
  split at h
  · omega
  · rename_i h1
    rw [if_neg h1, if_neg (by omega)]
    exact measAll_more kids (fun t ht => hk t ht) _ _ _ _ _ (by omega) hm h
theorem measAll_kid : ∀ (kids : List Tr) (d m n : Int), 0 ≤ n → 0 ≤ measAll kids d m n → ∀ t, t ∈ kids → 0 ≤ meas t d m
  | [], _, _, _, _, _, t, ht => by simp at ht
  | u :: r, d, m, n, hn, h, t, ht => by
    unfold measAll at h
    split at h
    · omega
    · rename_i h1
      rcases List.mem_cons.1 ht with rfl | ht
      · have := meas_more t d d (m - n) m (Int.le_refl _) (by omega) (by omega)
        omega
      · exact measAll_kid r d m _ (by omega) h t ht
theorem allAll_kid {g : Tr → Bool} : ∀ {kids : List Tr}, allAll g kids = true → ∀ t, t ∈ kids → allT g t = true
  | [], _, t, ht => by simp at ht
  | u :: r, h, t, ht => by
    unfold allAll at h
    simp only [Bool.and_eq_true] at h
    rcases List.mem_cons.1 ht with rfl | ht
    · exact h.1
    · exact allAll_kid h.2 t ht
theorem err_kid {k n : Int} {f : Nat} {s : ByteArray} {a : Option Addr} {c : Nat} {kids : List Tr} (h : errT (.mk k n f s a c kids) = 0) {t : Tr} (ht : t ∈ kids) : errT t = 0 := by
  unfold errT at h ⊢
  split at h
  · cases h
  · rename_i h1
    split at h
    · rename_i h2
      have hm : 0 ≤ meas t 199 65536 := by
        unfold meas at h1
        split at h1
        · exact absurd (by decide) h1
        · exact measAll_kid kids (200 - 1) 65536 (own k kids.length) (by have : 0 ≤ own k kids.length := own_nonneg _ _; exact this) (by omega) t ht
      have hm' := meas_more t 199 200 65536 65536 (by decide) (by decide) hm
      unfold allT at h2
      simp only [Bool.and_eq_true] at h2
      rw [if_neg (by omega), if_pos (allAll_kid h2.2 t ht)]
    · cases h
end Go.Proofs.YtajadhkpadkikaaGreatDoor


