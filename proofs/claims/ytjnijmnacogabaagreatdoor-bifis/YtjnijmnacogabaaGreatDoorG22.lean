import Derived.Test.YtjnijmnacogabaaGreatDoorG21
/- The document's Is, name by name. -/
namespace Go.Proofs.YtjnijmnacogabaaGreatDoor
open Go.RowKit Go.Lib Go.Deep
attribute [local go_sem] store_float f64bits store_func store_nilFunc
attribute [local go_sem ↓] Go.wp_at_zero Go.wp_at_succ

set_option maxHeartbeats 4000000 in
set_option maxRecDepth 100000 in
theorem ris_19 (n : Int) (w : World) : Calls Tryz.prog 10 #[.string ⟨#[105, 115, 95, 102, 117, 110, 99, 116, 105, 111, 110]⟩, .int .i64 n] w fun e w' => e = .returned (.tuple #[.bool (n == 1 || n == 2), .bool (n == 1 || n == 2)]) ∧ w' = w := by
  obtain ⟨b1, h1⟩ : ∃ b1, (n == 1) = b1 := ⟨_, rfl⟩
  obtain ⟨b2, h2⟩ : ∃ b2, (n == 2) = b2 := ⟨_, rfl⟩
  obtain ⟨b3, h3⟩ : ∃ b3, (n == 3) = b3 := ⟨_, rfl⟩
  simp only [h1, h2]
  cases b1 <;> cases b2 <;> (
    go_enter Tryz.func10, Tryz.ntmps10
    go_wp2_with fail
    go_ret2
    exact ⟨rfl, rfl⟩)
set_option maxHeartbeats 4000000 in
set_option maxRecDepth 100000 in
theorem ris_20 (n : Int) (w : World) : Calls Tryz.prog 10 #[.string ⟨#[101, 108, 101, 109, 101, 110, 116]⟩, .int .i64 n] w fun e w' => e = .returned (.tuple #[.bool (n == 2), .bool (n == 2)]) ∧ w' = w := by
  obtain ⟨b1, h1⟩ : ∃ b1, (n == 1) = b1 := ⟨_, rfl⟩
  obtain ⟨b2, h2⟩ : ∃ b2, (n == 2) = b2 := ⟨_, rfl⟩
  obtain ⟨b3, h3⟩ : ∃ b3, (n == 3) = b3 := ⟨_, rfl⟩
  simp only [h2]
  cases b2 <;> (
    go_enter Tryz.func10, Tryz.ntmps10
    go_wp2_with fail
    go_ret2
    exact ⟨rfl, rfl⟩)
set_option maxHeartbeats 4000000 in
set_option maxRecDepth 100000 in
theorem ris_21 (n : Int) (w : World) : Calls Tryz.prog 10 #[.string ⟨#[109, 105, 110]⟩, .int .i64 n] w fun e w' => e = .returned (.tuple #[.bool (n == 2), .bool (n == 2)]) ∧ w' = w := by
  obtain ⟨b1, h1⟩ : ∃ b1, (n == 1) = b1 := ⟨_, rfl⟩
  obtain ⟨b2, h2⟩ : ∃ b2, (n == 2) = b2 := ⟨_, rfl⟩
  obtain ⟨b3, h3⟩ : ∃ b3, (n == 3) = b3 := ⟨_, rfl⟩
  simp only [h2]
  cases b2 <;> (
    go_enter Tryz.func10, Tryz.ntmps10
    go_wp2_with fail
    go_ret2
    exact ⟨rfl, rfl⟩)
set_option maxHeartbeats 4000000 in
set_option maxRecDepth 100000 in
theorem ris_22 (n : Int) (w : World) : Calls Tryz.prog 10 #[.string ⟨#[109, 97, 120]⟩, .int .i64 n] w fun e w' => e = .returned (.tuple #[.bool (n == 2), .bool (n == 2)]) ∧ w' = w := by
  obtain ⟨b1, h1⟩ : ∃ b1, (n == 1) = b1 := ⟨_, rfl⟩
  obtain ⟨b2, h2⟩ : ∃ b2, (n == 2) = b2 := ⟨_, rfl⟩
  obtain ⟨b3, h3⟩ : ∃ b3, (n == 3) = b3 := ⟨_, rfl⟩
  simp only [h2]
  cases b2 <;> (
    go_enter Tryz.func10, Tryz.ntmps10
    go_wp2_with fail
    go_ret2
    exact ⟨rfl, rfl⟩)
set_option maxHeartbeats 4000000 in
set_option maxRecDepth 100000 in
theorem ris_23 (n : Int) (w : World) : Calls Tryz.prog 10 #[.string ⟨#[115, 101, 116, 101, 108, 101, 109, 101, 110, 116]⟩, .int .i64 n] w fun e w' => e = .returned (.tuple #[.bool (n == 3), .bool false]) ∧ w' = w := by
  obtain ⟨b1, h1⟩ : ∃ b1, (n == 1) = b1 := ⟨_, rfl⟩
  obtain ⟨b2, h2⟩ : ∃ b2, (n == 2) = b2 := ⟨_, rfl⟩
  obtain ⟨b3, h3⟩ : ∃ b3, (n == 3) = b3 := ⟨_, rfl⟩
  simp only [h3]
  cases b3 <;> (
    go_enter Tryz.func10, Tryz.ntmps10
    go_wp2_with fail
    go_ret2
    exact ⟨rfl, rfl⟩)
set_option maxHeartbeats 4000000 in
set_option maxRecDepth 100000 in
theorem ris_24 (n : Int) (w : World) : Calls Tryz.prog 10 #[.string ⟨#[116, 117, 112, 108, 101, 95, 116, 111, 95, 108, 105, 115, 116]⟩, .int .i64 n] w fun e w' => e = .returned (.tuple #[.bool (n == 1), .bool false]) ∧ w' = w := by
  obtain ⟨b1, h1⟩ : ∃ b1, (n == 1) = b1 := ⟨_, rfl⟩
  obtain ⟨b2, h2⟩ : ∃ b2, (n == 2) = b2 := ⟨_, rfl⟩
  obtain ⟨b3, h3⟩ : ∃ b3, (n == 3) = b3 := ⟨_, rfl⟩
  simp only [h1]
  cases b1 <;> (
    go_enter Tryz.func10, Tryz.ntmps10
    go_wp2_with fail
    go_ret2
    exact ⟨rfl, rfl⟩)
set_option maxHeartbeats 4000000 in
set_option maxRecDepth 100000 in
theorem ris_25 (n : Int) (w : World) : Calls Tryz.prog 10 #[.string ⟨#[108, 105, 115, 116, 95, 116, 111, 95, 116, 117, 112, 108, 101]⟩, .int .i64 n] w fun e w' => e = .returned (.tuple #[.bool (n == 1), .bool false]) ∧ w' = w := by
  obtain ⟨b1, h1⟩ : ∃ b1, (n == 1) = b1 := ⟨_, rfl⟩
  obtain ⟨b2, h2⟩ : ∃ b2, (n == 2) = b2 := ⟨_, rfl⟩
  obtain ⟨b3, h3⟩ : ∃ b3, (n == 3) = b3 := ⟨_, rfl⟩
  simp only [h1]
  cases b1 <;> (
    go_enter Tryz.func10, Tryz.ntmps10
    go_wp2_with fail
    go_ret2
    exact ⟨rfl, rfl⟩)
set_option maxHeartbeats 4000000 in
set_option maxRecDepth 100000 in
theorem ris_26 (n : Int) (w : World) : Calls Tryz.prog 10 #[.string ⟨#[97, 116, 111, 109, 95, 116, 111, 95, 108, 105, 115, 116]⟩, .int .i64 n] w fun e w' => e = .returned (.tuple #[.bool (n == 1), .bool false]) ∧ w' = w := by
  obtain ⟨b1, h1⟩ : ∃ b1, (n == 1) = b1 := ⟨_, rfl⟩
  obtain ⟨b2, h2⟩ : ∃ b2, (n == 2) = b2 := ⟨_, rfl⟩
  obtain ⟨b3, h3⟩ : ∃ b3, (n == 3) = b3 := ⟨_, rfl⟩
  simp only [h1]
  cases b1 <;> (
    go_enter Tryz.func10, Tryz.ntmps10
    go_wp2_with fail
    go_ret2
    exact ⟨rfl, rfl⟩)
set_option maxHeartbeats 4000000 in
set_option maxRecDepth 100000 in
theorem ris_27 (n : Int) (w : World) : Calls Tryz.prog 10 #[.string ⟨#[108, 105, 115, 116, 95, 116, 111, 95, 97, 116, 111, 109]⟩, .int .i64 n] w fun e w' => e = .returned (.tuple #[.bool (n == 1), .bool false]) ∧ w' = w := by
  obtain ⟨b1, h1⟩ : ∃ b1, (n == 1) = b1 := ⟨_, rfl⟩
  obtain ⟨b2, h2⟩ : ∃ b2, (n == 2) = b2 := ⟨_, rfl⟩
  obtain ⟨b3, h3⟩ : ∃ b3, (n == 3) = b3 := ⟨_, rfl⟩
  simp only [h1]
  cases b1 <;> (
    go_enter Tryz.func10, Tryz.ntmps10
    go_wp2_with fail
    go_ret2
    exact ⟨rfl, rfl⟩)
set_option maxHeartbeats 4000000 in
set_option maxRecDepth 100000 in
theorem ris_28 (n : Int) (w : World) : Calls Tryz.prog 10 #[.string ⟨#[105, 110, 116, 101, 103, 101, 114, 95, 116, 111, 95, 108, 105, 115, 116]⟩, .int .i64 n] w fun e w' => e = .returned (.tuple #[.bool (n == 1), .bool false]) ∧ w' = w := by
  obtain ⟨b1, h1⟩ : ∃ b1, (n == 1) = b1 := ⟨_, rfl⟩
  obtain ⟨b2, h2⟩ : ∃ b2, (n == 2) = b2 := ⟨_, rfl⟩
  obtain ⟨b3, h3⟩ : ∃ b3, (n == 3) = b3 := ⟨_, rfl⟩
  simp only [h1]
  cases b1 <;> (
    go_enter Tryz.func10, Tryz.ntmps10
    go_wp2_with fail
    go_ret2
    exact ⟨rfl, rfl⟩)
set_option maxHeartbeats 4000000 in
set_option maxRecDepth 100000 in
theorem ris_29 (n : Int) (w : World) : Calls Tryz.prog 10 #[.string ⟨#[108, 105, 115, 116, 95, 116, 111, 95, 105, 110, 116, 101, 103, 101, 114]⟩, .int .i64 n] w fun e w' => e = .returned (.tuple #[.bool (n == 1), .bool false]) ∧ w' = w := by
  obtain ⟨b1, h1⟩ : ∃ b1, (n == 1) = b1 := ⟨_, rfl⟩
  obtain ⟨b2, h2⟩ : ∃ b2, (n == 2) = b2 := ⟨_, rfl⟩
  obtain ⟨b3, h3⟩ : ∃ b3, (n == 3) = b3 := ⟨_, rfl⟩
  simp only [h1]
  cases b1 <;> (
    go_enter Tryz.func10, Tryz.ntmps10
    go_wp2_with fail
    go_ret2
    exact ⟨rfl, rfl⟩)
set_option maxHeartbeats 4000000 in
set_option maxRecDepth 100000 in
theorem ris_30 (n : Int) (w : World) : Calls Tryz.prog 10 #[.string ⟨#[102, 108, 111, 97, 116, 95, 116, 111, 95, 108, 105, 115, 116]⟩, .int .i64 n] w fun e w' => e = .returned (.tuple #[.bool (n == 1), .bool false]) ∧ w' = w := by
  obtain ⟨b1, h1⟩ : ∃ b1, (n == 1) = b1 := ⟨_, rfl⟩
  obtain ⟨b2, h2⟩ : ∃ b2, (n == 2) = b2 := ⟨_, rfl⟩
  obtain ⟨b3, h3⟩ : ∃ b3, (n == 3) = b3 := ⟨_, rfl⟩
  simp only [h1]
  cases b1 <;> (
    go_enter Tryz.func10, Tryz.ntmps10
    go_wp2_with fail
    go_ret2
    exact ⟨rfl, rfl⟩)
set_option maxHeartbeats 4000000 in
set_option maxRecDepth 100000 in
theorem ris_31 (n : Int) (w : World) : Calls Tryz.prog 10 #[.string ⟨#[98, 105, 116, 115]⟩, .int .i64 n] w fun e w' => e = .returned (.tuple #[.bool (n == 1), .bool false]) ∧ w' = w := by
  obtain ⟨b1, h1⟩ : ∃ b1, (n == 1) = b1 := ⟨_, rfl⟩
  obtain ⟨b2, h2⟩ : ∃ b2, (n == 2) = b2 := ⟨_, rfl⟩
  obtain ⟨b3, h3⟩ : ∃ b3, (n == 3) = b3 := ⟨_, rfl⟩
  simp only [h1]
  cases b1 <;> (
    go_enter Tryz.func10, Tryz.ntmps10
    go_wp2_with fail
    go_ret2
    exact ⟨rfl, rfl⟩)
set_option maxHeartbeats 4000000 in
set_option maxRecDepth 100000 in
theorem ris_32 (n : Int) (w : World) : Calls Tryz.prog 10 #[.string ⟨#[114, 101, 118, 101, 114, 115, 101]⟩, .int .i64 n] w fun e w' => e = .returned (.tuple #[.bool (n == 1), .bool false]) ∧ w' = w := by
  obtain ⟨b1, h1⟩ : ∃ b1, (n == 1) = b1 := ⟨_, rfl⟩
  obtain ⟨b2, h2⟩ : ∃ b2, (n == 2) = b2 := ⟨_, rfl⟩
  obtain ⟨b3, h3⟩ : ∃ b3, (n == 3) = b3 := ⟨_, rfl⟩
  simp only [h1]
  cases b1 <;> (
    go_enter Tryz.func10, Tryz.ntmps10
    go_wp2_with fail
    go_ret2
    exact ⟨rfl, rfl⟩)
set_option maxHeartbeats 4000000 in
set_option maxRecDepth 100000 in
theorem ris_33 (n : Int) (w : World) : Calls Tryz.prog 10 #[.string ⟨#[115, 111, 114, 116]⟩, .int .i64 n] w fun e w' => e = .returned (.tuple #[.bool (n == 1), .bool false]) ∧ w' = w := by
  obtain ⟨b1, h1⟩ : ∃ b1, (n == 1) = b1 := ⟨_, rfl⟩
  obtain ⟨b2, h2⟩ : ∃ b2, (n == 2) = b2 := ⟨_, rfl⟩
  obtain ⟨b3, h3⟩ : ∃ b3, (n == 3) = b3 := ⟨_, rfl⟩
  simp only [h1]
  cases b1 <;> (
    go_enter Tryz.func10, Tryz.ntmps10
    go_wp2_with fail
    go_ret2
    exact ⟨rfl, rfl⟩)
set_option maxHeartbeats 4000000 in
set_option maxRecDepth 100000 in
theorem ris_34 (n : Int) (w : World) : Calls Tryz.prog 10 #[.string ⟨#[115, 105, 122, 101]⟩, .int .i64 n] w fun e w' => e = .returned (.tuple #[.bool (n == 1), .bool false]) ∧ w' = w := by
  obtain ⟨b1, h1⟩ : ∃ b1, (n == 1) = b1 := ⟨_, rfl⟩
  obtain ⟨b2, h2⟩ : ∃ b2, (n == 2) = b2 := ⟨_, rfl⟩
  obtain ⟨b3, h3⟩ : ∃ b3, (n == 3) = b3 := ⟨_, rfl⟩
  simp only [h1]
  cases b1 <;> (
    go_enter Tryz.func10, Tryz.ntmps10
    go_wp2_with fail
    go_ret2
    exact ⟨rfl, rfl⟩)
set_option maxHeartbeats 4000000 in
set_option maxRecDepth 100000 in
theorem ris_35 (n : Int) (w : World) : Calls Tryz.prog 10 #[.string ⟨#[109, 101, 109, 98, 101, 114]⟩, .int .i64 n] w fun e w' => e = .returned (.tuple #[.bool (n == 2), .bool false]) ∧ w' = w := by
  obtain ⟨b1, h1⟩ : ∃ b1, (n == 1) = b1 := ⟨_, rfl⟩
  obtain ⟨b2, h2⟩ : ∃ b2, (n == 2) = b2 := ⟨_, rfl⟩
  obtain ⟨b3, h3⟩ : ∃ b3, (n == 3) = b3 := ⟨_, rfl⟩
  simp only [h2]
  cases b2 <;> (
    go_enter Tryz.func10, Tryz.ntmps10
    go_wp2_with fail
    go_ret2
    exact ⟨rfl, rfl⟩)
set_option maxHeartbeats 4000000 in
set_option maxRecDepth 100000 in
theorem ris_36 (n : Int) (w : World) : Calls Tryz.prog 10 #[.string ⟨#[110, 116, 104]⟩, .int .i64 n] w fun e w' => e = .returned (.tuple #[.bool (n == 2), .bool false]) ∧ w' = w := by
  obtain ⟨b1, h1⟩ : ∃ b1, (n == 1) = b1 := ⟨_, rfl⟩
  obtain ⟨b2, h2⟩ : ∃ b2, (n == 2) = b2 := ⟨_, rfl⟩
  obtain ⟨b3, h3⟩ : ∃ b3, (n == 3) = b3 := ⟨_, rfl⟩
  simp only [h2]
  cases b2 <;> (
    go_enter Tryz.func10, Tryz.ntmps10
    go_wp2_with fail
    go_ret2
    exact ⟨rfl, rfl⟩)
end Go.Proofs.YtjnijmnacogabaaGreatDoor


/- The document's Is, name by name. -/
namespace Go.Proofs.YtjnijmnacogabaaGreatDoor
open Go.RowKit Go.Lib Go.Deep
attribute [local go_sem] store_float f64bits store_func store_nilFunc
attribute [local go_sem ↓] Go.wp_at_zero Go.wp_at_succ


def RIs (nm : ByteArray) (n : Int) (e : Ending) : Prop := e = .returned (.tuple #[.bool (rI nm n).1, .bool (rI nm n).2])
set_option maxHeartbeats 4000000 in
set_option maxRecDepth 100000 in
theorem ris_none {nm : ByteArray} (h : nm ∉ allN) (n : Int) (w : World) : Calls Tryz.prog 10 #[.string nm, .int .i64 n] w fun e w' => e = .returned (.tuple #[.bool false, .bool false]) ∧ w' = w := by
  simp only [allN, List.mem_cons, List.not_mem_nil, or_false, not_or] at h
  obtain ⟨q0, q1, q2, q3, q4, q5, q6, q7, q8, q9, q10, q11, q12, q13, q14, q15, q16, q17, q18, q19, q20, q21, q22, q23, q24, q25, q26, q27, q28, q29, q30, q31, q32, q33, q34, q35, q36⟩ := h
  obtain ⟨g0, k0⟩ := lit_ne (l := [97, 98, 115]) rfl q0
  clear q0
  obtain ⟨g1, k1⟩ := lit_ne (l := [102, 108, 111, 97, 116]) rfl q1
  clear q1
  obtain ⟨g2, k2⟩ := lit_ne (l := [116, 114, 117, 110, 99]) rfl q2
  clear q2
  obtain ⟨g3, k3⟩ := lit_ne (l := [114, 111, 117, 110, 100]) rfl q3
  clear q3
  obtain ⟨g4, k4⟩ := lit_ne (l := [102, 108, 111, 111, 114]) rfl q4
  clear q4
  obtain ⟨g5, k5⟩ := lit_ne (l := [99, 101, 105, 108]) rfl q5
  clear q5
  obtain ⟨g6, k6⟩ := lit_ne (l := [104, 100]) rfl q6
  clear q6
  obtain ⟨g7, k7⟩ := lit_ne (l := [116, 108]) rfl q7
  clear q7
  obtain ⟨g8, k8⟩ := lit_ne (l := [108, 101, 110, 103, 116, 104]) rfl q8
  clear q8
  obtain ⟨g9, k9⟩ := lit_ne (l := [116, 117, 112, 108, 101, 95, 115, 105, 122, 101]) rfl q9
  clear q9
  obtain ⟨g10, k10⟩ := lit_ne (l := [105, 115, 95, 97, 116, 111, 109]) rfl q10
  clear q10
  obtain ⟨g11, k11⟩ := lit_ne (l := [105, 115, 95, 105, 110, 116, 101, 103, 101, 114]) rfl q11
  clear q11
  obtain ⟨g12, k12⟩ := lit_ne (l := [105, 115, 95, 102, 108, 111, 97, 116]) rfl q12
  clear q12
  obtain ⟨g13, k13⟩ := lit_ne (l := [105, 115, 95, 110, 117, 109, 98, 101, 114]) rfl q13
  clear q13
  obtain ⟨g14, k14⟩ := lit_ne (l := [105, 115, 95, 108, 105, 115, 116]) rfl q14
  clear q14
  obtain ⟨g15, k15⟩ := lit_ne (l := [105, 115, 95, 116, 117, 112, 108, 101]) rfl q15
  clear q15
  obtain ⟨g16, k16⟩ := lit_ne (l := [105, 115, 95, 112, 105, 100]) rfl q16
  clear q16
  obtain ⟨g17, k17⟩ := lit_ne (l := [105, 115, 95, 114, 101, 102, 101, 114, 101, 110, 99, 101]) rfl q17
  clear q17
  obtain ⟨g18, k18⟩ := lit_ne (l := [105, 115, 95, 98, 111, 111, 108, 101, 97, 110]) rfl q18
  clear q18
  obtain ⟨g19, k19⟩ := lit_ne (l := [105, 115, 95, 102, 117, 110, 99, 116, 105, 111, 110]) rfl q19
  clear q19
  obtain ⟨g20, k20⟩ := lit_ne (l := [101, 108, 101, 109, 101, 110, 116]) rfl q20
  clear q20
  obtain ⟨g21, k21⟩ := lit_ne (l := [109, 105, 110]) rfl q21
  clear q21
  obtain ⟨g22, k22⟩ := lit_ne (l := [109, 97, 120]) rfl q22
  clear q22
  obtain ⟨g23, k23⟩ := lit_ne (l := [115, 101, 116, 101, 108, 101, 109, 101, 110, 116]) rfl q23
  clear q23
  obtain ⟨g24, k24⟩ := lit_ne (l := [116, 117, 112, 108, 101, 95, 116, 111, 95, 108, 105, 115, 116]) rfl q24
  clear q24
  obtain ⟨g25, k25⟩ := lit_ne (l := [108, 105, 115, 116, 95, 116, 111, 95, 116, 117, 112, 108, 101]) rfl q25
  clear q25
  obtain ⟨g26, k26⟩ := lit_ne (l := [97, 116, 111, 109, 95, 116, 111, 95, 108, 105, 115, 116]) rfl q26
  clear q26
  obtain ⟨g27, k27⟩ := lit_ne (l := [108, 105, 115, 116, 95, 116, 111, 95, 97, 116, 111, 109]) rfl q27
  clear q27
  obtain ⟨g28, k28⟩ := lit_ne (l := [105, 110, 116, 101, 103, 101, 114, 95, 116, 111, 95, 108, 105, 115, 116]) rfl q28
  clear q28
  obtain ⟨g29, k29⟩ := lit_ne (l := [108, 105, 115, 116, 95, 116, 111, 95, 105, 110, 116, 101, 103, 101, 114]) rfl q29
  clear q29
  obtain ⟨g30, k30⟩ := lit_ne (l := [102, 108, 111, 97, 116, 95, 116, 111, 95, 108, 105, 115, 116]) rfl q30
  clear q30
  obtain ⟨g31, k31⟩ := lit_ne (l := [98, 105, 116, 115]) rfl q31
  clear q31
  obtain ⟨g32, k32⟩ := lit_ne (l := [114, 101, 118, 101, 114, 115, 101]) rfl q32
  clear q32
  obtain ⟨g33, k33⟩ := lit_ne (l := [115, 111, 114, 116]) rfl q33
  clear q33
  obtain ⟨g34, k34⟩ := lit_ne (l := [115, 105, 122, 101]) rfl q34
  clear q34
  obtain ⟨g35, k35⟩ := lit_ne (l := [109, 101, 109, 98, 101, 114]) rfl q35
  clear q35
  obtain ⟨g36, k36⟩ := lit_ne (l := [110, 116, 104]) rfl q36
  clear q36
  go_enter Tryz.func10, Tryz.ntmps10
  go_wp2_with fail
  go_ret2
  exact ⟨rfl, rfl⟩
set_option maxRecDepth 100000 in
theorem ris_any (nm : ByteArray) (n : Int) (w : World) : Calls Tryz.prog 10 #[.string nm, .int .i64 n] w fun e w' => RIs nm n e ∧ w' = w := by
  unfold RIs
  by_cases h : nm ∈ allN
  · simp only [allN, List.mem_cons, List.not_mem_nil, or_false] at h
    rcases h with rfl | rfl | rfl | rfl | rfl | rfl | rfl | rfl | rfl | rfl | rfl | rfl | rfl | rfl | rfl | rfl | rfl | rfl | rfl | rfl | rfl | rfl | rfl | rfl | rfl | rfl | rfl | rfl | rfl | rfl | rfl | rfl | rfl | rfl | rfl | rfl | rfl
    · have e : rI ⟨#[97, 98, 115]⟩ n = ((n == 1), (n == 1)) := by unfold rI; simp only [ByteArray.toList_eq]; rfl
      rw [e]; exact ris_0 n w
    · have e : rI ⟨#[102, 108, 111, 97, 116]⟩ n = ((n == 1), (n == 1)) := by unfold rI; simp only [ByteArray.toList_eq]; rfl
      rw [e]; exact ris_1 n w
    · have e : rI ⟨#[116, 114, 117, 110, 99]⟩ n = ((n == 1), (n == 1)) := by unfold rI; simp only [ByteArray.toList_eq]; rfl
      rw [e]; exact ris_2 n w
    · have e : rI ⟨#[114, 111, 117, 110, 100]⟩ n = ((n == 1), (n == 1)) := by unfold rI; simp only [ByteArray.toList_eq]; rfl
      rw [e]; exact ris_3 n w
    · have e : rI ⟨#[102, 108, 111, 111, 114]⟩ n = ((n == 1), (n == 1)) := by unfold rI; simp only [ByteArray.toList_eq]; rfl
      rw [e]; exact ris_4 n w
    · have e : rI ⟨#[99, 101, 105, 108]⟩ n = ((n == 1), (n == 1)) := by unfold rI; simp only [ByteArray.toList_eq]; rfl
      rw [e]; exact ris_5 n w
    · have e : rI ⟨#[104, 100]⟩ n = ((n == 1), (n == 1)) := by unfold rI; simp only [ByteArray.toList_eq]; rfl
      rw [e]; exact ris_6 n w
    · have e : rI ⟨#[116, 108]⟩ n = ((n == 1), (n == 1)) := by unfold rI; simp only [ByteArray.toList_eq]; rfl
      rw [e]; exact ris_7 n w
    · have e : rI ⟨#[108, 101, 110, 103, 116, 104]⟩ n = ((n == 1), (n == 1)) := by unfold rI; simp only [ByteArray.toList_eq]; rfl
      rw [e]; exact ris_8 n w
    · have e : rI ⟨#[116, 117, 112, 108, 101, 95, 115, 105, 122, 101]⟩ n = ((n == 1), (n == 1)) := by unfold rI; simp only [ByteArray.toList_eq]; rfl
      rw [e]; exact ris_9 n w
    · have e : rI ⟨#[105, 115, 95, 97, 116, 111, 109]⟩ n = ((n == 1), (n == 1)) := by unfold rI; simp only [ByteArray.toList_eq]; rfl
      rw [e]; exact ris_10 n w
    · have e : rI ⟨#[105, 115, 95, 105, 110, 116, 101, 103, 101, 114]⟩ n = ((n == 1), (n == 1)) := by unfold rI; simp only [ByteArray.toList_eq]; rfl
      rw [e]; exact ris_11 n w
    · have e : rI ⟨#[105, 115, 95, 102, 108, 111, 97, 116]⟩ n = ((n == 1), (n == 1)) := by unfold rI; simp only [ByteArray.toList_eq]; rfl
      rw [e]; exact ris_12 n w
    · have e : rI ⟨#[105, 115, 95, 110, 117, 109, 98, 101, 114]⟩ n = ((n == 1), (n == 1)) := by unfold rI; simp only [ByteArray.toList_eq]; rfl
      rw [e]; exact ris_13 n w
    · have e : rI ⟨#[105, 115, 95, 108, 105, 115, 116]⟩ n = ((n == 1), (n == 1)) := by unfold rI; simp only [ByteArray.toList_eq]; rfl
      rw [e]; exact ris_14 n w
    · have e : rI ⟨#[105, 115, 95, 116, 117, 112, 108, 101]⟩ n = ((n == 1), (n == 1)) := by unfold rI; simp only [ByteArray.toList_eq]; rfl
      rw [e]; exact ris_15 n w
    · have e : rI ⟨#[105, 115, 95, 112, 105, 100]⟩ n = ((n == 1), (n == 1)) := by unfold rI; simp only [ByteArray.toList_eq]; rfl
      rw [e]; exact ris_16 n w
    · have e : rI ⟨#[105, 115, 95, 114, 101, 102, 101, 114, 101, 110, 99, 101]⟩ n = ((n == 1), (n == 1)) := by unfold rI; simp only [ByteArray.toList_eq]; rfl
      rw [e]; exact ris_17 n w
    · have e : rI ⟨#[105, 115, 95, 98, 111, 111, 108, 101, 97, 110]⟩ n = ((n == 1), (n == 1)) := by unfold rI; simp only [ByteArray.toList_eq]; rfl
      rw [e]; exact ris_18 n w
    · have e : rI ⟨#[105, 115, 95, 102, 117, 110, 99, 116, 105, 111, 110]⟩ n = ((n == 1 || n == 2), (n == 1 || n == 2)) := by unfold rI; simp only [ByteArray.toList_eq]; rfl
      rw [e]; exact ris_19 n w
    · have e : rI ⟨#[101, 108, 101, 109, 101, 110, 116]⟩ n = ((n == 2), (n == 2)) := by unfold rI; simp only [ByteArray.toList_eq]; rfl
      rw [e]; exact ris_20 n w
    · have e : rI ⟨#[109, 105, 110]⟩ n = ((n == 2), (n == 2)) := by unfold rI; simp only [ByteArray.toList_eq]; rfl
      rw [e]; exact ris_21 n w
    · have e : rI ⟨#[109, 97, 120]⟩ n = ((n == 2), (n == 2)) := by unfold rI; simp only [ByteArray.toList_eq]; rfl
      rw [e]; exact ris_22 n w
    · have e : rI ⟨#[115, 101, 116, 101, 108, 101, 109, 101, 110, 116]⟩ n = ((n == 3), false) := by unfold rI; simp only [ByteArray.toList_eq]; rfl
      rw [e]; exact ris_23 n w
    · have e : rI ⟨#[116, 117, 112, 108, 101, 95, 116, 111, 95, 108, 105, 115, 116]⟩ n = ((n == 1), false) := by unfold rI; simp only [ByteArray.toList_eq]; rfl
      rw [e]; exact ris_24 n w
    · have e : rI ⟨#[108, 105, 115, 116, 95, 116, 111, 95, 116, 117, 112, 108, 101]⟩ n = ((n == 1), false) := by unfold rI; simp only [ByteArray.toList_eq]; rfl
      rw [e]; exact ris_25 n w
    · have e : rI ⟨#[97, 116, 111, 109, 95, 116, 111, 95, 108, 105, 115, 116]⟩ n = ((n == 1), false) := by unfold rI; simp only [ByteArray.toList_eq]; rfl
      rw [e]; exact ris_26 n w
    · have e : rI ⟨#[108, 105, 115, 116, 95, 116, 111, 95, 97, 116, 111, 109]⟩ n = ((n == 1), false) := by unfold rI; simp only [ByteArray.toList_eq]; rfl
      rw [e]; exact ris_27 n w
    · have e : rI ⟨#[105, 110, 116, 101, 103, 101, 114, 95, 116, 111, 95, 108, 105, 115, 116]⟩ n = ((n == 1), false) := by unfold rI; simp only [ByteArray.toList_eq]; rfl
      rw [e]; exact ris_28 n w
    · have e : rI ⟨#[108, 105, 115, 116, 95, 116, 111, 95, 105, 110, 116, 101, 103, 101, 114]⟩ n = ((n == 1), false) := by unfold rI; simp only [ByteArray.toList_eq]; rfl
      rw [e]; exact ris_29 n w
    · have e : rI ⟨#[102, 108, 111, 97, 116, 95, 116, 111, 95, 108, 105, 115, 116]⟩ n = ((n == 1), false) := by unfold rI; simp only [ByteArray.toList_eq]; rfl
      rw [e]; exact ris_30 n w
    · have e : rI ⟨#[98, 105, 116, 115]⟩ n = ((n == 1), false) := by unfold rI; simp only [ByteArray.toList_eq]; rfl
      rw [e]; exact ris_31 n w
    · have e : rI ⟨#[114, 101, 118, 101, 114, 115, 101]⟩ n = ((n == 1), false) := by unfold rI; simp only [ByteArray.toList_eq]; rfl
      rw [e]; exact ris_32 n w
    · have e : rI ⟨#[115, 111, 114, 116]⟩ n = ((n == 1), false) := by unfold rI; simp only [ByteArray.toList_eq]; rfl
      rw [e]; exact ris_33 n w
    · have e : rI ⟨#[115, 105, 122, 101]⟩ n = ((n == 1), false) := by unfold rI; simp only [ByteArray.toList_eq]; rfl
      rw [e]; exact ris_34 n w
    · have e : rI ⟨#[109, 101, 109, 98, 101, 114]⟩ n = ((n == 2), false) := by unfold rI; simp only [ByteArray.toList_eq]; rfl
      rw [e]; exact ris_35 n w
    · have e : rI ⟨#[110, 116, 104]⟩ n = ((n == 2), false) := by unfold rI; simp only [ByteArray.toList_eq]; rfl
      rw [e]; exact ris_36 n w
  · have e : rI nm n = (false, false) := by
      have h2 := h
      simp only [allN, List.mem_cons, List.not_mem_nil, or_false, not_or] at h2
      obtain ⟨q0, q1, q2, q3, q4, q5, q6, q7, q8, q9, q10, q11, q12, q13, q14, q15, q16, q17, q18, q19, q20, q21, q22, q23, q24, q25, q26, q27, q28, q29, q30, q31, q32, q33, q34, q35, q36⟩ := h2
      unfold rI
      simp only [(lit_ne (l := [97, 98, 115]) rfl q0).1, (lit_ne (l := [102, 108, 111, 97, 116]) rfl q1).1, (lit_ne (l := [116, 114, 117, 110, 99]) rfl q2).1, (lit_ne (l := [114, 111, 117, 110, 100]) rfl q3).1, (lit_ne (l := [102, 108, 111, 111, 114]) rfl q4).1, (lit_ne (l := [99, 101, 105, 108]) rfl q5).1, (lit_ne (l := [104, 100]) rfl q6).1, (lit_ne (l := [116, 108]) rfl q7).1, (lit_ne (l := [108, 101, 110, 103, 116, 104]) rfl q8).1, (lit_ne (l := [116, 117, 112, 108, 101, 95, 115, 105, 122, 101]) rfl q9).1, (lit_ne (l := [105, 115, 95, 97, 116, 111, 109]) rfl q10).1, (lit_ne (l := [105, 115, 95, 105, 110, 116, 101, 103, 101, 114]) rfl q11).1, (lit_ne (l := [105, 115, 95, 102, 108, 111, 97, 116]) rfl q12).1, (lit_ne (l := [105, 115, 95, 110, 117, 109, 98, 101, 114]) rfl q13).1, (lit_ne (l := [105, 115, 95, 108, 105, 115, 116]) rfl q14).1, (lit_ne (l := [105, 115, 95, 116, 117, 112, 108, 101]) rfl q15).1, (lit_ne (l := [105, 115, 95, 112, 105, 100]) rfl q16).1, (lit_ne (l := [105, 115, 95, 114, 101, 102, 101, 114, 101, 110, 99, 101]) rfl q17).1, (lit_ne (l := [105, 115, 95, 98, 111, 111, 108, 101, 97, 110]) rfl q18).1, (lit_ne (l := [105, 115, 95, 102, 117, 110, 99, 116, 105, 111, 110]) rfl q19).1, (lit_ne (l := [101, 108, 101, 109, 101, 110, 116]) rfl q20).1, (lit_ne (l := [109, 105, 110]) rfl q21).1, (lit_ne (l := [109, 97, 120]) rfl q22).1, (lit_ne (l := [115, 101, 116, 101, 108, 101, 109, 101, 110, 116]) rfl q23).1, (lit_ne (l := [116, 117, 112, 108, 101, 95, 116, 111, 95, 108, 105, 115, 116]) rfl q24).1, (lit_ne (l := [108, 105, 115, 116, 95, 116, 111, 95, 116, 117, 112, 108, 101]) rfl q25).1, (lit_ne (l := [97, 116, 111, 109, 95, 116, 111, 95, 108, 105, 115, 116]) rfl q26).1, (lit_ne (l := [108, 105, 115, 116, 95, 116, 111, 95, 97, 116, 111, 109]) rfl q27).1, (lit_ne (l := [105, 110, 116, 101, 103, 101, 114, 95, 116, 111, 95, 108, 105, 115, 116]) rfl q28).1, (lit_ne (l := [108, 105, 115, 116, 95, 116, 111, 95, 105, 110, 116, 101, 103, 101, 114]) rfl q29).1, (lit_ne (l := [102, 108, 111, 97, 116, 95, 116, 111, 95, 108, 105, 115, 116]) rfl q30).1, (lit_ne (l := [98, 105, 116, 115]) rfl q31).1, (lit_ne (l := [114, 101, 118, 101, 114, 115, 101]) rfl q32).1, (lit_ne (l := [115, 111, 114, 116]) rfl q33).1, (lit_ne (l := [115, 105, 122, 101]) rfl q34).1, (lit_ne (l := [109, 101, 109, 98, 101, 114]) rfl q35).1, (lit_ne (l := [110, 116, 104]) rfl q36).1, if_false, Bool.false_eq_true]
    rw [e]; exact ris_none h n w
end Go.Proofs.YtjnijmnacogabaaGreatDoor


