import Derived.Test.YtjnijmnacogabaaGreatDoorG20
/- bif.Is, the document's Is. -/
namespace Go.Proofs.YtjnijmnacogabaaGreatDoor
open Go.RowKit Go.Lib Go.Deep
attribute [local go_sem] store_float f64bits store_func store_nilFunc
attribute [local go_sem ↓] Go.wp_at_zero Go.wp_at_succ

set_option maxHeartbeats 4000000 in
set_option maxRecDepth 100000 in
theorem is_any (nm : ByteArray) (n : Int) (w : World) : Calls Tryz.prog 9 #[.string nm, .int .i64 n] w fun e w' => e = .returned (.tuple #[.bool (bI nm n).1, .bool (bI nm n).2]) ∧ Below w.heap.size w w' := by
  unfold bI
  obtain ⟨G, hG⟩ : ∃ G, (bfnd grdL nm n).isSome = G := ⟨_, rfl⟩
  obtain ⟨O, hO⟩ : ∃ O, (bfnd othL nm n).isSome = O := ⟨_, rfl⟩
  have HG := hidb hG
  have HO := hidb hO
  simp only [hG, hO]
  clear hG hO
  go_enter Tryz.func9, Tryz.ntmps9
  go_wp2_with fail
  refine (guards_any _).mono ?_
  rintro e w2 ⟨b, rfl, hT, hb2⟩
  have HT := hidb hT
  have HB2 := hidb hb2
  clear hT hb2
  go_wp2_with fail
  have hlg : grdL.length = 24 := rfl
  have F1 := find_any (cap := 24) HT.out nm n (by decide)
  rw [hlg] at F1
  refine F1.mono ?_
  rintro e w3 ⟨hf, hb3⟩
  have HB3 := hidb (HB2.out.trans (hb3.mono HB2.out.size))
  clear hb3 F1
  obtain ⟨rn, ra, rv, he, hGv⟩ : ∃ rn ra rv, e = .returned (.tuple #[.agg #[.string rn, .int .i64 ra, rv], .bool G]) ∧ (rv = .nilFunc ∨ ∃ f, rv = .func (.func f) #[] #[]) := by
    rcases hf with ⟨⟨rn, ra, rf⟩, h1, h2⟩ | ⟨h1, h2⟩
    · have : G = true := by rw [← HG.out, h1]; rfl
      exact ⟨rn, ra, _, by rw [this]; exact h2, .inr ⟨rf, rfl⟩⟩
    · have : G = false := by rw [← HG.out, h1]; rfl
      exact ⟨_, _, _, by rw [this]; exact h2, .inl rfl⟩
  subst he
  clear hf
  go_wp2_with fail
  refine (others_any _).mono ?_
  rintro e w4 ⟨b4, rfl, hT4, hb4⟩
  have HT4 := hidb hT4
  have HB4 := hidb (HB3.out.trans (hb4.mono HB3.out.size))
  clear hT4 hb4
  go_wp2_with fail
  have hlo : othL.length = 14 := rfl
  have F2 := find_any (cap := 14) HT4.out nm n (by decide)
  rw [hlo] at F2
  refine F2.mono ?_
  rintro e w5 ⟨hf, hb5⟩
  have HB5 := hidb (HB4.out.trans (hb5.mono HB4.out.size))
  clear hb5 F2
  rcases hf with ⟨⟨qn, qa, qf⟩, h1, rfl⟩ | ⟨h1, rfl⟩
  · obtain rfl : O = true := by rw [← HO.out, h1]; rfl
    clear h1 HO HG
    simp only [Brw.val]
    cases G
    · go_wp2_with fail
      go_ret2
      exact ⟨rfl, HB5.out.alloc HB5.out.size _⟩
    · go_wp2_with fail
      go_ret2
      exact ⟨rfl, HB5.out.alloc HB5.out.size _⟩
  · obtain rfl : O = false := by rw [← HO.out, h1]; rfl
    clear h1 HO HG
    cases G
    · go_wp2_with fail
      go_ret2
      exact ⟨rfl, HB5.out.alloc HB5.out.size _⟩
    · go_wp2_with fail
      go_ret2
      exact ⟨rfl, HB5.out.alloc HB5.out.size _⟩
end Go.Proofs.YtjnijmnacogabaaGreatDoor


/- The document's Is, name by name. -/
namespace Go.Proofs.YtjnijmnacogabaaGreatDoor
open Go.RowKit Go.Lib Go.Deep
attribute [local go_sem] store_float f64bits store_func store_nilFunc
attribute [local go_sem ↓] Go.wp_at_zero Go.wp_at_succ

set_option maxHeartbeats 4000000 in
set_option maxRecDepth 100000 in
theorem ris_0 (n : Int) (w : World) : Calls Tryz.prog 10 #[.string ⟨#[97, 98, 115]⟩, .int .i64 n] w fun e w' => e = .returned (.tuple #[.bool (n == 1), .bool (n == 1)]) ∧ w' = w := by
  obtain ⟨b1, h1⟩ : ∃ b1, (n == 1) = b1 := ⟨_, rfl⟩
  obtain ⟨b2, h2⟩ : ∃ b2, (n == 2) = b2 := ⟨_, rfl⟩
  obtain ⟨b3, h3⟩ : ∃ b3, (n == 3) = b3 := ⟨_, rfl⟩
  simp only [h1]
  cases b1 <;> (
    go_enter Tryz.func10, Tryz.ntmps10
    go_wp2_with fail
    go_ret2
    exact ⟨rfl, rfl⟩)
set_option maxHeartbeats 4000000 in
set_option maxRecDepth 100000 in
theorem ris_1 (n : Int) (w : World) : Calls Tryz.prog 10 #[.string ⟨#[102, 108, 111, 97, 116]⟩, .int .i64 n] w fun e w' => e = .returned (.tuple #[.bool (n == 1), .bool (n == 1)]) ∧ w' = w := by
  obtain ⟨b1, h1⟩ : ∃ b1, (n == 1) = b1 := ⟨_, rfl⟩
  obtain ⟨b2, h2⟩ : ∃ b2, (n == 2) = b2 := ⟨_, rfl⟩
  obtain ⟨b3, h3⟩ : ∃ b3, (n == 3) = b3 := ⟨_, rfl⟩
  simp only [h1]
  cases b1 <;> (
    go_enter Tryz.func10, Tryz.ntmps10
    go_wp2_with fail
    go_ret2
    exact ⟨rfl, rfl⟩)
set_option maxHeartbeats 4000000 in
set_option maxRecDepth 100000 in
theorem ris_2 (n : Int) (w : World) : Calls Tryz.prog 10 #[.string ⟨#[116, 114, 117, 110, 99]⟩, .int .i64 n] w fun e w' => e = .returned (.tuple #[.bool (n == 1), .bool (n == 1)]) ∧ w' = w := by
  obtain ⟨b1, h1⟩ : ∃ b1, (n == 1) = b1 := ⟨_, rfl⟩
  obtain ⟨b2, h2⟩ : ∃ b2, (n == 2) = b2 := ⟨_, rfl⟩
  obtain ⟨b3, h3⟩ : ∃ b3, (n == 3) = b3 := ⟨_, rfl⟩
  simp only [h1]
  cases b1 <;> (
    go_enter Tryz.func10, Tryz.ntmps10
    go_wp2_with fail
    go_ret2
    exact ⟨rfl, rfl⟩)
set_option maxHeartbeats 4000000 in
set_option maxRecDepth 100000 in
theorem ris_3 (n : Int) (w : World) : Calls Tryz.prog 10 #[.string ⟨#[114, 111, 117, 110, 100]⟩, .int .i64 n] w fun e w' => e = .returned (.tuple #[.bool (n == 1), .bool (n == 1)]) ∧ w' = w := by
  obtain ⟨b1, h1⟩ : ∃ b1, (n == 1) = b1 := ⟨_, rfl⟩
  obtain ⟨b2, h2⟩ : ∃ b2, (n == 2) = b2 := ⟨_, rfl⟩
  obtain ⟨b3, h3⟩ : ∃ b3, (n == 3) = b3 := ⟨_, rfl⟩
  simp only [h1]
  cases b1 <;> (
    go_enter Tryz.func10, Tryz.ntmps10
    go_wp2_with fail
    go_ret2
    exact ⟨rfl, rfl⟩)
set_option maxHeartbeats 4000000 in
set_option maxRecDepth 100000 in
theorem ris_4 (n : Int) (w : World) : Calls Tryz.prog 10 #[.string ⟨#[102, 108, 111, 111, 114]⟩, .int .i64 n] w fun e w' => e = .returned (.tuple #[.bool (n == 1), .bool (n == 1)]) ∧ w' = w := by
  obtain ⟨b1, h1⟩ : ∃ b1, (n == 1) = b1 := ⟨_, rfl⟩
  obtain ⟨b2, h2⟩ : ∃ b2, (n == 2) = b2 := ⟨_, rfl⟩
  obtain ⟨b3, h3⟩ : ∃ b3, (n == 3) = b3 := ⟨_, rfl⟩
  simp only [h1]
  cases b1 <;> (
    go_enter Tryz.func10, Tryz.ntmps10
    go_wp2_with fail
    go_ret2
    exact ⟨rfl, rfl⟩)
set_option maxHeartbeats 4000000 in
set_option maxRecDepth 100000 in
theorem ris_5 (n : Int) (w : World) : Calls Tryz.prog 10 #[.string ⟨#[99, 101, 105, 108]⟩, .int .i64 n] w fun e w' => e = .returned (.tuple #[.bool (n == 1), .bool (n == 1)]) ∧ w' = w := by
  obtain ⟨b1, h1⟩ : ∃ b1, (n == 1) = b1 := ⟨_, rfl⟩
  obtain ⟨b2, h2⟩ : ∃ b2, (n == 2) = b2 := ⟨_, rfl⟩
  obtain ⟨b3, h3⟩ : ∃ b3, (n == 3) = b3 := ⟨_, rfl⟩
  simp only [h1]
  cases b1 <;> (
    go_enter Tryz.func10, Tryz.ntmps10
    go_wp2_with fail
    go_ret2
    exact ⟨rfl, rfl⟩)
set_option maxHeartbeats 4000000 in
set_option maxRecDepth 100000 in
theorem ris_6 (n : Int) (w : World) : Calls Tryz.prog 10 #[.string ⟨#[104, 100]⟩, .int .i64 n] w fun e w' => e = .returned (.tuple #[.bool (n == 1), .bool (n == 1)]) ∧ w' = w := by
  obtain ⟨b1, h1⟩ : ∃ b1, (n == 1) = b1 := ⟨_, rfl⟩
  obtain ⟨b2, h2⟩ : ∃ b2, (n == 2) = b2 := ⟨_, rfl⟩
  obtain ⟨b3, h3⟩ : ∃ b3, (n == 3) = b3 := ⟨_, rfl⟩
  simp only [h1]
  cases b1 <;> (
    go_enter Tryz.func10, Tryz.ntmps10
    go_wp2_with fail
    go_ret2
    exact ⟨rfl, rfl⟩)
set_option maxHeartbeats 4000000 in
set_option maxRecDepth 100000 in
theorem ris_7 (n : Int) (w : World) : Calls Tryz.prog 10 #[.string ⟨#[116, 108]⟩, .int .i64 n] w fun e w' => e = .returned (.tuple #[.bool (n == 1), .bool (n == 1)]) ∧ w' = w := by
  obtain ⟨b1, h1⟩ : ∃ b1, (n == 1) = b1 := ⟨_, rfl⟩
  obtain ⟨b2, h2⟩ : ∃ b2, (n == 2) = b2 := ⟨_, rfl⟩
  obtain ⟨b3, h3⟩ : ∃ b3, (n == 3) = b3 := ⟨_, rfl⟩
  simp only [h1]
  cases b1 <;> (
    go_enter Tryz.func10, Tryz.ntmps10
    go_wp2_with fail
    go_ret2
    exact ⟨rfl, rfl⟩)
set_option maxHeartbeats 4000000 in
set_option maxRecDepth 100000 in
theorem ris_8 (n : Int) (w : World) : Calls Tryz.prog 10 #[.string ⟨#[108, 101, 110, 103, 116, 104]⟩, .int .i64 n] w fun e w' => e = .returned (.tuple #[.bool (n == 1), .bool (n == 1)]) ∧ w' = w := by
  obtain ⟨b1, h1⟩ : ∃ b1, (n == 1) = b1 := ⟨_, rfl⟩
  obtain ⟨b2, h2⟩ : ∃ b2, (n == 2) = b2 := ⟨_, rfl⟩
  obtain ⟨b3, h3⟩ : ∃ b3, (n == 3) = b3 := ⟨_, rfl⟩
  simp only [h1]
  cases b1 <;> (
    go_enter Tryz.func10, Tryz.ntmps10
    go_wp2_with fail
    go_ret2
    exact ⟨rfl, rfl⟩)
set_option maxHeartbeats 4000000 in
set_option maxRecDepth 100000 in
theorem ris_9 (n : Int) (w : World) : Calls Tryz.prog 10 #[.string ⟨#[116, 117, 112, 108, 101, 95, 115, 105, 122, 101]⟩, .int .i64 n] w fun e w' => e = .returned (.tuple #[.bool (n == 1), .bool (n == 1)]) ∧ w' = w := by
  obtain ⟨b1, h1⟩ : ∃ b1, (n == 1) = b1 := ⟨_, rfl⟩
  obtain ⟨b2, h2⟩ : ∃ b2, (n == 2) = b2 := ⟨_, rfl⟩
  obtain ⟨b3, h3⟩ : ∃ b3, (n == 3) = b3 := ⟨_, rfl⟩
  simp only [h1]
  cases b1 <;> (
    go_enter Tryz.func10, Tryz.ntmps10
    go_wp2_with fail
    go_ret2
    exact ⟨rfl, rfl⟩)
set_option maxHeartbeats 4000000 in
set_option maxRecDepth 100000 in
theorem ris_10 (n : Int) (w : World) : Calls Tryz.prog 10 #[.string ⟨#[105, 115, 95, 97, 116, 111, 109]⟩, .int .i64 n] w fun e w' => e = .returned (.tuple #[.bool (n == 1), .bool (n == 1)]) ∧ w' = w := by
  obtain ⟨b1, h1⟩ : ∃ b1, (n == 1) = b1 := ⟨_, rfl⟩
  obtain ⟨b2, h2⟩ : ∃ b2, (n == 2) = b2 := ⟨_, rfl⟩
  obtain ⟨b3, h3⟩ : ∃ b3, (n == 3) = b3 := ⟨_, rfl⟩
  simp only [h1]
  cases b1 <;> (
    go_enter Tryz.func10, Tryz.ntmps10
    go_wp2_with fail
    go_ret2
    exact ⟨rfl, rfl⟩)
set_option maxHeartbeats 4000000 in
set_option maxRecDepth 100000 in
theorem ris_11 (n : Int) (w : World) : Calls Tryz.prog 10 #[.string ⟨#[105, 115, 95, 105, 110, 116, 101, 103, 101, 114]⟩, .int .i64 n] w fun e w' => e = .returned (.tuple #[.bool (n == 1), .bool (n == 1)]) ∧ w' = w := by
  obtain ⟨b1, h1⟩ : ∃ b1, (n == 1) = b1 := ⟨_, rfl⟩
  obtain ⟨b2, h2⟩ : ∃ b2, (n == 2) = b2 := ⟨_, rfl⟩
  obtain ⟨b3, h3⟩ : ∃ b3, (n == 3) = b3 := ⟨_, rfl⟩
  simp only [h1]
  cases b1 <;> (
    go_enter Tryz.func10, Tryz.ntmps10
    go_wp2_with fail
    go_ret2
    exact ⟨rfl, rfl⟩)
set_option maxHeartbeats 4000000 in
set_option maxRecDepth 100000 in
theorem ris_12 (n : Int) (w : World) : Calls Tryz.prog 10 #[.string ⟨#[105, 115, 95, 102, 108, 111, 97, 116]⟩, .int .i64 n] w fun e w' => e = .returned (.tuple #[.bool (n == 1), .bool (n == 1)]) ∧ w' = w := by
  obtain ⟨b1, h1⟩ : ∃ b1, (n == 1) = b1 := ⟨_, rfl⟩
  obtain ⟨b2, h2⟩ : ∃ b2, (n == 2) = b2 := ⟨_, rfl⟩
  obtain ⟨b3, h3⟩ : ∃ b3, (n == 3) = b3 := ⟨_, rfl⟩
  simp only [h1]
  cases b1 <;> (
    go_enter Tryz.func10, Tryz.ntmps10
    go_wp2_with fail
    go_ret2
    exact ⟨rfl, rfl⟩)
set_option maxHeartbeats 4000000 in
set_option maxRecDepth 100000 in
theorem ris_13 (n : Int) (w : World) : Calls Tryz.prog 10 #[.string ⟨#[105, 115, 95, 110, 117, 109, 98, 101, 114]⟩, .int .i64 n] w fun e w' => e = .returned (.tuple #[.bool (n == 1), .bool (n == 1)]) ∧ w' = w := by
  obtain ⟨b1, h1⟩ : ∃ b1, (n == 1) = b1 := ⟨_, rfl⟩
  obtain ⟨b2, h2⟩ : ∃ b2, (n == 2) = b2 := ⟨_, rfl⟩
  obtain ⟨b3, h3⟩ : ∃ b3, (n == 3) = b3 := ⟨_, rfl⟩
  simp only [h1]
  cases b1 <;> (
    go_enter Tryz.func10, Tryz.ntmps10
    go_wp2_with fail
    go_ret2
    exact ⟨rfl, rfl⟩)
set_option maxHeartbeats 4000000 in
set_option maxRecDepth 100000 in
theorem ris_14 (n : Int) (w : World) : Calls Tryz.prog 10 #[.string ⟨#[105, 115, 95, 108, 105, 115, 116]⟩, .int .i64 n] w fun e w' => e = .returned (.tuple #[.bool (n == 1), .bool (n == 1)]) ∧ w' = w := by
  obtain ⟨b1, h1⟩ : ∃ b1, (n == 1) = b1 := ⟨_, rfl⟩
  obtain ⟨b2, h2⟩ : ∃ b2, (n == 2) = b2 := ⟨_, rfl⟩
  obtain ⟨b3, h3⟩ : ∃ b3, (n == 3) = b3 := ⟨_, rfl⟩
  simp only [h1]
  cases b1 <;> (
    go_enter Tryz.func10, Tryz.ntmps10
    go_wp2_with fail
    go_ret2
    exact ⟨rfl, rfl⟩)
set_option maxHeartbeats 4000000 in
set_option maxRecDepth 100000 in
theorem ris_15 (n : Int) (w : World) : Calls Tryz.prog 10 #[.string ⟨#[105, 115, 95, 116, 117, 112, 108, 101]⟩, .int .i64 n] w fun e w' => e = .returned (.tuple #[.bool (n == 1), .bool (n == 1)]) ∧ w' = w := by
  obtain ⟨b1, h1⟩ : ∃ b1, (n == 1) = b1 := ⟨_, rfl⟩
  obtain ⟨b2, h2⟩ : ∃ b2, (n == 2) = b2 := ⟨_, rfl⟩
  obtain ⟨b3, h3⟩ : ∃ b3, (n == 3) = b3 := ⟨_, rfl⟩
  simp only [h1]
  cases b1 <;> (
    go_enter Tryz.func10, Tryz.ntmps10
    go_wp2_with fail
    go_ret2
    exact ⟨rfl, rfl⟩)
set_option maxHeartbeats 4000000 in
set_option maxRecDepth 100000 in
theorem ris_16 (n : Int) (w : World) : Calls Tryz.prog 10 #[.string ⟨#[105, 115, 95, 112, 105, 100]⟩, .int .i64 n] w fun e w' => e = .returned (.tuple #[.bool (n == 1), .bool (n == 1)]) ∧ w' = w := by
  obtain ⟨b1, h1⟩ : ∃ b1, (n == 1) = b1 := ⟨_, rfl⟩
  obtain ⟨b2, h2⟩ : ∃ b2, (n == 2) = b2 := ⟨_, rfl⟩
  obtain ⟨b3, h3⟩ : ∃ b3, (n == 3) = b3 := ⟨_, rfl⟩
  simp only [h1]
  cases b1 <;> (
    go_enter Tryz.func10, Tryz.ntmps10
    go_wp2_with fail
    go_ret2
    exact ⟨rfl, rfl⟩)
set_option maxHeartbeats 4000000 in
set_option maxRecDepth 100000 in
theorem ris_17 (n : Int) (w : World) : Calls Tryz.prog 10 #[.string ⟨#[105, 115, 95, 114, 101, 102, 101, 114, 101, 110, 99, 101]⟩, .int .i64 n] w fun e w' => e = .returned (.tuple #[.bool (n == 1), .bool (n == 1)]) ∧ w' = w := by
  obtain ⟨b1, h1⟩ : ∃ b1, (n == 1) = b1 := ⟨_, rfl⟩
  obtain ⟨b2, h2⟩ : ∃ b2, (n == 2) = b2 := ⟨_, rfl⟩
  obtain ⟨b3, h3⟩ : ∃ b3, (n == 3) = b3 := ⟨_, rfl⟩
  simp only [h1]
  cases b1 <;> (
    go_enter Tryz.func10, Tryz.ntmps10
    go_wp2_with fail
    go_ret2
    exact ⟨rfl, rfl⟩)
set_option maxHeartbeats 4000000 in
set_option maxRecDepth 100000 in
theorem ris_18 (n : Int) (w : World) : Calls Tryz.prog 10 #[.string ⟨#[105, 115, 95, 98, 111, 111, 108, 101, 97, 110]⟩, .int .i64 n] w fun e w' => e = .returned (.tuple #[.bool (n == 1), .bool (n == 1)]) ∧ w' = w := by
  obtain ⟨b1, h1⟩ : ∃ b1, (n == 1) = b1 := ⟨_, rfl⟩
  obtain ⟨b2, h2⟩ : ∃ b2, (n == 2) = b2 := ⟨_, rfl⟩
  obtain ⟨b3, h3⟩ : ∃ b3, (n == 3) = b3 := ⟨_, rfl⟩
  simp only [h1]
  cases b1 <;> (
    go_enter Tryz.func10, Tryz.ntmps10
    go_wp2_with fail
    go_ret2
    exact ⟨rfl, rfl⟩)
end Go.Proofs.YtjnijmnacogabaaGreatDoor


