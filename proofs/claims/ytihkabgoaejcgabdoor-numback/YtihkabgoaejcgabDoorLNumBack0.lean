/- The walk of NumBack. -/
import Derived.Test.YtihkabgoaejcgabDoorT2
import Derived.Test.YtihkabgoaejcgabDoorX6
import Derived.LoopTactic
import Derived.Deep.DrawnRows
namespace Go.Proofs.YtihkabgoaejcgabDoor
open Go.RowKit Go.Sort
attribute [local go_sem] store_float
attribute [local go_sem ↓] Go.wp_at_zero Go.wp_at_succ

/-- the next digit of a text, and what it makes of the number -/
theorem back_digit (u : Nat) (S : ByteArray) (m V : Nat) (hS : (⟨(35 :: hexN u 16).toArray⟩ : ByteArray) = S) (h1 : 1 ≤ m) (h2 : m < 17) (hV : V = u / 16 ^ (17 - m)) : ∃ D, D < 16 ∧ (∀ h : m < S.size, (S[m]'h).toNat = hexd D) ∧ V * 16 + D = u / 16 ^ (17 - (m + 1)) := by
  refine ⟨u / 16 ^ (17 - (m + 1)) % 16, Nat.mod_lt _ (by decide), ?_, ?_⟩
  · subst hS
    intro h
    obtain ⟨j, rfl⟩ : ∃ j, m = j + 1 := ⟨m - 1, by omega⟩
    have hj : j < (hexN u 16).length := by rw [hexN_length]; omega
    have := hexN_get u 16 j hj
    rw [show 16 - 1 - j = 17 - (j + 1 + 1) by omega] at this
    have e : ((⟨(35 :: hexN u 16).toArray⟩ : ByteArray)[j + 1]'h) = (hexN u 16)[j] := by
      show (35 :: hexN u 16).toArray[j + 1] = _
      simp
    rw [e]
    exact Int.ofNat.inj this
  · rw [hV, show 17 - m = 17 - (m + 1) + 1 by omega, Nat.pow_succ, ← Nat.div_div_eq_div_mul]
    omega

theorem or_low (V D : Nat) (h : D < 16) : V * 16 ||| D = V * 16 + D := by
  have := Nat.shiftLeft_add_eq_or_of_lt (a := V) (b := D) (i := 4) h
  rw [Nat.shiftLeft_eq] at this
  exact this.symm

set_option maxRecDepth 100000 in
set_option maxHeartbeats 4000000 in
theorem back_fin (u : Nat) (n : Int) (hu : u < 18446744073709551616) (h : Flt.fin u = true) (N : Int) (X : Nat) (hN : n.tmod 9007199254740992 = N)
    (re : ∀ w, Calls Tryd.prog 22 #[.agg #[.int .i64 (1), .int .i64 (N), .float .f64 (0), .string ⟨#[]⟩, .slice none 0 0]] w fun e w' => e = .returned (.tuple #[.agg #[.int .i64 (2), .int .i64 (0), .float .f64 (X), .string ⟨#[]⟩, .slice none 0 0], .int .i64 0]) ∧ Below w.heap.size w w')
    (wh : ∀ w, Calls Tryd.prog 17 #[.string ⟨#[116, 114, 117, 110, 99]⟩, .agg #[.int .i64 (2), .int .i64 (0), .float .f64 (X), .string ⟨#[]⟩, .slice none 0 0]] w fun e w' => e = .returned (.tuple #[.agg #[.int .i64 (1), .int .i64 (N), .float .f64 (0), .string ⟨#[]⟩, .slice none 0 0], .int .i64 0]) ∧ Below w.heap.size w w')
    (cm : ∀ w, Calls Tryd.prog 14 #[.agg #[.int .i64 (1), .int .i64 (N), .float .f64 (0), .string ⟨#[]⟩, .slice none 0 0], .agg #[.int .i64 (2), .int .i64 (0), .float .f64 (X), .string ⟨#[]⟩, .slice none 0 0]] w fun e w' => e = .returned (.int .i64 0) ∧ Below w.heap.size w w')
    (sa : ∀ w, Calls Tryd.prog 15 #[.agg #[.int .i64 (1), .int .i64 (N), .float .f64 (0), .string ⟨#[]⟩, .slice none 0 0], .agg #[.int .i64 (2), .int .i64 (0), .float .f64 (X), .string ⟨#[]⟩, .slice none 0 0]] w fun e w' => e = .returned (.bool false) ∧ Below w.heap.size w w')
    (w : World) (ht : w.cell? ⟨4, 15, none⟩ = some (.int .u8 4)) :
    Calls Tryd.prog 6 #[.int .u64 u, .int .i64 n] w fun e w' => e = .returned (.bool true) ∧ Below w.heap.size w w' := by
  have nb : numBits u = ⟨2, 0, u, 0⟩ := by simp [numBits, h]
  have r2 : rightB 2 0 u ⟨#[]⟩ 0 = true := by simp [rightB, h]
  have TX := hid (fun w ht => text_flt 0 u ⟨#[]⟩ none 0 0 hu r2 w ht)
  have HU := hid hu
  have hT : ∃ S : ByteArray, (⟨(35 :: hexN u 16).toArray⟩ : ByteArray) = S := ⟨_, rfl⟩
  obtain ⟨S, hS⟩ := hT
  rw [hS] at TX
  have hs17 : S.size = 17 := by rw [← hS]; show (35 :: hexN u 16).toArray.size = _; simp [hexN_length]
  have hs0 : ∀ h : 0 < S.size, (S[0]'h).toNat = 35 := by subst hS; intro h; rfl
  have RE := hid re
  have WH := hid wh
  have CM := hid cm
  have SA := hid sa
  clear h hu r2 re wh cm sa
  go_enter Tryd.func6, Tryd.ntmps6
  go_wp2_with fail
  refine (known_any _ ht).mono ?_
  rintro e w1 ⟨rfl, hb1⟩
  go_wp2_with fail
  refine (numBits_any u HU.out _).mono ?_
  rintro e w2 ⟨rfl, hb2⟩
  rw [nb]
  have hW2 := bthen hb1 hb2
  have ht2 : ∀ o, (w2.alloc o).cell? ⟨4, 15, none⟩ = some (.int .u8 4) := fun o => by
    have := (hW2.cell (block_lt_of_cell ht)).trans ht
    rw [(below_new w2 o).cell (block_lt_of_cell this)]; exact this
  clear hb1 hb2 nb
  go_wp2_with fail
  refine (TX.out _ (ht2 _)).mono ?_
  rintro e w3 ⟨rfl, hb3⟩
  obtain ⟨_, _, hW3⟩ := boxStep hW2 hb3
  clear hb3 hW2 ht2
  go_wp2_with fail
  go_loopw [8, 9] (fun v k wr => ∃ m V : Nat, 1 ≤ m ∧ m ≤ 17 ∧ Hid (V = u / 16 ^ (17 - m)) ∧ v = .int .u64 V ∧ k = .int .i64 m ∧ wr = w3) (fun _ k _ => 17 - (intOf k).toNat)
  case atStart => exact ⟨1, 0, by omega, by omega, by show 0 = u / 16 ^ 16; have := HU.out; rw [Nat.div_eq_of_lt (by omega)], rfl, rfl, rfl⟩
  case round =>
    obtain ⟨m, V, hm1, hm2, HV, rfl, rfl, rfl⟩ := hrel
    by_cases hm : m < 17
    · obtain ⟨D, hD16, hD, hVD⟩ : ∃ D, D < 16 ∧ (∀ h : m < S.size, (S[m]'h).toNat = hexd D) ∧ V * 16 + D = u / 16 ^ (17 - (m + 1)) := back_digit u S m V hS hm1 hm HV.out
      have hV60 : V < 1152921504606846976 := by
        have := HU.out
        rw [HV.out]
        have h16 : 16 ^ 1 ≤ 16 ^ (17 - m) := Nat.pow_le_pow_right (by decide) (by omega)
        have : u / 16 ^ (17 - m) ≤ u / 16 ^ 1 := Nat.div_le_div_left h16 (by decide)
        omega
      have HVD := hid hVD
      have e1 : IntKind.u64.wrap ((V : Int) * 16) = ((V * 16 : Nat) : Int) := by rw [IntKind.wrap_u64]; omega
      have e2 : bits .or .u64 ((V * 16 : Nat) : Int) (D : Int) = ((V * 16 + D : Nat) : Int) := by
        rw [bits_or_u64_nat _ _ (by omega) (by omega), or_low V D hD16]
      clear hVD hV60
      by_cases hd : D < 10
      · have hx : hexd D = 48 + D := by simp [hexd, hd]
        rw [hx] at hD
        clear hx
        have e3 : bits .or .u64 ((V : Int) * 16) (48 + (D : Int) - 48) = ((V * 16 + D : Nat) : Int) := by
          rw [show (48 + (D : Int) - 48) = D by omega]; exact e2
        go_wp2
        go_roundw
        case rel => exact ⟨m + 1, V * 16 + D, by omega, by omega, HVD.out, by go_num, by go_num, trivial⟩
        case measure => simp [intOf]; omega
      · have hx : hexd D = 87 + D := by simp [hexd, hd]
        rw [hx] at hD
        clear hx
        have e3 : bits .or .u64 ((V : Int) * 16) (87 + (D : Int) - 97 + 10) = ((V * 16 + D : Nat) : Int) := by
          rw [show (87 + (D : Int) - 97 + 10) = D by omega]; exact e2
        go_wp2
        go_roundw
        case rel => exact ⟨m + 1, V * 16 + D, by omega, by omega, HVD.out, by go_num, by go_num, trivial⟩
        case measure => simp [intOf]; omega
    · have hm17 : m = 17 := by omega
      subst hm17
      have hVu : V = u := by rw [HV.out]; simp
      subst hVu
      go_wp2_with fail

      refine (i_any _ _).mono ?_
      rintro e w4 ⟨rfl, hb⟩
      have hW4 := bthen hW3 hb
      clear hb hW3
      go_wp2_with fail
      refine (RE.out _).mono ?_
      rintro e w5 ⟨rfl, hb⟩
      have hW5 := bthen hW4 hb
      clear hb hW4
      go_wp2_with fail
      refine (WH.out _).mono ?_
      rintro e w6 ⟨rfl, hb⟩
      obtain ⟨BR, _, hW6⟩ := boxStep hW5 hb
      obtain ⟨R0, R1, R2, R3, R4, _, _, _, _, _, Rl⟩ := BR
      clear hb hW5
      go_wp2_with fail
      have BR9 := Box.alloc (⟨R0, R1, R2, R3, R4, by assumption, by assumption, by assumption, by assumption, by assumption, Rl⟩ : Box w6 w5.heap.size _ _ _ _ _) (.cells #[.int .i64 1, .int .i64 N, .float .f64 0, .string ⟨#[]⟩, .slice none 0 0] 26)
      have BW9 := Box.new w6 26 (.int .i64 1) (.int .i64 N) (.float .f64 0) (.string ⟨#[]⟩) (.slice none 0 0)
      have hW7 : Below w.heap.size w (w6.alloc (.cells #[.int .i64 1, .int .i64 N, .float .f64 0, .string ⟨#[]⟩, .slice none 0 0] 26)) := hW6.alloc hW6.size _
      clear R0 R1 R2 R3 R4 Rl hW6
      generalize w6.alloc (.cells #[.int .i64 1, .int .i64 N, .float .f64 0, .string ⟨#[]⟩, .slice none 0 0] 26) = W at *
      have ka0 := cell_regrown BR9.c0
      have ka1 := cell_regrown BR9.c1
      have ka2 := cell_regrown BR9.c2
      have ka3 := cell_regrown BR9.c3
      have ka4 := cell_regrown BR9.c4
      have kb1 := cell_regrown BW9.c1
      clear BR9 BW9
      refine wp_region_quiet_below (by kernel_rfl) (by kernel_rfl) ?_
      repeat (first
        | go_big_quiet_step (first | (go_at_call 11; exact Calls.regrown_of (i_any _ _)) | (go_at_call 14; exact Calls.regrown_of (CM.out _)) | (go_at_call 15; exact Calls.regrown_of (SA.out _)))
        | quiet_step (first | (go_at_call 11; exact Calls.regrown_of (i_any _ _)) | (go_at_call 14; exact Calls.regrown_of (CM.out _)) | (go_at_call 15; exact Calls.regrown_of (SA.out _))))
      refine wpQuiet_nil ?_
      intro _ hw'
      obtain ⟨⟨dq, osq⟩, hw2⟩ := hw'
      subst hw2
      go_wp2
      go_ret
      exact ⟨rfl, bthen hW7 (below_regrown W dq osq)⟩
set_option maxRecDepth 100000 in
set_option maxHeartbeats 4000000 in
theorem back_inf (u : Nat) (n : Int) (hu : u < 18446744073709551616) (h : Flt.fin u = false) (N : Int) (X : Nat) (hN : n.tmod 9007199254740992 = N)
    (re : ∀ w, Calls Tryd.prog 22 #[.agg #[.int .i64 (1), .int .i64 (N), .float .f64 (0), .string ⟨#[]⟩, .slice none 0 0]] w fun e w' => e = .returned (.tuple #[.agg #[.int .i64 (2), .int .i64 (0), .float .f64 (X), .string ⟨#[]⟩, .slice none 0 0], .int .i64 0]) ∧ Below w.heap.size w w')
    (wh : ∀ w, Calls Tryd.prog 17 #[.string ⟨#[116, 114, 117, 110, 99]⟩, .agg #[.int .i64 (2), .int .i64 (0), .float .f64 (X), .string ⟨#[]⟩, .slice none 0 0]] w fun e w' => e = .returned (.tuple #[.agg #[.int .i64 (1), .int .i64 (N), .float .f64 (0), .string ⟨#[]⟩, .slice none 0 0], .int .i64 0]) ∧ Below w.heap.size w w')
    (cm : ∀ w, Calls Tryd.prog 14 #[.agg #[.int .i64 (1), .int .i64 (N), .float .f64 (0), .string ⟨#[]⟩, .slice none 0 0], .agg #[.int .i64 (2), .int .i64 (0), .float .f64 (X), .string ⟨#[]⟩, .slice none 0 0]] w fun e w' => e = .returned (.int .i64 0) ∧ Below w.heap.size w w')
    (sa : ∀ w, Calls Tryd.prog 15 #[.agg #[.int .i64 (1), .int .i64 (N), .float .f64 (0), .string ⟨#[]⟩, .slice none 0 0], .agg #[.int .i64 (2), .int .i64 (0), .float .f64 (X), .string ⟨#[]⟩, .slice none 0 0]] w fun e w' => e = .returned (.bool false) ∧ Below w.heap.size w w')
    (w : World) (ht : w.cell? ⟨4, 15, none⟩ = some (.int .u8 4)) :
    Calls Tryd.prog 6 #[.int .u64 u, .int .i64 n] w fun e w' => e = .returned (.bool true) ∧ Below w.heap.size w w' := by
  have nb : numBits u = ⟨0, 0, 0, 11⟩ := by simp [numBits, h]
  have HU := hid hu
  have RE := hid re
  have WH := hid wh
  have CM := hid cm
  have SA := hid sa
  clear h hu re wh cm sa
  go_enter Tryd.func6, Tryd.ntmps6
  go_wp2_with fail
  refine (known_any _ ht).mono ?_
  rintro e w1 ⟨rfl, hb1⟩
  go_wp2_with fail
  refine (numBits_any u HU.out _).mono ?_
  rintro e w2' ⟨rfl, hb2⟩
  rw [nb]
  have hW2' := bthen hb1 hb2
  have hW2 := below_a1 hW2' (.cells #[.int .i64 0, .int .i64 0, .float .f64 0, .string ⟨#[]⟩, .slice none 0 0] 26)
  clear hb1 hb2 nb hW2'
  go_wp2_with fail
  refine (i_any _ _).mono ?_
  rintro e w4 ⟨rfl, hb⟩
  have hW4 := bthen hW2 hb
  clear hb hW2
  go_wp2_with fail
  refine (RE.out _).mono ?_
  rintro e w5 ⟨rfl, hb⟩
  have hW5 := bthen hW4 hb
  clear hb hW4
  go_wp2_with fail
  refine (WH.out _).mono ?_
  rintro e w6 ⟨rfl, hb⟩
  obtain ⟨BR, _, hW6⟩ := boxStep hW5 hb
  obtain ⟨R0, R1, R2, R3, R4, _, _, _, _, _, Rl⟩ := BR
  clear hb hW5
  go_wp2_with fail
  have BR9 := Box.alloc (⟨R0, R1, R2, R3, R4, by assumption, by assumption, by assumption, by assumption, by assumption, Rl⟩ : Box w6 w5.heap.size _ _ _ _ _) (.cells #[.int .i64 1, .int .i64 N, .float .f64 0, .string ⟨#[]⟩, .slice none 0 0] 26)
  have BW9 := Box.new w6 26 (.int .i64 1) (.int .i64 N) (.float .f64 0) (.string ⟨#[]⟩) (.slice none 0 0)
  have hW7 : Below w.heap.size w (w6.alloc (.cells #[.int .i64 1, .int .i64 N, .float .f64 0, .string ⟨#[]⟩, .slice none 0 0] 26)) := hW6.alloc hW6.size _
  clear R0 R1 R2 R3 R4 Rl hW6
  generalize w6.alloc (.cells #[.int .i64 1, .int .i64 N, .float .f64 0, .string ⟨#[]⟩, .slice none 0 0] 26) = W at *
  have ka0 := cell_regrown BR9.c0
  have ka1 := cell_regrown BR9.c1
  have ka2 := cell_regrown BR9.c2
  have ka3 := cell_regrown BR9.c3
  have ka4 := cell_regrown BR9.c4
  have kb1 := cell_regrown BW9.c1
  clear BR9 BW9
  refine wp_region_quiet_below (by kernel_rfl) (by kernel_rfl) ?_
  repeat (first
    | go_big_quiet_step (first | (go_at_call 11; exact Calls.regrown_of (i_any _ _)) | (go_at_call 14; exact Calls.regrown_of (CM.out _)) | (go_at_call 15; exact Calls.regrown_of (SA.out _)))
    | quiet_step (first | (go_at_call 11; exact Calls.regrown_of (i_any _ _)) | (go_at_call 14; exact Calls.regrown_of (CM.out _)) | (go_at_call 15; exact Calls.regrown_of (SA.out _))))
  refine wpQuiet_nil ?_
  intro _ hw'
  obtain ⟨⟨dq, osq⟩, hw2⟩ := hw'
  subst hw2
  go_wp2
  go_ret
  exact ⟨rfl, bthen hW7 (below_regrown W dq osq)⟩
end Go.Proofs.YtihkabgoaejcgabDoor
