import Derived.Test.YtgljglindgbjaaaGreatDoorG04
import Derived.Deep.DrawnRows
import Derived.Test.YtgljglindgbjaaaGreatDoorG02
import Derived.LoopTactic
import Derived.Laws.IdiomStrings
/- Contracts of Op: quotients. -/
namespace Go.Proofs.YtgljglindgbjaaaGreatDoor
open Go.RowKit
attribute [local go_sem] store_float
attribute [local go_sem ↓] Go.wp_at_zero Go.wp_at_succ

set_option maxHeartbeats 2000000 in
theorem op_quo_a (ka kb : Int) (na nb : Int) (fa fb : Nat) (sa sb : ByteArray) (aa ab : Option Addr) (la ca lb cb : Nat) (ha : rightB ka na fa sa la = true) (hb : rightB kb nb fb sb lb = true) (hfa : fa < 18446744073709551616) (hfb : fb < 18446744073709551616) (hka : (ka == 1) = true) (hz : zB (realV kb nb fb) = false) (w : World) :
    Calls Tryz.prog 98 #[.string ⟨#[47]⟩, .agg #[.int .i64 ka, .int .i64 na, .float .f64 fa, .string sa, .slice aa la ca], .agg #[.int .i64 kb, .int .i64 nb, .float .f64 fb, .string sb, .slice ab lb cb]] w fun e w' => e = .returned (.tuple #[.agg #[.int .i64 ((fltR (floatBits .quo .f64 (realV ka na fa) (realV kb nb fb))).k), .int .i64 ((fltR (floatBits .quo .f64 (realV ka na fa) (realV kb nb fb))).n), .float .f64 ((fltR (floatBits .quo .f64 (realV ka na fa) (realV kb nb fb))).f), .string ⟨#[]⟩, .slice none 0 0], .int .i64 (fltR (floatBits .quo .f64 (realV ka na fa) (realV kb nb fb))).e]) ∧ Below w.heap.size w w' := by
  have HA : Hid (rightB ka na fa sa la = true) := ha
  have HB : Hid (rightB kb nb fb sb lb = true) := hb
  clear ha hb
  have HZ : Hid (zB (realV kb nb fb) = false) := hz
  clear hz
  go_enter Tryz.func98, Tryz.ntmps98
  go_wp2_with fail
  refine (isSign_yes _ (by simp) _).mono ?_
  rintro e w' ⟨rfl, rfl⟩
  go_wp2_with fail
  refine (valueOf_yes ka na fa sa aa la ca hfa HA.out _).mono ?_
  rintro e w1 ⟨rfl, hb1⟩
  obtain ⟨⟨c0, c1, c2, c3, c4, _, _, _, _, _, lt⟩, RB, hW⟩ := after3 hb1
  have HRB := hid RB
  clear hb1 RB
  go_wp2_with fail
  refine (valueOf_yes kb nb fb sb ab lb cb hfb HB.out _).mono ?_
  rintro e w2 ⟨rfl, hb2⟩
  clear c0 c1 c2 c3 c4 lt
  obtain ⟨⟨x0, x1, x2, ltx⟩, hk, hW2⟩ := later3 hW hb2
  have HRB2 := hid (HRB.out.keep hk)
  clear hb2 hk hW HRB
  go_wp2_with fail
  go_region_with (first
    | (go_at_call 146; refine (real_at _ _ _ _).mono ?_; rintro e w' ⟨rfl, rfl⟩)
    | (go_at_call 145; refine (rf_quo _ _ HZ.out _).mono ?_; rintro e w3 ⟨rfl, hb3⟩; obtain ⟨⟨d0, d1, d2, d3, d4, g0, g1, g2, g3, g4, ltr⟩, hW3⟩ := keepR HRB2.out hW2 hb3; clear hb3))
  all_goals go_wp2
  all_goals exact bodyPost_ret (v := .tuple #[.agg #[.int .i64 ((fltR (floatBits .quo .f64 (realV ka na fa) (realV kb nb fb))).k), .int .i64 ((fltR (floatBits .quo .f64 (realV ka na fa) (realV kb nb fb))).n), .float .f64 ((fltR (floatBits .quo .f64 (realV ka na fa) (realV kb nb fb))).f), .string ⟨#[]⟩, .slice none 0 0], .int .i64 (fltR (floatBits .quo .f64 (realV ka na fa) (realV kb nb fb))).e]) (by simp [results, Tryz.results98, go_sem, d0, d1, d2, d3, d4]) rfl ⟨rfl, below_set5 hW3 (by omega) _ _ _ _ _⟩

set_option maxHeartbeats 2000000 in
theorem op_quo_b (ka kb : Int) (na nb : Int) (fa fb : Nat) (sa sb : ByteArray) (aa ab : Option Addr) (la ca lb cb : Nat) (ha : rightB ka na fa sa la = true) (hb : rightB kb nb fb sb lb = true) (hfa : fa < 18446744073709551616) (hfb : fb < 18446744073709551616) (hka : (ka == 1) = false) (hz : zB (realV kb nb fb) = false) (w : World) :
    Calls Tryz.prog 98 #[.string ⟨#[47]⟩, .agg #[.int .i64 ka, .int .i64 na, .float .f64 fa, .string sa, .slice aa la ca], .agg #[.int .i64 kb, .int .i64 nb, .float .f64 fb, .string sb, .slice ab lb cb]] w fun e w' => e = .returned (.tuple #[.agg #[.int .i64 ((fltR (floatBits .quo .f64 (realV ka na fa) (realV kb nb fb))).k), .int .i64 ((fltR (floatBits .quo .f64 (realV ka na fa) (realV kb nb fb))).n), .float .f64 ((fltR (floatBits .quo .f64 (realV ka na fa) (realV kb nb fb))).f), .string ⟨#[]⟩, .slice none 0 0], .int .i64 (fltR (floatBits .quo .f64 (realV ka na fa) (realV kb nb fb))).e]) ∧ Below w.heap.size w w' := by
  have HA : Hid (rightB ka na fa sa la = true) := ha
  have HB : Hid (rightB kb nb fb sb lb = true) := hb
  clear ha hb
  have HZ : Hid (zB (realV kb nb fb) = false) := hz
  clear hz
  go_enter Tryz.func98, Tryz.ntmps98
  go_wp2_with fail
  refine (isSign_yes _ (by simp) _).mono ?_
  rintro e w' ⟨rfl, rfl⟩
  go_wp2_with fail
  refine (valueOf_yes ka na fa sa aa la ca hfa HA.out _).mono ?_
  rintro e w1 ⟨rfl, hb1⟩
  obtain ⟨⟨c0, c1, c2, c3, c4, _, _, _, _, _, lt⟩, RB, hW⟩ := after3 hb1
  have HRB := hid RB
  clear hb1 RB
  go_wp2_with fail
  refine (valueOf_yes kb nb fb sb ab lb cb hfb HB.out _).mono ?_
  rintro e w2 ⟨rfl, hb2⟩
  clear c0 c1 c2 c3 c4 lt
  obtain ⟨⟨x0, x1, x2, ltx⟩, hk, hW2⟩ := later3 hW hb2
  have HRB2 := hid (HRB.out.keep hk)
  clear hb2 hk hW HRB
  go_wp2_with fail
  go_region_with (first
    | (go_at_call 146; refine (real_at _ _ _ _).mono ?_; rintro e w' ⟨rfl, rfl⟩)
    | (go_at_call 145; refine (rf_quo _ _ HZ.out _).mono ?_; rintro e w3 ⟨rfl, hb3⟩; obtain ⟨⟨d0, d1, d2, d3, d4, g0, g1, g2, g3, g4, ltr⟩, hW3⟩ := keepR HRB2.out hW2 hb3; clear hb3))
  all_goals go_wp2
  all_goals exact bodyPost_ret (v := .tuple #[.agg #[.int .i64 ((fltR (floatBits .quo .f64 (realV ka na fa) (realV kb nb fb))).k), .int .i64 ((fltR (floatBits .quo .f64 (realV ka na fa) (realV kb nb fb))).n), .float .f64 ((fltR (floatBits .quo .f64 (realV ka na fa) (realV kb nb fb))).f), .string ⟨#[]⟩, .slice none 0 0], .int .i64 (fltR (floatBits .quo .f64 (realV ka na fa) (realV kb nb fb))).e]) (by simp [results, Tryz.results98, go_sem, d0, d1, d2, d3, d4]) rfl ⟨rfl, below_set5 hW3 (by omega) _ _ _ _ _⟩

theorem op_quo (ka kb : Int) (na nb : Int) (fa fb : Nat) (sa sb : ByteArray) (aa ab : Option Addr) (la ca lb cb : Nat) (ha : rightB ka na fa sa la = true) (hb : rightB kb nb fb sb lb = true) (hfa : fa < 18446744073709551616) (hfb : fb < 18446744073709551616) (hz : zB (realV kb nb fb) = false) (w : World) :
    Calls Tryz.prog 98 #[.string ⟨#[47]⟩, .agg #[.int .i64 ka, .int .i64 na, .float .f64 fa, .string sa, .slice aa la ca], .agg #[.int .i64 kb, .int .i64 nb, .float .f64 fb, .string sb, .slice ab lb cb]] w fun e w' => e = .returned (.tuple #[.agg #[.int .i64 ((fltR (floatBits .quo .f64 (realV ka na fa) (realV kb nb fb))).k), .int .i64 ((fltR (floatBits .quo .f64 (realV ka na fa) (realV kb nb fb))).n), .float .f64 ((fltR (floatBits .quo .f64 (realV ka na fa) (realV kb nb fb))).f), .string ⟨#[]⟩, .slice none 0 0], .int .i64 (fltR (floatBits .quo .f64 (realV ka na fa) (realV kb nb fb))).e]) ∧ Below w.heap.size w w' := by
  cases hka : (ka == 1)
  · exact op_quo_b ka kb na nb fa fb sa sb aa ab la ca lb cb ha hb hfa hfb hka hz w
  · exact op_quo_a ka kb na nb fa fb sa sb aa ab la ca lb cb ha hb hfa hfb hka hz w
end Go.Proofs.YtgljglindgbjaaaGreatDoor


/- Plain facts on hexadecimal digits: how many a number has, and what they are. -/
namespace Go.Proofs.YtgljglindgbjaaaGreatDoor

def hexd (d : Nat) : Nat := if d < 10 then 48 + d else 87 + d

theorem hexd_lt (d : Nat) (h : d < 16) : hexd d < 256 := by unfold hexd; split <;> omega

/-- the last k hexadecimal digits of u -/
def hexN (u k : Nat) : List UInt8 := (List.range k).map fun j => UInt8.ofNat (hexd (u / 16 ^ (k - 1 - j) % 16))

theorem hexN_length (u k : Nat) : (hexN u k).length = k := by simp [hexN]

theorem hexN_get (u k j : Nat) (hj : j < (hexN u k).length) : ((hexN u k)[j].toNat : Int) = ((hexd (u / 16 ^ (k - 1 - j) % 16) : Nat) : Int) := by
  have h := hexd_lt (u / 16 ^ (k - 1 - j) % 16) (Nat.mod_lt _ (by decide))
  simp only [hexN, List.getElem_map, List.getElem_range]
  rw [UInt8.toNat_ofNat', Nat.mod_eq_of_lt (by simpa using h)]

theorem shr4 (u k : Nat) : u / 16 ^ k / 16 = u / 16 ^ (k + 1) := by rw [Nat.div_div_eq_div_mul, Nat.pow_succ]

/-- while sixteen or more is left fewer than fifteen digits have been cut -/
theorem hex_more {u k : Nat} (hu : u < 18446744073709551616) (h : 16 ≤ u / 16 ^ k) : k < 15 := by
  rcases Nat.lt_or_ge k 15 with h1 | h1
  · exact h1
  · exfalso
    have h2 : 16 ^ 15 ≤ 16 ^ k := Nat.pow_le_pow_right (by decide) h1
    have h3 : u / 16 ^ k ≤ u / 16 ^ 15 := Nat.div_le_div_left h2 (by decide)
    have h4 : u / 16 ^ 15 < 16 := by omega
    omega
end Go.Proofs.YtgljglindgbjaaaGreatDoor


/- The contract of the library's formatBits at base 16: the number's hexadecimal digits. -/
namespace Go.Proofs.YtgljglindgbjaaaGreatDoor
open Go.RowKit

theorem tz64 (w : World) (ht : w.cell? ⟨8, 15, none⟩ = some (.int .u8 4)) : Calls Tryz.prog 255 #[.int .u64 16] w fun e w' => e = .returned (.int .i64 4) ∧ w' = w := by
  have h1 : bits .and .u64 16 (IntKind.u64.wrap (-16)) = 16 := by decide +kernel
  have h2 : IntKind.u64.wrap (16 * 285870213051353865) = 4573923408821661840 := by decide +kernel
  go_enter Tryz.func255, Tryz.ntmps255
  go_wp2
  go_ret
  exact ⟨rfl, rfl⟩

theorem tz (w : World) (ht : w.cell? ⟨8, 15, none⟩ = some (.int .u8 4)) : Calls Tryz.prog 247 #[.int .u64 16] w fun e w' => e = .returned (.int .i64 4) ∧ w' = w := by
  go_enter Tryz.func247, Tryz.ntmps247
  go_wp2_with (go_at_call 255; refine (tz64 _ ht).mono ?_; rintro e w' ⟨rfl, rfl⟩)
  go_ret
  exact ⟨rfl, rfl⟩

theorem pow2 (w : World) : Calls Tryz.prog 246 #[.int .i64 16] w fun e w' => e = .returned (.bool true) ∧ w' = w := by
  have h1 : bits .and .i64 16 15 = 0 := by decide +kernel
  go_enter Tryz.func246, Tryz.ntmps246
  go_wp2
  go_ret
  exact ⟨rfl, rfl⟩

theorem digit_get (d : Nat) (hd : d < 16) (h : d < (⟨#[48, 49, 50, 51, 52, 53, 54, 55, 56, 57, 97, 98, 99, 100, 101, 102, 103, 104, 105, 106, 107, 108, 109, 110, 111, 112, 113, 114, 115, 116, 117, 118, 119, 120, 121, 122]⟩ : ByteArray).size) : ((⟨#[48, 49, 50, 51, 52, 53, 54, 55, 56, 57, 97, 98, 99, 100, 101, 102, 103, 104, 105, 106, 107, 108, 109, 110, 111, 112, 113, 114, 115, 116, 117, 118, 119, 120, 121, 122]⟩ : ByteArray)[d]'h).toNat = hexd d := by
  have h : d = 0 ∨ d = 1 ∨ d = 2 ∨ d = 3 ∨ d = 4 ∨ d = 5 ∨ d = 6 ∨ d = 7 ∨ d = 8 ∨ d = 9 ∨ d = 10 ∨ d = 11 ∨ d = 12 ∨ d = 13 ∨ d = 14 ∨ d = 15 := by omega
  rcases h with rfl | rfl | rfl | rfl | rfl | rfl | rfl | rfl | rfl | rfl | rfl | rfl | rfl | rfl | rfl | rfl <;> rfl

theorem low4 (v : Nat) (hv : v < 18446744073709551616) : bits .and .u64 (v : Int) 15 = ((v % 16 : Nat) : Int) := by
  have := u64_and_nat v 15 hv (by decide)
  rw [show (15 : Int) = ((15 : Nat) : Int) from rfl, this, show (15 : Nat) = 2 ^ 4 - 1 from rfl, Nat.and_two_pow_sub_one_eq_mod]

/-- What holds behind k rounds: the array's last k bytes are the number's last k digits. -/
structure Inv (w wr : World) (U k : Nat) : Prop where
  cells : ∀ j, j < 65 → ∃ x : Int, wr.cell? ⟨w.heap.size, j, none⟩ = some (.int .u8 x)
  frz : ∀ j, j < 65 → wr.frozen? ⟨w.heap.size, j, none⟩ = false
  dig : ∀ j, j < k → wr.cell? ⟨w.heap.size, 64 - j, none⟩ = some (.int .u8 ((hexd (U / 16 ^ j % 16) : Nat) : Int))
  below : Below w.heap.size w wr

theorem Inv.step {w wr : World} {U k : Nat} (h : Inv w wr U k) (hk : k ≤ 15) :
    Inv w (wr.setCell ⟨w.heap.size, 64 - k, none⟩ (.int .u8 ((hexd (U / 16 ^ k % 16) : Nat) : Int))) U (k + 1) := by
  obtain ⟨x, hx⟩ := h.cells (64 - k) (by omega)
  refine ⟨fun j hj => ?_, fun j hj => ?_, fun j hj => ?_, h.below.setCell (Nat.le_refl _) _⟩
  · by_cases e : j = 64 - k
    · subst e; exact ⟨_, World.cell?_setCell_same _ _ _ hx⟩
    · rw [World.cell?_setCell_other _ _ _ _ (by intro e'; injection e' with _ e2 _; exact e e2.symm)]; exact h.cells j hj
  · rw [World.frozen?_setCell]; exact h.frz j hj
  · by_cases e : j = k
    · subst e; exact World.cell?_setCell_same _ _ _ hx
    · rw [World.cell?_setCell_other _ _ _ _ (by intro e'; injection e' with _ e2 _; omega)]; exact h.dig j (by omega)

theorem Inv.text {w wr : World} {U k : Nat} (h : Inv w wr U (k + 1)) (hk : k ≤ 15) :
    (convert 132 9 (.slice (some ⟨w.heap.size, 64 - k, none⟩) (k + 1) (k + 1))).run Tryz.prog wr = .ok (.string ⟨(hexN U (k + 1)).toArray⟩) wr := by
  have r := run_convert_bytes_back (P := Tryz.prog) wr 132 9 5 ⟨w.heap.size, 64 - k, none⟩ (k + 1) (hexN U (k + 1)) Tryz.underlying132 Tryz.underlying5 Tryz.underlying9 (fun j hj => by
    rw [hexN_get]
    have hj' : j < k + 1 := by simpa [hexN_length] using hj
    have := h.dig (k - j) (by omega)
    rw [show 64 - (k - j) = 64 - k + j by omega, show k - j = k + 1 - 1 - j by omega] at this
    have ea : (⟨w.heap.size, 64 - k, none⟩ : Addr).add j = ⟨w.heap.size, 64 - k + j, none⟩ := by
      unfold Addr.add
      split
      · rename_i h; subst h; rfl
      · rfl
    rw [ea]; exact this)
  rw [hexN_length] at r
  exact r

set_option maxHeartbeats 1000000 in
set_option maxRecDepth 100000 in
theorem formatBits_16 (U : Nat) (hU : U < 18446744073709551616) (w : World) (ht : w.cell? ⟨8, 15, none⟩ = some (.int .u8 4)) :
    Calls Tryz.prog 226 #[.slice none 0 0, .int .u64 U, .int .i64 16, .bool false, .bool false] w fun e w' => ∃ k, k ≤ 15 ∧ U / 16 ^ k < 16 ∧ e = .returned (.tuple #[.slice none 0 0, .string ⟨(hexN U (k + 1)).toArray⟩]) ∧ Below w.heap.size w w' := by
  have htl : ∀ o, (w.alloc o).cell? ⟨8, 15, none⟩ = some (.int .u8 4) := fun o => by
    rw [(below_new w o).cell (block_lt_of_cell ht)]; exact ht
  go_enter Tryz.func226, Tryz.ntmps226
  go_wp2_with (first | (go_at_call 246; refine (pow2 _).mono ?_; rintro e w' ⟨rfl, rfl⟩) | (go_at_call 247; refine (tz _ (htl _)).mono ?_; rintro e w' ⟨rfl, rfl⟩))
  have hz : Tryz.zeroCells223 = Array.replicate 65 (Value.int .u8 0) := by kernel_rfl
  have start : Inv w (w.alloc (Obj.cells Tryz.zeroCells223 223)) U 0 := by
    refine ⟨fun j hj => ⟨0, ?_⟩, fun j hj => World.frozen?_alloc_new _ _ _ _, fun j hj => absurd hj (by omega), below_new _ _⟩
    rw [World.cell?_alloc_new, hz, Array.getElem?_replicate, if_pos hj]
  clear hz htl
  go_loopw [1, 13] (fun u i wr => ∃ k m v : Nat, k ≤ 15 ∧ m ≤ 65 ∧ 50 ≤ m ∧ v < 18446744073709551616 ∧ Hid (m + k = 65) ∧ Hid (v = U / 16 ^ k) ∧ u = .int .u64 v ∧ i = .int .i64 m ∧ Inv w wr U k) (fun _ i _ => (intOf i).toNat)
  case atStart => exact ⟨0, 65, U, by omega, by omega, by omega, hU, rfl, by show U = U / 16 ^ 0; simp, rfl, rfl, start⟩
  case round =>
    clear start
    obtain ⟨k, m, v, hk, hm, hm2, hv, Hm, Hv, rfl, rfl, I⟩ := hrel
    have hmk : m - 1 = 64 - k := by have := Hm.out; omega
    obtain ⟨x, hx⟩ := I.cells (m - 1) (by omega)
    have hfz := I.frz (m - 1) (by omega)
    have HI : Hid (Inv w wr U k) := I
    have Hmk : Hid (m - 1 = 64 - k) := hmk
    clear I hmk
    by_cases hge : 16 ≤ v
    · have hl := low4 v hv
      have hk2 : k < 15 := hex_more hU (by rw [← Hv.out]; exact hge)
      have st := HI.out.step hk
      rw [← Hmk.out, ← Hv.out] at st
      have HS : Hid (Inv w (wr.setCell ⟨w.heap.size, m - 1, none⟩ (.int .u8 ((hexd (v % 16) : Nat) : Int))) U (k + 1)) := st
      have Hv2 : Hid (v / 16 = U / 16 ^ (k + 1)) := by show v / 16 = _; rw [← shr4, ← Hv.out]
      clear st
      go_wp2
      go_roundw
      case rel => exact ⟨k + 1, m - 1, v / 16, by omega, by omega, by have := Hm.out; omega, by omega, by have := Hm.out; show m - 1 + (k + 1) = 65; omega, Hv2, by go_num, by go_num, by rw [digit_get _ (Nat.mod_lt _ (by decide))]; exact HS.out⟩
      case measure => simp [intOf]; omega
    · have st := HI.out.step hk
      have hlt : v < 16 := by omega
      have hvv : U / 16 ^ k % 16 = v := by rw [← Hv.out]; omega
      have tx := st.text hk
      rw [← Hmk.out, hvv] at st tx
      have hbel := st.below
      have Hb : Hid (Below w.heap.size w (wr.setCell ⟨w.heap.size, m - 1, none⟩ (.int .u8 ((hexd v : Nat) : Int)))) := hbel
      have hlast : U / 16 ^ k < 16 := by rw [← Hv.out]; omega
      have HL : Hid (U / 16 ^ k < 16) := hlast
      clear st hvv hbel hlast
      have hal : Tryz.prog.arrayLen 223 = 65 := by simp [Program.arrayLen, Tryz.underlying223]
      have hsl : ∀ W, (Instr.sliceAt 223 (.pointer (some ⟨w.heap.size, 0, none⟩)) (some (.int .i64 ((m : Int) - 1))) none none).run Tryz.prog W = .ok (.slice (some ⟨w.heap.size, m - 1, none⟩) (k + 1) (k + 1)) W := fun W => by
        rw [run_sliceAt_array_l W 223 ⟨w.heap.size, 0, none⟩ (by simp [Program.arrayLen, Program.elem, Tryz.underlying223]) .i64 ((m : Int) - 1) (by omega) (by rw [hal]; omega)]
        have := Hm.out
        go_simp
        omega
      clear hal
      have hdg : ∀ h, ((⟨#[48, 49, 50, 51, 52, 53, 54, 55, 56, 57, 97, 98, 99, 100, 101, 102, 103, 104, 105, 106, 107, 108, 109, 110, 111, 112, 113, 114, 115, 116, 117, 118, 119, 120, 121, 122]⟩ : ByteArray)[v]'h).toNat = hexd v := fun h => digit_get v hlt h
      go_wp2
      go_ret2
      exact ⟨k, hk, HL.out, rfl, Hb.out⟩

theorem iformat_16 (U : Nat) (hU : U < 18446744073709551616) (w : World) (ht : w.cell? ⟨8, 15, none⟩ = some (.int .u8 4)) :
    Calls Tryz.prog 188 #[.int .u64 U, .int .i64 16] w fun e w' => ∃ k, k ≤ 15 ∧ U / 16 ^ k < 16 ∧ e = .returned (.string ⟨(hexN U (k + 1)).toArray⟩) ∧ Below w.heap.size w w' := by
  go_enter Tryz.func188, Tryz.ntmps188
  go_wp2_with fail
  refine (formatBits_16 U hU _ ht).mono ?_
  rintro e w' ⟨k, hk, hl, rfl, hb⟩
  have HL : Hid (U / 16 ^ k < 16) := hl
  clear hl
  go_wp2
  go_ret
  exact ⟨k, hk, HL.out, rfl, hb⟩

theorem format_16 (U : Nat) (hU : U < 18446744073709551616) (w : World) (ht : w.cell? ⟨8, 15, none⟩ = some (.int .u8 4)) :
    Calls Tryz.prog 159 #[.int .u64 U, .int .i64 16] w fun e w' => ∃ k, k ≤ 15 ∧ U / 16 ^ k < 16 ∧ e = .returned (.string ⟨(hexN U (k + 1)).toArray⟩) ∧ Below w.heap.size w w' := by
  go_enter Tryz.func159, Tryz.ntmps159
  go_wp2_with fail
  refine (iformat_16 U hU _ ht).mono ?_
  rintro e w' ⟨k, hk, hl, rfl, hb⟩
  have HL : Hid (U / 16 ^ k < 16) := hl
  clear hl
  go_wp2
  go_ret
  exact ⟨k, hk, HL.out, rfl, hb⟩
end Go.Proofs.YtgljglindgbjaaaGreatDoor


