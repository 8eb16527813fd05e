/- Times one, by one, less nothing: what Op tells of a right number; a negative's negative. -/
import Derived.Test.YtmmldghlellehacDoorN2
import Derived.Test.YtmmldghlellehacDoorFltB
import Derived.Test.YtmmldghlellehacDoorFA
import Derived.Test.YtmmldghlellehacDoorO2m
import Derived.Test.YtmmldghlellehacDoorO4sub
import Derived.Test.YtmmldghlellehacDoorO4mul
namespace Go.Proofs.YtmmldghlellehacDoor
open Go.RowKit

theorem rightB_cases {k n : Int} {f : Nat} {s : ByteArray} {l : Nat} (h : rightB k n f s l = true) : s.toList.isEmpty = true ∧ l = 0 ∧ ((k = 1 ∧ whB n = true ∧ f = 0) ∨ (k = 2 ∧ n = 0 ∧ Flt.fin f = true)) := by
  simp only [rightB, Bool.and_eq_true, Bool.or_eq_true, beq_iff_eq] at h
  obtain ⟨⟨h1, hs⟩, hl⟩ := h
  refine ⟨hs, hl, ?_⟩
  rcases h1 with ⟨⟨h1, h2⟩, h3⟩ | ⟨⟨h1, h2⟩, h3⟩
  · exact Or.inl ⟨h1, h2, h3⟩
  · exact Or.inr ⟨h1, h2, h3⟩

theorem one_val : realV 1 1 0 = 4607182418800017408 := by kernel_rfl
theorem zero_val : realV 1 0 0 = 0 := by kernel_rfl
theorem numBits_fin {r : Nat} (h : Flt.fin r = true) : numBits r = ⟨2, 0, r, 0⟩ := by simp [numBits, h]
theorem numInt_in {z : Int} (h : whB z = true) : numInt z = ⟨1, z, 0, 0⟩ := by simp [numInt, h]

theorem realV_fin {k n : Int} {f : Nat} {s : ByteArray} {l : Nat} (h : rightB k n f s l = true) : Flt.fin (realV k n f) = true := by
  obtain ⟨_, _, ⟨rfl, hw, rfl⟩ | ⟨rfl, rfl, hf⟩⟩ := rightB_cases h
  · have hb := whB_yes hw
    unfold realV
    rw [if_pos rfl]
    exact Flt.near_fin (decide (n < 0)) (n := n.natAbs) (by omega)
  · simpa [realV] using hf

theorem r11 : rightB 1 1 0 ⟨#[]⟩ 0 = true := by simp [rightB, whB]
theorem r10 : rightB 1 0 0 ⟨#[]⟩ 0 = true := by simp [rightB, whB]

theorem one_mul (k n : Int) (f : Nat) (s : ByteArray) (a : Option Addr) (l c : Nat) (hf : f < 18446744073709551616) (h : rightB k n f s l = true) (w : World) :
    Calls Tryd.prog 7 #[.string ⟨#[42]⟩, .agg #[.int .i64 k, .int .i64 n, .float .f64 f, .string s, .slice a l c], .agg #[.int .i64 (1), .int .i64 (1), .float .f64 (0), .string ⟨#[]⟩, .slice none 0 0]] w fun e w' => e = .returned (.tuple #[.agg #[.int .i64 (k), .int .i64 (n), .float .f64 (f), .string ⟨#[]⟩, .slice none 0 0], .int .i64 0]) ∧ Below w.heap.size w w' := by
  obtain ⟨_, _, ⟨rfl, hw, rfl⟩ | ⟨rfl, rfl, hff⟩⟩ := rightB_cases h
  · have := op_wmul n 1 0 0 s ⟨#[]⟩ a none l c 0 0 h r11 hf (by decide) hw (by simp [whB]) w
    rw [Int.mul_one, numInt_in hw] at this
    exact this
  · have := op_fmul 2 1 0 1 f 0 s ⟨#[]⟩ a none l c 0 0 h r11 hf (by decide) (by decide) w
    rw [one_val, show realV 2 0 f = f by simp [realV], show floatBits .mul .f64 f 4607182418800017408 = some f from Flt.mul_one hf hff, show fltR (some f) = numBits f from rfl, numBits_fin hff] at this
    exact this

theorem one_sub (k n : Int) (f : Nat) (s : ByteArray) (a : Option Addr) (l c : Nat) (hf : f < 18446744073709551616) (h : rightB k n f s l = true) (w : World) :
    Calls Tryd.prog 7 #[.string ⟨#[45]⟩, .agg #[.int .i64 k, .int .i64 n, .float .f64 f, .string s, .slice a l c], .agg #[.int .i64 (1), .int .i64 (0), .float .f64 (0), .string ⟨#[]⟩, .slice none 0 0]] w fun e w' => e = .returned (.tuple #[.agg #[.int .i64 (k), .int .i64 (n), .float .f64 (f), .string ⟨#[]⟩, .slice none 0 0], .int .i64 0]) ∧ Below w.heap.size w w' := by
  obtain ⟨_, _, ⟨rfl, hw, rfl⟩ | ⟨rfl, rfl, hff⟩⟩ := rightB_cases h
  · have := op_wsub n 0 0 0 s ⟨#[]⟩ a none l c 0 0 h r10 hf (by decide) hw (by simp [whB]) w
    rw [Int.sub_zero, numInt_in hw] at this
    exact this
  · have := op_fsub 2 1 0 0 f 0 s ⟨#[]⟩ a none l c 0 0 h r10 hf (by decide) (by decide) w
    rw [zero_val, show realV 2 0 f = f by simp [realV], show floatBits .sub .f64 f 0 = some f from Flt.sub_zero hf hff, show fltR (some f) = numBits f from rfl, numBits_fin hff] at this
    exact this

theorem one_quo (k n : Int) (f : Nat) (s : ByteArray) (a : Option Addr) (l c : Nat) (hf : f < 18446744073709551616) (h : rightB k n f s l = true) (w : World) :
    Calls Tryd.prog 7 #[.string ⟨#[47]⟩, .agg #[.int .i64 k, .int .i64 n, .float .f64 f, .string s, .slice a l c], .agg #[.int .i64 (1), .int .i64 (1), .float .f64 (0), .string ⟨#[]⟩, .slice none 0 0]] w fun e w' => e = .returned (.tuple #[.agg #[.int .i64 (2), .int .i64 (0), .float .f64 (realV k n f), .string ⟨#[]⟩, .slice none 0 0], .int .i64 0]) ∧ Below w.heap.size w w' := by
  have hl := realV_lt (k := k) (n := n) hf
  have hff := realV_fin h
  have := op_quo k 1 n 1 f 0 s ⟨#[]⟩ a none l c 0 0 h r11 hf (by decide) (by rw [one_val]; decide) w
  rw [one_val, show floatBits .quo .f64 (realV k n f) 4607182418800017408 = some (realV k n f) from Flt.div_one hl hff, show fltR (some (realV k n f)) = numBits (realV k n f) from rfl, numBits_fin hff] at this
  exact this

theorem one_real (k n : Int) (f : Nat) (s : ByteArray) (a : Option Addr) (l c : Nat) (hf : f < 18446744073709551616) (h : rightB k n f s l = true) (w : World) :
    Calls Tryd.prog 9 #[.agg #[.int .i64 k, .int .i64 n, .float .f64 f, .string s, .slice a l c]] w fun e w' => e = .returned (.tuple #[.agg #[.int .i64 (2), .int .i64 (0), .float .f64 (realV k n f), .string ⟨#[]⟩, .slice none 0 0], .int .i64 0]) ∧ Below w.heap.size w w' := by
  have := real_yes k n f s a l c hf h w
  rw [numBits_fin (realV_fin h)] at this
  exact this

theorem same_ba (k n : Int) (f : Nat) (s : ByteArray) (a : Option Addr) (c : Nat) (hs : s.toList.isEmpty = true) (w : World) :
    Calls Tryd.prog 10 #[.agg #[.int .i64 (k), .int .i64 (n), .float .f64 (f), .string ⟨#[]⟩, .slice none 0 0], .agg #[.int .i64 k, .int .i64 n, .float .f64 f, .string s, .slice a 0 c]] w fun e w' => e = .returned (.bool true) ∧ Below w.heap.size w w' := by
  have := same_any k n f ⟨#[]⟩ none 0 0 k n f s a 0 c w
  have e : sameB k n f ⟨#[]⟩ 0 k n f s 0 = true := by
    have h0 : s.toList = [] := by simpa using hs
    simp [sameB, h0]
  rw [e] at this
  exact this

theorem xor_mod (u : Nat) : (u ^^^ 9223372036854775808) % 9223372036854775808 = u % 9223372036854775808 := by
  have := Nat.xor_mod_two_pow (a := u) (b := 9223372036854775808) (n := 63)
  rw [show (2 : Nat) ^ 63 = 9223372036854775808 from rfl, show 9223372036854775808 % 9223372036854775808 = 0 from rfl, Nat.xor_zero] at this
  exact this

theorem fin_xor (u : Nat) : Flt.fin (u ^^^ 9223372036854775808) = Flt.fin u := by unfold Flt.fin; rw [xor_mod]

/-- what a number's negative is, and that its own negative is the number -/
theorem neg_pair {k n : Int} {f : Nat} {s : ByteArray} {l : Nat} (hf : f < 18446744073709551616) (h : rightB k n f s l = true) (hm : ¬ (k = 1 ∧ n = -576460752303423488)) :
    ∃ (n' : Int) (f' : Nat), (∀ (a : Option Addr) (c : Nat) (w : World), Calls Tryd.prog 11 #[.agg #[.int .i64 k, .int .i64 n, .float .f64 f, .string s, .slice a l c]] w fun e w' => e = .returned (.tuple #[.agg #[.int .i64 (k), .int .i64 (n'), .float .f64 (f'), .string ⟨#[]⟩, .slice none 0 0], .int .i64 0]) ∧ Below w.heap.size w w') ∧
      (∀ (w : World), Calls Tryd.prog 11 #[.agg #[.int .i64 (k), .int .i64 (n'), .float .f64 (f'), .string ⟨#[]⟩, .slice none 0 0]] w fun e w' => e = .returned (.tuple #[.agg #[.int .i64 (k), .int .i64 (n), .float .f64 (f), .string ⟨#[]⟩, .slice none 0 0], .int .i64 0]) ∧ Below w.heap.size w w') := by
  obtain ⟨_, _, ⟨rfl, hw, rfl⟩ | ⟨rfl, rfl, hff⟩⟩ := rightB_cases h
  · have hb := whB_yes hw
    have hw2 : whB (-n) = true := whB_mk (by omega)
    refine ⟨-n, 0, fun a c w => ?_, fun w => ?_⟩
    · have := neg_1 n 0 s a l c hf h hw w
      rw [numInt_in hw2] at this
      exact this
    · have := neg_1 (-n) 0 ⟨#[]⟩ none 0 0 (by decide) (by simp [rightB, hw2]) hw2 w
      rw [Int.neg_neg, numInt_in hw] at this
      exact this
  · have hff2 : Flt.fin (f ^^^ 9223372036854775808) = true := by rw [fin_xor]; exact hff
    have hl : f ^^^ 9223372036854775808 < 18446744073709551616 := Nat.xor_lt_two_pow (n := 64) hf (by decide)
    refine ⟨0, f ^^^ 9223372036854775808, fun a c w => ?_, fun w => ?_⟩
    · have := neg_2 0 f s a l c hf h w
      rw [numBits_fin hff2] at this
      exact this
    · have := neg_2 0 (f ^^^ 9223372036854775808) ⟨#[]⟩ none 0 0 hl (by simp [rightB, hff2]) w
      rw [Nat.xor_assoc, Nat.xor_self, Nat.xor_zero, numBits_fin hff] at this
      exact this

theorem neg_min (s : ByteArray) (f : Nat) (a : Option Addr) (l c : Nat) (hf : f < 18446744073709551616) (h : rightB 1 (-576460752303423488) f s l = true) (w : World) :
    Calls Tryd.prog 11 #[.agg #[.int .i64 1, .int .i64 (-576460752303423488), .float .f64 f, .string s, .slice a l c]] w fun e w' => e = .returned (.tuple #[.agg #[.int .i64 (0), .int .i64 (0), .float .f64 (0), .string ⟨#[]⟩, .slice none 0 0], .int .i64 12]) ∧ Below w.heap.size w w' := by
  have := neg_1 (-576460752303423488) f s a l c hf h (by simp [whB]) w
  rw [show numInt (- -576460752303423488) = ⟨0, 0, 0, 12⟩ by simp [numInt, whB]] at this
  exact this
end Go.Proofs.YtmmldghlellehacDoor
