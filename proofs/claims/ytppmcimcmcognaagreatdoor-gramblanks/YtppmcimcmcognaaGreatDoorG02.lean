import Derived.Lib.FieldsU
import Derived.Laws.RangeAny
import Derived.Test.YtppmcimcmcognaaGreatDoorG01
import Derived.Lib.OthersKept
import Derived.Deep.LoopGhost
import Derived.Deep.DeepMust
import Derived.RegionTactic
import Derived.Deep.RegionHeld3
import Derived.Deep.DrawnRows
import Derived.Shelf.Abstract
import Derived.Shelf.Strings.Builder1
import Derived.Shelf.Strings.BuilderF
import Derived.Shelf.Strings.BuilderK
import Derived.Shelf.LaysM
import Derived.Shelf.Strconv.Clone
import Derived.Shelf.Strings.Prefix
import Derived.Shelf.Unicode.DecodeSlow
import Derived.Shelf.Unicode.DecodeAny
import Derived.Test.YtppmcimcmcognaaGreatDoorProg
/- Bytes of a source, and how far a class of them goes. -/
namespace Go.Proofs.YtppmcimcmcognaaGreatDoor
open Go.Lib

def bt (s : ByteArray) (i : Nat) : Nat := (s.get! i).toNat

theorem bt_lt (s : ByteArray) (i : Nat) : bt s i < 256 := (s.get! i).toNat_lt

theorem get_of_lt (s : ByteArray) (k : Nat) (h : k < s.size) : s.get! k = s[k]'h := by
  simp [ByteArray.get!, getElem!_pos, h]
  rfl

theorem get_of_ge (s : ByteArray) (k : Nat) (h : s.size ≤ k) : s.get! k = 0 := by
  have h2 : ¬ k < s.data.size := by have : s.data.size = s.size := rfl; omega
  show s.data[k]! = 0
  rw [getElem!_def, Array.getElem?_eq_none (by omega)]
  rfl

theorem size_ext (s : ByteArray) (a b : Nat) : (s.extract a b).size = min b s.size - a := by simp [ByteArray.size_extract]

theorem get_ext (s : ByteArray) (a j : Nat) : (s.extract a s.size).get! j = s.get! (a + j) := by
  by_cases h : j < s.size - a
  · have h1 : j < (s.extract a s.size).size := by rw [size_ext]; omega
    rw [get_of_lt _ _ h1, get_of_lt _ _ (by omega : a + j < s.size)]
    simp [ByteArray.getElem_extract]
  · rw [get_of_ge _ _ (by rw [size_ext]; omega), get_of_ge _ _ (by omega)]

theorem get_ext2 (s : ByteArray) (a b j : Nat) (h : j < b - a) (hb : b ≤ s.size) : (s.extract a b).get! j = s.get! (a + j) := by
  have h1 : j < (s.extract a b).size := by rw [size_ext]; omega
  rw [get_of_lt _ _ h1, get_of_lt _ _ (by omega : a + j < s.size)]
  simp [ByteArray.getElem_extract]

theorem bt_ext (s : ByteArray) (a j : Nat) : bt (s.extract a s.size) j = bt s (a + j) := by unfold bt; rw [get_ext]

theorem bt_ext2 (s : ByteArray) (a b j : Nat) (h : j < b - a) (hb : b ≤ s.size) : bt (s.extract a b) j = bt s (a + j) := by unfold bt; rw [get_ext2 s a b j h hb]

theorem decode_ext (s : ByteArray) (a j : Nat) : Utf8.decode (s.extract a s.size) j = Utf8.decode s (a + j) := by
  rw [decode_at, decode_at, get_ext, get_ext, get_ext, get_ext, size_ext]
  rw [show min s.size s.size - a - j = s.size - (a + j) from by omega]
  rfl

def span (p : Nat → Bool) (s : ByteArray) : Nat → Nat → Nat
  | 0, i => i
  | k + 1, i => if p (bt s i) = true then span p s k (i + 1) else i

/-- How far the class goes from there. -/
def goes (p : Nat → Bool) (s : ByteArray) (i : Nat) : Nat := span p s (s.size - i) i

theorem goes_on {p : Nat → Bool} {s : ByteArray} {i : Nat} (h : i < s.size) (hp : p (bt s i) = true) : goes p s i = goes p s (i + 1) := by
  unfold goes
  obtain ⟨k, hk⟩ : ∃ k, s.size - i = k + 1 := ⟨s.size - i - 1, by omega⟩
  rw [hk, show s.size - (i + 1) = k from by omega]
  simp [span, hp]

theorem goes_stop {p : Nat → Bool} {s : ByteArray} {i : Nat} (hp : p (bt s i) = false) : goes p s i = i := by
  unfold goes
  cases s.size - i with
  | zero => rfl
  | succ k => simp [span, hp]

theorem goes_end {p : Nat → Bool} {s : ByteArray} {i : Nat} (h : s.size ≤ i) : goes p s i = i := by
  unfold goes
  rw [show s.size - i = 0 from by omega]
  rfl

theorem span_facts (p : Nat → Bool) (s : ByteArray) : ∀ k i, i ≤ span p s k i ∧ span p s k i ≤ i + k ∧ (∀ j, i ≤ j → j < span p s k i → p (bt s j) = true) ∧ (span p s k i < i + k → p (bt s (span p s k i)) = false) := by
  intro k
  induction k with
  | zero => intro i; exact ⟨Nat.le_refl _, Nat.le_refl _, (fun j h1 h2 => by simp [span] at h2; omega), fun h => by simp [span] at h⟩
  | succ k ih =>
    intro i
    by_cases hp : p (bt s i) = true
    · obtain ⟨h1, h2, h3, h4⟩ := ih (i + 1)
      simp only [span, hp, if_true]
      refine ⟨by omega, by omega, fun j hj hl => ?_, fun h => h4 (by omega)⟩
      rcases Nat.eq_or_lt_of_le hj with rfl | hj'
      · exact hp
      · exact h3 j hj' hl
    · simp only [span, hp, if_false, Bool.false_eq_true]
      refine ⟨Nat.le_refl _, by omega, fun j hj hl => ?_, fun _ => by simp⟩
      omega

theorem goes_ge (p : Nat → Bool) (s : ByteArray) (i : Nat) : i ≤ goes p s i := (span_facts p s _ i).1
theorem goes_le (p : Nat → Bool) (s : ByteArray) (i : Nat) (h : i ≤ s.size) : goes p s i ≤ s.size := by have := (span_facts p s (s.size - i) i).2.1; unfold goes; omega
theorem goes_all (p : Nat → Bool) (s : ByteArray) (i j : Nat) (h1 : i ≤ j) (h2 : j < goes p s i) : p (bt s j) = true := (span_facts p s _ i).2.2.1 j h1 h2
theorem goes_not (p : Nat → Bool) (s : ByteArray) (i : Nat) (h : goes p s i < s.size) : p (bt s (goes p s i)) = false := by
  rcases Nat.lt_or_ge i s.size with hi | hi
  · exact (span_facts p s (s.size - i) i).2.2.2 (by unfold goes at h; omega)
  · rw [goes_end hi] at h; omega

theorem goes_past (p : Nat → Bool) (s : ByteArray) (i K : Nat) (hK : i + K ≤ s.size) (h : ∀ j, j < K → p (bt s (i + j)) = true) : goes p s i = goes p s (i + K) := by
  induction K with
  | zero => rfl
  | succ K ih =>
    rw [ih (by omega) (fun j hj => h j (by omega)), goes_on (by omega) (h K (by omega))]
    rfl

theorem decode_low (s : ByteArray) (i : Nat) (h : bt s i < 128) : Utf8.decode s i = (bt s i, 1) := by
  rw [decode_at]
  unfold bt at h ⊢
  simp [decodeN, h]

theorem decodeN_high (n b0 b1 b2 b3 : Nat) (h : 128 ≤ b0) : 128 ≤ (decodeN n b0 b1 b2 b3).1 ∧ (1 < (decodeN n b0 b1 b2 b3).2 → 128 ≤ b1) ∧ (2 < (decodeN n b0 b1 b2 b3).2 → 128 ≤ b2) ∧ (3 < (decodeN n b0 b1 b2 b3).2 → 128 ≤ b3) ∧ (decodeN n b0 b1 b2 b3).2 ≤ 4 := by
  unfold decodeN
  repeat' split
  all_goals (refine ⟨?_, ?_, ?_, ?_, ?_⟩ <;> simp <;> omega)

theorem decode_high' (s : ByteArray) (i : Nat) (hi : i < s.size) (h : 128 ≤ bt s i) : 128 ≤ (Utf8.decode s i).1 ∧ 1 ≤ (Utf8.decode s i).2 ∧ i + (Utf8.decode s i).2 ≤ s.size ∧ ∀ j, j < (Utf8.decode s i).2 → 128 ≤ bt s (i + j) := by
  have hw := width_pos s i
  have hn := decodeN_le_n' (s.size - i) (s.get! i).toNat (s.get! (i + 1)).toNat (s.get! (i + 2)).toNat (s.get! (i + 3)).toNat (by omega)
  obtain ⟨h1, h2, h3, h4, h5⟩ := decodeN_high (s.size - i) (s.get! i).toNat (s.get! (i + 1)).toNat (s.get! (i + 2)).toNat (s.get! (i + 3)).toNat h
  rw [← decode_at] at hn h1 h2 h3 h4 h5
  refine ⟨h1, hw, by omega, fun j hj => ?_⟩
  match j, hj with
  | 0, _ => exact h
  | 1, hj => exact h2 hj
  | 2, hj => exact h3 hj
  | 3, hj => exact h4 hj
  | (j + 4), hj => omega

/-- A class in which all or none of what is above 127 is. -/
def Flat (p : Nat → Bool) (c : Bool) : Prop := ∀ n, 128 ≤ n → p n = c

theorem goes_rune {p : Nat → Bool} {c : Bool} (hp : Flat p c) {s : ByteArray} {i : Nat} (hi : i < s.size) (h : p (Utf8.decode s i).1 = true) : goes p s i = goes p s (i + (Utf8.decode s i).2) := by
  rcases Nat.lt_or_ge (bt s i) 128 with hb | hb
  · rw [decode_low s i hb] at h ⊢
    exact goes_on hi h
  · obtain ⟨h1, h2, h3, h4⟩ := decode_high' s i hi hb
    have hc : c = true := (hp _ h1).symm.trans h
    exact goes_past p s i _ h3 fun j hj => (hp _ (h4 j hj)).trans hc

theorem goes_rune_not {p : Nat → Bool} {c : Bool} (hp : Flat p c) {s : ByteArray} {i : Nat} (hi : i < s.size) (h : p (Utf8.decode s i).1 = false) : goes p s i = i := by
  rcases Nat.lt_or_ge (bt s i) 128 with hb | hb
  · rw [decode_low s i hb] at h
    exact goes_stop h
  · obtain ⟨h1, h2, h3, h4⟩ := decode_high' s i hi hb
    have hc : c = false := (hp _ h1).symm.trans h
    exact goes_stop ((hp _ hb).trans hc)

theorem decode_in (s : ByteArray) (i : Nat) (hi : i < s.size) : i + (Utf8.decode s i).2 ≤ s.size := by
  rcases Nat.lt_or_ge (bt s i) 128 with hb | hb
  · rw [decode_low s i hb]; omega
  · exact (decode_high' s i hi hb).2.2.1

def pBlank (n : Nat) : Bool := n == 9 || n == 10 || n == 13 || n == 32
def pLine (n : Nat) : Bool := n != 10
def pSmall (n : Nat) : Bool := decide (97 ≤ n) && decide (n ≤ 122)
def pCapital (n : Nat) : Bool := decide (65 ≤ n) && decide (n ≤ 90)
def pDigit (n : Nat) : Bool := decide (48 ≤ n) && decide (n ≤ 57)
def pName (n : Nat) : Bool := pSmall n || pCapital n || pDigit n || n == 95 || n == 64
def pIn (m n : Nat) : Bool := n != m && n != 92

theorem flat_blank : Flat pBlank false := by intro n h; simp [pBlank]; omega
theorem flat_line : Flat pLine true := by intro n h; simp [pLine]; omega
theorem flat_small : Flat pSmall false := by intro n h; simp [pSmall]; omega
theorem flat_capital : Flat pCapital false := by intro n h; simp [pCapital]; omega
theorem flat_digit : Flat pDigit false := by intro n h; simp [pDigit]; omega
theorem flat_name : Flat pName false := by intro n h; simp [pName, flat_small n h, flat_capital n h, flat_digit n h]; omega
theorem flat_in (m : Nat) (hm : m < 128) : Flat (pIn m) true := by intro n h; simp [pIn]; omega

theorem ext_ext (s : ByteArray) (a j : Nat) (ha : a ≤ s.size) (hj : j ≤ s.size - a) : (s.extract a s.size).extract 0 j = s.extract a (a + j) := by
  rw [ByteArray.extract_extract]
  simp
  congr 1
  omega
end Go.Proofs.YtppmcimcmcognaaGreatDoor


/- take: a scanner goes on over a class. -/
namespace Go.Proofs.YtppmcimcmcognaaGreatDoor
open Go.RowKit Go.Lib
attribute [local go_sem] store_float f64bits
attribute [local go_sem ↓] Go.wp_at_zero Go.wp_at_succ

/-- A scanner: its source, and where it is. -/
def Sc (w : World) (b : Nat) (s : ByteArray) (i : Nat) : Prop := Duo w b (.string s) (.int .i64 i)

def FnAt (g : Nat) (lb : Array Value) (p : Nat → Bool) (w : World) : Prop :=
  ∀ (W : World) (x : Nat), x ≤ 1114111 → Below w.heap.size w W → Calls Tryz.prog g (#[.int .i32 (x : Int)] ++ lb) W fun e W' => e = .returned (.bool (p x)) ∧ W' = W

set_option maxHeartbeats 1000000 in
set_option maxRecDepth 1000000 in
theorem take_any (g : Nat) (lb : Array Value) (eg : ∀ args w, (callFunc g args).run Tryz.prog w = .ok (.enter g args) w) (p : Nat → Bool) (c : Bool) (hf : Flat p c) (s : ByteArray) (i b : Nat) (hi : i ≤ s.size) (hs : s.size ≤ 65536) (w : World) (h : Sc w b s i) (hp : FnAt g lb p w) :
    Calls Tryz.prog 33 #[.pointer (some ⟨b, 0, none⟩), .func (.func g) #[] lb] w fun e w' => e = .returned (.string (s.extract i (goes p s i))) ∧ Sc w' b s (goes p s i) ∧ But (· = b) w w' := by
  have c0 := h.c0; have c1 := h.c1; have f1 := h.f1
  go_enter Tryz.func33, Tryz.ntmps33
  have h0 : (0 : Int) ≤ (i : Int) := by omega
  have h1 : (i : Int) ≤ (s.size : Int) := by omega
  go_wp2_with fail
  go_region_held3 (fun w' => w'.cell? ⟨b, 0, none⟩ = some (.string s) ∧ w'.cell? ⟨b, 1, none⟩ = some (.int .i64 i)) (go_keep) (fail)
  go_wp2_with fail
  have hb0 : Below w.heap.size w (w.drew.iter (s.extract i s.size) 0) := (Below.drew (Below.refl _ _)).alloc (Nat.le_refl _) _
  have hsz : (s.extract i s.size).size = s.size - i := by rw [size_ext]; omega
  have hit0 := World.iter_heap w.drew (s.extract i s.size) 0
  have hdec : ∀ j, Utf8.decode (s.extract i s.size) j = Utf8.decode s (i + j) := decode_ext s i
  have hcut : ∀ j, j ≤ s.size - i → (s.extract i s.size).extract 0 j = s.extract i (i + j) := fun j hj => ext_ext s i j hi hj
  obtain ⟨R, hR⟩ : ∃ R, s.extract i s.size = R := ⟨_, rfl⟩
  rw [hR] at hsz hit0 hb0 ⊢
  simp only [hR] at hdec hcut
  go_loopg [] (s.size - i) (fun gf wx => ∃ pos, wx.heap[w.heap.size]? = some (.stringIter R pos) ∧ Below w.heap.size w wx ∧ pos ≤ R.size ∧ goes p s (i + pos) = goes p s i ∧ R.size - pos ≤ gf)
  case atStart => exact ⟨0, hit0, hb0, Nat.zero_le _, rfl, by omega⟩
  case round =>
    obtain ⟨pos, hit, hbw, hps, hgo, hgf⟩ := hrel
    by_cases hlt : pos < R.size
    · obtain ⟨g', rfl⟩ : ∃ g', gk = g' + 1 := ⟨gk - 1, by omega⟩
      have hnx : ∀ ty, (Instr.next (.pointer (some ⟨w.heap.size, 0, none⟩)) true ty).run Tryz.prog wr = _ := fun ty => Lib.run_next_any_at wr w.heap.size R pos ty hit hlt
      have hin := decode_in s (i + pos) (by omega)
      have hwp := Lib.width_pos s (i + pos)
      have hle := Lib.rune_le s (i + pos)
      have hr1 := fun h => goes_rune (s := s) (i := i + pos) hf (by omega) h
      have hr2 := fun h => goes_rune_not (s := s) (i := i + pos) hf (by omega) h
      rw [hdec] at hnx
      obtain ⟨r, hr⟩ : ∃ r, (Utf8.decode s (i + pos)).1 = r := ⟨_, rfl⟩
      obtain ⟨K, hK⟩ : ∃ K, (Utf8.decode s (i + pos)).2 = K := ⟨_, rfl⟩
      rw [hr] at hnx hle hr1 hr2
      rw [hK] at hnx hin hwp hr1
      have hit2 := Lib.iterAt_heap wr w.heap.size R pos (pos + K) hit
      have hbw2 := Lib.below_iterAt hbw (k := w.heap.size) (Nat.le_refl _) R (pos + K)
      obtain ⟨W, hWd⟩ : ∃ W, wr.iterAt w.heap.size R (pos + K) = W := ⟨_, rfl⟩
      rw [hWd] at hnx hit2 hbw2
      have cS := hp W r hle hbw2
      have hD : Duo W b (.string s) (.int .i64 i) := h.keep hbw2
      have d0 := hD.c0; have d1 := hD.c1; have d2 := hD.f1
      clear hp hit hbw hr hK hWd c0 c1 f1
      cases hpr : p r <;> rw [hpr] at cS
      · have hgs := hr2 hpr
        have hcp := hcut pos (by omega)
        have ha : (0 : Int) ≤ (pos : Int) := by omega
        have hb : (pos : Int) ≤ (R.size : Int) := by omega
        have hw : wrap64 ((i : Int) + (pos : Int)) = ((i + pos : Nat) : Int) := by unfold wrap64; omega
        clear hr1 hr2 hcut hdec
        go_wp2_with (go_at_fn g; go_must (refine cS.mono ?_; rintro e W' ⟨rfl, hW'⟩; obtain rfl := hW'.symm))
        have hg : goes p s i = i + pos := hgo.symm.trans hgs
        go_ret
        refine ⟨by rw [hg]; rfl, ?_, ?_⟩
        · rw [hg]
          have := hD.set1 (.int .i64 ((i : Int) + (pos : Int)))
          simpa [Sc] using this
        · exact (But.of_below (S := (· = b)) hbw2).setCell (fun _ => rfl) _
      · have hgs := hr1 hpr
        clear hr1 hr2 hcut hdec
        go_wp2_with (go_at_fn g; go_must (refine cS.mono ?_; rintro e W' ⟨rfl, hW'⟩; obtain rfl := hW'.symm))
        go_roundg g'
        case measure => omega
        case rel => exact ⟨pos + K, hit2, hbw2, by omega, by rw [← Nat.add_assoc, ← hgs]; exact hgo, by omega⟩
    · obtain rfl : pos = R.size := by omega
      have hnx : ∀ ty, (Instr.next (.pointer (some ⟨w.heap.size, 0, none⟩)) true ty).run Tryz.prog wr = _ := fun ty => Lib.run_next_end_at wr w.heap.size R R.size ty hit hlt
      have hD : Duo wr b (.string s) (.int .i64 i) := h.keep hbw
      have d0 := hD.c0; have d1 := hD.c1; have d2 := hD.f1
      clear hp c0 c1 f1
      go_wp2_with fail
      have hg : goes p s i = s.size := by rw [← hgo, goes_end (by omega)]; omega
      go_ret
      refine ⟨by rw [hg, hR]; rfl, ?_, ?_⟩
      · rw [hg]
        exact hD.set1 (.int .i64 (s.size : Int))
      · exact (But.of_below (S := (· = b)) hbw).setCell (fun _ => rfl) _
end Go.Proofs.YtppmcimcmcognaaGreatDoor


/- Contracts of the library (Mul64, FormatInt at base 10, Repeat), laid at this program by the kit's own tool, in plain words. -/
namespace Go.Proofs
open Go.Shelf
def Tryz.lays169_ren : Go.Shelf.Ren := ⟨fun | 169 => 97 | n => n, fun | 70 => 113 | 9 => 9 | 0 => 0 | 72 => 115 | 37 => 34 | 127 => 130 | 3 => 3 | 5 => 5 | n => n, fun | n => n⟩
theorem Tryz.lays169 : Go.Proofs.Lays.n169 Tryz.prog Tryz.lays169_ren := {
  mixed := by kernel_rfl
  f169 := Tryz.func97.trans (congrArg some (by kernel_rfl))
  t0 := Tryz.underlying0
  a0 := Tryz.isAgg0
  z0 := Tryz.sizeOf0
  v0 := Tryz.zeroValue0
  t3 := Tryz.underlying3
  a3 := Tryz.isAgg3
  z3 := Tryz.sizeOf3
  v3 := Tryz.zeroValue3
  t9 := Tryz.underlying9
  a9 := Tryz.isAgg9
  z9 := Tryz.sizeOf9
  v9 := Tryz.zeroValue9
  t37 := Tryz.underlying34
  a37 := Tryz.isAgg34
  z37 := Tryz.sizeOf34
  v37 := Tryz.zeroValue34
  t70 := Tryz.underlying113
  a70 := Tryz.isAgg113
  z70 := Tryz.sizeOf113
  v70 := Tryz.zeroValue113
  t72 := Tryz.underlying115
  a72 := Tryz.isAgg115
  z72 := Tryz.sizeOf115
  v72 := Tryz.zeroValue115
  t127 := Tryz.underlying130
  a127 := Tryz.isAgg130
  z127 := Tryz.sizeOf130
  v127 := Tryz.zeroValue130 }
theorem Tryz.Builder_Extra_169 : Builder.Extra Tryz.prog Tryz.lays169_ren := {
  sizeBuilder := by kernel_rfl
  liesBuilder := by kernel_rfl
  t5 := Tryz.underlying5
  a5 := Tryz.isAgg5
  z5 := Tryz.sizeOf5
  v5 := Tryz.zeroValue5
  infoByte := by kernel_rfl
  cellsByte := by kernel_rfl
  sizeByte := by kernel_rfl
  neB5 := by decide }
open Go.RowKit in
theorem Tryz.Builder_String_any_k (B b : Nat) (l : List UInt8) (w : World) (h : Lib.IsBuilderF 115 5 B b (Lib.byteCells l) w) (hBw : B ≤ w.heap.size) :
    Calls Tryz.prog 97 #[.pointer (some ⟨b, 0, none⟩)] w fun e w' => e = .returned (.string ⟨l.toArray⟩) ∧ (Lib.IsBuilderF 115 5 B b (Lib.byteCells l) w' ∧ Below B w w' ∧ Lib.OthersKept 5 (some b) w w') := Any.Builder_String_any_k Tryz.lays169 Tryz.Builder_Extra_169 B b l w h hBw
def Tryz.laysM316_ren : Go.Shelf.Ren := ⟨fun | 316 => 109 | n => n, fun | 9 => 9 | 3 => 3 | 4 => 4 | 37 => 34 | 0 => 0 | 127 => 130 | 5 => 5 | n => n, fun | n => n⟩
theorem Tryz.laysM316 : Go.Proofs.LaysM.n316 Tryz.prog Tryz.laysM316_ren := {
  mixed := by kernel_rfl
  f316 := Tryz.func109.trans (congrArg some (by kernel_rfl))
  t0 := Tryz.underlying0
  a0 := Tryz.isAgg0
  z0 := Tryz.sizeOf0
  v0 := Tryz.zeroValue0
  t3 := Tryz.underlying3
  a3 := Tryz.isAgg3
  z3 := Tryz.sizeOf3
  v3 := Tryz.zeroValue3
  t4 := Tryz.underlying4
  a4 := Tryz.isAgg4
  z4 := Tryz.sizeOf4
  v4 := Tryz.zeroValue4
  t9 := Tryz.underlying9
  a9 := Tryz.isAgg9
  z9 := Tryz.sizeOf9
  v9 := Tryz.zeroValue9
  t37 := Tryz.underlying34
  a37 := Tryz.isAgg34
  z37 := Tryz.sizeOf34
  v37 := Tryz.zeroValue34
  t127 := Tryz.underlying130
  a127 := Tryz.isAgg130
  z127 := Tryz.sizeOf130
  v127 := Tryz.zeroValue130
  t5 := Tryz.underlying5
  a5 := Tryz.isAgg5
  z5 := Tryz.sizeOf5
  v5 := Tryz.zeroValue5
  i0 := by kernel_rfl
  i3 := by kernel_rfl
  i4 := by kernel_rfl
  i5 := by kernel_rfl
  i9 := by kernel_rfl
  i37 := by kernel_rfl
  i127 := by kernel_rfl }
open Go.RowKit in
theorem Tryz.stringslite_Clone (s : ByteArray) (w : World) (hlim : s.size ≤ 281474976710656) :
    Calls Tryz.prog 109 #[.string s] w fun e w' => e = .returned (.string s) ∧ Below w.heap.size w w' := Any.stringslite_Clone Tryz.laysM316 s w hlim
def Tryz.lays99_ren : Go.Shelf.Ren := ⟨fun | 99 => 75 | 206 => 100 | n => n, fun | 9 => 9 | 4 => 4 | 3 => 3 | n => n, fun | n => n⟩
theorem Tryz.lays99 : Go.Proofs.Lays.n99 Tryz.prog Tryz.lays99_ren := {
  mixed := by kernel_rfl
  f99 := Tryz.func75.trans (congrArg some (by kernel_rfl))
  f206 := Tryz.func100.trans (congrArg some (by kernel_rfl))
  t3 := Tryz.underlying3
  a3 := Tryz.isAgg3
  z3 := Tryz.sizeOf3
  v3 := Tryz.zeroValue3
  t4 := Tryz.underlying4
  a4 := Tryz.isAgg4
  z4 := Tryz.sizeOf4
  v4 := Tryz.zeroValue4
  t9 := Tryz.underlying9
  a9 := Tryz.isAgg9
  z9 := Tryz.sizeOf9
  v9 := Tryz.zeroValue9 }
open Go.RowKit Go.Lib in
theorem Tryz.strings_HasPrefix (s p : ByteArray) (w : World) :
    Calls Tryz.prog 75 #[.string s, .string p] w fun e w' => e = .returned (.bool (Lib.hasPrefix s.data.toList p.data.toList)) ∧ w' = w := Any.strings_HasPrefix Tryz.lays99 s p w
def Tryz.lays197_ren : Go.Shelf.Ren := ⟨fun | 197 => 88 | 260 => 108 | n => n, fun | 9 => 9 | 21 => 21 | 3 => 3 | 4 => 4 | 5 => 5 | 105 => 107 | 119 => 132 | 0 => 0 | 46 => 100 | 139 => 135 | 138 => 134 | n => n, fun | 3 => 5 | 4 => 6 | n => n⟩
theorem Tryz.lays197 : Go.Proofs.Lays.n197 Tryz.prog Tryz.lays197_ren := {
  mixed := by kernel_rfl
  f197 := Tryz.func88.trans (congrArg some (by kernel_rfl))
  f260 := Tryz.func108.trans (congrArg some (by kernel_rfl))
  t0 := Tryz.underlying0
  a0 := Tryz.isAgg0
  z0 := Tryz.sizeOf0
  v0 := Tryz.zeroValue0
  t3 := Tryz.underlying3
  a3 := Tryz.isAgg3
  z3 := Tryz.sizeOf3
  v3 := Tryz.zeroValue3
  t4 := Tryz.underlying4
  a4 := Tryz.isAgg4
  z4 := Tryz.sizeOf4
  v4 := Tryz.zeroValue4
  t5 := Tryz.underlying5
  a5 := Tryz.isAgg5
  z5 := Tryz.sizeOf5
  v5 := Tryz.zeroValue5
  t9 := Tryz.underlying9
  a9 := Tryz.isAgg9
  z9 := Tryz.sizeOf9
  v9 := Tryz.zeroValue9
  t21 := Tryz.underlying21
  a21 := Tryz.isAgg21
  z21 := Tryz.sizeOf21
  v21 := Tryz.zeroValue21
  t46 := Tryz.underlying100
  a46 := Tryz.isAgg100
  z46 := Tryz.sizeOf100
  v46 := Tryz.zeroValue100
  t105 := Tryz.underlying107
  a105 := Tryz.isAgg107
  z105 := Tryz.sizeOf107
  v105 := Tryz.zeroValue107
  t119 := Tryz.underlying132
  a119 := Tryz.isAgg132
  z119 := Tryz.sizeOf132
  t138 := Tryz.underlying134
  a138 := Tryz.isAgg134
  z138 := Tryz.sizeOf134
  v138 := Tryz.zeroValue134
  t139 := Tryz.underlying135
  a139 := Tryz.isAgg135
  z139 := Tryz.sizeOf135
  v139 := Tryz.zeroValue135
  g3 := by kernel_rfl
  g4 := by kernel_rfl }
open Go.RowKit Go.Lib in
theorem Tryz.utf8_DecodeRuneInString (s : ByteArray) (w : World) (hT : Lib.Utf8Tabs 5 6 w) :
    Calls Tryz.prog 88 #[.string s] w fun e w' => e = .returned (.tuple #[.int .i32 (Lib.decodeGo s).1, .int .i64 (Lib.decodeGo s).2]) ∧ Below w.heap.size w w' := Any.utf8_DecodeRuneInString Tryz.lays197 s w hT
end Go.Proofs


