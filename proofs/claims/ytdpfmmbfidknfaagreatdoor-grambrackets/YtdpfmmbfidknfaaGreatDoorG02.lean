import Derived.Lib.FieldsU
import Derived.Laws.RangeAny
import Derived.Test.YtdpfmmbfidknfaaGreatDoorG01
import Derived.Lib.OthersKept
import Derived.Deep.LoopGhost
import Derived.Deep.DeepMust
import Derived.RegionTactic
import Derived.Deep.RegionHeld3
import Derived.Deep.DrawnRows
import Derived.Shelf.Abstract
/- Bytes of a source, and how far a class of them goes. -/
namespace Go.Proofs.YtdpfmmbfidknfaaGreatDoor
open Go.Lib

def bt (s : ByteArray) (i : Nat) : Nat := (s.get! i).toNat

theorem bt_lt (s : ByteArray) (i : Nat) : bt s i < 256 := (s.get! i).toNat_lt

theorem get_of_lt (s : ByteArray) (k : Nat) (h : k < s.size) : s.get! k = s[k]'h := by
  simp [ByteArray.get!, getElem!_pos, h]
  rfl

theorem get_of_ge (s : ByteArray) (k : Nat) (h : s.size ≤ k) : s.get! k = 0 := by
  have h2 : ¬ k < s.data.size := by have : s.data.size = s.size := rfl; omega
  show s.data[k]! = 0
  rw [getElem!_def, Array.getElem?_eq_none (by omega)]
  rfl

theorem size_ext (s : ByteArray) (a b : Nat) : (s.extract a b).size = min b s.size - a := by simp [ByteArray.size_extract]

theorem get_ext (s : ByteArray) (a j : Nat) : (s.extract a s.size).get! j = s.get! (a + j) := by
  by_cases h : j < s.size - a
  · have h1 : j < (s.extract a s.size).size := by rw [size_ext]; omega
    rw [get_of_lt _ _ h1, get_of_lt _ _ (by omega : a + j < s.size)]
    simp [ByteArray.getElem_extract]
  · rw [get_of_ge _ _ (by rw [size_ext]; omega), get_of_ge _ _ (by omega)]

theorem get_ext2 (s : ByteArray) (a b j : Nat) (h : j < b - a) (hb : b ≤ s.size) : (s.extract a b).get! j = s.get! (a + j) := by
  have h1 : j < (s.extract a b).size := by rw [size_ext]; omega
  rw [get_of_lt _ _ h1, get_of_lt _ _ (by omega : a + j < s.size)]
  simp [ByteArray.getElem_extract]

theorem bt_ext (s : ByteArray) (a j : Nat) : bt (s.extract a s.size) j = bt s (a + j) := by unfold bt; rw [get_ext]

theorem bt_ext2 (s : ByteArray) (a b j : Nat) (h : j < b - a) (hb : b ≤ s.size) : bt (s.extract a b) j = bt s (a + j) := by unfold bt; rw [get_ext2 s a b j h hb]

theorem decode_ext (s : ByteArray) (a j : Nat) : Utf8.decode (s.extract a s.size) j = Utf8.decode s (a + j) := by
  rw [decode_at, decode_at, get_ext, get_ext, get_ext, get_ext, size_ext]
  rw [show min s.size s.size - a - j = s.size - (a + j) from by omega]
  rfl

def span (p : Nat → Bool) (s : ByteArray) : Nat → Nat → Nat
  | 0, i => i
  | k + 1, i => if p (bt s i) = true then span p s k (i + 1) else i

/-- How far the class goes from there. -/
def goes (p : Nat → Bool) (s : ByteArray) (i : Nat) : Nat := span p s (s.size - i) i

theorem goes_on {p : Nat → Bool} {s : ByteArray} {i : Nat} (h : i < s.size) (hp : p (bt s i) = true) : goes p s i = goes p s (i + 1) := by
  unfold goes
  obtain ⟨k, hk⟩ : ∃ k, s.size - i = k + 1 := ⟨s.size - i - 1, by omega⟩
  rw [hk, show s.size - (i + 1) = k from by omega]
  simp [span, hp]

theorem goes_stop {p : Nat → Bool} {s : ByteArray} {i : Nat} (hp : p (bt s i) = false) : goes p s i = i := by
  unfold goes
  cases s.size - i with
  | zero => rfl
  | succ k => simp [span, hp]

theorem goes_end {p : Nat → Bool} {s : ByteArray} {i : Nat} (h : s.size ≤ i) : goes p s i = i := by
  unfold goes
  rw [show s.size - i = 0 from by omega]
  rfl

theorem span_facts (p : Nat → Bool) (s : ByteArray) : ∀ k i, i ≤ span p s k i ∧ span p s k i ≤ i + k ∧ (∀ j, i ≤ j → j < span p s k i → p (bt s j) = true) ∧ (span p s k i < i + k → p (bt s (span p s k i)) = false) := by
  intro k
  induction k with
  | zero => intro i; exact ⟨Nat.le_refl _, Nat.le_refl _, (fun j h1 h2 => by simp [span] at h2; omega), fun h => by simp [span] at h⟩
  | succ k ih =>
    intro i
    by_cases hp : p (bt s i) = true
    · obtain ⟨h1, h2, h3, h4⟩ := ih (i + 1)
      simp only [span, hp, if_true]
      refine ⟨by omega, by omega, fun j hj hl => ?_, fun h => h4 (by omega)⟩
      rcases Nat.eq_or_lt_of_le hj with rfl | hj'
      · exact hp
      · exact h3 j hj' hl
    · simp only [span, hp, if_false, Bool.false_eq_true]
      refine ⟨Nat.le_refl _, by omega, fun j hj hl => ?_, fun _ => by simp⟩
      omega

theorem goes_ge (p : Nat → Bool) (s : ByteArray) (i : Nat) : i ≤ goes p s i := (span_facts p s _ i).1
theorem goes_le (p : Nat → Bool) (s : ByteArray) (i : Nat) (h : i ≤ s.size) : goes p s i ≤ s.size := by have := (span_facts p s (s.size - i) i).2.1; unfold goes; omega
theorem goes_all (p : Nat → Bool) (s : ByteArray) (i j : Nat) (h1 : i ≤ j) (h2 : j < goes p s i) : p (bt s j) = true := (span_facts p s _ i).2.2.1 j h1 h2
theorem goes_not (p : Nat → Bool) (s : ByteArray) (i : Nat) (h : goes p s i < s.size) : p (bt s (goes p s i)) = false := by
  rcases Nat.lt_or_ge i s.size with hi | hi
  · exact (span_facts p s (s.size - i) i).2.2.2 (by unfold goes at h; omega)
  · rw [goes_end hi] at h; omega

theorem goes_past (p : Nat → Bool) (s : ByteArray) (i K : Nat) (hK : i + K ≤ s.size) (h : ∀ j, j < K → p (bt s (i + j)) = true) : goes p s i = goes p s (i + K) := by
  induction K with
  | zero => rfl
  | succ K ih =>
    rw [ih (by omega) (fun j hj => h j (by omega)), goes_on (by omega) (h K (by omega))]
    rfl

theorem decode_low (s : ByteArray) (i : Nat) (h : bt s i < 128) : Utf8.decode s i = (bt s i, 1) := by
  rw [decode_at]
  unfold bt at h ⊢
  simp [decodeN, h]

theorem decodeN_high (n b0 b1 b2 b3 : Nat) (h : 128 ≤ b0) : 128 ≤ (decodeN n b0 b1 b2 b3).1 ∧ (1 < (decodeN n b0 b1 b2 b3).2 → 128 ≤ b1) ∧ (2 < (decodeN n b0 b1 b2 b3).2 → 128 ≤ b2) ∧ (3 < (decodeN n b0 b1 b2 b3).2 → 128 ≤ b3) ∧ (decodeN n b0 b1 b2 b3).2 ≤ 4 := by
  unfold decodeN
  repeat' split
  all_goals (refine ⟨?_, ?_, ?_, ?_, ?_⟩ <;> simp <;> omega)

theorem decode_high' (s : ByteArray) (i : Nat) (hi : i < s.size) (h : 128 ≤ bt s i) : 128 ≤ (Utf8.decode s i).1 ∧ 1 ≤ (Utf8.decode s i).2 ∧ i + (Utf8.decode s i).2 ≤ s.size ∧ ∀ j, j < (Utf8.decode s i).2 → 128 ≤ bt s (i + j) := by
  have hw := width_pos s i
  have hn := decodeN_le_n' (s.size - i) (s.get! i).toNat (s.get! (i + 1)).toNat (s.get! (i + 2)).toNat (s.get! (i + 3)).toNat (by omega)
  obtain ⟨h1, h2, h3, h4, h5⟩ := decodeN_high (s.size - i) (s.get! i).toNat (s.get! (i + 1)).toNat (s.get! (i + 2)).toNat (s.get! (i + 3)).toNat h
  rw [← decode_at] at hn h1 h2 h3 h4 h5
  refine ⟨h1, hw, by omega, fun j hj => ?_⟩
  match j, hj with
  | 0, _ => exact h
  | 1, hj => exact h2 hj
  | 2, hj => exact h3 hj
  | 3, hj => exact h4 hj
  | (j + 4), hj => omega

/-- A class in which all or none of what is above 127 is. -/
def Flat (p : Nat → Bool) (c : Bool) : Prop := ∀ n, 128 ≤ n → p n = c

theorem goes_rune {p : Nat → Bool} {c : Bool} (hp : Flat p c) {s : ByteArray} {i : Nat} (hi : i < s.size) (h : p (Utf8.decode s i).1 = true) : goes p s i = goes p s (i + (Utf8.decode s i).2) := by
  rcases Nat.lt_or_ge (bt s i) 128 with hb | hb
  · rw [decode_low s i hb] at h ⊢
    exact goes_on hi h
  · obtain ⟨h1, h2, h3, h4⟩ := decode_high' s i hi hb
    have hc : c = true := (hp _ h1).symm.trans h
    exact goes_past p s i _ h3 fun j hj => (hp _ (h4 j hj)).trans hc

theorem goes_rune_not {p : Nat → Bool} {c : Bool} (hp : Flat p c) {s : ByteArray} {i : Nat} (hi : i < s.size) (h : p (Utf8.decode s i).1 = false) : goes p s i = i := by
  rcases Nat.lt_or_ge (bt s i) 128 with hb | hb
  · rw [decode_low s i hb] at h
    exact goes_stop h
  · obtain ⟨h1, h2, h3, h4⟩ := decode_high' s i hi hb
    have hc : c = false := (hp _ h1).symm.trans h
    exact goes_stop ((hp _ hb).trans hc)

theorem decode_in (s : ByteArray) (i : Nat) (hi : i < s.size) : i + (Utf8.decode s i).2 ≤ s.size := by
  rcases Nat.lt_or_ge (bt s i) 128 with hb | hb
  · rw [decode_low s i hb]; omega
  · exact (decode_high' s i hi hb).2.2.1

def pBlank (n : Nat) : Bool := n == 9 || n == 10 || n == 13 || n == 32
def pLine (n : Nat) : Bool := n != 10
def pSmall (n : Nat) : Bool := decide (97 ≤ n) && decide (n ≤ 122)
def pCapital (n : Nat) : Bool := decide (65 ≤ n) && decide (n ≤ 90)
def pDigit (n : Nat) : Bool := decide (48 ≤ n) && decide (n ≤ 57)
def pName (n : Nat) : Bool := pSmall n || pCapital n || pDigit n || n == 95 || n == 64
def pIn (m n : Nat) : Bool := n != m && n != 92

theorem flat_blank : Flat pBlank false := by intro n h; simp [pBlank]; omega
theorem flat_line : Flat pLine true := by intro n h; simp [pLine]; omega
theorem flat_small : Flat pSmall false := by intro n h; simp [pSmall]; omega
theorem flat_capital : Flat pCapital false := by intro n h; simp [pCapital]; omega
theorem flat_digit : Flat pDigit false := by intro n h; simp [pDigit]; omega
theorem flat_name : Flat pName false := by intro n h; simp [pName, flat_small n h, flat_capital n h, flat_digit n h]; omega
theorem flat_in (m : Nat) (hm : m < 128) : Flat (pIn m) true := by intro n h; simp [pIn]; omega

theorem ext_ext (s : ByteArray) (a j : Nat) (ha : a ≤ s.size) (hj : j ≤ s.size - a) : (s.extract a s.size).extract 0 j = s.extract a (a + j) := by
  rw [ByteArray.extract_extract]
  simp
  congr 1
  omega
end Go.Proofs.YtdpfmmbfidknfaaGreatDoor


/- take: a scanner goes on over a class. -/
namespace Go.Proofs.YtdpfmmbfidknfaaGreatDoor
open Go.RowKit Go.Lib
attribute [local go_sem] store_float f64bits
attribute [local go_sem ↓] Go.wp_at_zero Go.wp_at_succ

/-- A scanner: its source, and where it is. -/
def Sc (w : World) (b : Nat) (s : ByteArray) (i : Nat) : Prop := Duo w b (.string s) (.int .i64 i)

def FnAt (g : Nat) (lb : Array Value) (p : Nat → Bool) (w : World) : Prop :=
  ∀ (W : World) (x : Nat), x ≤ 1114111 → Below w.heap.size w W → Calls Tryz.prog g (#[.int .i32 (x : Int)] ++ lb) W fun e W' => e = .returned (.bool (p x)) ∧ W' = W

set_option maxHeartbeats 1000000 in
set_option maxRecDepth 1000000 in
theorem take_any (g : Nat) (lb : Array Value) (eg : ∀ args w, (callFunc g args).run Tryz.prog w = .ok (.enter g args) w) (p : Nat → Bool) (c : Bool) (hf : Flat p c) (s : ByteArray) (i b : Nat) (hi : i ≤ s.size) (hs : s.size ≤ 65536) (w : World) (h : Sc w b s i) (hp : FnAt g lb p w) :
    Calls Tryz.prog 19 #[.pointer (some ⟨b, 0, none⟩), .func (.func g) #[] lb] w fun e w' => e = .returned (.string (s.extract i (goes p s i))) ∧ Sc w' b s (goes p s i) ∧ But (· = b) w w' := by
  have c0 := h.c0; have c1 := h.c1; have f1 := h.f1
  go_enter Tryz.func19, Tryz.ntmps19
  have h0 : (0 : Int) ≤ (i : Int) := by omega
  have h1 : (i : Int) ≤ (s.size : Int) := by omega
  go_wp2_with fail
  go_region_held3 (fun w' => w'.cell? ⟨b, 0, none⟩ = some (.string s) ∧ w'.cell? ⟨b, 1, none⟩ = some (.int .i64 i)) (go_keep) (fail)
  go_wp2_with fail
  have hb0 : Below w.heap.size w (w.drew.iter (s.extract i s.size) 0) := (Below.drew (Below.refl _ _)).alloc (Nat.le_refl _) _
  have hsz : (s.extract i s.size).size = s.size - i := by rw [size_ext]; omega
  have hit0 := World.iter_heap w.drew (s.extract i s.size) 0
  have hdec : ∀ j, Utf8.decode (s.extract i s.size) j = Utf8.decode s (i + j) := decode_ext s i
  have hcut : ∀ j, j ≤ s.size - i → (s.extract i s.size).extract 0 j = s.extract i (i + j) := fun j hj => ext_ext s i j hi hj
  obtain ⟨R, hR⟩ : ∃ R, s.extract i s.size = R := ⟨_, rfl⟩
  rw [hR] at hsz hit0 hb0 ⊢
  simp only [hR] at hdec hcut
  go_loopg [] (s.size - i) (fun gf wx => ∃ pos, wx.heap[w.heap.size]? = some (.stringIter R pos) ∧ Below w.heap.size w wx ∧ pos ≤ R.size ∧ goes p s (i + pos) = goes p s i ∧ R.size - pos ≤ gf)
  case atStart => exact ⟨0, hit0, hb0, Nat.zero_le _, rfl, by omega⟩
  case round =>
    obtain ⟨pos, hit, hbw, hps, hgo, hgf⟩ := hrel
    by_cases hlt : pos < R.size
    · obtain ⟨g', rfl⟩ : ∃ g', gk = g' + 1 := ⟨gk - 1, by omega⟩
      have hnx : ∀ ty, (Instr.next (.pointer (some ⟨w.heap.size, 0, none⟩)) true ty).run Tryz.prog wr = _ := fun ty => Lib.run_next_any_at wr w.heap.size R pos ty hit hlt
      have hin := decode_in s (i + pos) (by omega)
      have hwp := Lib.width_pos s (i + pos)
      have hle := Lib.rune_le s (i + pos)
      have hr1 := fun h => goes_rune (s := s) (i := i + pos) hf (by omega) h
      have hr2 := fun h => goes_rune_not (s := s) (i := i + pos) hf (by omega) h
      rw [hdec] at hnx
      obtain ⟨r, hr⟩ : ∃ r, (Utf8.decode s (i + pos)).1 = r := ⟨_, rfl⟩
      obtain ⟨K, hK⟩ : ∃ K, (Utf8.decode s (i + pos)).2 = K := ⟨_, rfl⟩
      rw [hr] at hnx hle hr1 hr2
      rw [hK] at hnx hin hwp hr1
      have hit2 := Lib.iterAt_heap wr w.heap.size R pos (pos + K) hit
      have hbw2 := Lib.below_iterAt hbw (k := w.heap.size) (Nat.le_refl _) R (pos + K)
      obtain ⟨W, hWd⟩ : ∃ W, wr.iterAt w.heap.size R (pos + K) = W := ⟨_, rfl⟩
      rw [hWd] at hnx hit2 hbw2
      have cS := hp W r hle hbw2
      have hD : Duo W b (.string s) (.int .i64 i) := h.keep hbw2
      have d0 := hD.c0; have d1 := hD.c1; have d2 := hD.f1
      clear hp hit hbw hr hK hWd c0 c1 f1
      cases hpr : p r <;> rw [hpr] at cS
      · have hgs := hr2 hpr
        have hcp := hcut pos (by omega)
        have ha : (0 : Int) ≤ (pos : Int) := by omega
        have hb : (pos : Int) ≤ (R.size : Int) := by omega
        have hw : wrap64 ((i : Int) + (pos : Int)) = ((i + pos : Nat) : Int) := by unfold wrap64; omega
        clear hr1 hr2 hcut hdec
        go_wp2_with (go_at_fn g; go_must (refine cS.mono ?_; rintro e W' ⟨rfl, hW'⟩; obtain rfl := hW'.symm))
        have hg : goes p s i = i + pos := hgo.symm.trans hgs
        go_ret
        refine ⟨by rw [hg]; rfl, ?_, ?_⟩
        · rw [hg]
          have := hD.set1 (.int .i64 ((i : Int) + (pos : Int)))
          simpa [Sc] using this
        · exact (But.of_below (S := (· = b)) hbw2).setCell (fun _ => rfl) _
      · have hgs := hr1 hpr
        clear hr1 hr2 hcut hdec
        go_wp2_with (go_at_fn g; go_must (refine cS.mono ?_; rintro e W' ⟨rfl, hW'⟩; obtain rfl := hW'.symm))
        go_roundg g'
        case measure => omega
        case rel => exact ⟨pos + K, hit2, hbw2, by omega, by rw [← Nat.add_assoc, ← hgs]; exact hgo, by omega⟩
    · obtain rfl : pos = R.size := by omega
      have hnx : ∀ ty, (Instr.next (.pointer (some ⟨w.heap.size, 0, none⟩)) true ty).run Tryz.prog wr = _ := fun ty => Lib.run_next_end_at wr w.heap.size R R.size ty hit hlt
      have hD : Duo wr b (.string s) (.int .i64 i) := h.keep hbw
      have d0 := hD.c0; have d1 := hD.c1; have d2 := hD.f1
      clear hp c0 c1 f1
      go_wp2_with fail
      have hg : goes p s i = s.size := by rw [← hgo, goes_end (by omega)]; omega
      go_ret
      refine ⟨by rw [hg, hR]; rfl, ?_, ?_⟩
      · rw [hg]
        exact hD.set1 (.int .i64 (s.size : Int))
      · exact (But.of_below (S := (· = b)) hbw).setCell (fun _ => rfl) _
end Go.Proofs.YtdpfmmbfidknfaaGreatDoor


