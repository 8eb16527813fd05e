import Derived.Test.YthdljnakmekhkaaGreatDoorG00
import Derived.Lib.OthersKept
import Derived.Deep.LoopGhost
import Derived.Deep.DeepMust
import Derived.RegionTactic
import Derived.Deep.RegionHeld3
import Derived.Deep.DrawnRows
import Derived.Shelf.Abstract
import Derived.Shelf.Strings.Builder1
import Derived.Shelf.Strings.BuilderF
import Derived.Shelf.Strings.BuilderK
import Derived.Shelf.LaysM
import Derived.Shelf.Strconv.Clone
import Derived.Shelf.Strings.Prefix
import Derived.Shelf.Unicode.DecodeSlow
import Derived.Shelf.Unicode.DecodeAny
import Derived.Test.YthdljnakmekhkaaGreatDoorProg
/- take: a scanner goes on over a class. -/
namespace Go.Proofs.YthdljnakmekhkaaGreatDoor
open Go.RowKit Go.Lib
attribute [local go_sem] store_float f64bits
attribute [local go_sem ↓] Go.wp_at_zero Go.wp_at_succ

/-- A scanner: its source, and where it is. -/
def Sc (w : World) (b : Nat) (s : ByteArray) (i : Nat) : Prop := Duo w b (.string s) (.int .i64 i)

def FnAt (g : Nat) (lb : Array Value) (p : Nat → Bool) (w : World) : Prop :=
  ∀ (W : World) (x : Nat), x ≤ 1114111 → Below w.heap.size w W → Calls Tryz.prog g (#[.int .i32 (x : Int)] ++ lb) W fun e W' => e = .returned (.bool (p x)) ∧ W' = W

set_option maxHeartbeats 1000000 in
set_option maxRecDepth 1000000 in
theorem take_any (g : Nat) (lb : Array Value) (eg : ∀ args w, (callFunc g args).run Tryz.prog w = .ok (.enter g args) w) (p : Nat → Bool) (c : Bool) (hf : Flat p c) (s : ByteArray) (i b : Nat) (hi : i ≤ s.size) (hs : s.size ≤ 65536) (w : World) (h : Sc w b s i) (hp : FnAt g lb p w) :
    Calls Tryz.prog 33 #[.pointer (some ⟨b, 0, none⟩), .func (.func g) #[] lb] w fun e w' => e = .returned (.string (s.extract i (goes p s i))) ∧ Sc w' b s (goes p s i) ∧ But (· = b) w w' := by
  have c0 := h.c0; have c1 := h.c1; have f1 := h.f1
  go_enter Tryz.func33, Tryz.ntmps33
  have h0 : (0 : Int) ≤ (i : Int) := by omega
  have h1 : (i : Int) ≤ (s.size : Int) := by omega
  go_wp2_with fail
  go_region_held3 (fun w' => w'.cell? ⟨b, 0, none⟩ = some (.string s) ∧ w'.cell? ⟨b, 1, none⟩ = some (.int .i64 i)) (go_keep) (fail)
  go_wp2_with fail
  have hb0 : Below w.heap.size w (w.drew.iter (s.extract i s.size) 0) := (Below.drew (Below.refl _ _)).alloc (Nat.le_refl _) _
  have hsz : (s.extract i s.size).size = s.size - i := by rw [size_ext]; omega
  have hit0 := World.iter_heap w.drew (s.extract i s.size) 0
  have hdec : ∀ j, Utf8.decode (s.extract i s.size) j = Utf8.decode s (i + j) := decode_ext s i
  have hcut : ∀ j, j ≤ s.size - i → (s.extract i s.size).extract 0 j = s.extract i (i + j) := fun j hj => ext_ext s i j hi hj
  obtain ⟨R, hR⟩ : ∃ R, s.extract i s.size = R := ⟨_, rfl⟩
  rw [hR] at hsz hit0 hb0 ⊢
  simp only [hR] at hdec hcut
  go_loopg [] (s.size - i) (fun gf wx => ∃ pos, wx.heap[w.heap.size]? = some (.stringIter R pos) ∧ Below w.heap.size w wx ∧ pos ≤ R.size ∧ goes p s (i + pos) = goes p s i ∧ R.size - pos ≤ gf)
  case atStart => exact ⟨0, hit0, hb0, Nat.zero_le _, rfl, by omega⟩
  case round =>
    obtain ⟨pos, hit, hbw, hps, hgo, hgf⟩ := hrel
    by_cases hlt : pos < R.size
    · obtain ⟨g', rfl⟩ : ∃ g', gk = g' + 1 := ⟨gk - 1, by omega⟩
      have hnx : ∀ ty, (Instr.next (.pointer (some ⟨w.heap.size, 0, none⟩)) true ty).run Tryz.prog wr = _ := fun ty => Lib.run_next_any_at wr w.heap.size R pos ty hit hlt
      have hin := decode_in s (i + pos) (by omega)
      have hwp := Lib.width_pos s (i + pos)
      have hle := Lib.rune_le s (i + pos)
      have hr1 := fun h => goes_rune (s := s) (i := i + pos) hf (by omega) h
      have hr2 := fun h => goes_rune_not (s := s) (i := i + pos) hf (by omega) h
      rw [hdec] at hnx
      obtain ⟨r, hr⟩ : ∃ r, (Utf8.decode s (i + pos)).1 = r := ⟨_, rfl⟩
      obtain ⟨K, hK⟩ : ∃ K, (Utf8.decode s (i + pos)).2 = K := ⟨_, rfl⟩
      rw [hr] at hnx hle hr1 hr2
      rw [hK] at hnx hin hwp hr1
      have hit2 := Lib.iterAt_heap wr w.heap.size R pos (pos + K) hit
      have hbw2 := Lib.below_iterAt hbw (k := w.heap.size) (Nat.le_refl _) R (pos + K)
      obtain ⟨W, hWd⟩ : ∃ W, wr.iterAt w.heap.size R (pos + K) = W := ⟨_, rfl⟩
      rw [hWd] at hnx hit2 hbw2
      have cS := hp W r hle hbw2
      have hD : Duo W b (.string s) (.int .i64 i) := h.keep hbw2
      have d0 := hD.c0; have d1 := hD.c1; have d2 := hD.f1
      clear hp hit hbw hr hK hWd c0 c1 f1
      cases hpr : p r <;> rw [hpr] at cS
      · have hgs := hr2 hpr
        have hcp := hcut pos (by omega)
        have ha : (0 : Int) ≤ (pos : Int) := by omega
        have hb : (pos : Int) ≤ (R.size : Int) := by omega
        have hw : wrap64 ((i : Int) + (pos : Int)) = ((i + pos : Nat) : Int) := by unfold wrap64; omega
        clear hr1 hr2 hcut hdec
        go_wp2_with (go_at_fn g; go_must (refine cS.mono ?_; rintro e W' ⟨rfl, hW'⟩; obtain rfl := hW'.symm))
        have hg : goes p s i = i + pos := hgo.symm.trans hgs
        go_ret
        refine ⟨by rw [hg]; rfl, ?_, ?_⟩
        · rw [hg]
          have := hD.set1 (.int .i64 ((i : Int) + (pos : Int)))
          simpa [Sc] using this
        · exact (But.of_below (S := (· = b)) hbw2).setCell (fun _ => rfl) _
      · have hgs := hr1 hpr
        clear hr1 hr2 hcut hdec
        go_wp2_with (go_at_fn g; go_must (refine cS.mono ?_; rintro e W' ⟨rfl, hW'⟩; obtain rfl := hW'.symm))
        go_roundg g'
        case measure => omega
        case rel => exact ⟨pos + K, hit2, hbw2, by omega, by rw [← Nat.add_assoc, ← hgs]; exact hgo, by omega⟩
    · obtain rfl : pos = R.size := by omega
      have hnx : ∀ ty, (Instr.next (.pointer (some ⟨w.heap.size, 0, none⟩)) true ty).run Tryz.prog wr = _ := fun ty => Lib.run_next_end_at wr w.heap.size R R.size ty hit hlt
      have hD : Duo wr b (.string s) (.int .i64 i) := h.keep hbw
      have d0 := hD.c0; have d1 := hD.c1; have d2 := hD.f1
      clear hp c0 c1 f1
      go_wp2_with fail
      have hg : goes p s i = s.size := by rw [← hgo, goes_end (by omega)]; omega
      go_ret
      refine ⟨by rw [hg, hR]; rfl, ?_, ?_⟩
      · rw [hg]
        exact hD.set1 (.int .i64 (s.size : Int))
      · exact (But.of_below (S := (· = b)) hbw).setCell (fun _ => rfl) _
end Go.Proofs.YthdljnakmekhkaaGreatDoor


/- Contracts of the library (Mul64, FormatInt at base 10, Repeat), laid at this program by the kit's own tool, in plain words. -/
namespace Go.Proofs
open Go.Shelf
def Tryz.lays169_ren : Go.Shelf.Ren := ⟨fun | 169 => 97 | n => n, fun | 70 => 113 | 9 => 9 | 0 => 0 | 72 => 115 | 37 => 34 | 127 => 130 | 3 => 3 | 5 => 5 | n => n, fun | n => n⟩
theorem Tryz.lays169 : Go.Proofs.Lays.n169 Tryz.prog Tryz.lays169_ren := {
  mixed := by kernel_rfl
  f169 := Tryz.func97.trans (congrArg some (by kernel_rfl))
  t0 := Tryz.underlying0
  a0 := Tryz.isAgg0
  z0 := Tryz.sizeOf0
  v0 := Tryz.zeroValue0
  t3 := Tryz.underlying3
  a3 := Tryz.isAgg3
  z3 := Tryz.sizeOf3
  v3 := Tryz.zeroValue3
  t9 := Tryz.underlying9
  a9 := Tryz.isAgg9
  z9 := Tryz.sizeOf9
  v9 := Tryz.zeroValue9
  t37 := Tryz.underlying34
  a37 := Tryz.isAgg34
  z37 := Tryz.sizeOf34
  v37 := Tryz.zeroValue34
  t70 := Tryz.underlying113
  a70 := Tryz.isAgg113
  z70 := Tryz.sizeOf113
  v70 := Tryz.zeroValue113
  t72 := Tryz.underlying115
  a72 := Tryz.isAgg115
  z72 := Tryz.sizeOf115
  v72 := Tryz.zeroValue115
  t127 := Tryz.underlying130
  a127 := Tryz.isAgg130
  z127 := Tryz.sizeOf130
  v127 := Tryz.zeroValue130 }
theorem Tryz.Builder_Extra_169 : Builder.Extra Tryz.prog Tryz.lays169_ren := {
  sizeBuilder := by kernel_rfl
  liesBuilder := by kernel_rfl
  t5 := Tryz.underlying5
  a5 := Tryz.isAgg5
  z5 := Tryz.sizeOf5
  v5 := Tryz.zeroValue5
  infoByte := by kernel_rfl
  cellsByte := by kernel_rfl
  sizeByte := by kernel_rfl
  neB5 := by decide }
open Go.RowKit in
theorem Tryz.Builder_String_any_k (B b : Nat) (l : List UInt8) (w : World) (h : Lib.IsBuilderF 115 5 B b (Lib.byteCells l) w) (hBw : B ≤ w.heap.size) :
    Calls Tryz.prog 97 #[.pointer (some ⟨b, 0, none⟩)] w fun e w' => e = .returned (.string ⟨l.toArray⟩) ∧ (Lib.IsBuilderF 115 5 B b (Lib.byteCells l) w' ∧ Below B w w' ∧ Lib.OthersKept 5 (some b) w w') := Any.Builder_String_any_k Tryz.lays169 Tryz.Builder_Extra_169 B b l w h hBw
def Tryz.laysM316_ren : Go.Shelf.Ren := ⟨fun | 316 => 109 | n => n, fun | 9 => 9 | 3 => 3 | 4 => 4 | 37 => 34 | 0 => 0 | 127 => 130 | 5 => 5 | n => n, fun | n => n⟩
theorem Tryz.laysM316 : Go.Proofs.LaysM.n316 Tryz.prog Tryz.laysM316_ren := {
  mixed := by kernel_rfl
  f316 := Tryz.func109.trans (congrArg some (by kernel_rfl))
  t0 := Tryz.underlying0
  a0 := Tryz.isAgg0
  z0 := Tryz.sizeOf0
  v0 := Tryz.zeroValue0
  t3 := Tryz.underlying3
  a3 := Tryz.isAgg3
  z3 := Tryz.sizeOf3
  v3 := Tryz.zeroValue3
  t4 := Tryz.underlying4
  a4 := Tryz.isAgg4
  z4 := Tryz.sizeOf4
  v4 := Tryz.zeroValue4
  t9 := Tryz.underlying9
  a9 := Tryz.isAgg9
  z9 := Tryz.sizeOf9
  v9 := Tryz.zeroValue9
  t37 := Tryz.underlying34
  a37 := Tryz.isAgg34
  z37 := Tryz.sizeOf34
  v37 := Tryz.zeroValue34
  t127 := Tryz.underlying130
  a127 := Tryz.isAgg130
  z127 := Tryz.sizeOf130
  v127 := Tryz.zeroValue130
  t5 := Tryz.underlying5
  a5 := Tryz.isAgg5
  z5 := Tryz.sizeOf5
  v5 := Tryz.zeroValue5
  i0 := by kernel_rfl
  i3 := by kernel_rfl
  i4 := by kernel_rfl
  i5 := by kernel_rfl
  i9 := by kernel_rfl
  i37 := by kernel_rfl
  i127 := by kernel_rfl }
open Go.RowKit in
theorem Tryz.stringslite_Clone (s : ByteArray) (w : World) (hlim : s.size ≤ 281474976710656) :
    Calls Tryz.prog 109 #[.string s] w fun e w' => e = .returned (.string s) ∧ Below w.heap.size w w' := Any.stringslite_Clone Tryz.laysM316 s w hlim
def Tryz.lays99_ren : Go.Shelf.Ren := ⟨fun | 99 => 75 | 206 => 100 | n => n, fun | 9 => 9 | 4 => 4 | 3 => 3 | n => n, fun | n => n⟩
theorem Tryz.lays99 : Go.Proofs.Lays.n99 Tryz.prog Tryz.lays99_ren := {
  mixed := by kernel_rfl
  f99 := Tryz.func75.trans (congrArg some (by kernel_rfl))
  f206 := Tryz.func100.trans (congrArg some (by kernel_rfl))
  t3 := Tryz.underlying3
  a3 := Tryz.isAgg3
  z3 := Tryz.sizeOf3
  v3 := Tryz.zeroValue3
  t4 := Tryz.underlying4
  a4 := Tryz.isAgg4
  z4 := Tryz.sizeOf4
  v4 := Tryz.zeroValue4
  t9 := Tryz.underlying9
  a9 := Tryz.isAgg9
  z9 := Tryz.sizeOf9
  v9 := Tryz.zeroValue9 }
open Go.RowKit Go.Lib in
theorem Tryz.strings_HasPrefix (s p : ByteArray) (w : World) :
    Calls Tryz.prog 75 #[.string s, .string p] w fun e w' => e = .returned (.bool (Lib.hasPrefix s.data.toList p.data.toList)) ∧ w' = w := Any.strings_HasPrefix Tryz.lays99 s p w
def Tryz.lays197_ren : Go.Shelf.Ren := ⟨fun | 197 => 88 | 260 => 108 | n => n, fun | 9 => 9 | 21 => 21 | 3 => 3 | 4 => 4 | 5 => 5 | 105 => 107 | 119 => 132 | 0 => 0 | 46 => 100 | 139 => 135 | 138 => 134 | n => n, fun | 3 => 5 | 4 => 6 | n => n⟩
theorem Tryz.lays197 : Go.Proofs.Lays.n197 Tryz.prog Tryz.lays197_ren := {
  mixed := by kernel_rfl
  f197 := Tryz.func88.trans (congrArg some (by kernel_rfl))
  f260 := Tryz.func108.trans (congrArg some (by kernel_rfl))
  t0 := Tryz.underlying0
  a0 := Tryz.isAgg0
  z0 := Tryz.sizeOf0
  v0 := Tryz.zeroValue0
  t3 := Tryz.underlying3
  a3 := Tryz.isAgg3
  z3 := Tryz.sizeOf3
  v3 := Tryz.zeroValue3
  t4 := Tryz.underlying4
  a4 := Tryz.isAgg4
  z4 := Tryz.sizeOf4
  v4 := Tryz.zeroValue4
  t5 := Tryz.underlying5
  a5 := Tryz.isAgg5
  z5 := Tryz.sizeOf5
  v5 := Tryz.zeroValue5
  t9 := Tryz.underlying9
  a9 := Tryz.isAgg9
  z9 := Tryz.sizeOf9
  v9 := Tryz.zeroValue9
  t21 := Tryz.underlying21
  a21 := Tryz.isAgg21
  z21 := Tryz.sizeOf21
  v21 := Tryz.zeroValue21
  t46 := Tryz.underlying100
  a46 := Tryz.isAgg100
  z46 := Tryz.sizeOf100
  v46 := Tryz.zeroValue100
  t105 := Tryz.underlying107
  a105 := Tryz.isAgg107
  z105 := Tryz.sizeOf107
  v105 := Tryz.zeroValue107
  t119 := Tryz.underlying132
  a119 := Tryz.isAgg132
  z119 := Tryz.sizeOf132
  t138 := Tryz.underlying134
  a138 := Tryz.isAgg134
  z138 := Tryz.sizeOf134
  v138 := Tryz.zeroValue134
  t139 := Tryz.underlying135
  a139 := Tryz.isAgg135
  z139 := Tryz.sizeOf135
  v139 := Tryz.zeroValue135
  g3 := by kernel_rfl
  g4 := by kernel_rfl }
open Go.RowKit Go.Lib in
theorem Tryz.utf8_DecodeRuneInString (s : ByteArray) (w : World) (hT : Lib.Utf8Tabs 5 6 w) :
    Calls Tryz.prog 88 #[.string s] w fun e w' => e = .returned (.tuple #[.int .i32 (Lib.decodeGo s).1, .int .i64 (Lib.decodeGo s).2]) ∧ Below w.heap.size w w' := Any.utf8_DecodeRuneInString Tryz.lays197 s w hT
end Go.Proofs


/- next, peek, and the classes. -/
namespace Go.Proofs.YthdljnakmekhkaaGreatDoor
open Go.RowKit Go.Lib
attribute [local go_sem] store_float f64bits
attribute [local go_sem ↓] Go.wp_at_zero Go.wp_at_succ

/-- The rune that stands there (-1: none), and its width. -/
def nxR (s : ByteArray) (i : Nat) : Int := if i < s.size then ((Utf8.decode s i).1 : Int) else -1
def nxK (s : ByteArray) (i : Nat) : Nat := if i < s.size then (Utf8.decode s i).2 else 0

theorem nx_end {s : ByteArray} {i : Nat} (h : s.size ≤ i) : nxR s i = -1 ∧ nxK s i = 0 := by
  have h1 : ¬ i < s.size := by omega
  simp [nxR, nxK, h1]
theorem nx_low {s : ByteArray} {i : Nat} (h : i < s.size) (hb : bt s i < 128) : nxR s i = (bt s i : Int) ∧ nxK s i = 1 := by
  simp [nxR, nxK, h, decode_low s i hb]
theorem nx_high {s : ByteArray} {i : Nat} (h : i < s.size) (hb : 128 ≤ bt s i) : 128 ≤ nxR s i ∧ i + nxK s i ≤ s.size ∧ 1 ≤ nxK s i := by
  obtain ⟨h1, h2, h3, _⟩ := decode_high' s i h hb
  simp only [nxR, nxK, h, if_true]
  omega
theorem nx_in (s : ByteArray) (i : Nat) (h : i ≤ s.size) : i + nxK s i ≤ s.size := by
  unfold nxK
  split
  · exact decode_in s i (by assumption)
  · omega
abbrev G1 : Nat := 5
abbrev G2 : Nat := 6

set_option maxHeartbeats 1000000 in
set_option maxRecDepth 1000000 in
theorem next_any (s : ByteArray) (i b : Nat) (hi : i ≤ s.size) (hs : s.size ≤ 65536) (w : World) (h : Sc w b s i) (hT : Lib.Utf8Tabs G1 G2 w) :
    Calls Tryz.prog 65 #[.pointer (some ⟨b, 0, none⟩)] w fun e w' => e = .returned (.int .i32 (nxR s i)) ∧ Sc w' b s (i + nxK s i) ∧ But (· = b) w w' := by
  have c0 := h.c0; have c1 := h.c1; have f1 := h.f1
  have hdg : Lib.decodeGo (s.extract i s.size) = if i < s.size then Utf8.decode s i else (65533, 0) := by
    unfold Lib.decodeGo
    rw [size_ext, decode_ext]
    by_cases hl : i < s.size
    · rw [if_neg (by omega), if_pos hl]; rfl
    · rw [if_pos (by omega), if_neg hl]
  have cD := Tryz.utf8_DecodeRuneInString (s.extract i s.size) w.drew hT
  rw [hdg] at cD
  have hin := nx_in s i hi
  have h0 : (0 : Int) ≤ (i : Int) := by omega
  have h1 : (i : Int) ≤ (s.size : Int) := by omega
  by_cases hl : i < s.size
  · have eR : nxR s i = ((Utf8.decode s i).1 : Int) := by simp [nxR, hl]
    have eK : nxK s i = (Utf8.decode s i).2 := by simp [nxK, hl]
    have hk := Lib.width_pos s i
    rw [if_pos hl] at cD
    rw [eK] at hin
    rw [eR, eK]
    obtain ⟨r, hr⟩ : ∃ r, (Utf8.decode s i).1 = r := ⟨_, rfl⟩
    obtain ⟨K, hK⟩ : ∃ K, (Utf8.decode s i).2 = K := ⟨_, rfl⟩
    rw [hr, hK] at cD ⊢
    rw [hK] at hin hk
    have hz : ((K : Int) == 0) = false := by simp; omega
    have hw : wrap64 ((i : Int) + (K : Int)) = (i : Int) + (K : Int) := by unfold wrap64; omega
    clear hdg hr hK eR eK
    go_enter Tryz.func65, Tryz.ntmps65
    go_wp2_with fail
    go_region_held3 (fun w' => w'.cell? ⟨b, 0, none⟩ = some (.string s) ∧ w'.cell? ⟨b, 1, none⟩ = some (.int .i64 i))
      (first | with_reducible exact ⟨z0, z1⟩ | go_keep)
      (first | (go_at_call 88; refine cD.mono ?_; rintro e wz ⟨rfl, hbz⟩; have HBZ := hidb (undrew hbz); have HDZ := hidb (Duo.keep h HBZ.out); have z0 := HDZ.out.c0; have z1 := HDZ.out.c1; have zf := HDZ.out.f1))
    go_wp2_with fail
    go_ret
    refine ⟨rfl, ?_, (But.of_below (S := (· = b)) HBZ.out).setCell (fun _ => rfl) _⟩
    have := HDZ.out.set1 (.int .i64 ((i : Int) + (K : Int)))
    simpa [Sc] using this
  · have e2 := nx_end (s := s) (i := i) (by omega)
    rw [if_neg hl] at cD
    rw [e2.1, e2.2]
    clear hdg e2 hin
    go_enter Tryz.func65, Tryz.ntmps65
    go_wp2_with fail
    go_region_held3 (fun w' => w'.cell? ⟨b, 0, none⟩ = some (.string s) ∧ w'.cell? ⟨b, 1, none⟩ = some (.int .i64 i))
      (first | with_reducible exact ⟨z0, z1⟩ | go_keep)
      (first | (go_at_call 88; refine cD.mono ?_; rintro e wz ⟨rfl, hbz⟩; have HBZ := hidb (undrew hbz); have HDZ := hidb (Duo.keep h HBZ.out); have z0 := HDZ.out.c0; have z1 := HDZ.out.c1; have zf := HDZ.out.f1))
    go_wp2_with fail
    go_ret
    exact ⟨rfl, HDZ.out, But.of_below HBZ.out⟩

theorem Utf8Tabs_but {S : Nat → Prop} {w w' : World} (h : Lib.Utf8Tabs G1 G2 w) (hb : But S w w') (h1 : ¬ S G1) (h2 : ¬ S G2) : Lib.Utf8Tabs G1 G2 w' := by
  have lt : ∀ {a : Addr} {v : Value}, w.cell? a = some v → a.block < w.heap.size := fun {a v} hc => by
    rcases Nat.lt_or_ge a.block w.heap.size with h' | h'
    · exact h'
    · simp [World.cell?, Array.getElem?_eq_none h'] at hc
  exact ⟨fun c hc => (hb.cell (lt (h.1 c hc)) h1).trans (h.1 c hc), fun i hi => ⟨(hb.cell (lt (h.2 i hi).1) h2).trans (h.2 i hi).1, (hb.cell (lt (h.2 i hi).2) h2).trans (h.2 i hi).2⟩⟩

set_option maxHeartbeats 1000000 in
set_option maxRecDepth 1000000 in
theorem peek_any (s : ByteArray) (i b : Nat) (hi : i ≤ s.size) (hs : s.size ≤ 65536) (w : World) (h : Sc w b s i) (hT : Lib.Utf8Tabs G1 G2 w) :
    Calls Tryz.prog 35 #[.pointer (some ⟨b, 0, none⟩)] w fun e w' => e = .returned (.int .i32 (nxR s i)) ∧ Below w.heap.size w w' := by
  have c0 := h.c0; have c1 := h.c1
  have hal : Below w.heap.size w (w.alloc (.cells #[.string s, .int .i64 i] 55)) := (Below.refl _ _).alloc (Nat.le_refl _) _
  have cN := next_any s i w.heap.size hi hs _ (Duo.new w 55 (.string s) (.int .i64 i)) (Utf8Tabs_below hT hal)
  go_enter Tryz.func35, Tryz.ntmps35
  go_wp2_with (go_at_call 65; refine cN.mono ?_; rintro e w' ⟨rfl, hsc, hbut⟩)
  go_ret
  exact ⟨rfl, hal.trans (hbut.below (by simp) (fun k hk => by omega))⟩

def zSmall (r : Int) : Bool := decide (97 ≤ r) && decide (r ≤ 122)
def zCapital (r : Int) : Bool := decide (65 ≤ r) && decide (r ≤ 90)
def zDigit (r : Int) : Bool := decide (48 ≤ r) && decide (r ≤ 57)

theorem zSmall_nat (n : Nat) : zSmall n = pSmall n := by simp only [zSmall, pSmall]; congr 1 <;> (apply decide_eq_decide.2; omega)
theorem zCapital_nat (n : Nat) : zCapital n = pCapital n := by simp only [zCapital, pCapital]; congr 1 <;> (apply decide_eq_decide.2; omega)
theorem zDigit_nat (n : Nat) : zDigit n = pDigit n := by simp only [zDigit, pDigit]; congr 1 <;> (apply decide_eq_decide.2; omega)

theorem isSmall_any (r : Int) (w : World) : Calls Tryz.prog 36 #[.int .i32 r] w fun e w' => e = .returned (.bool (zSmall r)) ∧ w' = w := by
  unfold zSmall
  by_cases h1 : 97 ≤ r <;> by_cases h2 : r ≤ 122 <;> (go_enter Tryz.func36, Tryz.ntmps36; go_wp2; go_ret; refine ⟨?_, rfl⟩; simp [h1, h2])
theorem isCapital_any (r : Int) (w : World) : Calls Tryz.prog 37 #[.int .i32 r] w fun e w' => e = .returned (.bool (zCapital r)) ∧ w' = w := by
  unfold zCapital
  by_cases h1 : 65 ≤ r <;> by_cases h2 : r ≤ 90 <;> (go_enter Tryz.func37, Tryz.ntmps37; go_wp2; go_ret; refine ⟨?_, rfl⟩; simp [h1, h2])
theorem isDigit_any (r : Int) (w : World) : Calls Tryz.prog 38 #[.int .i32 r] w fun e w' => e = .returned (.bool (zDigit r)) ∧ w' = w := by
  unfold zDigit
  by_cases h1 : 48 ≤ r <;> by_cases h2 : r ≤ 57 <;> (go_enter Tryz.func38, Tryz.ntmps38; go_wp2; go_ret; refine ⟨?_, rfl⟩; simp [h1, h2])
theorem isBlank_any (n : Nat) (w : World) : Calls Tryz.prog 34 #[.int .i32 (n : Int)] w fun e w' => e = .returned (.bool (pBlank n)) ∧ w' = w := by
  unfold pBlank
  go_enter Tryz.func34, Tryz.ntmps34
  go_wp2
  all_goals (go_ret; refine ⟨?_, rfl⟩; simp_all)
  all_goals (first | omega | (rw [Bool.eq_iff_iff]; simp; omega))
theorem isInLine_any (n : Nat) (w : World) : Calls Tryz.prog 39 #[.int .i32 (n : Int)] w fun e w' => e = .returned (.bool (pLine n)) ∧ w' = w := by
  unfold pLine
  go_enter Tryz.func39, Tryz.ntmps39
  go_wp2
  all_goals (go_ret; refine ⟨?_, rfl⟩; simp_all)
  all_goals (first | omega | (rw [Bool.eq_iff_iff]; simp; omega))
theorem isInName_any (n : Nat) (w : World) : Calls Tryz.prog 90 #[.int .i32 (n : Int)] w fun e w' => e = .returned (.bool (pName n)) ∧ w' = w := by
  unfold pName
  cases h1 : pSmall n <;> cases h2 : pCapital n <;> cases h3 : pDigit n
  all_goals (go_enter Tryz.func90, Tryz.ntmps90)
  all_goals (go_wp2_with (first | (go_at_call 36; refine (isSmall_any _ _).mono ?_; rintro e w' ⟨rfl, rfl⟩; rw [zSmall_nat, h1]) | (go_at_call 37; refine (isCapital_any _ _).mono ?_; rintro e w' ⟨rfl, rfl⟩; rw [zCapital_nat, h2]) | (go_at_call 38; refine (isDigit_any _ _).mono ?_; rintro e w' ⟨rfl, rfl⟩; rw [zDigit_nat, h3])))
  all_goals (go_ret; refine ⟨?_, rfl⟩; simp_all)
  all_goals (first | omega | (rw [Bool.eq_iff_iff]; simp; omega))
end Go.Proofs.YthdljnakmekhkaaGreatDoor


/- Kept words, names, atoms, words, variables. -/
namespace Go.Proofs.YthdljnakmekhkaaGreatDoor
open Go.RowKit Go.Lib
attribute [local go_sem] store_float f64bits
attribute [local go_sem ↓] Go.wp_at_zero Go.wp_at_succ

def keptL : List (List UInt8) := [[97, 102, 116, 101, 114], [97, 110, 100, 97, 108, 115, 111], [98, 101, 103, 105, 110], [99, 97, 115, 101], [99, 97, 116, 99, 104], [100, 105, 118], [101, 110, 100], [102, 117, 110], [110, 111, 116], [111, 102], [111, 114, 101, 108, 115, 101], [114, 101, 99, 101, 105, 118, 101], [114, 101, 109], [116, 114, 121], [119, 104, 101, 110]]

def kept (s : ByteArray) : Bool := keptL.any fun k => s.data.toList == k

set_option maxHeartbeats 1000000 in
theorem kept_any (s : ByteArray) (w : World) : Calls Tryz.prog 67 #[.string s] w fun e w' => e = .returned (.bool (kept s)) ∧ w' = w := by
  unfold kept keptL
  simp only [← ByteArray.toList_eq]
  go_enter Tryz.func67, Tryz.ntmps67
  go_wp2
  all_goals (go_ret; refine ⟨?_, rfl⟩; simp_all)

set_option maxHeartbeats 1000000 in
theorem refKept_any (s : ByteArray) (w : World) : Calls Tryz.prog 81 #[.string s] w fun e w' => e = .returned (.bool (kept s)) ∧ w' = w := by
  unfold kept keptL
  simp only [← ByteArray.toList_eq]
  go_enter Tryz.func81, Tryz.ntmps81
  go_wp2
  all_goals (go_ret; refine ⟨?_, rfl⟩; simp_all)

theorem refKept5_any (s : ByteArray) (w : World) : Calls Tryz.prog 55 #[.string s] w fun e w' => e = .returned (.bool (kept s)) ∧ w' = w := by
  go_enter Tryz.func55, Tryz.ntmps55
  go_wp2_with (go_at_call 81; refine (refKept_any _ _).mono ?_; rintro e w' ⟨rfl, rfl⟩)
  go_ret
  exact ⟨rfl, rfl⟩

theorem atom_any (s : ByteArray) (hs : s.size ≤ 65536) (w : World) : Calls Tryz.prog 68 #[.string s] w fun e w' => e = .returned (if 64 < s.size then .tuple #[.agg #[.int .i64 (0), .string (⟨#[]⟩), .int .i64 (0), .float .f64 (0), .int .i64 (0)], .int .i64 23] else .tuple #[.agg #[.int .i64 (1), .string (s), .int .i64 (0), .float .f64 (0), .int .i64 (0)], .int .i64 0]) ∧ Below w.heap.size w w' := by
  by_cases h : 64 < s.size
  · have h1 : (64 : Int) < (s.size : Int) := by omega
    rw [if_pos h]
    go_enter Tryz.func68, Tryz.ntmps68
    go_wp2
    exact bodyPost_ret (v := .tuple #[.agg #[.int .i64 (0), .string (⟨#[]⟩), .int .i64 (0), .float .f64 (0), .int .i64 (0)], .int .i64 23]) (by simp [results, Tryz.results68, go_sem]) rfl ⟨rfl, by (repeat (first | exact Below.refl _ _ | assumption | refine Below.drew ?_ | refine below_drewN ?_ _ | refine Below.setCell ?_ (by simp) _ | refine Below.alloc ?_ (by (first | exact Nat.le_refl _ | (simp; done) | (simp; omega) | omega)) _ | refine Below.trans ?_ (Below.mono (by assumption) (by first | exact Nat.le_refl _ | (simp; done) | (simp; omega) | omega))))⟩
  · have h1 : ¬ (64 : Int) < (s.size : Int) := by omega
    rw [if_neg h]
    go_enter Tryz.func68, Tryz.ntmps68
    go_wp2
    exact bodyPost_ret (v := .tuple #[.agg #[.int .i64 (1), .string (s), .int .i64 (0), .float .f64 (0), .int .i64 (0)], .int .i64 0]) (by simp [results, Tryz.results68, go_sem]) rfl ⟨rfl, by (repeat (first | exact Below.refl _ _ | assumption | refine Below.drew ?_ | refine below_drewN ?_ _ | refine Below.setCell ?_ (by simp) _ | refine Below.alloc ?_ (by (first | exact Nat.le_refl _ | (simp; done) | (simp; omega) | omega)) _ | refine Below.trans ?_ (Below.mono (by assumption) (by first | exact Nat.le_refl _ | (simp; done) | (simp; omega) | omega))))⟩

theorem clone_any (s : ByteArray) (hs : s.size ≤ 65536) (w : World) : Calls Tryz.prog 89 #[.string s] w fun e w' => e = .returned (.string s) ∧ Below w.heap.size w w' := by
  go_enter Tryz.func89, Tryz.ntmps89
  go_wp2_with (go_at_call 109; refine (Tryz.stringslite_Clone s _ (by omega)).mono ?_; rintro e w' ⟨rfl, hb⟩)
  go_ret
  exact ⟨rfl, hb⟩

theorem e_isInName : ∀ args w, (callFunc 90 args).run Tryz.prog w = .ok (.enter 90 args) w := enters_of Tryz.func90 (by kernel_rfl) rfl
theorem e_isBlank : ∀ args w, (callFunc 34 args).run Tryz.prog w = .ok (.enter 34 args) w := enters_of Tryz.func34 (by kernel_rfl) rfl
theorem e_isInLine : ∀ args w, (callFunc 39 args).run Tryz.prog w = .ok (.enter 39 args) w := enters_of Tryz.func39 (by kernel_rfl) rfl
theorem e_isDigit : ∀ args w, (callFunc 38 args).run Tryz.prog w = .ok (.enter 38 args) w := enters_of Tryz.func38 (by kernel_rfl) rfl

theorem take_name (s : ByteArray) (i b : Nat) (hi : i ≤ s.size) (hs : s.size ≤ 65536) (w : World) (h : Sc w b s i) :
    Calls Tryz.prog 33 #[.pointer (some ⟨b, 0, none⟩), .func (.func 90) #[] #[]] w fun e w' => e = .returned (.string (s.extract i (goes pName s i))) ∧ Sc w' b s (goes pName s i) ∧ But (· = b) w w' :=
  take_any _ #[] e_isInName pName false flat_name s i b hi hs w h (fun W x _ _ => isInName_any x W)
theorem take_blank (s : ByteArray) (i b : Nat) (hi : i ≤ s.size) (hs : s.size ≤ 65536) (w : World) (h : Sc w b s i) :
    Calls Tryz.prog 33 #[.pointer (some ⟨b, 0, none⟩), .func (.func 34) #[] #[]] w fun e w' => e = .returned (.string (s.extract i (goes pBlank s i))) ∧ Sc w' b s (goes pBlank s i) ∧ But (· = b) w w' :=
  take_any _ #[] e_isBlank pBlank false flat_blank s i b hi hs w h (fun W x _ _ => isBlank_any x W)
theorem take_line (s : ByteArray) (i b : Nat) (hi : i ≤ s.size) (hs : s.size ≤ 65536) (w : World) (h : Sc w b s i) :
    Calls Tryz.prog 33 #[.pointer (some ⟨b, 0, none⟩), .func (.func 39) #[] #[]] w fun e w' => e = .returned (.string (s.extract i (goes pLine s i))) ∧ Sc w' b s (goes pLine s i) ∧ But (· = b) w w' :=
  take_any _ #[] e_isInLine pLine true flat_line s i b hi hs w h (fun W x _ _ => isInLine_any x W)
theorem take_digit (s : ByteArray) (i b : Nat) (hi : i ≤ s.size) (hs : s.size ≤ 65536) (w : World) (h : Sc w b s i) :
    Calls Tryz.prog 33 #[.pointer (some ⟨b, 0, none⟩), .func (.func 38) #[] #[]] w fun e w' => e = .returned (.string (s.extract i (goes pDigit s i))) ∧ Sc w' b s (goes pDigit s i) ∧ But (· = b) w w' :=
  take_any _ #[] e_isDigit pDigit false flat_digit s i b hi hs w h (fun W x _ _ => by have := isDigit_any (x : Int) W; rw [zDigit_nat] at this; exact this)

theorem sub_size (s : ByteArray) (i j : Nat) (hs : s.size ≤ 65536) : (s.extract i j).size ≤ 65536 := by rw [size_ext]; omega

theorem name_any (s : ByteArray) (i b : Nat) (hi : i ≤ s.size) (hs : s.size ≤ 65536) (w : World) (h : Sc w b s i) :
    Calls Tryz.prog 66 #[.pointer (some ⟨b, 0, none⟩)] w fun e w' => e = .returned (.string (s.extract i (goes pName s i))) ∧ Sc w' b s (goes pName s i) ∧ But (· = b) w w' := by
  have cT := take_name s i b hi hs w h
  have hz := sub_size s i (goes pName s i) hs
  go_enter Tryz.func66, Tryz.ntmps66
  go_wp2_with (first | (go_at_call 33; refine cT.mono ?_; rintro e w' ⟨rfl, hsc, hbut⟩) | (go_at_call 89; refine (clone_any _ hz _).mono ?_; rintro e w2 ⟨rfl, hb2⟩))
  go_ret
  exact ⟨rfl, Duo.keep hsc hb2, hbut.trans (But.of_below hb2)⟩

theorem But.set5 {S : Nat → Prop} {a w : World} (h : But S a w) {b : Nat} (hb : b < a.heap.size → S b) (u0 u1 u2 u3 u4 : Value) : But S a (set5 w b u0 u1 u2 u3 u4) :=
  ((((h.setCell (p := ⟨b, 0, none⟩) hb u0).setCell (p := ⟨b, 1, none⟩) hb u1).setCell (p := ⟨b, 2, none⟩) hb u2).setCell (p := ⟨b, 3, none⟩) hb u3).setCell (p := ⟨b, 4, none⟩) hb u4

theorem Duo.set5 {w : World} {b c : Nat} {v0 v1 : Value} (h : Duo w b v0 v1) (hne : c ≠ b) (u0 u1 u2 u3 u4 : Value) : Duo (set5 w c u0 u1 u2 u3 u4) b v0 v1 :=
  ⟨(set5_other _ _ _ _ _ _ _ _ _ hne).trans h.c0, (set5_other _ _ _ _ _ _ _ _ _ hne).trans h.c1, (set5_frozen _ _ _ _ _ _ _ _).trans h.f0, (set5_frozen _ _ _ _ _ _ _ _).trans h.f1, by rw [set5_size]; exact h.lt⟩

/-- The world behind a result's box. -/
abbrev wbox (w : World) : World := w.alloc (.cells #[.int .i64 0, .string ⟨#[]⟩, .int .i64 0, .float .f64 0, .int .i64 0] 41)
theorem wbox_below (w : World) : Below w.heap.size w (wbox w) := (Below.refl _ _).alloc (Nat.le_refl _) _
theorem wbox_box (w : World) : Box (wbox w) w.heap.size (.int .i64 0) (.string ⟨#[]⟩) (.int .i64 0) (.float .f64 0) (.int .i64 0) := Box.new w _ _ _ _ _ _

set_option maxHeartbeats 1000000 in
theorem variable_any (s : ByteArray) (i b : Nat) (hi : i ≤ s.size) (hs : s.size ≤ 65536) (w : World) (h : Sc w b s i) :
    Calls Tryz.prog 41 #[.pointer (some ⟨b, 0, none⟩)] w fun e w' => e = .returned (.tuple #[.agg #[.int .i64 (2), .string (s.extract i (goes pName s i)), .int .i64 (0), .float .f64 (0), .int .i64 (0)], .int .i64 0]) ∧ Sc w' b s (goes pName s i) ∧ But (· = b) w w' := by
  have cN := name_any s i b hi hs (wbox w) (Duo.keep h (wbox_below w))
  have hlt := h.lt
  obtain ⟨X, hX⟩ : ∃ X, s.extract i (goes pName s i) = X := ⟨_, rfl⟩
  rw [hX] at cN ⊢
  go_enter Tryz.func41, Tryz.ntmps41
  go_wp2_with (go_at_call 66; refine cN.mono ?_; rintro e w' ⟨rfl, hsc, hbut⟩; have HB := hidb hbut; obtain ⟨d0, d1, d2, d3, d4, g0, g1, g2, g3, g4, _⟩ := (wbox_box w).but hbut (by omega))
  refine bodyPost_ret (v := .tuple #[.agg #[.int .i64 (2), .string (X), .int .i64 (0), .float .f64 (0), .int .i64 (0)], .int .i64 0]) (by simp [results, Tryz.results41, go_sem, d0, d1, d2, d3, d4]) rfl ⟨rfl, ?_, ?_⟩
  · exact Duo.set5 hsc (by omega) _ _ _ _ _
  · exact ((But.of_below (wbox_below w)).trans HB.out).set5 (fun h => absurd h (by omega)) _ _ _ _ _

set_option maxHeartbeats 1000000 in
theorem word_any (s : ByteArray) (i b : Nat) (hi : i ≤ s.size) (hs : s.size ≤ 65536) (w : World) (h : Sc w b s i) :
    Calls Tryz.prog 40 #[.pointer (some ⟨b, 0, none⟩)] w fun e w' => e = .returned (if kept (s.extract i (goes pName s i)) = true then .tuple #[.agg #[.int .i64 (7), .string (s.extract i (goes pName s i)), .int .i64 (0), .float .f64 (0), .int .i64 (0)], .int .i64 0] else if 64 < (s.extract i (goes pName s i)).size then .tuple #[.agg #[.int .i64 (0), .string (⟨#[]⟩), .int .i64 (0), .float .f64 (0), .int .i64 (0)], .int .i64 23] else .tuple #[.agg #[.int .i64 (1), .string (s.extract i (goes pName s i)), .int .i64 (0), .float .f64 (0), .int .i64 (0)], .int .i64 0]) ∧ Sc w' b s (goes pName s i) ∧ But (· = b) w w' := by
  have cN := name_any s i b hi hs (wbox w) (Duo.keep h (wbox_below w))
  have hlt := h.lt
  have hz := sub_size s i (goes pName s i) hs
  obtain ⟨X, hX⟩ : ∃ X, s.extract i (goes pName s i) = X := ⟨_, rfl⟩
  rw [hX] at cN hz ⊢
  have cA := atom_any X hz
  cases hk : kept X
  · simp only [Bool.false_eq_true, if_false]
    by_cases h64 : 64 < X.size
    · simp only [h64, if_true] at cA ⊢
      go_enter Tryz.func40, Tryz.ntmps40
      go_wp2_with (first
        | (go_at_call 66; refine cN.mono ?_; rintro e w' ⟨rfl, hsc, hbut⟩; have HB := hidb hbut; have HX := hidb ((wbox_box w).but hbut (by omega)))
        | (go_at_call 67; refine (kept_any _ _).mono ?_; rintro e w' ⟨rfl, hw'⟩; obtain rfl := hw'.symm; rw [hk])
        | (go_at_call 68; refine (cA _).mono ?_; rintro e w2 ⟨rfl, hb2⟩; have HB2 := hidb hb2; obtain ⟨d0, d1, d2, d3, d4, g0, g1, g2, g3, g4, _⟩ := HX.out.keep hb2))
      refine bodyPost_ret (v := .tuple #[.agg #[.int .i64 (0), .string (⟨#[]⟩), .int .i64 (0), .float .f64 (0), .int .i64 (0)], .int .i64 23]) (by simp [results, Tryz.results40, go_sem, d0, d1, d2, d3, d4]) rfl ⟨rfl, ?_, ?_⟩
      · exact Duo.set5 (Duo.keep hsc HB2.out) (by omega) _ _ _ _ _
      · exact (((But.of_below (wbox_below w)).trans HB.out).trans (But.of_below HB2.out)).set5 (fun h => absurd h (by omega)) _ _ _ _ _
    · simp only [h64, if_false] at cA ⊢
      go_enter Tryz.func40, Tryz.ntmps40
      go_wp2_with (first
        | (go_at_call 66; refine cN.mono ?_; rintro e w' ⟨rfl, hsc, hbut⟩; have HB := hidb hbut; have HX := hidb ((wbox_box w).but hbut (by omega)))
        | (go_at_call 67; refine (kept_any _ _).mono ?_; rintro e w' ⟨rfl, hw'⟩; obtain rfl := hw'.symm; rw [hk])
        | (go_at_call 68; refine (cA _).mono ?_; rintro e w2 ⟨rfl, hb2⟩; have HB2 := hidb hb2; obtain ⟨d0, d1, d2, d3, d4, g0, g1, g2, g3, g4, _⟩ := HX.out.keep hb2))
      refine bodyPost_ret (v := .tuple #[.agg #[.int .i64 (1), .string (X), .int .i64 (0), .float .f64 (0), .int .i64 (0)], .int .i64 0]) (by simp [results, Tryz.results40, go_sem, d0, d1, d2, d3, d4]) rfl ⟨rfl, ?_, ?_⟩
      · exact Duo.set5 (Duo.keep hsc HB2.out) (by omega) _ _ _ _ _
      · exact (((But.of_below (wbox_below w)).trans HB.out).trans (But.of_below HB2.out)).set5 (fun h => absurd h (by omega)) _ _ _ _ _
  · simp only [if_true]
    go_enter Tryz.func40, Tryz.ntmps40
    go_wp2_with (first
      | (go_at_call 66; refine cN.mono ?_; rintro e w' ⟨rfl, hsc, hbut⟩; have HB := hidb hbut; obtain ⟨d0, d1, d2, d3, d4, g0, g1, g2, g3, g4, _⟩ := (wbox_box w).but hbut (by omega))
      | (go_at_call 67; refine (kept_any _ _).mono ?_; rintro e w' ⟨rfl, hw'⟩; obtain rfl := hw'.symm; rw [hk]))
    refine bodyPost_ret (v := .tuple #[.agg #[.int .i64 (7), .string (X), .int .i64 (0), .float .f64 (0), .int .i64 (0)], .int .i64 0]) (by simp [results, Tryz.results40, go_sem, d0, d1, d2, d3, d4]) rfl ⟨rfl, ?_, ?_⟩
    · exact Duo.set5 hsc (by omega) _ _ _ _ _
    · exact ((But.of_below (wbox_below w)).trans HB.out).set5 (fun h => absurd h (by omega)) _ _ _ _ _
end Go.Proofs.YthdljnakmekhkaaGreatDoor


/- Digits: what they are worth. -/
namespace Go.Proofs.YthdljnakmekhkaaGreatDoor
open Go.RowKit Go.Lib
attribute [local go_sem] store_float f64bits
attribute [local go_sem ↓] Go.wp_at_zero Go.wp_at_succ

/-- What the first k digits are worth. -/
def wor (D : ByteArray) : Nat → Nat
  | 0 => 0
  | k + 1 => wor D k * 10 + (bt D k - 48)

def Digs (D : ByteArray) : Prop := ∀ j, j < D.size → pDigit (bt D j) = true

theorem wor_lt (D : ByteArray) (h : Digs D) : ∀ k, k ≤ D.size → wor D k < 10 ^ k := by
  intro k
  induction k with
  | zero => intro _; simp [wor]
  | succ k ih =>
    intro hk
    have h1 := ih (by omega)
    have h2 := h k (by omega)
    simp [pDigit] at h2
    simp only [wor, Nat.pow_succ]
    omega

theorem wor_lt18 (D : ByteArray) (h : Digs D) (hs : D.size ≤ 18) (k : Nat) (hk : k ≤ D.size) : wor D k < 1000000000000000000 := by
  have h1 := wor_lt D h k hk
  have h2 : 10 ^ k ≤ 10 ^ 18 := Nat.pow_le_pow_right (by omega) (by omega)
  omega

set_option maxHeartbeats 1000000 in
set_option maxRecDepth 1000000 in
theorem worth_any (D : ByteArray) (h : Digs D) (hs : D.size ≤ 18) (w : World) :
    Calls Tryz.prog 92 #[.string D] w fun e w' => e = .returned (.int .i64 (wor D D.size)) ∧ Below w.heap.size w w' := by
  have hb0 : Below w.heap.size w (w.iter D 0) := (Below.refl _ _).alloc (Nat.le_refl _) _
  have hit0 := World.iter_heap w D 0
  go_enter Tryz.func92, Tryz.ntmps92
  go_wp2_with fail
  go_loopg [3] D.size (fun gf s3 wx => ∃ pos, s3 = .int .i64 (wor D pos : Nat) ∧ wx.heap[w.heap.size]? = some (.stringIter D pos) ∧ Below w.heap.size w wx ∧ pos + gf = D.size)
  case atStart => exact ⟨0, rfl, hit0, hb0, by omega⟩
  case round =>
    obtain ⟨pos, rfl, hit, hbw, hgf⟩ := hrel
    by_cases hlt : pos < D.size
    · obtain ⟨g', rfl⟩ : ∃ g', gk = g' + 1 := ⟨gk - 1, by omega⟩
      have hd := h pos hlt
      simp [pDigit] at hd
      have hnx : ∀ ty, (Instr.next (.pointer (some ⟨w.heap.size, 0, none⟩)) true ty).run Tryz.prog wr = _ := fun ty => Lib.run_next_any_at wr w.heap.size D pos ty hit hlt
      rw [decode_low D pos (by omega)] at hnx
      have hit2 := Lib.iterAt_heap wr w.heap.size D pos (pos + 1) hit
      have hbw2 := Lib.below_iterAt hbw (k := w.heap.size) (Nat.le_refl _) D (pos + 1)
      simp only at hnx
      obtain ⟨W, hWd⟩ : ∃ W, wr.iterAt w.heap.size D (pos + 1) = W := ⟨_, rfl⟩
      rw [hWd] at hnx hit2 hbw2
      have hv : wor D pos < 100000000000000000 := by
        have h1 := wor_lt D h pos (by omega)
        have h2 : 10 ^ pos ≤ 10 ^ 17 := Nat.pow_le_pow_right (by omega) (by omega)
        omega
      have hsu : wor D (pos + 1) = wor D pos * 10 + (bt D pos - 48) := rfl
      obtain ⟨V, hV⟩ : ∃ V, wor D pos = V := ⟨_, rfl⟩
      obtain ⟨c, hc⟩ : ∃ c, bt D pos = c := ⟨_, rfl⟩
      rw [hV] at hv hsu ⊢
      rw [hc] at hd hsu hnx
      obtain ⟨X, hX⟩ : ∃ X : Int, (V : Int) = X := ⟨_, rfl⟩
      obtain ⟨Y, hY⟩ : ∃ Y : Int, (c : Int) = Y := ⟨_, rfl⟩
      rw [hX]
      rw [hY] at hnx
      have x0 : 0 ≤ X := by omega
      have x1 : X < 100000000000000000 := by omega
      have y0 : 48 ≤ Y := by omega
      have y1 : Y ≤ 57 := by omega
      have HR : Hid ((wor D (pos + 1) : Int) = X * 10 + (Y - 48)) := hidb (by omega)
      clear hWd hv hsu hX hY hd hV hc hit hbw
      go_wp2_with fail
      go_roundg g'
      case measure => omega
      case rel => exact ⟨pos + 1, by rw [HR.out], hit2, hbw2, by omega⟩
    · obtain rfl : pos = D.size := by omega
      have hnx : ∀ ty, (Instr.next (.pointer (some ⟨w.heap.size, 0, none⟩)) true ty).run Tryz.prog wr = _ := fun ty => Lib.run_next_end_at wr w.heap.size D D.size ty hit hlt
      go_wp2_with fail
      go_ret
      exact ⟨rfl, hbw⟩

/-- A digit of sixteen. -/
def hexd (b : Nat) : Option Nat := if pDigit b = true then some (b - 48) else if 97 ≤ b ∧ b ≤ 102 then some (b - 87) else none
def hexAt (s : ByteArray) (p : Nat) : Option Nat := if p < s.size then hexd (bt s p) else none
def hexN (s : ByteArray) : Nat → Nat → Nat → Option Nat
  | 0, _, u => some u
  | k + 1, p, u => (hexAt s p).bind fun d => hexN s k (p + 1) (u * 16 + d)

theorem hex_cases (s : ByteArray) (p : Nat) :
    (zDigit (nxR s p) = true ∧ p < s.size ∧ nxK s p = 1 ∧ 48 ≤ nxR s p ∧ nxR s p ≤ 57 ∧ hexAt s p = some (nxR s p - 48).toNat) ∨
    (zDigit (nxR s p) = false ∧ p < s.size ∧ nxK s p = 1 ∧ 97 ≤ nxR s p ∧ nxR s p ≤ 102 ∧ hexAt s p = some (nxR s p - 87).toNat) ∨
    (zDigit (nxR s p) = false ∧ ¬ (97 ≤ nxR s p) ∧ hexAt s p = none) ∨ (zDigit (nxR s p) = false ∧ 97 ≤ nxR s p ∧ ¬ (nxR s p ≤ 102) ∧ hexAt s p = none) := by
  rcases Nat.lt_or_ge p s.size with hl | hl
  · rcases Nat.lt_or_ge (bt s p) 128 with hb | hb
    · obtain ⟨h1, h2⟩ := nx_low hl hb
      rw [h1, h2, zDigit_nat]
      simp only [hexAt, hl, if_true, hexd]
      cases hd : pDigit (bt s p)
      · simp
        by_cases h97 : 97 ≤ bt s p
        · by_cases h102 : bt s p ≤ 102
          · left; refine ⟨by omega, by omega, by omega, by omega⟩
          · right; right; omega
        · right; left; omega
      · simp [pDigit] at hd
        left
        refine ⟨by first | rfl | trivial, by first | trivial | exact hl, by first | rfl | trivial, by omega, by omega, ?_⟩
        simp
        omega
    · obtain ⟨h1, h2, h3⟩ := nx_high hl hb
      right; right; right
      refine ⟨by simp [zDigit]; omega, by omega, by omega, ?_⟩
      simp only [hexAt, hl, if_true, hexd, flat_digit _ hb]
      simp; omega
  · obtain ⟨h1, h2⟩ := nx_end hl
    have hn : ¬ p < s.size := by omega
    right; right; left
    rw [h1]
    exact ⟨by decide, by decide, by simp [hexAt, hn]⟩

theorem or16 (k t : Int) (h0 : 0 ≤ k) (h1 : k < 1152921504606846976) (h2 : 0 ≤ t) (h3 : t < 16) : bits .or .u64 (k * 16) t = k * 16 + t := by
  obtain ⟨A, rfl⟩ := Int.eq_ofNat_of_zero_le h0
  obtain ⟨B, rfl⟩ := Int.eq_ofNat_of_zero_le h2
  have h := u64_or_nat (A * 16) B (by omega) (by omega)
  have e : A * 16 ||| B = A * 16 + B := by
    have := Nat.two_pow_add_eq_or_of_lt (i := 4) (b := B) (by omega) A
    rw [Nat.mul_comm A 16]
    exact this.symm
  rw [e] at h
  simpa using h

theorem hexN_none (s : ByteArray) (k p u : Nat) (h : hexAt s p = none) : hexN s (k + 1) p u = none := by simp [hexN, h]
theorem hexN_some (s : ByteArray) (k p u d : Nat) (h : hexAt s p = some d) : hexN s (k + 1) p u = hexN s k (p + 1) (u * 16 + d) := by simp [hexN, h]

set_option maxHeartbeats 1000000 in
set_option maxRecDepth 1000000 in
theorem hex_any (s : ByteArray) (i b n : Nat) (hn : n ≤ 16) (hi : i ≤ s.size) (hs : s.size ≤ 65536) (w : World) (h : Sc w b s i) (hT : Lib.Utf8Tabs G1 G2 w) (hb1 : b ≠ G1) (hb2 : b ≠ G2) :
    Calls Tryz.prog 72 #[.pointer (some ⟨b, 0, none⟩), .int .i64 (n : Int)] w fun e w' => e = .returned (.tuple #[.int .u64 ((hexN s n i 0).getD 0 : Nat), .bool (hexN s n i 0).isSome]) ∧ But (· = b) w w' ∧ ∃ j, i ≤ j ∧ j ≤ s.size ∧ Sc w' b s j ∧ ((hexN s n i 0).isSome = true → j = i + n) := by
  obtain ⟨o, ho⟩ : ∃ o, hexN s n i 0 = o := ⟨_, rfl⟩
  rw [ho]
  go_enter Tryz.func72, Tryz.ntmps72
  go_wp2_with fail
  go_loopg [6, 9] n (fun gf s6 s9 wx => ∃ m V : Nat, s6 = .int .u64 (V : Int) ∧ s9 = .int .i64 (m : Int) ∧ m + gf = n ∧ Sc wx b s (i + m) ∧ But (· = b) w wx ∧ hexN s gf (i + m) V = o ∧ V < 16 ^ m ∧ i + m ≤ s.size)
  case atStart => exact ⟨0, 0, rfl, rfl, by omega, h, But.refl _ _, ho, by simp, hi⟩
  case round =>
    obtain ⟨m, V, rfl, rfl, hgf, hsc, hbw, hx, hV, him⟩ := hrel
    have cN := next_any s (i + m) b him hs wr hsc (Utf8Tabs_but hT hbw (fun e => hb1 e.symm) (fun e => hb2 e.symm))
    have HN := hidb (nx_in s (i + m) him)
    by_cases hm : m < n
    · obtain ⟨g', rfl⟩ : ∃ g', gk = g' + 1 := ⟨gk - 1, by omega⟩
      have hlt : (m : Int) < (n : Int) := by omega
      have hV60 : V < 1152921504606846976 := by
        have h1 : 16 ^ m ≤ 16 ^ 15 := Nat.pow_le_pow_right (by omega) (by omega)
        omega
      have hcs := hex_cases s (i + m)
      obtain ⟨r, hr⟩ : ∃ r, nxR s (i + m) = r := ⟨_, rfl⟩
      rw [hr] at cN hcs
      have H16 : Hid (16 ^ (m + 1) = 16 ^ m * 16) := hidb (Nat.pow_succ _ _)
      obtain ⟨X, hX⟩ : ∃ X : Int, (V : Int) = X := ⟨_, rfl⟩
      have HX := hidb hX
      have x0 : 0 ≤ X := by omega
      have x1 : X < 1152921504606846976 := by omega
      have HV := hidb hV
      have HBW := hidb hbw
      have HXX := hidb hx
      rw [hX]
      have e1 : IntKind.u64.wrap (X * 16) = X * 16 := by rw [IntKind.wrap_u64]; omega
      clear hX hV60 hr hV hbw hx hsc h ho hT
      rcases hcs with ⟨hz, hp, hk, r0, r1, ha⟩ | ⟨hz, hp, hk, r0, r1, ha⟩ | ⟨hz, r0, ha⟩ | ⟨hz, r0, r1, ha⟩
      · rw [hk] at cN
        have HA := hidb (hexN_some s g' (i + m) V _ ha)
        have e2 := or16 X (r - 48) x0 x1 (by omega) (by omega)
        clear ha hk
        go_wp2_with (first | (go_at_call 65; refine cN.mono ?_; rintro e w1 ⟨rfl, hsc1, hbut1⟩; have HS1 := hidb hsc1; have HB1 := hidb hbut1) | (go_at_call 38; refine (isDigit_any _ _).mono ?_; rintro e w' ⟨rfl, hw'⟩; obtain rfl := hw'.symm; rw [hz]))
        have HJ := HX.out
        have HVV := HV.out
        have HPW := H16.out
        have HRR : (X * 16 + (r - 48)) = ((V * 16 + (r - 48).toNat : Nat) : Int) := by omega
        go_roundg g'
        case measure => omega
        case rel => exact ⟨m + 1, V * 16 + (r - 48).toNat, by rw [HRR], by simp, by omega, HS1.out, HBW.out.trans HB1.out, by rw [← HXX.out, HA.out]; rfl, by omega, by omega⟩
      · rw [hk] at cN
        have HA := hidb (hexN_some s g' (i + m) V _ ha)
        have e2 := or16 X (r - 87) x0 x1 (by omega) (by omega)
        have e3 : r - 97 + 10 = r - 87 := by omega
        clear ha hk
        go_wp2_with (first | (go_at_call 65; refine cN.mono ?_; rintro e w1 ⟨rfl, hsc1, hbut1⟩; have HS1 := hidb hsc1; have HB1 := hidb hbut1) | (go_at_call 38; refine (isDigit_any _ _).mono ?_; rintro e w' ⟨rfl, hw'⟩; obtain rfl := hw'.symm; rw [hz]))
        have HJ := HX.out
        have HVV := HV.out
        have HPW := H16.out
        have HRR : (X * 16 + (r - 87)) = ((V * 16 + (r - 87).toNat : Nat) : Int) := by omega
        go_roundg g'
        case measure => omega
        case rel => exact ⟨m + 1, V * 16 + (r - 87).toNat, by rw [HRR], by simp, by omega, HS1.out, HBW.out.trans HB1.out, by rw [← HXX.out, HA.out]; rfl, by omega, by omega⟩
      · have HO : Hid (none = o) := hidb (by rw [← HXX.out, hexN_none _ _ _ _ ha])
        clear ha
        go_wp2_with (first | (go_at_call 65; refine cN.mono ?_; rintro e w1 ⟨rfl, hsc1, hbut1⟩; have HS1 := hidb hsc1; have HB1 := hidb hbut1) | (go_at_call 38; refine (isDigit_any _ _).mono ?_; rintro e w' ⟨rfl, hw'⟩; obtain rfl := hw'.symm; rw [hz]))
        refine bodyPost_ret (v := .tuple #[.int .u64 0, .bool false]) (by simp [results, Tryz.results72, go_sem]) rfl ⟨by rw [← HO.out]; rfl, HBW.out.trans HB1.out, i + m + nxK s (i + m), by omega, HN.out, HS1.out, by rw [← HO.out]; intro h; cases h⟩
      · have HO : Hid (none = o) := hidb (by rw [← HXX.out, hexN_none _ _ _ _ ha])
        clear ha
        go_wp2_with (first | (go_at_call 65; refine cN.mono ?_; rintro e w1 ⟨rfl, hsc1, hbut1⟩; have HS1 := hidb hsc1; have HB1 := hidb hbut1) | (go_at_call 38; refine (isDigit_any _ _).mono ?_; rintro e w' ⟨rfl, hw'⟩; obtain rfl := hw'.symm; rw [hz]))
        refine bodyPost_ret (v := .tuple #[.int .u64 0, .bool false]) (by simp [results, Tryz.results72, go_sem]) rfl ⟨by rw [← HO.out]; rfl, HBW.out.trans HB1.out, i + m + nxK s (i + m), by omega, HN.out, HS1.out, by rw [← HO.out]; intro h; cases h⟩
    · obtain rfl : m = n := by omega
      obtain rfl : gk = 0 := by omega
      obtain rfl : some V = o := hx
      go_wp2_with fail
      exact bodyPost_ret (v := .tuple #[.int .u64 (V : Int), .bool true]) (by simp [results, Tryz.results72, go_sem]) rfl ⟨rfl, hbw, i + m, by omega, him, hsc, fun _ => rfl⟩
end Go.Proofs.YthdljnakmekhkaaGreatDoor


