import Derived.Shelf.Strings.Builder1
import Derived.Shelf.Strings.BuilderF
import Derived.Shelf.Strings.BuilderK
import Derived.Shelf.LaysM
import Derived.Shelf.Strconv.Clone
import Derived.Shelf.Strings.Prefix
import Derived.Shelf.Unicode.DecodeSlow
import Derived.Shelf.Unicode.DecodeAny
import Derived.Test.YtdpfmmbfidknfaaGreatDoorProg
import Derived.Test.YtdpfmmbfidknfaaGreatDoorG02
/- Contracts of the library (Mul64, FormatInt at base 10, Repeat), laid at this program by the kit's own tool, in plain words. -/
namespace Go.Proofs
open Go.Shelf
def Tryz.lays169_ren : Go.Shelf.Ren := ⟨fun | 169 => 65 | n => n, fun | 70 => 97 | 9 => 9 | 0 => 0 | 72 => 99 | 37 => 41 | 127 => 113 | 3 => 3 | 5 => 5 | n => n, fun | n => n⟩
theorem Tryz.lays169 : Go.Proofs.Lays.n169 Tryz.prog Tryz.lays169_ren := {
  mixed := by kernel_rfl
  f169 := Tryz.func65.trans (congrArg some (by kernel_rfl))
  t0 := Tryz.underlying0
  a0 := Tryz.isAgg0
  z0 := Tryz.sizeOf0
  v0 := Tryz.zeroValue0
  t3 := Tryz.underlying3
  a3 := Tryz.isAgg3
  z3 := Tryz.sizeOf3
  v3 := Tryz.zeroValue3
  t9 := Tryz.underlying9
  a9 := Tryz.isAgg9
  z9 := Tryz.sizeOf9
  v9 := Tryz.zeroValue9
  t37 := Tryz.underlying41
  a37 := Tryz.isAgg41
  z37 := Tryz.sizeOf41
  v37 := Tryz.zeroValue41
  t70 := Tryz.underlying97
  a70 := Tryz.isAgg97
  z70 := Tryz.sizeOf97
  v70 := Tryz.zeroValue97
  t72 := Tryz.underlying99
  a72 := Tryz.isAgg99
  z72 := Tryz.sizeOf99
  v72 := Tryz.zeroValue99
  t127 := Tryz.underlying113
  a127 := Tryz.isAgg113
  z127 := Tryz.sizeOf113
  v127 := Tryz.zeroValue113 }
theorem Tryz.Builder_Extra_169 : Builder.Extra Tryz.prog Tryz.lays169_ren := {
  sizeBuilder := by kernel_rfl
  liesBuilder := by kernel_rfl
  t5 := Tryz.underlying5
  a5 := Tryz.isAgg5
  z5 := Tryz.sizeOf5
  v5 := Tryz.zeroValue5
  infoByte := by kernel_rfl
  cellsByte := by kernel_rfl
  sizeByte := by kernel_rfl
  neB5 := by decide }
open Go.RowKit in
theorem Tryz.Builder_String_any_k (B b : Nat) (l : List UInt8) (w : World) (h : Lib.IsBuilderF 99 5 B b (Lib.byteCells l) w) (hBw : B ≤ w.heap.size) :
    Calls Tryz.prog 65 #[.pointer (some ⟨b, 0, none⟩)] w fun e w' => e = .returned (.string ⟨l.toArray⟩) ∧ (Lib.IsBuilderF 99 5 B b (Lib.byteCells l) w' ∧ Below B w w' ∧ Lib.OthersKept 5 (some b) w w') := Any.Builder_String_any_k Tryz.lays169 Tryz.Builder_Extra_169 B b l w h hBw
def Tryz.laysM316_ren : Go.Shelf.Ren := ⟨fun | 316 => 73 | n => n, fun | 9 => 9 | 3 => 3 | 4 => 4 | 37 => 41 | 0 => 0 | 127 => 113 | 5 => 5 | n => n, fun | n => n⟩
theorem Tryz.laysM316 : Go.Proofs.LaysM.n316 Tryz.prog Tryz.laysM316_ren := {
  mixed := by kernel_rfl
  f316 := Tryz.func73.trans (congrArg some (by kernel_rfl))
  t0 := Tryz.underlying0
  a0 := Tryz.isAgg0
  z0 := Tryz.sizeOf0
  v0 := Tryz.zeroValue0
  t3 := Tryz.underlying3
  a3 := Tryz.isAgg3
  z3 := Tryz.sizeOf3
  v3 := Tryz.zeroValue3
  t4 := Tryz.underlying4
  a4 := Tryz.isAgg4
  z4 := Tryz.sizeOf4
  v4 := Tryz.zeroValue4
  t9 := Tryz.underlying9
  a9 := Tryz.isAgg9
  z9 := Tryz.sizeOf9
  v9 := Tryz.zeroValue9
  t37 := Tryz.underlying41
  a37 := Tryz.isAgg41
  z37 := Tryz.sizeOf41
  v37 := Tryz.zeroValue41
  t127 := Tryz.underlying113
  a127 := Tryz.isAgg113
  z127 := Tryz.sizeOf113
  v127 := Tryz.zeroValue113
  t5 := Tryz.underlying5
  a5 := Tryz.isAgg5
  z5 := Tryz.sizeOf5
  v5 := Tryz.zeroValue5
  i0 := by kernel_rfl
  i3 := by kernel_rfl
  i4 := by kernel_rfl
  i5 := by kernel_rfl
  i9 := by kernel_rfl
  i37 := by kernel_rfl
  i127 := by kernel_rfl }
open Go.RowKit in
theorem Tryz.stringslite_Clone (s : ByteArray) (w : World) (hlim : s.size ≤ 281474976710656) :
    Calls Tryz.prog 73 #[.string s] w fun e w' => e = .returned (.string s) ∧ Below w.heap.size w w' := Any.stringslite_Clone Tryz.laysM316 s w hlim
def Tryz.lays99_ren : Go.Shelf.Ren := ⟨fun | 99 => 50 | 206 => 68 | n => n, fun | 9 => 9 | 4 => 4 | 3 => 3 | n => n, fun | n => n⟩
theorem Tryz.lays99 : Go.Proofs.Lays.n99 Tryz.prog Tryz.lays99_ren := {
  mixed := by kernel_rfl
  f99 := Tryz.func50.trans (congrArg some (by kernel_rfl))
  f206 := Tryz.func68.trans (congrArg some (by kernel_rfl))
  t3 := Tryz.underlying3
  a3 := Tryz.isAgg3
  z3 := Tryz.sizeOf3
  v3 := Tryz.zeroValue3
  t4 := Tryz.underlying4
  a4 := Tryz.isAgg4
  z4 := Tryz.sizeOf4
  v4 := Tryz.zeroValue4
  t9 := Tryz.underlying9
  a9 := Tryz.isAgg9
  z9 := Tryz.sizeOf9
  v9 := Tryz.zeroValue9 }
open Go.RowKit Go.Lib in
theorem Tryz.strings_HasPrefix (s p : ByteArray) (w : World) :
    Calls Tryz.prog 50 #[.string s, .string p] w fun e w' => e = .returned (.bool (Lib.hasPrefix s.data.toList p.data.toList)) ∧ w' = w := Any.strings_HasPrefix Tryz.lays99 s p w
def Tryz.lays197_ren : Go.Shelf.Ren := ⟨fun | 197 => 55 | 260 => 72 | n => n, fun | 9 => 9 | 21 => 21 | 3 => 3 | 4 => 4 | 5 => 5 | 105 => 88 | 119 => 115 | 0 => 0 | 46 => 94 | 139 => 118 | 138 => 117 | n => n, fun | 3 => 5 | 4 => 6 | n => n⟩
theorem Tryz.lays197 : Go.Proofs.Lays.n197 Tryz.prog Tryz.lays197_ren := {
  mixed := by kernel_rfl
  f197 := Tryz.func55.trans (congrArg some (by kernel_rfl))
  f260 := Tryz.func72.trans (congrArg some (by kernel_rfl))
  t0 := Tryz.underlying0
  a0 := Tryz.isAgg0
  z0 := Tryz.sizeOf0
  v0 := Tryz.zeroValue0
  t3 := Tryz.underlying3
  a3 := Tryz.isAgg3
  z3 := Tryz.sizeOf3
  v3 := Tryz.zeroValue3
  t4 := Tryz.underlying4
  a4 := Tryz.isAgg4
  z4 := Tryz.sizeOf4
  v4 := Tryz.zeroValue4
  t5 := Tryz.underlying5
  a5 := Tryz.isAgg5
  z5 := Tryz.sizeOf5
  v5 := Tryz.zeroValue5
  t9 := Tryz.underlying9
  a9 := Tryz.isAgg9
  z9 := Tryz.sizeOf9
  v9 := Tryz.zeroValue9
  t21 := Tryz.underlying21
  a21 := Tryz.isAgg21
  z21 := Tryz.sizeOf21
  v21 := Tryz.zeroValue21
  t46 := Tryz.underlying94
  a46 := Tryz.isAgg94
  z46 := Tryz.sizeOf94
  v46 := Tryz.zeroValue94
  t105 := Tryz.underlying88
  a105 := Tryz.isAgg88
  z105 := Tryz.sizeOf88
  v105 := Tryz.zeroValue88
  t119 := Tryz.underlying115
  a119 := Tryz.isAgg115
  z119 := Tryz.sizeOf115
  t138 := Tryz.underlying117
  a138 := Tryz.isAgg117
  z138 := Tryz.sizeOf117
  v138 := Tryz.zeroValue117
  t139 := Tryz.underlying118
  a139 := Tryz.isAgg118
  z139 := Tryz.sizeOf118
  v139 := Tryz.zeroValue118
  g3 := by kernel_rfl
  g4 := by kernel_rfl }
open Go.RowKit Go.Lib in
theorem Tryz.utf8_DecodeRuneInString (s : ByteArray) (w : World) (hT : Lib.Utf8Tabs 5 6 w) :
    Calls Tryz.prog 55 #[.string s] w fun e w' => e = .returned (.tuple #[.int .i32 (Lib.decodeGo s).1, .int .i64 (Lib.decodeGo s).2]) ∧ Below w.heap.size w w' := Any.utf8_DecodeRuneInString Tryz.lays197 s w hT
end Go.Proofs


/- next, peek, and the classes. -/
namespace Go.Proofs.YtdpfmmbfidknfaaGreatDoor
open Go.RowKit Go.Lib
attribute [local go_sem] store_float f64bits
attribute [local go_sem ↓] Go.wp_at_zero Go.wp_at_succ

/-- The rune that stands there (-1: none), and its width. -/
def nxR (s : ByteArray) (i : Nat) : Int := if i < s.size then ((Utf8.decode s i).1 : Int) else -1
def nxK (s : ByteArray) (i : Nat) : Nat := if i < s.size then (Utf8.decode s i).2 else 0

theorem nx_end {s : ByteArray} {i : Nat} (h : s.size ≤ i) : nxR s i = -1 ∧ nxK s i = 0 := by
  have h1 : ¬ i < s.size := by omega
  simp [nxR, nxK, h1]
theorem nx_low {s : ByteArray} {i : Nat} (h : i < s.size) (hb : bt s i < 128) : nxR s i = (bt s i : Int) ∧ nxK s i = 1 := by
  simp [nxR, nxK, h, decode_low s i hb]
theorem nx_high {s : ByteArray} {i : Nat} (h : i < s.size) (hb : 128 ≤ bt s i) : 128 ≤ nxR s i ∧ i + nxK s i ≤ s.size ∧ 1 ≤ nxK s i := by
  obtain ⟨h1, h2, h3, _⟩ := decode_high' s i h hb
  simp only [nxR, nxK, h, if_true]
  omega
theorem nx_in (s : ByteArray) (i : Nat) (h : i ≤ s.size) : i + nxK s i ≤ s.size := by
  unfold nxK
  split
  · exact decode_in s i (by assumption)
  · omega
theorem nx_le (s : ByteArray) (i : Nat) : -1 ≤ nxR s i ∧ nxR s i ≤ 1114111 := by
  unfold nxR
  split
  · have := Lib.rune_le s i; omega
  · omega

abbrev G1 : Nat := 5
abbrev G2 : Nat := 6

set_option maxHeartbeats 1000000 in
set_option maxRecDepth 1000000 in
theorem next_any (s : ByteArray) (i b : Nat) (hi : i ≤ s.size) (hs : s.size ≤ 65536) (w : World) (h : Sc w b s i) (hT : Lib.Utf8Tabs G1 G2 w) :
    Calls Tryz.prog 40 #[.pointer (some ⟨b, 0, none⟩)] w fun e w' => e = .returned (.int .i32 (nxR s i)) ∧ Sc w' b s (i + nxK s i) ∧ But (· = b) w w' := by
  have c0 := h.c0; have c1 := h.c1; have f1 := h.f1
  have hdg : Lib.decodeGo (s.extract i s.size) = if i < s.size then Utf8.decode s i else (65533, 0) := by
    unfold Lib.decodeGo
    rw [size_ext, decode_ext]
    by_cases hl : i < s.size
    · rw [if_neg (by omega), if_pos hl]; rfl
    · rw [if_pos (by omega), if_neg hl]
  have cD := Tryz.utf8_DecodeRuneInString (s.extract i s.size) w.drew hT
  rw [hdg] at cD
  have hin := nx_in s i hi
  have h0 : (0 : Int) ≤ (i : Int) := by omega
  have h1 : (i : Int) ≤ (s.size : Int) := by omega
  by_cases hl : i < s.size
  · have eR : nxR s i = ((Utf8.decode s i).1 : Int) := by simp [nxR, hl]
    have eK : nxK s i = (Utf8.decode s i).2 := by simp [nxK, hl]
    have hk := Lib.width_pos s i
    rw [if_pos hl] at cD
    rw [eK] at hin
    rw [eR, eK]
    obtain ⟨r, hr⟩ : ∃ r, (Utf8.decode s i).1 = r := ⟨_, rfl⟩
    obtain ⟨K, hK⟩ : ∃ K, (Utf8.decode s i).2 = K := ⟨_, rfl⟩
    rw [hr, hK] at cD ⊢
    rw [hK] at hin hk
    have hz : ((K : Int) == 0) = false := by simp; omega
    have hw : wrap64 ((i : Int) + (K : Int)) = (i : Int) + (K : Int) := by unfold wrap64; omega
    clear hdg hr hK eR eK
    go_enter Tryz.func40, Tryz.ntmps40
    go_wp2_with fail
    go_region_held3 (fun w' => w'.cell? ⟨b, 0, none⟩ = some (.string s) ∧ w'.cell? ⟨b, 1, none⟩ = some (.int .i64 i))
      (first | with_reducible exact ⟨z0, z1⟩ | go_keep)
      (first | (go_at_call 55; refine cD.mono ?_; rintro e wz ⟨rfl, hbz⟩; have HBZ := hidb (undrew hbz); have HDZ := hidb (Duo.keep h HBZ.out); have z0 := HDZ.out.c0; have z1 := HDZ.out.c1; have zf := HDZ.out.f1))
    go_wp2_with fail
    go_ret
    refine ⟨rfl, ?_, (But.of_below (S := (· = b)) HBZ.out).setCell (fun _ => rfl) _⟩
    have := HDZ.out.set1 (.int .i64 ((i : Int) + (K : Int)))
    simpa [Sc] using this
  · have e2 := nx_end (s := s) (i := i) (by omega)
    rw [if_neg hl] at cD
    rw [e2.1, e2.2]
    clear hdg e2 hin
    go_enter Tryz.func40, Tryz.ntmps40
    go_wp2_with fail
    go_region_held3 (fun w' => w'.cell? ⟨b, 0, none⟩ = some (.string s) ∧ w'.cell? ⟨b, 1, none⟩ = some (.int .i64 i))
      (first | with_reducible exact ⟨z0, z1⟩ | go_keep)
      (first | (go_at_call 55; refine cD.mono ?_; rintro e wz ⟨rfl, hbz⟩; have HBZ := hidb (undrew hbz); have HDZ := hidb (Duo.keep h HBZ.out); have z0 := HDZ.out.c0; have z1 := HDZ.out.c1; have zf := HDZ.out.f1))
    go_wp2_with fail
    go_ret
    exact ⟨rfl, HDZ.out, But.of_below HBZ.out⟩

theorem Utf8Tabs_but {S : Nat → Prop} {w w' : World} (h : Lib.Utf8Tabs G1 G2 w) (hb : But S w w') (h1 : ¬ S G1) (h2 : ¬ S G2) : Lib.Utf8Tabs G1 G2 w' := by
  have lt : ∀ {a : Addr} {v : Value}, w.cell? a = some v → a.block < w.heap.size := fun {a v} hc => by
    rcases Nat.lt_or_ge a.block w.heap.size with h' | h'
    · exact h'
    · simp [World.cell?, Array.getElem?_eq_none h'] at hc
  exact ⟨fun c hc => (hb.cell (lt (h.1 c hc)) h1).trans (h.1 c hc), fun i hi => ⟨(hb.cell (lt (h.2 i hi).1) h2).trans (h.2 i hi).1, (hb.cell (lt (h.2 i hi).2) h2).trans (h.2 i hi).2⟩⟩

set_option maxHeartbeats 1000000 in
set_option maxRecDepth 1000000 in
theorem peek_any (s : ByteArray) (i b : Nat) (hi : i ≤ s.size) (hs : s.size ≤ 65536) (w : World) (h : Sc w b s i) (hT : Lib.Utf8Tabs G1 G2 w) :
    Calls Tryz.prog 21 #[.pointer (some ⟨b, 0, none⟩)] w fun e w' => e = .returned (.int .i32 (nxR s i)) ∧ Below w.heap.size w w' := by
  have c0 := h.c0; have c1 := h.c1
  have hal : Below w.heap.size w (w.alloc (.cells #[.string s, .int .i64 i] 52)) := (Below.refl _ _).alloc (Nat.le_refl _) _
  have cN := next_any s i w.heap.size hi hs _ (Duo.new w 52 (.string s) (.int .i64 i)) (Utf8Tabs_below hT hal)
  go_enter Tryz.func21, Tryz.ntmps21
  go_wp2_with (go_at_call 40; refine cN.mono ?_; rintro e w' ⟨rfl, hsc, hbut⟩)
  go_ret
  exact ⟨rfl, hal.trans (hbut.below (by simp) (fun k hk => by omega))⟩

def zSmall (r : Int) : Bool := decide (97 ≤ r) && decide (r ≤ 122)
def zCapital (r : Int) : Bool := decide (65 ≤ r) && decide (r ≤ 90)
def zDigit (r : Int) : Bool := decide (48 ≤ r) && decide (r ≤ 57)

theorem zSmall_nat (n : Nat) : zSmall n = pSmall n := by simp only [zSmall, pSmall]; congr 1 <;> (apply decide_eq_decide.2; omega)
theorem zCapital_nat (n : Nat) : zCapital n = pCapital n := by simp only [zCapital, pCapital]; congr 1 <;> (apply decide_eq_decide.2; omega)
theorem zDigit_nat (n : Nat) : zDigit n = pDigit n := by simp only [zDigit, pDigit]; congr 1 <;> (apply decide_eq_decide.2; omega)

theorem isSmall_any (r : Int) (w : World) : Calls Tryz.prog 22 #[.int .i32 r] w fun e w' => e = .returned (.bool (zSmall r)) ∧ w' = w := by
  unfold zSmall
  by_cases h1 : 97 ≤ r <;> by_cases h2 : r ≤ 122 <;> (go_enter Tryz.func22, Tryz.ntmps22; go_wp2; go_ret; refine ⟨?_, rfl⟩; simp [h1, h2])
theorem isCapital_any (r : Int) (w : World) : Calls Tryz.prog 23 #[.int .i32 r] w fun e w' => e = .returned (.bool (zCapital r)) ∧ w' = w := by
  unfold zCapital
  by_cases h1 : 65 ≤ r <;> by_cases h2 : r ≤ 90 <;> (go_enter Tryz.func23, Tryz.ntmps23; go_wp2; go_ret; refine ⟨?_, rfl⟩; simp [h1, h2])
theorem isDigit_any (r : Int) (w : World) : Calls Tryz.prog 24 #[.int .i32 r] w fun e w' => e = .returned (.bool (zDigit r)) ∧ w' = w := by
  unfold zDigit
  by_cases h1 : 48 ≤ r <;> by_cases h2 : r ≤ 57 <;> (go_enter Tryz.func24, Tryz.ntmps24; go_wp2; go_ret; refine ⟨?_, rfl⟩; simp [h1, h2])
theorem isBlank_any (n : Nat) (w : World) : Calls Tryz.prog 20 #[.int .i32 (n : Int)] w fun e w' => e = .returned (.bool (pBlank n)) ∧ w' = w := by
  unfold pBlank
  go_enter Tryz.func20, Tryz.ntmps20
  go_wp2
  all_goals (go_ret; refine ⟨?_, rfl⟩; simp_all)
  all_goals (first | omega | (rw [Bool.eq_iff_iff]; simp; omega))
theorem isInLine_any (n : Nat) (w : World) : Calls Tryz.prog 25 #[.int .i32 (n : Int)] w fun e w' => e = .returned (.bool (pLine n)) ∧ w' = w := by
  unfold pLine
  go_enter Tryz.func25, Tryz.ntmps25
  go_wp2
  all_goals (go_ret; refine ⟨?_, rfl⟩; simp_all)
  all_goals (first | omega | (rw [Bool.eq_iff_iff]; simp; omega))
theorem isInName_any (n : Nat) (w : World) : Calls Tryz.prog 57 #[.int .i32 (n : Int)] w fun e w' => e = .returned (.bool (pName n)) ∧ w' = w := by
  unfold pName
  cases h1 : pSmall n <;> cases h2 : pCapital n <;> cases h3 : pDigit n
  all_goals (go_enter Tryz.func57, Tryz.ntmps57)
  all_goals (go_wp2_with (first | (go_at_call 22; refine (isSmall_any _ _).mono ?_; rintro e w' ⟨rfl, rfl⟩; rw [zSmall_nat, h1]) | (go_at_call 23; refine (isCapital_any _ _).mono ?_; rintro e w' ⟨rfl, rfl⟩; rw [zCapital_nat, h2]) | (go_at_call 24; refine (isDigit_any _ _).mono ?_; rintro e w' ⟨rfl, rfl⟩; rw [zDigit_nat, h3])))
  all_goals (go_ret; refine ⟨?_, rfl⟩; simp_all)
  all_goals (first | omega | (rw [Bool.eq_iff_iff]; simp; omega))
end Go.Proofs.YtdpfmmbfidknfaaGreatDoor


