import Derived.Shelf.SlGeneric
import Derived.Ground.SlsfProg
import Derived.Shelf.SlSortCmp.WholeK
import Derived.Shelf.Small.Bits
import Derived.Shelf.Strconv.Itoa0
import Derived.Test.YtpcpdehnppfbfaaGreatProg
import Derived.Test.YtpcpdehnppfbfaaGreatG09
/- Contracts of the library (Mul64, FormatInt at base 10, Repeat), laid at this program by the kit's own tool, in plain words. -/
namespace Go.Proofs
open Go.Shelf
def Tryz.lays125_ren : Go.Shelf.Ren := ⟨fun | 125 => 45 | 128 => 63 | 129 => 64 | n => n, fun | 46 => 91 | 3 => 3 | 51 => 111 | 53 => 99 | 4 => 4 | 5 => 5 | 9 => 9 | n => n, fun | n => n⟩
theorem Tryz.lays125 : Go.Proofs.Lays.n125 Tryz.prog Tryz.lays125_ren := {
  mixed := by kernel_rfl
  f125 := Tryz.func45.trans (congrArg some (by kernel_rfl))
  f128 := Tryz.func63.trans (congrArg some (by kernel_rfl))
  f129 := Tryz.func64.trans (congrArg some (by kernel_rfl))
  t3 := Tryz.underlying3
  a3 := Tryz.isAgg3
  z3 := Tryz.sizeOf3
  v3 := Tryz.zeroValue3
  t4 := Tryz.underlying4
  a4 := Tryz.isAgg4
  z4 := Tryz.sizeOf4
  v4 := Tryz.zeroValue4
  t5 := Tryz.underlying5
  a5 := Tryz.isAgg5
  z5 := Tryz.sizeOf5
  v5 := Tryz.zeroValue5
  t9 := Tryz.underlying9
  a9 := Tryz.isAgg9
  z9 := Tryz.sizeOf9
  v9 := Tryz.zeroValue9
  t46 := Tryz.underlying91
  a46 := Tryz.isAgg91
  z46 := Tryz.sizeOf91
  v46 := Tryz.zeroValue91
  t51 := Tryz.underlying111
  a51 := Tryz.isAgg111
  z51 := Tryz.sizeOf111
  v51 := Tryz.zeroValue111
  t53 := Tryz.underlying99
  a53 := Tryz.isAgg99
  z53 := Tryz.sizeOf99
  v53 := Tryz.zeroValue99 }
theorem Tryz.bits_Len (x : Int) (w : World) (h0 : 0 ≤ x) (h1 : x ≤ 18446744073709551615) :
    Calls Tryz.prog 45 #[.int .u64 x] w fun e w' => e = .returned (.int .i64 (Lib.bitLen x.toNat)) ∧ w' = w := Any.bits_Len Tryz.lays125 x w h0 h1
def Tryz.sortEnds_ren : Go.Shelf.Ren := ⟨fun | 6 => 38 | 15 => 45 | 14 => 51 | 28 => 63 | 29 => 64 | 20 => 67 | 21 => 68 | 22 => 69 | 23 => 70 | 24 => 71 | 25 => 72 | 26 => 73 | 27 => 74 | 46 => 81 | 47 => 76 | 48 => 77 | 49 => 82 | 50 => 83 | 57 => 86 | n => n, fun | 22 => 63 | 24 => 59 | 25 => 68 | 3 => 3 | 39 => 91 | 0 => 0 | 53 => 111 | 55 => 99 | 4 => 4 | 46 => 103 | 45 => 102 | 50 => 108 | 5 => 5 | 9 => 9 | 66 => 123 | 70 => 127 | 76 => 134 | 77 => 135 | n => n, fun | n => n⟩
theorem Tryz.sortEnds : Go.Proofs.SlLaysF0.n6 Tryz.prog Tryz.sortEnds_ren := {
  mixed := by kernel_rfl
  f6 := ⟨Tryz.f38.name, by decide, Tryz.func38.trans (congrArg some (by kernel_rfl))⟩
  f14 := ⟨Tryz.f51.name, by decide, Tryz.func51.trans (congrArg some (by kernel_rfl))⟩
  f15 := Tryz.func45.trans (congrArg some (by kernel_rfl))
  f20 := ⟨Tryz.f67.name, by decide, Tryz.func67.trans (congrArg some (by kernel_rfl))⟩
  f21 := ⟨Tryz.f68.name, by decide, Tryz.func68.trans (congrArg some (by kernel_rfl))⟩
  f22 := ⟨Tryz.f69.name, by decide, Tryz.func69.trans (congrArg some (by kernel_rfl))⟩
  f23 := ⟨Tryz.f70.name, by decide, Tryz.func70.trans (congrArg some (by kernel_rfl))⟩
  f24 := ⟨Tryz.f71.name, by decide, Tryz.func71.trans (congrArg some (by kernel_rfl))⟩
  f25 := ⟨Tryz.f72.name, by decide, Tryz.func72.trans (congrArg some (by kernel_rfl))⟩
  f26 := ⟨Tryz.f73.name, by decide, Tryz.func73.trans (congrArg some (by kernel_rfl))⟩
  f27 := ⟨Tryz.f74.name, by decide, Tryz.func74.trans (congrArg some (by kernel_rfl))⟩
  f28 := Tryz.func63.trans (congrArg some (by kernel_rfl))
  f29 := Tryz.func64.trans (congrArg some (by kernel_rfl))
  f46 := ⟨Tryz.f81.name, by decide, Tryz.func81.trans (congrArg some (by kernel_rfl))⟩
  f47 := Tryz.func76.trans (congrArg some (by kernel_rfl))
  f48 := Tryz.func77.trans (congrArg some (by kernel_rfl))
  f49 := ⟨Tryz.f82.name, by decide, Tryz.func82.trans (congrArg some (by kernel_rfl))⟩
  f50 := ⟨Tryz.f83.name, by decide, Tryz.func83.trans (congrArg some (by kernel_rfl))⟩
  f57 := ⟨Tryz.f86.name, by decide, Tryz.func86.trans (congrArg some (by kernel_rfl))⟩
  t0 := Tryz.underlying0
  a0 := Tryz.isAgg0
  z0 := Tryz.sizeOf0
  v0 := Tryz.zeroValue0
  t3 := Tryz.underlying3
  a3 := Tryz.isAgg3
  z3 := Tryz.sizeOf3
  v3 := Tryz.zeroValue3
  t4 := Tryz.underlying4
  a4 := Tryz.isAgg4
  z4 := Tryz.sizeOf4
  v4 := Tryz.zeroValue4
  t5 := Tryz.underlying5
  a5 := Tryz.isAgg5
  z5 := Tryz.sizeOf5
  v5 := Tryz.zeroValue5
  t9 := Tryz.underlying9
  a9 := Tryz.isAgg9
  z9 := Tryz.sizeOf9
  v9 := Tryz.zeroValue9
  t22 := Tryz.underlying63
  a22 := Tryz.isAgg63
  z22 := Tryz.sizeOf63
  v22 := Tryz.zeroValue63
  t25 := Tryz.underlying68
  a25 := Tryz.isAgg68
  z25 := Tryz.sizeOf68
  v25 := Tryz.zeroValue68
  t39 := Tryz.underlying91
  a39 := Tryz.isAgg91
  z39 := Tryz.sizeOf91
  v39 := Tryz.zeroValue91
  t45 := Tryz.underlying102
  a45 := Tryz.isAgg102
  z45 := Tryz.sizeOf102
  v45 := Tryz.zeroValue102
  t46 := Tryz.underlying103
  a46 := Tryz.isAgg103
  z46 := Tryz.sizeOf103
  v46 := Tryz.zeroValue103
  t50 := Tryz.underlying108
  a50 := Tryz.isAgg108
  z50 := Tryz.sizeOf108
  v50 := Tryz.zeroValue108
  t53 := Tryz.underlying111
  a53 := Tryz.isAgg111
  z53 := Tryz.sizeOf111
  v53 := Tryz.zeroValue111
  t55 := Tryz.underlying99
  a55 := Tryz.isAgg99
  z55 := Tryz.sizeOf99
  v55 := Tryz.zeroValue99
  t66 := Tryz.underlying123
  a66 := Tryz.isAgg123
  z66 := Tryz.sizeOf123
  v66 := Tryz.zeroValue123
  t70 := Tryz.underlying127
  a70 := Tryz.isAgg127
  z70 := Tryz.sizeOf127
  v70 := Tryz.zeroValue127
  t76 := Tryz.underlying134
  a76 := Tryz.isAgg134
  z76 := Tryz.sizeOf134
  v76 := Tryz.zeroValue134
  t77 := Tryz.underlying135
  a77 := Tryz.isAgg135
  z77 := Tryz.sizeOf135
  v77 := Tryz.zeroValue135 }
end Go.Proofs


/- slices.SortFunc of a few ends: they are the same ones, in some order. -/
namespace Go.Proofs.YtpcpdehnppfbfaaGreat
open Go.RowKit Go.Lib Go.Maps
attribute [local go_sem] store_float f64bits
attribute [local go_sem ↓] Go.wp_at_zero Go.wp_at_succ

def kvs (l : List (Int × Int)) : List Value := l.flatMap fun x => [.int .i64 x.1, .int .i64 x.2]
theorem kvs_append (a b : List (Int × Int)) : kvs (a ++ b) = kvs a ++ kvs b := by simp [kvs]
theorem kvs_length (l : List (Int × Int)) : (kvs l).length = l.length * 2 := by
  induction l with
  | nil => rfl
  | cons x l ih => simp [kvs] at ih ⊢; omega
theorem kvs_one (l : List (Int × Int)) : ∀ u ∈ kvs l, u.oneCell' = true := by
  intro u hu
  obtain ⟨x, _, h⟩ := List.mem_flatMap.1 hu
  simp at h
  rcases h with rfl | rfl <;> rfl

/-- Two neighbours. -/
theorem two_of {l : List (Int × Int)} {j : Nat} (hj : j + 1 < l.length) : ∃ A x y B, l = A ++ x :: y :: B ∧ A.length = j := by
  refine ⟨l.take j, l[j], l[j + 1], l.drop (j + 2), ?_, by simp; omega⟩
  have h1 : l.drop j = l[j] :: l.drop (j + 1) := List.drop_eq_getElem_cons (by omega)
  have h2 : l.drop (j + 1) = l[j + 1] :: l.drop (j + 2) := List.drop_eq_getElem_cons (by omega)
  rw [← h2, ← h1, List.take_append_drop]

def Srt (w : World) (q : Option Addr) (n cap : Nat) (l : List (Int × Int)) : Prop := w.ownsRow 0 KT 2 (.slice q n cap) n (kvs l) ∧ l.length = n

theorem kvs_two (A B : List (Int × Int)) (x y : Int × Int) : kvs (A ++ x :: y :: B) = kvs A ++ (.int .i64 x.1 :: .int .i64 x.2 :: .int .i64 y.1 :: .int .i64 y.2 :: kvs B) := by simp [kvs]
theorem kvs_swap (A B : List (Int × Int)) (x y : Int × Int) (j J : Nat) (hA : A.length = j) (hJ : J = j + 1) : ((((kvs (A ++ x :: y :: B)).set (J * 2) (.int .i64 x.1)).set (J * 2 + 1) (.int .i64 x.2)).set (j * 2) (.int .i64 y.1)).set (j * 2 + 1) (.int .i64 y.2) = kvs (A ++ y :: x :: B) := by
  rw [kvs_two, kvs_two]
  have hl := kvs_length A
  subst hJ
  rw [List.set_append_right _ _ (by omega), List.set_append_right _ _ (by omega), List.set_append_right _ _ (by omega), List.set_append_right _ _ (by omega), show (j + 1) * 2 - (kvs A).length = 2 by omega, show (j + 1) * 2 + 1 - (kvs A).length = 3 by omega, show j * 2 - (kvs A).length = 0 by omega, show j * 2 + 1 - (kvs A).length = 1 by omega]
  rfl

theorem srt_swap {w : World} {g n cap j J : Nat} {A B : List (Int × Int)} {x y : Int × Int} (h : Srt w (some ⟨g, 0, none⟩) n cap (A ++ x :: y :: B)) (hA : A.length = j) (hJ : J = j + 1) : Srt ((((w.setCell ⟨g, J * 2, none⟩ (.int .i64 x.1)).setCell ⟨g, J * 2 + 1, none⟩ (.int .i64 x.2)).setCell ⟨g, j * 2, none⟩ (.int .i64 y.1)).setCell ⟨g, j * 2 + 1, none⟩ (.int .i64 y.2)) (some ⟨g, 0, none⟩) n cap (A ++ y :: x :: B) := by
  refine ⟨?_, by have := h.2; simp at this ⊢; exact this⟩
  rw [← kvs_swap A B x y j J hA hJ]
  exact ((((h.1.stored _ _).1.stored _ _).1.stored _ _).1.stored _ _).1
theorem Srt.but {S : Nat → Prop} {w w' : World} {q : Option Addr} {n cap : Nat} {l : List (Int × Int)} (h : Srt w q n cap l) (hb : But S w w') (hV : ∀ k, (Value.slice q n cap).ownBlock = some k → ¬ S k) : Srt w' q n cap l := ⟨row_but h.1 hb hV, h.2⟩
theorem Srt.keep {w w' : World} {q : Option Addr} {n cap : Nat} {l : List (Int × Int)} (h : Srt w q n cap l) (hb : Below w.heap.size w w') : Srt w' q n cap l := h.but (But.of_below (S := fun _ => False) hb) (fun _ _ h => h)

/-- The four cells of two neighbours. -/
theorem Srt.cells {w : World} {q : Option Addr} {n cap j J : Nat} {l : List (Int × Int)} (h : Srt w q n cap l) (hJ : J = j + 1) (hJn : J < n) : ∃ g A x0 x1 y0 y1 B, q = some ⟨g, 0, none⟩ ∧ l = A ++ (x0, x1) :: (y0, y1) :: B ∧ A.length = j ∧ g < w.heap.size ∧ w.cell? ⟨g, j * 2, none⟩ = some (.int .i64 x0) ∧ w.cell? ⟨g, j * 2 + 1, none⟩ = some (.int .i64 x1) ∧ w.cell? ⟨g, J * 2, none⟩ = some (.int .i64 y0) ∧ w.cell? ⟨g, J * 2 + 1, none⟩ = some (.int .i64 y1) ∧ w.frozen? ⟨g, j * 2, none⟩ = false ∧ w.frozen? ⟨g, j * 2 + 1, none⟩ = false ∧ w.frozen? ⟨g, J * 2, none⟩ = false ∧ w.frozen? ⟨g, J * 2 + 1, none⟩ = false := by
  obtain ⟨A, ⟨x0, x1⟩, ⟨y0, y1⟩, B, rfl, hA⟩ := two_of (l := l) (j := j) (by have := h.2; omega)
  obtain ⟨g, rfl⟩ : ∃ g, q = some ⟨g, 0, none⟩ := by
    rcases h.1.2 with ⟨_, h0⟩ | ⟨g, cap, cur, hv, _⟩
    · omega
    · exact ⟨g, by simpa using (Value.slice.inj hv).1⟩
  have hl := kvs_length A
  have ho := h.1
  rw [kvs_two] at ho
  subst hJ
  have e : ∀ o v, o < n * 2 → (kvs A ++ (.int .i64 x0 :: .int .i64 x1 :: .int .i64 y0 :: .int .i64 y1 :: kvs B))[o]? = some v → w.cell? ⟨g, o, none⟩ = some v := fun o v h1 h2 => (ho.cellAt _ h1).trans h2
  have e0 := e (j * 2) (.int .i64 x0) (by omega) (by rw [List.getElem?_append_right (by omega), show j * 2 - (kvs A).length = 0 by omega]; rfl)
  refine ⟨g, A, x0, x1, y0, y1, B, rfl, rfl, hA, World.block_lt_of_cell? w _ e0, e0, e _ _ (by omega) ?_, e _ _ (by omega) ?_, e _ _ (by omega) ?_, ho.frozenAt _, ho.frozenAt _, ho.frozenAt _, ho.frozenAt _⟩
  · rw [List.getElem?_append_right (by omega), show j * 2 + 1 - (kvs A).length = 1 by omega]; rfl
  · rw [List.getElem?_append_right (by omega), show (j + 1) * 2 - (kvs A).length = 2 by omega]; rfl
  · rw [List.getElem?_append_right (by omega), show (j + 1) * 2 + 1 - (kvs A).length = 3 by omega]; rfl

set_option maxHeartbeats 2000000 in
set_option maxRecDepth 100000 in
theorem insertC (l : List (Int × Int)) (q : Option Addr) (n cap : Nat) (w : World) (h : Srt w q n cap l) (hn : n ≤ 12) :
    Calls Tryz.prog 67 #[.slice q n cap, .int .i64 0, .int .i64 n, .func (.func 25) #[] #[]] w fun e w' => e = .returned (.tuple #[]) ∧ (∃ l', l'.Perm l ∧ Srt w' q n cap l') ∧ But (fun k => (Value.slice q n cap).ownBlock = some k) w w' := by
  have CE := hidb compareEnds_any
  have HS := hidb h
  clear h
  go_enter Tryz.func67, Tryz.ntmps67
  go_wp2_with fail
  go_loopw [8] (fun iv wr => ∃ i : Nat, i ≤ n + 1 ∧ iv = .int .i64 i ∧ (∃ l', l'.Perm l ∧ Srt wr q n cap l') ∧ But (fun k => (Value.slice q n cap).ownBlock = some k) w wr) (fun iv _ => n + 1 - (RowKit.intOf iv).toNat)
  case atStart => exact ⟨1, by omega, rfl, ⟨l, List.Perm.refl _, HS.out⟩, But.refl _ _⟩
  case round =>
  obtain ⟨i, hi, rfl, hs, hb⟩ := hrel
  have HS1 := hidb hs
  have HB1 := hidb hb
  clear hs hb HS
  by_cases hin : i < n
  · have hib : (i : Int) < (n : Int) := by omega
    have hiw : IntKind.i64.wrap ((i : Int) + 1) = (i : Int) + 1 := by rw [IntKind.wrap_i64]; omega
    go_wp2_with fail
    generalize wr = w1 at *
    go_loopw [9] (fun jv wr => ∃ j : Nat, j ≤ i ∧ jv = .int .i64 j ∧ (∃ l', l'.Perm l ∧ Srt wr q n cap l') ∧ But (fun k => (Value.slice q n cap).ownBlock = some k) w wr) (fun jv _ => (RowKit.intOf jv).toNat)
    case atStart => exact ⟨i, by omega, rfl, HS1.out, HB1.out⟩
    case round =>
    obtain ⟨j, hj, rfl, ⟨l', hp, hs⟩, hb⟩ := hrel
    have HP := hidb hp
    have HS2 := hidb hs
    have HB2 := hidb hb
    clear hs hb hp HS1 HB1
    by_cases hj0 : j = 0
    · subst hj0
      go_wp2_with fail
      go_quiet (fail)
      go_wp2_with fail
      have hN := below_drewN (Below.refl wr.heap.size wr) nq
      exact ⟨⟨i + 1, by omega, by go_num, ⟨l', HP.out, HS2.out.keep hN⟩, HB2.out.trans (But.of_below hN)⟩, by simp [RowKit.intOf]; omega⟩
    · obtain ⟨j', hJ⟩ : ∃ j', j = j' + 1 := ⟨j - 1, by omega⟩
      have HJ := hidb hJ
      obtain ⟨g, A, x0, x1, y0, y1, B, rfl, rfl, hA, hgl, k0, k1, k2, k3, f0, f1, f2, f3⟩ := HS2.out.cells hJ (by omega)
      have HA := hidb hA
      have hj1 : (0 : Int) < (j : Int) := by omega
      have hj2 : (j : Int) < (n : Int) := by omega
      have hj3 : (j' : Int) < (n : Int) := by omega
      have hj4 : (0 : Int) ≤ (j' : Int) := by omega
      have hj5 : (0 : Int) ≤ (j : Int) := by omega
      have hjw : IntKind.i64.wrap ((j : Int) - 1) = (j' : Int) := by rw [IntKind.wrap_i64]; omega
      clear hJ hA hj0
      go_wp2_with fail
      have hd : decide (0 < j) = true := decide_eq_true (by omega)
      go_region_held3 (fun w' => w'.cell? ⟨g, j' * 2, none⟩ = some (.int .i64 x0) ∧ w'.cell? ⟨g, j' * 2 + 1, none⟩ = some (.int .i64 x1) ∧ w'.cell? ⟨g, j * 2, none⟩ = some (.int .i64 y0) ∧ w'.cell? ⟨g, j * 2 + 1, none⟩ = some (.int .i64 y1)) (first | with_reducible exact ⟨k0, k1, k2, k3⟩ | with_reducible exact ⟨m0, m1, m2, m3⟩ | go_keep) (first | (go_at_call 25; refine (CE.out y0 y1 x0 x1 _).mono ?_; rintro e w2 ⟨⟨cc, rfl⟩, hb2⟩; have hb3 : Below wr.heap.size wr w2 := (by first | exact hb2 | exact ((Below.refl _ _).drew).trans hb2 | exact (((Below.refl _ _).drew).drew).trans hb2 | exact ((((Below.refl _ _).drew).drew).drew).trans hb2 | exact (((((Below.refl _ _).drew).drew).drew).drew).trans hb2 | exact ((((((Below.refl _ _).drew).drew).drew).drew).drew).trans hb2 | exact (((((((Below.refl _ _).drew).drew).drew).drew).drew).drew).trans hb2 | exact ((((((((Below.refl _ _).drew).drew).drew).drew).drew).drew).drew).trans hb2); clear hb2; have HS3 := hidb (HS2.out.keep hb3); have HB3 := hidb (HB2.out.trans (But.of_below hb3)); have m0 := (hb3.cell (p := ⟨g, j' * 2, none⟩) hgl).trans k0; have n0 := (hb3.frozen (p := ⟨g, j' * 2, none⟩) hgl).trans f0; have m1 := (hb3.cell (p := ⟨g, j' * 2 + 1, none⟩) hgl).trans k1; have n1 := (hb3.frozen (p := ⟨g, j' * 2 + 1, none⟩) hgl).trans f1; have m2 := (hb3.cell (p := ⟨g, j * 2, none⟩) hgl).trans k2; have n2 := (hb3.frozen (p := ⟨g, j * 2, none⟩) hgl).trans f2; have m3 := (hb3.cell (p := ⟨g, j * 2 + 1, none⟩) hgl).trans k3; have n3 := (hb3.frozen (p := ⟨g, j * 2 + 1, none⟩) hgl).trans f3; have hgl2 : g < w2.heap.size := Nat.lt_of_lt_of_le hgl hb3.size; clear hb3))
      clear k0 k1 k2 k3 f0 f1 f2 f3 HS2 HB2 hgl CE
      by_cases hc : cc < 0
      · have hcd : decide (cc < 0) = true := by simp [hc]
        go_wp2_with fail
        have hjj : ¬ j = j' := by have := HJ.out; omega
        have hjj2 : ¬ j' = j := by have := HJ.out; omega
        have hj20 : ¬ j * 2 = j' * 2 := by omega
        have hj21 : ¬ j' * 2 = j * 2 := by omega
        go_region
        all_goals go_wp2_with fail
        refine ⟨⟨j', by have := HJ.out; omega, rfl, ⟨_, ?_, (srt_swap HS3.out HA.out HJ.out).keep (Below.refl _ _).drew⟩, ((((HB3.out.setCell (p := ⟨g, j * 2, none⟩) (fun _ => rfl) _).setCell (p := ⟨g, j * 2 + 1, none⟩) (fun _ => rfl) _).setCell (p := ⟨g, j' * 2, none⟩) (fun _ => rfl) _).setCell (p := ⟨g, j' * 2 + 1, none⟩) (fun _ => rfl) _).drew⟩, by have := HJ.out; simp [RowKit.intOf]; omega⟩
        exact (List.Perm.append_left A (List.Perm.swap _ _ B)).trans HP.out
      · have hcd : decide (cc < 0) = false := by simp [hc]
        go_wp2_with fail
        exact ⟨⟨i + 1, by omega, by go_num, ⟨_, HP.out, HS3.out⟩, HB3.out⟩, by simp [RowKit.intOf]; omega⟩
  · have hib : ¬ (i : Int) < (n : Int) := by omega
    go_wp2_with fail
    exact bodyPost_end (by simp [results, Tryz.results67]) rfl ⟨rfl, HS1.out, HB1.out⟩

set_option maxHeartbeats 1000000 in
theorem pdqC (l : List (Int × Int)) (q : Option Addr) (n cap : Nat) (lim : Int) (w : World) (h : Srt w q n cap l) (hn : n ≤ 12) :
    Calls Tryz.prog 51 #[.slice q n cap, .int .i64 0, .int .i64 n, .int .i64 lim, .func (.func 25) #[] #[]] w fun e w' => e = .returned (.tuple #[]) ∧ (∃ l', l'.Perm l ∧ Srt w' q n cap l') ∧ But (fun k => (Value.slice q n cap).ownBlock = some k) w w' := by
  have IN := hidb (insertC l q n cap w h hn)
  have hnw : IntKind.i64.wrap ((n : Int) - 0) = (n : Int) := by rw [IntKind.wrap_i64]; omega
  have hnw2 : IntKind.i64.wrap (n : Int) = (n : Int) := by rw [IntKind.wrap_i64]; omega
  have hn12 : (n : Int) ≤ 12 := by omega
  clear h
  go_enter Tryz.func51, Tryz.ntmps51
  go_wp2_with fail
  go_loopw [1, 2] (fun av bv wr => av = .int .i64 0 ∧ bv = .int .i64 n ∧ wr = w) (fun _ _ _ => 0)
  case atStart => exact ⟨rfl, rfl, rfl⟩
  case round =>
  obtain ⟨rfl, rfl, hw⟩ := hrel
  obtain rfl := hw.symm
  clear hw
  go_wp2_with (go_at_call 67; refine IN.out.mono ?_; rintro e w1 ⟨rfl, ho, hb⟩; have HO := hidb ho; have HB := hidb hb; clear ho hb)
  exact bodyPost_ret (v := .tuple #[]) (by simp [results, Tryz.results51]) rfl ⟨rfl, HO.out, HB.out⟩

theorem sortC (l : List (Int × Int)) (q : Option Addr) (n cap : Nat) (w : World) (h : Srt w q n cap l) (hn : n ≤ 12) :
    Calls Tryz.prog 38 #[.slice q n cap, .func (.func 25) #[] #[]] w fun e w' => e = .returned (.tuple #[]) ∧ (∃ l', l'.Perm l ∧ Srt w' q n cap l') ∧ But (fun k => (Value.slice q n cap).ownBlock = some k) w w' := by
  have PQ := hidb (fun lim => pdqC l q n cap lim w h hn)
  have BL := hidb (Tryz.bits_Len n w (by omega) (by omega))
  have hnu : IntKind.u64.wrap (n : Int) = (n : Int) := by unfold IntKind.wrap; simp [IntKind.bits, IntKind.signed]; omega
  clear h
  go_enter Tryz.func38, Tryz.ntmps38
  go_wp2_with (first
    | (go_at_call 45; refine BL.out.mono ?_; rintro e w1 ⟨rfl, rfl⟩)
    | (go_at_call 51; refine (PQ.out _).mono ?_; rintro e w1 ⟨rfl, ho, hb⟩; have HO := hidb ho; have HB := hidb hb; clear ho hb))
  exact bodyPost_end (by simp [results, Tryz.results38]) rfl ⟨rfl, HO.out, HB.out⟩
end Go.Proofs.YtpcpdehnppfbfaaGreat


