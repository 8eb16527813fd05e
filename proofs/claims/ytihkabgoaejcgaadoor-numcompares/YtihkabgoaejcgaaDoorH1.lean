/- The document's Hex: the sixteen digits. -/
import Derived.Test.YtihkabgoaejcgaaDoorT2
import Derived.LoopTactic
import Derived.OwnWalk
namespace Go.Proofs.YtihkabgoaejcgaaDoor
open Go.RowKit

theorem infoU8 : (Tryd.prog.info? 5).map (fun i => (i.zero, i.size, i.bytes)) = some (some (.int .u8 0), 1, 1) := by kernel_rfl

/-- the first k of the sixteen digits -/
def hexK (u k : Nat) : List Int := (List.range k).map fun j => ((hexd (u / 16 ^ (15 - j) % 16) : Nat) : Int)

theorem hexK_succ (u k : Nat) : hexK u (k + 1) = hexK u k ++ [((hexd (u / 16 ^ (15 - k) % 16) : Nat) : Int)] := by simp [hexK, List.range_succ]
theorem hexK_length (u k : Nat) : (hexK u k).length = k := by simp [hexK]

theorem shr_and (u k D : Nat) (hu : u < 18446744073709551616) (hk : k < 16) (hD : u / 16 ^ (15 - k) % 16 = D) : bits .and .u64 ((u : Int) / 2 ^ (60 - 4 * k)) 15 = (D : Int) := by
  have e : (2 : Nat) ^ (60 - 4 * k) = 16 ^ (15 - k) := by rw [show 60 - 4 * k = 4 * (15 - k) by omega, Nat.pow_mul]
  have e2 : ((u : Int) / 2 ^ (60 - 4 * k)) = ((u / 16 ^ (15 - k) : Nat) : Int) := by rw [← e]; simp
  have hl : u / 16 ^ (15 - k) < 18446744073709551616 := Nat.lt_of_le_of_lt (Nat.div_le_self _ _) hu
  rw [e2]
  have := bits_and_u64_nat (u / 16 ^ (15 - k)) 15 hl (by decide)
  rw [show (15 : Nat) = 2 ^ 4 - 1 from rfl, Nat.and_two_pow_sub_one_eq_mod] at this
  rw [show (2 : Nat) ^ 4 = 16 from rfl, hD] at this
  exact this

theorem hexK_hexN (u : Nat) : hexK u 16 = (hexN u 16).map (fun b => ((b.toNat : Nat) : Int)) := by
  apply List.ext_getElem
  · simp [hexK, hexN]
  · intro i h1 h2
    simp only [hexK, hexN, List.getElem_map, List.getElem_range]
    have h := hexd_lt (u / 16 ^ (16 - 1 - i) % 16) (Nat.mod_lt _ (by decide))
    rw [show 15 - i = 16 - 1 - i by omega]
    generalize hexd (u / 16 ^ (16 - 1 - i) % 16) = q at h
    rw [UInt8.toNat_ofNat', Nat.mod_eq_of_lt (by simpa using h)]

/-- a row of bytes that is owned, as a string -/
theorem text_of_row {wr : World} {base : Nat} {v : Value} (l : List UInt8) (hl : 0 < l.length) (h : wr.ownsRow base 5 1 v l.length (l.map fun b => Value.int .u8 ((b.toNat : Nat) : Int))) :
    (convert 87 9 v).run Tryd.prog wr = .ok (.string ⟨l.toArray⟩) wr := by
  obtain ⟨h1, ⟨_, h2⟩ | ⟨g, cap, cur, rfl, hg, hh, hn, hc, hs, ht⟩⟩ := h
  · omega
  · have r := run_convert_bytes_back (P := Tryd.prog) wr 87 9 5 ⟨g, 0, none⟩ cap l Tryd.underlying87 Tryd.underlying5 Tryd.underlying9 (fun j hj => by
      have ea : (⟨g, 0, none⟩ : Addr).add j = ⟨g, j, none⟩ := by
        unfold Addr.add
        split
        · rename_i h; subst h; rfl
        · simp
      rw [ea]
      rw [Nat.mul_one] at ht
      have hj2 : (cur.toList.take l.length)[j]? = some (Value.int .u8 (((l[j]).toNat : Nat) : Int)) := by
        rw [ht, List.getElem?_map, List.getElem?_eq_getElem hj]; rfl
      rw [List.getElem?_take_of_lt hj] at hj2
      unfold World.cell?
      simp only [hh]
      simpa using hj2)
    exact r

theorem hex_step {w wr w1 : World} {u k D : Nat} {v v' : Value} {x : Int} {o : Obj} (hown : wr.ownsRow w.heap.size 5 1 v k ((hexK u k).map (Value.int .u8))) (hbel : Below w.heap.size w wr) (hD : u / 16 ^ (15 - k) % 16 = D) (hx : ((hexd D : Nat) : Int) = x)
    (hown' : w1.ownsRow w.heap.size 5 1 v' (k + 1) ((hexK u k).map (Value.int .u8) ++ [.int .u8 x])) (hgrow : (wr.alloc o).grownBy w1 v.ownBlock) :
    w1.ownsRow w.heap.size 5 1 v' (k + 1) ((hexK u (k + 1)).map (Value.int .u8)) ∧ Below w.heap.size w w1 := by
  refine ⟨?_, ?_⟩
  · rw [hexK_succ, List.map_append, hD, hx]; exact hown'
  · have hrow : ∀ b, v.ownBlock = some b → w.heap.size ≤ b := by
      obtain ⟨_, ⟨rfl, _⟩ | ⟨g, cap, cur, rfl, hg, _⟩⟩ := hown
      · intro b hb; cases hb
      · intro b hb; cases hb; exact hg
    have h2 : Below w.heap.size w (wr.alloc o) := hbel.alloc hbel.size o
    exact ⟨hgrow.os.trans h2.os, hgrow.tape.trans h2.tape, hgrow.output.trans h2.output, Nat.le_trans h2.size hgrow.size, fun b hb => (hgrow.block b (Nat.lt_of_lt_of_le hb h2.size) (fun h => by have := hrow b h.symm; omega)).trans (h2.block b hb)⟩

set_option maxHeartbeats 1000000 in
set_option maxRecDepth 100000 in
theorem hex_any (u : Nat) (hu : u < 18446744073709551616) (w : World) : Calls Tryd.prog 67 #[.int .u64 u] w fun e w' => e = .returned (.string ⟨(hexN u 16).toArray⟩) ∧ Below w.heap.size w w' := by
  obtain ⟨i0, hi, hz0, hz1, hz2⟩ := info_parts infoU8
  have HU : Hid (u < 18446744073709551616) := hu
  clear hu
  go_enter Tryd.func67, Tryd.ntmps67
  go_wp2_with fail
  go_loopw [3, 4] (fun v i wr => ∃ k : Nat, k ≤ 16 ∧ i = .int .i64 k ∧ wr.ownsRow w.heap.size 5 1 v k ((hexK u k).map (Value.int .u8)) ∧ Below w.heap.size w wr) (fun _ i _ => 16 - (intOf i).toNat)
  case atStart => exact ⟨0, by omega, rfl, World.ownsRow_nil _ _ _ _, Below.refl _ _⟩
  case round =>
    obtain ⟨k, hk, rfl, hown, hbel⟩ := hrel
    by_cases hk16 : k < 16
    · obtain ⟨D, hD, hD16⟩ : ∃ D, u / 16 ^ (15 - k) % 16 = D ∧ D < 16 := ⟨_, rfl, Nat.mod_lt _ (by decide)⟩
      have e1 := shr_and u k D HU.out hk16 hD
      have HD : Hid (u / 16 ^ (15 - k) % 16 = D) := hD
      have HO : Hid (wr.ownsRow w.heap.size 5 1 _ k ((hexK u k).map (Value.int .u8))) := hown
      have HB : Hid (Below w.heap.size w wr) := hbel
      clear hD hown hbel
      by_cases hd : D < 10
      · skip
        have hx : hexd D = 48 + D := by simp [hexd, hd]
        go_wp2_with (at_builtin; refine wpList_append_own _ rfl _ _ 87 rfl w.heap.size 5 i0 (.int .u8 0) 1 1 Tryd.underlying87 hi hz0 hz1 hz2 rfl (by decide) _ _ _ rfl (HO.out.alloc _) ⟨wr.heap.size, 0, none⟩ 1 1 [.int .u8 (48 + (D : Int))] rfl rfl ?c1 ?c2 ?c3 ?c4 ?c5 ?_)
        case c1 =>
          intro j x hj
          match j, hj with
          | 0, hj => simp at hj; subst hj; simp [Addr.add]
        case c2 => intro x hx; simp at hx; subst hx; rfl
        case c3 => unfold maxLen; omega
        case c4 => omega
        case c5 => have := HB.out.size; simp; omega
        intro v' w1 hown' hgrow _
        have R := hex_step HO.out HB.out HD.out (by rw [hx]; rfl) hown' hgrow
        clear hown' hgrow
        have R1 : Hid _ := R.1
        have R2 : Hid _ := R.2
        clear R hx
        go_wp2
        go_roundw
        case rel => exact ⟨k + 1, by omega, by go_num, R1.out, R2.out⟩
        case measure => simp [intOf]; omega
      · skip
        have hx : hexd D = 87 + D := by simp [hexd, hd]
        go_wp2_with (at_builtin; refine wpList_append_own _ rfl _ _ 87 rfl w.heap.size 5 i0 (.int .u8 0) 1 1 Tryd.underlying87 hi hz0 hz1 hz2 rfl (by decide) _ _ _ rfl (HO.out.alloc _) ⟨wr.heap.size, 0, none⟩ 1 1 [.int .u8 (97 + (D : Int) - 10)] rfl rfl ?c1 ?c2 ?c3 ?c4 ?c5 ?_)
        case c1 =>
          intro j x hj
          match j, hj with
          | 0, hj => simp at hj; subst hj; simp [Addr.add]
        case c2 => intro x hx; simp at hx; subst hx; rfl
        case c3 => unfold maxLen; omega
        case c4 => omega
        case c5 => have := HB.out.size; simp; omega
        intro v' w1 hown' hgrow _
        have R := hex_step HO.out HB.out HD.out (by rw [hx]; omega) hown' hgrow
        clear hown' hgrow
        have R1 : Hid _ := R.1
        have R2 : Hid _ := R.2
        clear R hx
        go_wp2
        go_roundw
        case rel => exact ⟨k + 1, by omega, by go_num, R1.out, R2.out⟩
        case measure => simp [intOf]; omega
    · have hk17 : k = 16 := by omega
      subst hk17
      have tx := text_of_row (hexN u 16) (by rw [hexN_length]; decide) (by
        rw [hexN_length]
        have := hown
        rw [hexK_hexN, List.map_map] at this
        exact this)
      have HB : Hid (Below w.heap.size w wr) := hbel
      clear hown hbel
      go_wp2
      go_ret
      exact ⟨rfl, HB.out⟩
end Go.Proofs.YtihkabgoaejcgaaDoor
