/- The walk of NumFinite: both floats. -/
import Derived.Test.YtihkabgoaejcgaaDoorF4
namespace Go.Proofs.YtihkabgoaejcgaaDoor
open Go.RowKit Go.Sort
attribute [local go_sem] store_float
attribute [local go_sem ↓] Go.wp_at_zero Go.wp_at_succ

set_option maxRecDepth 100000 in
set_option maxHeartbeats 16000000 in
theorem fin_uv (u v : Nat) (n m N M : Int) (hn : n.tmod 576460752303423488 = N) (hm : m.tmod 576460752303423488 = M) (HN : Hid (Num 1 N 0)) (HM : Hid (Num 1 M 0)) (HNU : Hid (Num 2 0 u)) (HNV : Hid (Num 2 0 v)) (nbu : numBits u = ⟨2, 0, u, 0⟩) (nbv : numBits v = ⟨2, 0, v, 0⟩) (HU : Hid (u < 18446744073709551616)) (HV : Hid (v < 18446744073709551616)) (w : World) (ht : w.cell? ⟨4, 15, none⟩ = some (.int .u8 4)) :
    Calls Tryd.prog 8 #[.int .u64 u, .int .u64 v, .int .i64 n, .int .i64 m] w fun e w' => e = .returned (.bool true) ∧ Below w.heap.size w w' := by
  obtain ⟨i0, hi, hz0, hz1, hz2⟩ := info_parts infoT
  go_enter Tryd.func8, Tryd.ntmps8
  go_wp2_with fail
  refine (known_any _ ht).mono ?_
  rintro e w1 ⟨rfl, hb1⟩
  clear ht
  go_wp2_with fail
  refine (i_any _ _).mono ?_
  rintro e w2 ⟨rfl, hb⟩
  have hW2 := bthen hb1 hb
  clear hb hb1
  go_wp2_with fail
  refine (i_any _ _).mono ?_
  rintro e w3 ⟨rfl, hb⟩
  have hW3 := bthen hW2 hb
  clear hb hW2
  go_wp2_with fail
  refine (f_any _ _).mono ?_
  rintro e w4 ⟨rfl, hb⟩
  have hW4 := bthen hW3 hb
  clear hb hW3
  go_wp2_with fail
  refine (numBits_any u HU.out _).mono ?_
  rintro e w5 ⟨rfl, hb⟩
  rw [nbu]
  have OW := hidE (own_keep (own3 N M hW4.size) hb)
  have HW5 := hidE (bthen (below_a1 hW4 (.cells #[.int .i64 1, .int .i64 N, .float .f64 0, .string ⟨#[]⟩, .slice none 0 0, .int .i64 1, .int .i64 M, .float .f64 0, .string ⟨#[]⟩, .slice none 0 0, .int .i64 2, .int .i64 0, .float .f64 0, .string ⟨#[]⟩, .slice none 0 0] 27)) hb)
  clear hb hW4 nbu
  have OB1 := hidE (own_keep OW.out (below_new w5 (.cells #[.int .i64 2, .int .i64 0, .float .f64 u, .string ⟨#[]⟩, .slice none 0 0] 27)))
  have HB1 := hidE (below_a1 HW5.out (.cells #[.int .i64 2, .int .i64 0, .float .f64 u, .string ⟨#[]⟩, .slice none 0 0] 27))
  go_wp2_with (at_builtin; refine wpList_append_own _ rfl _ _ 25 rfl w.heap.size 27 i0 (.agg #[.int .i64 (0), .int .i64 (0), .float .f64 (0), .string ⟨#[]⟩, .slice none 0 0]) 5 64 Tryd.underlying25 hi hz0 hz1 hz2 rfl (by decide) _ _ _ rfl (OB1.out.alloc _) ⟨w5.heap.size + 1, 0, none⟩ 1 1 [.int .i64 2, .int .i64 0, .float .f64 u, .string ⟨#[]⟩, .slice none 0 0] rfl rfl ?c1 ?c2 ?c3 ?c4 ?c5 ?_)
  case c1 =>
    have e1 : (w5.alloc (.cells #[.int .i64 2, .int .i64 0, .float .f64 u, .string ⟨#[]⟩, .slice none 0 0] 27)).heap.size = w5.heap.size + 1 := by simp
    rw [← e1]
    intro j y hj
    match j, hj with
    | 0, hj => simp at hj; subst hj; simp [Addr.add]
    | 1, hj => simp at hj; subst hj; simp [Addr.add]
    | 2, hj => simp at hj; subst hj; simp [Addr.add]
    | 3, hj => simp at hj; subst hj; simp [Addr.add]
    | 4, hj => simp at hj; subst hj; simp [Addr.add]
    | j + 5, hj => simp at hj
  case c2 => intro y hy; simp at hy; rcases hy with rfl | rfl | rfl | rfl | rfl <;> rfl
  case c3 => unfold maxLen; omega
  case c4 => omega
  case c5 => have := HB1.out.size; simp at this ⊢; omega
  intro v' wa1 hown' hgrow _
  have HX1 := hidE (grow_step OB1.out HB1.out hgrow)
  have ox : wa1.ownsRow w.heap.size 27 5 v' 4 (cellsL [(1, N, 0), (1, M, 0), (2, 0, 0), (2, 0, u)]) := by
    have e : cellsL [(1, N, 0), (1, M, 0), (2, 0, 0), (2, 0, u)] = cellsL [(1, N, 0), (1, M, 0), (2, 0, 0)] ++ [.int .i64 2, .int .i64 0, .float .f64 u, .string ⟨#[]⟩, .slice none 0 0] := by simp [cellsL]
    rw [e]; exact hown'
  obtain ⟨g1, cap1, rfl⟩ := own_form ox (by omega)
  have OX1 := hidE ox
  clear hown' hgrow ox OB1 HB1 OW HW5
  go_wp2_with fail
  refine (numBits_any v HV.out _).mono ?_
  rintro e w6 ⟨rfl, hb⟩
  rw [nbv]
  have OW6 := hidE (own_keep OX1.out hb)
  have HW6 := hidE (bthen HX1.out hb)
  clear hb OX1 HX1 nbv
  have OB2 := hidE (own_keep OW6.out (below_new w6 (.cells #[.int .i64 2, .int .i64 0, .float .f64 v, .string ⟨#[]⟩, .slice none 0 0] 27)))
  have HB2 := hidE (below_a1 HW6.out (.cells #[.int .i64 2, .int .i64 0, .float .f64 v, .string ⟨#[]⟩, .slice none 0 0] 27))
  go_wp2_with (at_builtin; refine wpList_append_own _ rfl _ _ 25 rfl w.heap.size 27 i0 (.agg #[.int .i64 (0), .int .i64 (0), .float .f64 (0), .string ⟨#[]⟩, .slice none 0 0]) 5 64 Tryd.underlying25 hi hz0 hz1 hz2 rfl (by decide) _ _ _ rfl (OB2.out.alloc _) ⟨w6.heap.size + 1, 0, none⟩ 1 1 [.int .i64 2, .int .i64 0, .float .f64 v, .string ⟨#[]⟩, .slice none 0 0] rfl rfl ?c1 ?c2 ?c3 ?c4 ?c5 ?_)
  case c1 =>
    have e1 : (w6.alloc (.cells #[.int .i64 2, .int .i64 0, .float .f64 v, .string ⟨#[]⟩, .slice none 0 0] 27)).heap.size = w6.heap.size + 1 := by simp
    rw [← e1]
    intro j y hj
    match j, hj with
    | 0, hj => simp at hj; subst hj; simp [Addr.add]
    | 1, hj => simp at hj; subst hj; simp [Addr.add]
    | 2, hj => simp at hj; subst hj; simp [Addr.add]
    | 3, hj => simp at hj; subst hj; simp [Addr.add]
    | 4, hj => simp at hj; subst hj; simp [Addr.add]
    | j + 5, hj => simp at hj
  case c2 => intro y hy; simp at hy; rcases hy with rfl | rfl | rfl | rfl | rfl <;> rfl
  case c3 => unfold maxLen; omega
  case c4 => omega
  case c5 => have := HB2.out.size; simp at this ⊢; omega
  intro v' wa2 hown' hgrow _
  have HX2 := hidE (grow_step OB2.out HB2.out hgrow)
  have ox : wa2.ownsRow w.heap.size 27 5 v' 5 (cellsL [(1, N, 0), (1, M, 0), (2, 0, 0), (2, 0, u), (2, 0, v)]) := by
    have e : cellsL [(1, N, 0), (1, M, 0), (2, 0, 0), (2, 0, u), (2, 0, v)] = cellsL [(1, N, 0), (1, M, 0), (2, 0, 0), (2, 0, u)] ++ [.int .i64 2, .int .i64 0, .float .f64 v, .string ⟨#[]⟩, .slice none 0 0] := by simp [cellsL]
    rw [e]; exact hown'
  obtain ⟨g2, cap2, rfl⟩ := own_form ox (by omega)
  have OX2 := hidE ox
  clear hown' hgrow ox OB2 HB2 OW6 HW6
  go_wp2_with fail
  have RX := row_of OX2.out (L := [(1, N, 0), (1, M, 0), (2, 0, 0), (2, 0, u), (2, 0, v)]) (by intro x hx; simp at hx; rcases hx with rfl | rfl | rfl | rfl | rfl <;> first | exact HN.out | exact HM.out | exact Or.inr ⟨rfl, rfl, by decide, by decide⟩ | exact HNU.out | exact HNV.out) (by simp)
  have RW7 := hidE (RX.1.keep (below_new _ (.cells #[.string ⟨#[43]⟩, .string ⟨#[45]⟩, .string ⟨#[42]⟩, .string ⟨#[47]⟩, .string ⟨#[100, 105, 118]⟩, .string ⟨#[114, 101, 109]⟩] 9)))
  have SG := hidE (signs_new wa2)
  have HW7 := hidE (below_a1 HX2.out (.cells #[.string ⟨#[43]⟩, .string ⟨#[45]⟩, .string ⟨#[42]⟩, .string ⟨#[47]⟩, .string ⟨#[100, 105, 118]⟩, .string ⟨#[114, 101, 109]⟩] 9))
  clear RX OX2 HX2
  generalize wa2.alloc (.cells #[.string ⟨#[43]⟩, .string ⟨#[45]⟩, .string ⟨#[42]⟩, .string ⟨#[47]⟩, .string ⟨#[100, 105, 118]⟩, .string ⟨#[114, 101, 109]⟩] 9) = W0 at *
  generalize wa2.heap.size = sg at *
  generalize g2 = g at *
  go_loopw [14] (fun jv wr => ∃ j : Nat, j ≤ 5 ∧ jv = .int .i64 j ∧ Below W0.heap.size W0 wr) (fun jv _ => 5 - (intOf jv).toNat)
  case atStart => exact ⟨0, by omega, rfl, Below.refl _ _⟩
  case round =>
    obtain ⟨j, hj, rfl, hbj⟩ := hrel
    have HBJ := hidE hbj
    clear hbj
    by_cases hjl : j < 5
    · have hjb : (j : Int) < 5 := by omega
      have hjt : decide ((j : Int) < 5) = true := decide_eq_true hjb
      go_wp2_with fail
      go_loopw [15] (fun kv wr2 => ∃ k : Nat, k ≤ 5 ∧ kv = .int .i64 k ∧ Below W0.heap.size W0 wr2) (fun kv _ => 5 - (intOf kv).toNat)
      case atStart => exact ⟨0, by omega, rfl, HBJ.out⟩
      case round =>
        obtain ⟨k, hk, rfl, hbk⟩ := hrel
        have HBK := hidE hbk
        clear hbk
        by_cases hkl : k < 5
        · have hkb : (k : Int) < 5 := by omega
          have hkt : decide ((k : Int) < 5) = true := decide_eq_true hkb
          go_wp2_with fail
          go_loopw [16] (fun sv wr3 => ∃ s : Nat, s ≤ 6 ∧ sv = .int .i64 s ∧ Below W0.heap.size W0 wr3) (fun sv _ => 6 - (intOf sv).toNat)
          case atStart => exact ⟨0, by omega, rfl, HBK.out⟩
          case round =>
            obtain ⟨s, hs, rfl, hbs⟩ := hrel
            have HBS := hidE hbs
            clear hbs
            by_cases hsl : s < 6
            · skip
              obtain ⟨ka, na, fa, hna, a0, a1, a2, a3, a4⟩ := (RW7.out.keep HBS.out).at_ j hjl
              obtain ⟨kb, nb, fb, hnb, b0, b1, b2, b3, b4⟩ := (RW7.out.keep HBS.out).at_ k hkl
              obtain ⟨b, sc, hb⟩ := (SG.out.keep HBS.out).at_ s hsl
              have hjz : (0 : Int) ≤ (j : Int) := by omega
              have hkz : (0 : Int) ≤ (k : Int) := by omega
              have hsz : (0 : Int) ≤ (s : Int) := by omega
              have hsb : (s : Int) < 6 := by omega
              have ne1 := World.new_ne wr _ sc
              have ne2 := World.new_ne wr _ a0
              rcases hb with hsame | ⟨n43, n42, hother⟩
              · skip
                obtain ⟨r, told, op, op2⟩ := tells_same hsame hna hnb
                have OP := hidE op
                have OP2 := hidE op2
                have TD := hidE told
                clear op op2 told hna hnb
                have hpick : (b.toList == [43]) = true ∨ ((b.toList == [43]) = false ∧ (b.toList == [42]) = true) := by
                  rcases hsame with h | h
                  · left; rw [h, ByteArray.toList_eq]; rfl
                  · right; rw [h, ByteArray.toList_eq]; exact ⟨rfl, rfl⟩
                clear hsame
                rcases hpick with t43 | ⟨t43, t42⟩
                all_goals
                  go_wp2_with fail
                  go_cut [17, 18] from 66 to 141 (fun x gv wc => ∃ bx, x = .pointer (some ⟨bx, 0, none⟩) ∧ gv = .int .i64 r.e ∧ Box wc bx (.int .i64 r.k) (.int .i64 r.n) (.float .f64 r.f) (.string ⟨#[]⟩) (.slice none 0 0) ∧ Below wr.heap.size wr wc)
                  case first =>
                    go_region_held3 (fun w' => w'.cell? ⟨sg, s, none⟩ = some (.string b) ∧ w'.cell? ⟨g, j * 5, none⟩ = some (.int .i64 ka) ∧ w'.cell? ⟨g, j * 5 + 1, none⟩ = some (.int .i64 na) ∧ w'.cell? ⟨g, j * 5 + 2, none⟩ = some (.float .f64 fa) ∧ w'.cell? ⟨g, j * 5 + 3, none⟩ = some (.string ⟨#[]⟩) ∧ w'.cell? ⟨g, j * 5 + 4, none⟩ = some (.slice none 0 0) ∧ w'.cell? ⟨g, k * 5, none⟩ = some (.int .i64 kb) ∧ w'.cell? ⟨g, k * 5 + 1, none⟩ = some (.int .i64 nb) ∧ w'.cell? ⟨g, k * 5 + 2, none⟩ = some (.float .f64 fb) ∧ w'.cell? ⟨g, k * 5 + 3, none⟩ = some (.string ⟨#[]⟩) ∧ w'.cell? ⟨g, k * 5 + 4, none⟩ = some (.slice none 0 0))
                      (first | with_reducible exact ⟨z0, z1, z2, z3, z4, z5, z6, z7, z8, z9, z10⟩ | go_keep)
                      (first | (go_at_call 17; refine (OP.out _).mono ?_; rintro e wz ⟨rfl, hbz⟩; obtain ⟨hcz, hfrz⟩ := bcell hbz; have hB : Below wr.heap.size wr wz := (by first | with_reducible exact drewF hbz | with_reducible exact stepC hbz); have z0 := (hB.cell (block_lt_of_cell sc)).trans sc; have z1 := (hB.cell (block_lt_of_cell a0)).trans a0; have z2 := (hB.cell (block_lt_of_cell a1)).trans a1; have z3 := (hB.cell (block_lt_of_cell a2)).trans a2; have z4 := (hB.cell (block_lt_of_cell a3)).trans a3; have z5 := (hB.cell (block_lt_of_cell a4)).trans a4; have z6 := (hB.cell (block_lt_of_cell b0)).trans b0; have z7 := (hB.cell (block_lt_of_cell b1)).trans b1; have z8 := (hB.cell (block_lt_of_cell b2)).trans b2; have z9 := (hB.cell (block_lt_of_cell b3)).trans b3; have z10 := (hB.cell (block_lt_of_cell b4)).trans b4))
                    all_goals
                      go_wp2_with fail
                      go_meet
                      case rel =>
                        first
                          | with_reducible exact ⟨_, rfl, rfl, Box.new _ _ _ _ _ _ _, stepA hbz⟩
                          | with_reducible exact ⟨_, rfl, rfl, (stepB hbz _ _ _ _ _).1, (stepB hbz _ _ _ _ _).2⟩
                  case rest =>
                  obtain ⟨bx, rfl, rfl, BX, hbc⟩ := hcut
                  have BXH := hidE BX
                  clear BX ne1 ne2
                  rcases TD.out with ⟨e0, rt⟩ | ⟨e0, k0, m0, f0⟩
                  · have RT := hidE (fun w => right_told rt w)
                    have eb : (r.e == 0) = true := by simpa using e0
                    have en : (r.e != 0) = false := by simpa using e0
                    clear rt e0
                    have sc1 := (hbc.cell (block_lt_of_cell sc)).trans sc
                    obtain ⟨X0, X1, X2, X3, X4, _, _, _, _, _, Xl⟩ := BXH.out
                    go_wp2_with fail
                    refine (RT.out _).mono ?_
                    rintro e wd ⟨rfl, hB1⟩
                    clear X0 X1 X2 X3 X4 Xl sc1
                    have hwd := bthen hbc hB1
                    have BXD := hidE (BXH.out.keep hB1)
                    have HBD := hidE (bthen HBS.out hwd)
                    have n_sc := (hwd.cell (block_lt_of_cell sc)).trans sc
                    have n_a0 := (hwd.cell (block_lt_of_cell a0)).trans a0
                    have n_a1 := (hwd.cell (block_lt_of_cell a1)).trans a1
                    have n_a2 := (hwd.cell (block_lt_of_cell a2)).trans a2
                    have n_a3 := (hwd.cell (block_lt_of_cell a3)).trans a3
                    have n_a4 := (hwd.cell (block_lt_of_cell a4)).trans a4
                    have n_b0 := (hwd.cell (block_lt_of_cell b0)).trans b0
                    have n_b1 := (hwd.cell (block_lt_of_cell b1)).trans b1
                    have n_b2 := (hwd.cell (block_lt_of_cell b2)).trans b2
                    have n_b3 := (hwd.cell (block_lt_of_cell b3)).trans b3
                    have n_b4 := (hwd.cell (block_lt_of_cell b4)).trans b4
                    clear sc a0 a1 a2 a3 a4 b0 b1 b2 b3 b4 hwd hbc hB1 BXH
                    have sc := n_sc
                    have a0 := n_a0
                    have a1 := n_a1
                    have a2 := n_a2
                    have a3 := n_a3
                    have a4 := n_a4
                    have b0 := n_b0
                    have b1 := n_b1
                    have b2 := n_b2
                    have b3 := n_b3
                    have b4 := n_b4
                    clear n_sc n_a0 n_a1 n_a2 n_a3 n_a4 n_b0 n_b1 n_b2 n_b3 n_b4
                    have ne1 := World.new_ne wd _ sc
                    have ne2 := World.new_ne wd _ a0
                    go_wp2_with fail
                    go_cut [19, 20] from 66 to 141 (fun x gv wc => ∃ bx, x = .pointer (some ⟨bx, 0, none⟩) ∧ gv = .int .i64 r.e ∧ Box wc bx (.int .i64 r.k) (.int .i64 r.n) (.float .f64 r.f) (.string ⟨#[]⟩) (.slice none 0 0) ∧ Below wd.heap.size wd wc)
                    case first =>
                      go_region_held3 (fun w' => w'.cell? ⟨sg, s, none⟩ = some (.string b) ∧ w'.cell? ⟨g, j * 5, none⟩ = some (.int .i64 ka) ∧ w'.cell? ⟨g, j * 5 + 1, none⟩ = some (.int .i64 na) ∧ w'.cell? ⟨g, j * 5 + 2, none⟩ = some (.float .f64 fa) ∧ w'.cell? ⟨g, j * 5 + 3, none⟩ = some (.string ⟨#[]⟩) ∧ w'.cell? ⟨g, j * 5 + 4, none⟩ = some (.slice none 0 0) ∧ w'.cell? ⟨g, k * 5, none⟩ = some (.int .i64 kb) ∧ w'.cell? ⟨g, k * 5 + 1, none⟩ = some (.int .i64 nb) ∧ w'.cell? ⟨g, k * 5 + 2, none⟩ = some (.float .f64 fb) ∧ w'.cell? ⟨g, k * 5 + 3, none⟩ = some (.string ⟨#[]⟩) ∧ w'.cell? ⟨g, k * 5 + 4, none⟩ = some (.slice none 0 0))
                        (first | with_reducible exact ⟨z0, z1, z2, z3, z4, z5, z6, z7, z8, z9, z10⟩ | go_keep)
                        (first | (go_at_call 17; refine (OP2.out _).mono ?_; rintro e wz ⟨rfl, hbz⟩; obtain ⟨hcz, hfrz⟩ := bcell hbz; have hB : Below wd.heap.size wd wz := (by first | with_reducible exact drewF hbz | with_reducible exact stepC hbz); have z0 := (hB.cell (block_lt_of_cell sc)).trans sc; have z1 := (hB.cell (block_lt_of_cell a0)).trans a0; have z2 := (hB.cell (block_lt_of_cell a1)).trans a1; have z3 := (hB.cell (block_lt_of_cell a2)).trans a2; have z4 := (hB.cell (block_lt_of_cell a3)).trans a3; have z5 := (hB.cell (block_lt_of_cell a4)).trans a4; have z6 := (hB.cell (block_lt_of_cell b0)).trans b0; have z7 := (hB.cell (block_lt_of_cell b1)).trans b1; have z8 := (hB.cell (block_lt_of_cell b2)).trans b2; have z9 := (hB.cell (block_lt_of_cell b3)).trans b3; have z10 := (hB.cell (block_lt_of_cell b4)).trans b4))
                      all_goals
                        go_wp2_with fail
                        go_meet
                        case rel =>
                          first
                            | with_reducible exact ⟨_, rfl, rfl, Box.new _ _ _ _ _ _ _, stepA hbz⟩
                            | with_reducible exact ⟨_, rfl, rfl, (stepB hbz _ _ _ _ _).1, (stepB hbz _ _ _ _ _).2⟩
                    case rest =>
                    obtain ⟨by_, rfl, rfl, BY, hbc2⟩ := hcut
                    clear a0 a1 a2 a3 a4 b0 b1 b2 b3 b4 ne1 ne2 sc
                    have HBE := hidE (bthen HBD.out hbc2)
                    obtain ⟨X0, X1, X2, X3, X4, _, _, _, _, _, Xl⟩ := BXD.out.keep hbc2
                    obtain ⟨Y0, Y1, Y2, Y3, Y4, _, _, _, _, _, Yl⟩ := BY
                    clear hbc2
                    go_wp2_with fail
                    refine (same_true _ _ _ _).mono ?_
                    rintro e we ⟨rfl, hB2⟩
                    clear X0 X1 X2 X3 X4 Xl Y0 Y1 Y2 Y3 Y4 Yl
                    have HBF := hidE (bthen HBE.out hB2)
                    clear hB2
                    go_wp2
                    go_roundw
                    case rel => exact ⟨s + 1, by omega, by go_num, HBF.out⟩
                    case measure => simp [intOf]; omega
                  · have eb : (r.e == 0) = false := by simpa using e0
                    have en : (r.e != 0) = true := by simpa using e0
                    have sc1 := (hbc.cell (block_lt_of_cell sc)).trans sc
                    obtain ⟨X0, X1, X2, X3, X4, _, _, _, _, _, Xl⟩ := BXH.out
                    rw [k0] at X0
                    rw [m0] at X1
                    rw [f0] at X2
                    clear e0 k0 m0 f0
                    go_wp2_with fail
                    refine (same_true 0 0 0 _).mono ?_
                    rintro e wd ⟨rfl, hB1⟩
                    clear X0 X1 X2 X3 X4 Xl sc1
                    have hwd := bthen hbc hB1
                    have BXD := hidE (BXH.out.keep hB1)
                    have HBD := hidE (bthen HBS.out hwd)
                    have n_sc := (hwd.cell (block_lt_of_cell sc)).trans sc
                    have n_a0 := (hwd.cell (block_lt_of_cell a0)).trans a0
                    have n_a1 := (hwd.cell (block_lt_of_cell a1)).trans a1
                    have n_a2 := (hwd.cell (block_lt_of_cell a2)).trans a2
                    have n_a3 := (hwd.cell (block_lt_of_cell a3)).trans a3
                    have n_a4 := (hwd.cell (block_lt_of_cell a4)).trans a4
                    have n_b0 := (hwd.cell (block_lt_of_cell b0)).trans b0
                    have n_b1 := (hwd.cell (block_lt_of_cell b1)).trans b1
                    have n_b2 := (hwd.cell (block_lt_of_cell b2)).trans b2
                    have n_b3 := (hwd.cell (block_lt_of_cell b3)).trans b3
                    have n_b4 := (hwd.cell (block_lt_of_cell b4)).trans b4
                    clear sc a0 a1 a2 a3 a4 b0 b1 b2 b3 b4 hwd hbc hB1 BXH
                    have sc := n_sc
                    have a0 := n_a0
                    have a1 := n_a1
                    have a2 := n_a2
                    have a3 := n_a3
                    have a4 := n_a4
                    have b0 := n_b0
                    have b1 := n_b1
                    have b2 := n_b2
                    have b3 := n_b3
                    have b4 := n_b4
                    clear n_sc n_a0 n_a1 n_a2 n_a3 n_a4 n_b0 n_b1 n_b2 n_b3 n_b4
                    have ne1 := World.new_ne wd _ sc
                    have ne2 := World.new_ne wd _ a0
                    go_wp2_with fail
                    go_cut [19, 20] from 66 to 141 (fun x gv wc => ∃ bx, x = .pointer (some ⟨bx, 0, none⟩) ∧ gv = .int .i64 r.e ∧ Box wc bx (.int .i64 r.k) (.int .i64 r.n) (.float .f64 r.f) (.string ⟨#[]⟩) (.slice none 0 0) ∧ Below wd.heap.size wd wc)
                    case first =>
                      go_region_held3 (fun w' => w'.cell? ⟨sg, s, none⟩ = some (.string b) ∧ w'.cell? ⟨g, j * 5, none⟩ = some (.int .i64 ka) ∧ w'.cell? ⟨g, j * 5 + 1, none⟩ = some (.int .i64 na) ∧ w'.cell? ⟨g, j * 5 + 2, none⟩ = some (.float .f64 fa) ∧ w'.cell? ⟨g, j * 5 + 3, none⟩ = some (.string ⟨#[]⟩) ∧ w'.cell? ⟨g, j * 5 + 4, none⟩ = some (.slice none 0 0) ∧ w'.cell? ⟨g, k * 5, none⟩ = some (.int .i64 kb) ∧ w'.cell? ⟨g, k * 5 + 1, none⟩ = some (.int .i64 nb) ∧ w'.cell? ⟨g, k * 5 + 2, none⟩ = some (.float .f64 fb) ∧ w'.cell? ⟨g, k * 5 + 3, none⟩ = some (.string ⟨#[]⟩) ∧ w'.cell? ⟨g, k * 5 + 4, none⟩ = some (.slice none 0 0))
                        (first | with_reducible exact ⟨z0, z1, z2, z3, z4, z5, z6, z7, z8, z9, z10⟩ | go_keep)
                        (first | (go_at_call 17; refine (OP2.out _).mono ?_; rintro e wz ⟨rfl, hbz⟩; obtain ⟨hcz, hfrz⟩ := bcell hbz; have hB : Below wd.heap.size wd wz := (by first | with_reducible exact drewF hbz | with_reducible exact stepC hbz); have z0 := (hB.cell (block_lt_of_cell sc)).trans sc; have z1 := (hB.cell (block_lt_of_cell a0)).trans a0; have z2 := (hB.cell (block_lt_of_cell a1)).trans a1; have z3 := (hB.cell (block_lt_of_cell a2)).trans a2; have z4 := (hB.cell (block_lt_of_cell a3)).trans a3; have z5 := (hB.cell (block_lt_of_cell a4)).trans a4; have z6 := (hB.cell (block_lt_of_cell b0)).trans b0; have z7 := (hB.cell (block_lt_of_cell b1)).trans b1; have z8 := (hB.cell (block_lt_of_cell b2)).trans b2; have z9 := (hB.cell (block_lt_of_cell b3)).trans b3; have z10 := (hB.cell (block_lt_of_cell b4)).trans b4))
                      all_goals
                        go_wp2_with fail
                        go_meet
                        case rel =>
                          first
                            | with_reducible exact ⟨_, rfl, rfl, Box.new _ _ _ _ _ _ _, stepA hbz⟩
                            | with_reducible exact ⟨_, rfl, rfl, (stepB hbz _ _ _ _ _).1, (stepB hbz _ _ _ _ _).2⟩
                    case rest =>
                    obtain ⟨by_, rfl, rfl, BY, hbc2⟩ := hcut
                    clear a0 a1 a2 a3 a4 b0 b1 b2 b3 b4 ne1 ne2 sc
                    have HBE := hidE (bthen HBD.out hbc2)
                    obtain ⟨X0, X1, X2, X3, X4, _, _, _, _, _, Xl⟩ := BXD.out.keep hbc2
                    obtain ⟨Y0, Y1, Y2, Y3, Y4, _, _, _, _, _, Yl⟩ := BY
                    clear hbc2
                    go_wp2_with fail
                    refine (same_true _ _ _ _).mono ?_
                    rintro e we ⟨rfl, hB2⟩
                    clear X0 X1 X2 X3 X4 Xl Y0 Y1 Y2 Y3 Y4 Yl
                    have HBF := hidE (bthen HBE.out hB2)
                    clear hB2
                    go_wp2
                    go_roundw
                    case rel => exact ⟨s + 1, by omega, by go_num, HBF.out⟩
                    case measure => simp [intOf]; omega
              · obtain ⟨r, told, op⟩ := tells_other hother hna hnb
                have OP := hidE op
                have TD := hidE told
                clear op told hother hna hnb
                go_wp2_with fail
                go_cut [17, 18] from 66 to 141 (fun x gv wc => ∃ bx, x = .pointer (some ⟨bx, 0, none⟩) ∧ gv = .int .i64 r.e ∧ Box wc bx (.int .i64 r.k) (.int .i64 r.n) (.float .f64 r.f) (.string ⟨#[]⟩) (.slice none 0 0) ∧ Below wr.heap.size wr wc)
                case first =>
                  go_region_held3 (fun w' => w'.cell? ⟨sg, s, none⟩ = some (.string b) ∧ w'.cell? ⟨g, j * 5, none⟩ = some (.int .i64 ka) ∧ w'.cell? ⟨g, j * 5 + 1, none⟩ = some (.int .i64 na) ∧ w'.cell? ⟨g, j * 5 + 2, none⟩ = some (.float .f64 fa) ∧ w'.cell? ⟨g, j * 5 + 3, none⟩ = some (.string ⟨#[]⟩) ∧ w'.cell? ⟨g, j * 5 + 4, none⟩ = some (.slice none 0 0) ∧ w'.cell? ⟨g, k * 5, none⟩ = some (.int .i64 kb) ∧ w'.cell? ⟨g, k * 5 + 1, none⟩ = some (.int .i64 nb) ∧ w'.cell? ⟨g, k * 5 + 2, none⟩ = some (.float .f64 fb) ∧ w'.cell? ⟨g, k * 5 + 3, none⟩ = some (.string ⟨#[]⟩) ∧ w'.cell? ⟨g, k * 5 + 4, none⟩ = some (.slice none 0 0))
                    (first | with_reducible exact ⟨z0, z1, z2, z3, z4, z5, z6, z7, z8, z9, z10⟩ | go_keep)
                    (first | (go_at_call 17; refine (OP.out _).mono ?_; rintro e wz ⟨rfl, hbz⟩; obtain ⟨hcz, hfrz⟩ := bcell hbz; have hB : Below wr.heap.size wr wz := (by first | with_reducible exact drewF hbz | with_reducible exact stepC hbz); have z0 := (hB.cell (block_lt_of_cell sc)).trans sc; have z1 := (hB.cell (block_lt_of_cell a0)).trans a0; have z2 := (hB.cell (block_lt_of_cell a1)).trans a1; have z3 := (hB.cell (block_lt_of_cell a2)).trans a2; have z4 := (hB.cell (block_lt_of_cell a3)).trans a3; have z5 := (hB.cell (block_lt_of_cell a4)).trans a4; have z6 := (hB.cell (block_lt_of_cell b0)).trans b0; have z7 := (hB.cell (block_lt_of_cell b1)).trans b1; have z8 := (hB.cell (block_lt_of_cell b2)).trans b2; have z9 := (hB.cell (block_lt_of_cell b3)).trans b3; have z10 := (hB.cell (block_lt_of_cell b4)).trans b4))
                  all_goals
                    go_wp2_with fail
                    go_meet
                    case rel =>
                      first
                        | with_reducible exact ⟨_, rfl, rfl, Box.new _ _ _ _ _ _ _, stepA hbz⟩
                        | with_reducible exact ⟨_, rfl, rfl, (stepB hbz _ _ _ _ _).1, (stepB hbz _ _ _ _ _).2⟩
                case rest =>
                obtain ⟨bx, rfl, rfl, BX, hbc⟩ := hcut
                clear a0 a1 a2 a3 a4 b0 b1 b2 b3 b4 ne1 ne2
                have sc1 := (hbc.cell (block_lt_of_cell sc)).trans sc
                have BXH := hidE BX
                clear BX sc
                rcases TD.out with ⟨e0, rt⟩ | ⟨e0, k0, m0, f0⟩
                · have RT := hidE (fun w => right_told rt w)
                  clear rt
                  rw [e0]
                  obtain ⟨X0, X1, X2, X3, X4, _, _, _, _, _, Xl⟩ := BXH.out
                  go_wp2_with fail
                  refine (RT.out _).mono ?_
                  rintro e wd ⟨rfl, hB1⟩
                  clear X0 X1 X2 X3 X4 Xl
                  have sc2 := (hB1.cell (block_lt_of_cell sc1)).trans sc1
                  have HBD := hidE (bthen HBS.out (bthen hbc hB1))
                  clear sc1 hB1 hbc
                  go_wp2
                  go_roundw
                  case rel => exact ⟨s + 1, by omega, by go_num, HBD.out⟩
                  case measure => simp [intOf]; omega
                · have eb : (r.e == 0) = false := by simpa using e0
                  obtain ⟨X0, X1, X2, X3, X4, _, _, _, _, _, Xl⟩ := BXH.out
                  rw [k0] at X0
                  rw [m0] at X1
                  rw [f0] at X2
                  go_wp2_with fail
                  refine (same_true 0 0 0 _).mono ?_
                  rintro e wd ⟨rfl, hB1⟩
                  clear X0 X1 X2 X3 X4 Xl
                  have sc2 := (hB1.cell (block_lt_of_cell sc1)).trans sc1
                  have HBD := hidE (bthen HBS.out (bthen hbc hB1))
                  clear sc1 hB1 hbc
                  go_wp2
                  go_roundw
                  case rel => exact ⟨s + 1, by omega, by go_num, HBD.out⟩
                  case measure => simp [intOf]; omega
            · go_wp2
              go_roundw
              case rel => exact ⟨k + 1, by omega, by go_num, HBS.out⟩
              case measure => simp [intOf]; omega
        · go_wp2
          go_roundw
          case rel => exact ⟨j + 1, by omega, by go_num, HBK.out⟩
          case measure => simp [intOf]; omega
    · go_wp2
      go_ret
      exact ⟨rfl, bthen HW7.out HBJ.out⟩
end Go.Proofs.YtihkabgoaejcgaaDoor
