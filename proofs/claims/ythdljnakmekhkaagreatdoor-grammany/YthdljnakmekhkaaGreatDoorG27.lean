import Derived.Test.YthdljnakmekhkaaGreatDoorG24
import Derived.BigQuiet
import Derived.Test.YthdljnakmekhkaaGreatDoorG05
import Derived.Test.YthdljnakmekhkaaGreatDoorG26
/- The reference's signs. -/
namespace Go.Proofs.YthdljnakmekhkaaGreatDoor
open Go.RowKit Go.Lib
attribute [local go_sem] store_float f64bits
attribute [local go_sem ↓] Go.wp_at_zero Go.wp_at_succ

theorem ext_list (s : ByteArray) (a b : Nat) : (s.extract a b).data.toList = (s.data.toList.drop a).take (b - a) := by simp [ByteArray.data_extract]

theorem sub_prefix (s : ByteArray) (i : Nat) (hi : i ≤ s.size) (x : ByteArray) : Lib.hasPrefix (s.extract i s.size).data.toList x.data.toList = (decide (i + x.size ≤ s.size) && ((s.extract i (i + x.size)).toList == x.toList)) := by
  unfold Lib.hasPrefix
  have hl : (s.data.toList.drop i).length = s.size - i := by rw [List.length_drop]; rfl
  have e1 : (s.extract i s.size).data.toList = s.data.toList.drop i := by rw [ext_list, List.take_of_length_le (by rw [hl]; exact Nat.le_refl _)]
  have e2 : (s.extract i (i + x.size)).data.toList = (s.data.toList.drop i).take x.size := by rw [ext_list, Nat.add_sub_cancel_left]
  rw [ByteArray.toList_eq, ByteArray.toList_eq, e1, e2]
  have hx : x.data.toList.length = x.size := rfl
  rw [Bool.eq_iff_iff]
  simp only [Bool.and_eq_true, decide_eq_true_eq, beq_iff_eq, List.isPrefixOf_iff_prefix]
  constructor
  · intro h
    have h1 := h.length_le
    rw [hl, hx] at h1
    exact ⟨by omega, by rw [← hx]; exact (List.prefix_iff_eq_take.1 h).symm⟩
  · rintro ⟨h1, h2⟩
    rw [← h2]
    exact List.take_prefix _ _

def sgS : Option (List UInt8) → ByteArray
  | some l => ⟨l.toArray⟩
  | none => ⟨#[]⟩

set_option maxHeartbeats 1000000 in
set_option maxRecDepth 1000000 in
theorem rsign_any (s : ByteArray) (i : Nat) (hi : i ≤ s.size) (hs : s.size ≤ 65536) (w : World) : Calls Tryz.prog 60 #[.string s, .int .i64 (i : Int)] w fun e w' => e = .returned (.string (sgS (signAt s i))) ∧ Below w.heap.size w w' := by
  have hpre : ∀ x : ByteArray, Lib.hasPrefix (s.extract i s.size).data.toList x.data.toList = (decide (i + x.size ≤ s.size) && ((s.extract i (i + x.size)).toList == x.toList)) := sub_prefix s i hi
  unfold signAt
  obtain ⟨Pf, hPf⟩ : ∃ Pf : List UInt8 → Bool, (fun l => Lib.hasPrefix (s.extract i s.size).data.toList l) = Pf := ⟨_, rfl⟩
  have hPl : ∀ l : List UInt8, Pf l = (decide (i + (⟨l.toArray⟩ : ByteArray).size ≤ s.size) && ((s.extract i (i + (⟨l.toArray⟩ : ByteArray).size)).toList == (⟨l.toArray⟩ : ByteArray).toList)) := fun l => by
    rw [← hPf]; exact hpre ⟨l.toArray⟩
  rw [hPf]
  obtain ⟨o, ho⟩ : ∃ o, signL.find? Pf = o := ⟨_, rfl⟩
  rw [ho]
  have hfs : (signL.drop 0).find? Pf = o := ho
  clear hpre hPf ho
  go_enter Tryz.func60, Tryz.ntmps60
  go_wp2_with fail
  generalize hW1 : World.alloc w _ = W1
  have hcell : ∀ j l, signL[j]? = some l → W1.cell? ⟨w.heap.size, j, none⟩ = some (.string ⟨l.toArray⟩) := by
    intro j l hl
    rw [← hW1, World.cell?_alloc_new]
    have hj : j < 27 := by
      have := (List.getElem?_eq_some_iff.1 hl).1
      simpa [signL] using this
    match j, hj, hl with
    | 0, _, hl => cases hl; rfl
    | 1, _, hl => cases hl; rfl
    | 2, _, hl => cases hl; rfl
    | 3, _, hl => cases hl; rfl
    | 4, _, hl => cases hl; rfl
    | 5, _, hl => cases hl; rfl
    | 6, _, hl => cases hl; rfl
    | 7, _, hl => cases hl; rfl
    | 8, _, hl => cases hl; rfl
    | 9, _, hl => cases hl; rfl
    | 10, _, hl => cases hl; rfl
    | 11, _, hl => cases hl; rfl
    | 12, _, hl => cases hl; rfl
    | 13, _, hl => cases hl; rfl
    | 14, _, hl => cases hl; rfl
    | 15, _, hl => cases hl; rfl
    | 16, _, hl => cases hl; rfl
    | 17, _, hl => cases hl; rfl
    | 18, _, hl => cases hl; rfl
    | 19, _, hl => cases hl; rfl
    | 20, _, hl => cases hl; rfl
    | 21, _, hl => cases hl; rfl
    | 22, _, hl => cases hl; rfl
    | 23, _, hl => cases hl; rfl
    | 24, _, hl => cases hl; rfl
    | 25, _, hl => cases hl; rfl
    | 26, _, hl => cases hl; rfl
  have hB1 : Below w.heap.size w W1 := by rw [← hW1]; exact below_new _ _
  have hlt1 : w.heap.size < W1.heap.size := by rw [← hW1]; simp
  clear hW1
  go_loopg [6] 27 (fun gf s6 wx => ∃ j : Nat, s6 = .int .i64 (j : Int) ∧ j + gf = 27 ∧ Below W1.heap.size W1 wx ∧ (signL.drop j).find? Pf = o)
  case atStart => exact ⟨0, rfl, rfl, Below.refl _ _, hfs⟩
  case round =>
    obtain ⟨j, rfl, hjg, hbw, hfi⟩ := hrel
    have HBW := hidb (hB1.trans (hbw.mono hB1.size))
    have HBW1 := hidb hbw
    by_cases hj : j < 27
    · obtain ⟨g', rfl⟩ : ∃ g', gk = g' + 1 := ⟨gk - 1, by omega⟩
      obtain ⟨l, hl⟩ := sign_has j hj
      have hmem : l ∈ signL := List.mem_of_getElem? hl
      have hd := sign_drop j l hl
      have hl3 := sign_len l hmem
      have hc0 : wr.cell? ⟨w.heap.size, j, none⟩ = some (.string ⟨l.toArray⟩) := (hbw.cell (p := ⟨w.heap.size, j, none⟩) hlt1).trans (hcell j l hl)
      rw [hd] at hfi
      have hp := hPl l
      have hsz : (⟨l.toArray⟩ : ByteArray).size = l.length := by simp [ByteArray.size]
      obtain ⟨x, hx⟩ : ∃ x, (⟨l.toArray⟩ : ByteArray) = x := ⟨_, rfl⟩
      rw [hx] at hc0 hp hsz
      have i0 : (0 : Int) ≤ (j : Int) := by omega
      have i1 : (j : Int) < 27 := by omega
      have i2 : (0 : Int) ≤ (i : Int) := by omega
      have hxs : x.size ≤ 3 := by omega
      have hw : IntKind.i64.wrap ((i : Int) + (x.size : Int)) = (i : Int) + (x.size : Int) := by rw [IntKind.wrap_i64]; omega
      have HX := hidb hx
      clear hmem hd hbw hcell hPl hx hl hsz hB1
      simp only [List.find?_cons] at hfi
      by_cases hle : i + x.size ≤ s.size
      · have i3 : (i : Int) + (x.size : Int) ≤ (s.size : Int) := by omega
        have i4 : (i : Int) ≤ (i : Int) + (x.size : Int) := by omega
        have hd1 : decide (i + x.size ≤ s.size) = true := by simpa using hle
        rw [hd1, Bool.true_and] at hp
        have htn : ((i : Int) + (x.size : Int)).toNat = i + x.size := by omega
        cases hq : ((s.extract i (i + x.size)).toList == x.toList) <;> rw [hq] at hp <;> rw [hp] at hfi <;> simp only at hfi
        · go_wp2_with fail
          go_region_held3 (fun w' => w'.cell? ⟨w.heap.size, j, none⟩ = some (.string x)) (go_keep) (fail)
          go_wp2_with fail
          go_roundg g'
          case measure => omega
          case rel => exact ⟨j + 1, by simp, by omega, HBW1.out.drew, hfi⟩
        · subst hfi
          go_wp2_with fail
          go_region_held3 (fun w' => w'.cell? ⟨w.heap.size, j, none⟩ = some (.string x)) (go_keep) (fail)
          go_wp2_with fail
          go_ret
          exact ⟨by rw [← HX.out]; rfl, HBW.out.drew⟩
      · have i5 : decide ((i : Int) + (x.size : Int) ≤ (s.size : Int)) = false := by simp; omega
        have hd1 : decide (i + x.size ≤ s.size) = false := by simpa using hle
        rw [hd1, Bool.false_and] at hp
        rw [hp] at hfi
        simp only at hfi
        clear hle hp hl3 hxs hd1
        go_wp2_with fail
        go_quiet (fail)
        go_wp2_with fail
        go_roundg g'
        case measure => omega
        case rel => exact ⟨j + 1, by simp, by omega, below_drewN HBW1.out _, hfi⟩
    · obtain rfl : j = 27 := by omega
      obtain rfl : none = o := (sign_none Pf).symm.trans hfi
      clear hcell hPl
      go_wp2_with fail
      go_ret
      exact ⟨rfl, HBW.out⟩
end Go.Proofs.YthdljnakmekhkaaGreatDoor


/- The reference passes over blanks and comments. -/
namespace Go.Proofs.YthdljnakmekhkaaGreatDoor
open Go.RowKit Go.Lib
attribute [local go_sem] store_float f64bits
attribute [local go_sem ↓] Go.wp_at_zero Go.wp_at_succ

/-- From p on the tokens are those from p' on. -/
def Goes (s : ByteArray) (p p' : Nat) : Prop := p ≤ p' ∧ p' ≤ s.size ∧ ∀ k done, s.size < p + k → ∃ k', s.size < p' + k' ∧ toks s k p done = toks s k' p' done

theorem Goes.refl (s : ByteArray) (p : Nat) (hp : p ≤ s.size) : Goes s p p := ⟨Nat.le_refl _, hp, fun k _ h => ⟨k, h, rfl⟩⟩
theorem Goes.trans {s : ByteArray} {p q r : Nat} (h1 : Goes s p q) (h2 : Goes s q r) : Goes s p r :=
  ⟨Nat.le_trans h1.1 h2.1, h2.2.1, fun k done h => by
    obtain ⟨k1, a1, b1⟩ := h1.2.2 k done h
    obtain ⟨k2, a2, b2⟩ := h2.2.2 k1 done a1
    exact ⟨k2, a2, b1.trans b2⟩⟩
theorem Goes.blank {s : ByteArray} {p : Nat} (hp : p < s.size) (hb : pBlank (bt s p) = true) : Goes s p (p + 1) := by
  refine ⟨by omega, hp, fun k done h => ⟨k, by omega, ?_⟩⟩
  obtain ⟨k, rfl⟩ : ∃ k', k = k' + 1 := ⟨k - 1, by omega⟩
  simp only [toks, goes_on hp hb]
theorem Goes.line {s : ByteArray} {p : Nat} (hp : p < s.size) (hb : bt s p = 37) : Goes s p (goes pLine s p) := by
  have h1 : p + 1 ≤ goes pLine s p := by rw [goes_on hp (by simp [pLine, hb])]; exact goes_ge _ _ _
  refine ⟨by omega, goes_le _ _ _ (by omega), fun k done h => ?_⟩
  obtain ⟨k, rfl⟩ : ∃ k', k = k' + 1 := ⟨k - 1, by omega⟩
  refine ⟨k, by omega, ?_⟩
  have h2 : goes pBlank s p = p := goes_stop (by rw [hb]; rfl)
  simp only [toks, h2, hp, if_true, hb]

set_option maxHeartbeats 1000000 in
set_option maxRecDepth 1000000 in
theorem rpassed_any (s : ByteArray) (i : Nat) (hi : i ≤ s.size) (hs : s.size ≤ 65536) (w : World) : Calls Tryz.prog 24 #[.string s, .int .i64 (i : Int)] w fun e w' => ∃ q : Nat, e = .returned (.int .i64 (q : Int)) ∧ w' = w ∧ Goes s i q ∧ (q < s.size → pBlank (bt s q) = false ∧ bt s q ≠ 37) := by
  go_enter Tryz.func24, Tryz.ntmps24
  go_wp2_with fail
  go_loopg [1] (s.size - i) (fun gf s1 wx => ∃ p : Nat, s1 = .int .i64 (p : Int) ∧ s.size - p ≤ gf ∧ Goes s i p ∧ wx = w)
  case atStart => exact ⟨i, rfl, Nat.le_refl _, Goes.refl s i hi, rfl⟩
  case round =>
    obtain ⟨p, rfl, hgf, hgo, hwx⟩ := hrel
    obtain rfl := hwx.symm
    have hps := hgo.2.1
    by_cases hlt : p < s.size
    · obtain ⟨g', rfl⟩ : ∃ g', gk = g' + 1 := ⟨gk - 1, by omega⟩
      have i0 : (0 : Int) ≤ (p : Int) := by omega
      have i1 : (p : Int) < (s.size : Int) := by omega
      have hb := fun h => at_byte s p h
      have hg1 := Goes.blank hlt
      have hg2 := Goes.line hlt
      have hge : bt s p = 37 → p + 1 ≤ goes pLine s p := fun hb => by rw [goes_on hlt (by simp [pLine, hb])]; exact goes_ge _ _ _
      obtain ⟨c, hc⟩ : ∃ c, bt s p = c := ⟨_, rfl⟩
      have HC := hidb hc
      rw [hc] at hg1 hg2 hge
      simp only [hc] at hb
      clear hc
      by_cases h37 : c = 37
      · subst h37
        have HG := hidb (hgo.trans (hg2 rfl))
        have hge2 := hge rfl
        clear hg1 hg2 hge
        go_wp2_with fail
        go_loopg [1] (s.size - p) (fun gf s1 wx => ∃ q : Nat, s1 = .int .i64 (q : Int) ∧ p ≤ q ∧ q ≤ s.size ∧ s.size - q ≤ gf ∧ goes pLine s q = goes pLine s p ∧ wx = w)
        case atStart => exact ⟨p, rfl, Nat.le_refl _, hps, Nat.le_refl _, rfl, rfl⟩
        case round =>
          obtain ⟨q, rfl, hpq, hqs, hqg, hqo, hwx2⟩ := hrel
          obtain rfl := hwx2.symm
          clear i0 i1 hb
          by_cases hql : q < s.size
          · obtain ⟨g2, rfl⟩ : ∃ g2, gk = g2 + 1 := ⟨gk - 1, by omega⟩
            have i0 : (0 : Int) ≤ (q : Int) := by omega
            have i1 : (q : Int) < (s.size : Int) := by omega
            have hb := fun h => at_byte s q h
            have h1 := goes_on (p := pLine) hql
            have h2 := goes_stop (p := pLine) (s := s) (i := q)
            obtain ⟨c, hc⟩ : ∃ c, bt s q = c := ⟨_, rfl⟩
            rw [hc] at h1 h2
            simp only [hc] at hb
            clear hc
            by_cases h10 : c = 10
            · subst h10
              have hqe : goes pLine s p = q := by rw [← hqo]; exact h2 rfl
              rw [hqe] at HG hge2
              clear h1 h2
              go_wp2_with fail
              go_roundg g'
              case measure => omega
              case rel => exact ⟨q, rfl, by omega, HG.out, rfl⟩
            · have e10 : ((c : Int) == 10) = false := by simp; omega
              have e11 : ((c : Int) != 10) = true := by simp; omega
              have h3 := h1 (by simp [pLine, h10])
              clear h1 h2
              go_wp2_with fail
              go_roundg g2
              case measure => omega
              case rel => exact ⟨q + 1, by simp, by omega, by omega, by omega, by rw [← h3]; exact hqo, rfl⟩
          · have i1 : ¬ (q : Int) < (s.size : Int) := by omega
            have hqe : goes pLine s p = q := by rw [← hqo]; exact goes_end (by omega)
            rw [hqe] at HG hge2
            go_wp2_with fail
            go_roundg g'
            case measure => omega
            case rel => exact ⟨q, rfl, by omega, HG.out, rfl⟩
      · have e37 : ((c : Int) == 37) = false := by simp; omega
        cases hbl : pBlank c
        · simp [pBlank] at hbl
          have e1 : ((c : Int) == 9) = false := by simp; omega
          have e2 : ((c : Int) == 10) = false := by simp; omega
          have e3 : ((c : Int) == 13) = false := by simp; omega
          have e4 : ((c : Int) == 32) = false := by simp; omega
          clear hg1 hg2 hge
          go_wp2_with fail
          go_ret
          exact ⟨p, rfl, rfl, hgo, fun _ => by rw [HC.out]; exact ⟨by simp [pBlank]; omega, h37⟩⟩
        · have HG := hidb (hgo.trans (hg1 hbl))
          simp [pBlank] at hbl
          clear hg1 hg2 hge
          rcases hbl with ((rfl | rfl) | rfl) | rfl
          all_goals (go_wp2_with fail)
          all_goals (go_roundg g')
          all_goals first | omega | exact ⟨p + 1, by simp, by omega, HG.out, rfl⟩
    · have i1 : ¬ (p : Int) < (s.size : Int) := by omega
      go_wp2_with fail
      go_ret
      exact ⟨p, rfl, rfl, hgo, fun h => absurd h hlt⟩
end Go.Proofs.YthdljnakmekhkaaGreatDoor


/- The reference's tokens, given its token. -/
namespace Go.Proofs.YthdljnakmekhkaaGreatDoor
open Go.RowKit Go.Lib
attribute [local go_sem] store_float f64bits
attribute [local go_sem ↓] Go.wp_at_zero Go.wp_at_succ

/-- The reference's token. -/
def RTok (s : ByteArray) : Prop := ∀ (p : Nat) (W : World), p < s.size → Calls Tryz.prog 25 #[.string s, .int .i64 (p : Int)] W fun e W' => e = .returned (rV (tokV s p) p (tokE s p)) ∧ Below W.heap.size W W'

theorem rV_err (k : Int) (x : ByteArray) (n : Int) (f : Nat) (er : Int) (he : er ≠ 0) (i E : Nat) : rV (.tuple #[.agg #[.int .i64 (k), .string (x), .int .i64 (n), .float .f64 (f), .int .i64 (0)], .int .i64 er]) i E = .tuple #[.agg #[.int .i64 (0), .string (⟨#[]⟩), .int .i64 (0), .float .f64 (0), .int .i64 (0)], .int .i64 0, .int .i64 er] := by
  show (if er = 0 then _ else _) = _
  rw [if_neg he]

theorem toks_at (s : ByteArray) (k p : Nat) (done : List Tk) (hp : p < s.size) (hb : pBlank (bt s p) = false) (h37 : bt s p ≠ 37) : toks s (k + 1) p done = layT s k p done := by
  have h : goes pBlank s p = p := goes_stop hb
  simp only [toks, h, hp, if_true, h37, if_false, layT]
theorem toks_end (s : ByteArray) (k p : Nat) (done : List Tk) (hp : s.size ≤ p) : toks s (k + 1) p done = .inl (done ++ [⟨8, ⟨#[]⟩, 0, 0, p⟩]) := by
  have h : goes pBlank s p = p := goes_end hp
  have h2 : ¬ p < s.size := by omega
  simp only [toks, h, h2, if_false]

set_option maxHeartbeats 1000000 in
set_option maxRecDepth 100000 in
theorem rTokens_of (s : ByteArray) (hTok : RTok s) (w : World) :
    Calls Tryz.prog 17 #[.string s] w fun e w' => TP w.heap.size (allT s) e w' ∧ Below w.heap.size w w' := by
  unfold allT
  by_cases hl : 65536 < s.size
  · have h1 : (65536 : Int) < (s.size : Int) := by omega
    rw [if_pos hl]
    go_enter Tryz.func17, Tryz.ntmps17
    go_wp2_with fail
    exact bodyPost_ret (v := .tuple #[.slice none 0 0, .agg #[.int .i64 3, .int .i64 0]]) (by simp [results, Tryz.results17, go_sem]) rfl ⟨.inr ⟨3, 0, rfl, rfl⟩, (Below.refl _ _).alloc (Nat.le_refl _) _⟩
  · have h1 : ¬ (65536 : Int) < (s.size : Int) := by omega
    rw [if_neg hl]
    obtain ⟨R, hR⟩ : ∃ R, toks s (s.size + 1) 0 [] = R := ⟨_, rfl⟩
    rw [hR]
    have cP0 := fun W => rpassed_any s 0 (Nat.zero_le _) (by omega) W
    go_enter Tryz.func17, Tryz.ntmps17
    go_wp2_with fail
    refine (cP0 _).mono ?_
    rintro e w1 ⟨q, rfl, hw1, hg0, hq0⟩
    obtain rfl := hw1.symm
    obtain ⟨k0, hk0, hR0⟩ := hg0.2.2 (s.size + 1) [] (by omega)
    rw [hR] at hR0
    have hB1 : Below w.heap.size w (w.alloc (Obj.cells #[Value.int IntKind.i64 0, Value.int IntKind.i64 0] 28)) := below_new _ _
    have hF1 : Duo (w.alloc (Obj.cells #[Value.int IntKind.i64 0, Value.int IntKind.i64 0] 28)) w.heap.size (.int .i64 0) (.int .i64 0) := Duo.new w _ _ _
    have hZ1 : (w.alloc (Obj.cells #[Value.int IntKind.i64 0, Value.int IntKind.i64 0] 28)).heap.size = w.heap.size + 1 := by simp
    have hq1 := hg0.2.1
    go_wp2_with fail
    generalize hW1 : w.alloc (Obj.cells #[Value.int IntKind.i64 0, Value.int IntKind.i64 0] 28) = W1 at *
    clear hW1 cP0 hg0
    obtain ⟨i0, hi, hz0, hz1, hz2⟩ := info_parts (P := Tryz.prog) (e := TT) (z := .agg #[.int .i64 0, .string ⟨#[]⟩, .int .i64 0, .float .f64 0, .int .i64 0]) (size := 5) (bytes := 48) (by kernel_rfl)
    go_loopg [4, 5] s.size (fun gf s4 s5 wx => ∃ (p k : Nat) (done : List Tk), s5 = .int .i64 (p : Int) ∧ p ≤ s.size ∧ s.size - p ≤ gf ∧ s.size < p + k ∧ toks s k p done = R ∧ (p < s.size → pBlank (bt s p) = false ∧ bt s p ≠ 37) ∧ done.length ≤ p ∧ Below (w.heap.size + 1) W1 wx ∧ wx.ownsRow (w.heap.size + 1) TT 5 s4 done.length (tkCells done))
    case atStart => exact ⟨q, k0, [], rfl, hq1, by omega, hk0, hR0.symm, hq0, Nat.zero_le _, Below.refl _ _, ⟨rfl, .inl ⟨rfl, rfl⟩⟩⟩
    case round =>
      obtain ⟨p, k, done, rfl, hp, hgf, hk, hRk, hpb, hln, hbw, how⟩ := hrel
      obtain ⟨k, rfl⟩ : ∃ k', k = k' + 1 := ⟨k - 1, by omega⟩
      have hzw := hbw.size
      by_cases hlt : p < s.size
      · obtain ⟨g', rfl⟩ : ∃ g', gk = g' + 1 := ⟨gk - 1, by omega⟩
        have i1 : (p : Int) < (s.size : Int) := by omega
        have cT := fun W => hTok p W hlt
        rw [toks_at s k p done hlt (hpb hlt).1 (hpb hlt).2] at hRk
        have hE3 := tokE_in s p hlt
        unfold layT at hRk
        obtain ⟨tk, x, tn, tf, er, hV⟩ := tokV_tk s p
        have hE1 : erOf (tokV s p) = er := by rw [hV]; rfl
        have hE2 : tkOf (tokV s p) p = ⟨tk, x, tn, tf, p⟩ := by rw [hV]; rfl
        rw [hE1, hE2] at hRk
        rw [hV, okV_tk] at hE3
        rw [hV] at cT
        clear hE1 hE2 hV hpb hq0 hR0 hk0 hR hq1
        by_cases he : er = 0
        · subst he
          obtain ⟨ht1, ht2⟩ := hE3 rfl
          simp only [rV_tk] at cT
          have cP := fun W => rpassed_any s (tokE s p) ht2 (by omega) W
          rw [if_pos rfl] at hRk
          go_wp2_with (first
            | (go_at_call 25; refine (cT _).mono ?_; rintro e w2 ⟨rfl, hb2⟩; have HB2 := hidb hb2; have OW2 := own_but how (But.of_below (S := fun _ => False) hb2) (fun _ _ h => h); have hz2w := hb2.size)
            | (at_builtin; refine wpList_append_own _ rfl _ _ 36 rfl (w.heap.size + 1) TT i0 (.agg #[.int .i64 0, .string ⟨#[]⟩, .int .i64 0, .float .f64 0, .int .i64 0]) 5 48 Tryz.underlying36 hi hz0 hz1 hz2 rfl (by decide) _ _ _ rfl ((OW2.alloc _).alloc _) ⟨w2.heap.size + 1, 0, none⟩ 1 1 [.int .i64 tk, .string x, .int .i64 tn, .float .f64 tf, .int .i64 (p : Int)] rfl rfl ?c1 ?c2 ?c3 ?c4 ?c5 ?_))
          case c1 =>
            intro q u hq
            exact app_cells _ _ _ _ _ _ _ _ (by simp) q u hq
          case c2 =>
            intro u hu
            simp only [List.mem_cons, List.not_mem_nil, or_false] at hu
            rcases hu with rfl | rfl | rfl | rfl | rfl <;> rfl
          case c3 => unfold maxLen; omega
          case c4 => omega
          case c5 => simp; omega
          intro v' w3 hown' hgrow hnil
          have hb3 := grow_below (OW2.alloc _) hgrow (by simp; omega)
          have HB3 : Hid (Below (w.heap.size + 1) W1 w3) := hidb ((hbw.trans (HB2.out.mono (by omega))).trans (((Below.refl (w.heap.size + 1) w2).alloc (by omega) _).trans hb3))
          have HO := hidb hown'
          obtain ⟨ao, n', cap', rfl⟩ : ∃ ao n' cap, v' = .slice ao n' cap := hown'.2.elim (fun h => ⟨_, _, _, h.1⟩) fun ⟨_, _, _, hv, _⟩ => ⟨_, _, _, hv⟩
          clear hown' hgrow hnil hb3 OW2
          go_wp2_with fail
          refine (cP _).mono ?_
          rintro e w4 ⟨q', rfl, hw4, hg', hq'⟩
          obtain rfl := hw4.symm
          obtain ⟨k', hk', hR'⟩ := hg'.2.2 k (done ++ [⟨tk, x, tn, tf, p⟩]) (by omega)
          go_wp2_with fail
          go_roundg g'
          case measure => omega
          case rel =>
            have h1 := hg'.1
            refine ⟨q', k', done ++ [⟨tk, x, tn, tf, p⟩], rfl, hg'.2.1, by omega, hk', hR'.symm.trans hRk, hq', by simp; omega, HB3.out, ?_⟩
            rw [List.length_append, tkCells_snoc]
            exact HO.out
        · simp only [rV_err _ _ _ _ _ he] at cT
          rw [if_neg he] at hRk
          have he1 : (er != 0) = true := by simpa using he
          have he2 : (er == 0) = false := by simpa using he
          go_wp2_with (first
            | (go_at_call 25; refine (cT _).mono ?_; rintro e w2 ⟨rfl, hb2⟩; have HB2 := hidb (hbw.trans (hb2.mono (by omega))); obtain ⟨q0, q1, qf0, qf1, _⟩ := (Duo.low hF1 HB2.out (by omega)).keep (below_new _ (Obj.cells #[.int .i64 0, .string ⟨#[]⟩, .int .i64 0, .float .f64 0, .int .i64 0] 41)); have hz2w := hb2.size)
            | fail)
          exact bodyPost_ret (v := .tuple #[.slice none 0 0, .agg #[.int .i64 er, .int .i64 (p : Int)]]) (by simp [results, Tryz.results17, go_sem, q0, q1]) rfl ⟨.inr ⟨er, p, hRk.symm, rfl⟩, (((hB1.trans (HB2.out.mono (by omega))).alloc (by omega) _).setCell (p := ⟨w.heap.size, 0, none⟩) (Nat.le_refl _) _).setCell (p := ⟨w.heap.size, 1, none⟩) (Nat.le_refl _) _⟩
      · have i1 : ¬ (p : Int) < (s.size : Int) := by omega
        obtain rfl : p = s.size := by omega
        rw [toks_end s k _ done (Nat.le_refl _)] at hRk
        clear hq0 hR0 hk0 hR hq1 hTok
        go_wp2_with (at_builtin; go_must (refine wpList_append_own _ rfl _ _ 36 rfl (w.heap.size + 1) TT i0 (.agg #[.int .i64 0, .string ⟨#[]⟩, .int .i64 0, .float .f64 0, .int .i64 0]) 5 48 Tryz.underlying36 hi hz0 hz1 hz2 rfl (by decide) _ _ _ rfl (how.alloc _) ⟨wr.heap.size, 0, none⟩ 1 1 [.int .i64 8, .string ⟨#[]⟩, .int .i64 0, .float .f64 0, .int .i64 (s.size : Int)] rfl rfl ?c1 ?c2 ?c3 ?c4 ?c5 ?_))
        case c2 => exact ⟨rfl, rfl, rfl, rfl, rfl⟩
        case c3 => unfold maxLen; omega
        case c4 => omega
        case c5 => first | omega | (simp; omega)
        intro v' w3 hown' hgrow hnil
        have hb3 := grow_below how hgrow (by omega)
        have HO := hidb hown'
        obtain ⟨ao, n', cap', rfl⟩ : ∃ ao n' cap, v' = .slice ao n' cap := hown'.2.elim (fun h => ⟨_, _, _, h.1⟩) fun ⟨_, _, _, hv, _⟩ => ⟨_, _, _, hv⟩
        have HB3 : Hid (Below (w.heap.size + 1) W1 w3) := hidb (hbw.trans hb3)
        obtain ⟨q0, q1, qf0, qf1, _⟩ := Duo.low hF1 HB3.out (by omega)
        clear hown' hgrow hnil hb3 how
        go_wp2_with fail
        refine bodyPost_ret (v := .tuple #[.slice ao n' cap', .agg #[.int .i64 0, .int .i64 0]]) (by simp [results, Tryz.results17, go_sem, q0, q1]) rfl ⟨.inl ⟨_, _, hRk.symm, rfl, ?_⟩, (((hB1.trans (HB3.out.mono (by omega)))).setCell (p := ⟨w.heap.size, 0, none⟩) (Nat.le_refl _) _).setCell (p := ⟨w.heap.size, 1, none⟩) (Nat.le_refl _) _⟩
        rw [List.length_append, tkCells_snoc]
        exact own_base (own_but HO.out (((But.refl (fun k => k = w.heap.size) w3).setCell (p := ⟨w.heap.size, 0, none⟩) (fun _ => rfl) _).setCell (p := ⟨w.heap.size, 1, none⟩) (fun _ => rfl) _) (fun k hk => by omega)) (by omega)
end Go.Proofs.YthdljnakmekhkaaGreatDoor


/- The reference's token, given its quoted. -/
namespace Go.Proofs.YthdljnakmekhkaaGreatDoor
open Go.RowKit Go.Lib
attribute [local go_sem] store_float f64bits
attribute [local go_sem ↓] Go.wp_at_zero Go.wp_at_succ

theorem kept_len (x : ByteArray) (h : kept x = true) : x.size ≤ 7 := by
  unfold kept at h
  obtain ⟨k, hk, he⟩ := List.any_eq_true.1 h
  have h7 : ∀ k ∈ keptL, k.length ≤ 7 := by decide
  have h1 := h7 k hk
  have h2 : x.data.toList = k := by simpa using he
  have h3 : x.data.toList.length = x.size := rfl
  rw [h2] at h3
  omega

set_option maxHeartbeats 1000000 in
theorem rtok_word (s : ByteArray) (p : Nat) (hp : p < s.size) (hs : s.size ≤ 65536) (hc : pSmall (bt s p) = true) (w : World) : Calls Tryz.prog 25 #[.string s, .int .i64 (p : Int)] w fun e w' => e = .returned (rV (wordV s p) p (goes pName s p)) ∧ Below w.heap.size w w' := by
  have hb := fun h => at_byte s p h
  have cW := rword_any s p (by omega) hs
  have hge := goes_ge pName s p
  have hle := goes_le pName s p (by omega)
  have hXs : (s.extract p (goes pName s p)).size = goes pName s p - p := by rw [size_ext]; omega
  unfold wordV
  obtain ⟨E, hE⟩ : ∃ E, goes pName s p = E := ⟨_, rfl⟩
  rw [hE] at cW hge hle hXs ⊢
  obtain ⟨X, hX⟩ : ∃ X, s.extract p E = X := ⟨_, rfl⟩
  rw [hX] at hXs ⊢
  obtain ⟨c, hcc⟩ : ∃ c, bt s p = c := ⟨_, rfl⟩
  rw [hcc] at hc
  simp only [hcc] at hb
  simp [pSmall] at hc
  have i0 : (0 : Int) ≤ (p : Int) := by omega
  have i1 : (p : Int) < (s.size : Int) := by omega
  have i2 : (97 : Int) ≤ (c : Int) := by omega
  have i3 : (c : Int) ≤ 122 := by omega
  have i4 : (p : Int) ≤ (E : Int) := by omega
  have i5 : (E : Int) ≤ (s.size : Int) := by omega
  have hkl := kept_len X
  have cK := refKept5_any X
  clear hE hcc
  have hXX := hidb hXs
  cases hk : kept X <;> rw [hk] at cK
  · by_cases h64 : 64 < X.size
    · have i6 : (64 : Int) < (X.size : Int) := by omega
      rw [if_neg (by simp), if_pos h64]
      show Calls _ _ _ _ fun e w' => e = .returned (rV (badV 23) p E) ∧ _
      rw [rV_bad 23 (by decide)]
      clear hXs hkl
      go_enter Tryz.func25, Tryz.ntmps25
      go_wp2_with (first | (go_at_call 54; refine (cW _).mono ?_; rintro e w' ⟨rfl, hw'⟩; obtain rfl := hw'.symm) | (go_at_call 55; refine (cK _).mono ?_; rintro e w' ⟨rfl, hw'⟩; obtain rfl := hw'.symm))
      exact bodyPost_ret (v := .tuple #[.agg #[.int .i64 (0), .string (⟨#[]⟩), .int .i64 (0), .float .f64 (0), .int .i64 (0)], .int .i64 0, .int .i64 23]) (by simp [results, Tryz.results25, go_sem]) rfl ⟨rfl, by (repeat (first | exact Below.refl _ _ | assumption | refine Below.drew ?_ | refine below_drewN ?_ _ | refine Below.setCell ?_ (by simp) _ | refine Below.alloc ?_ (by (first | exact Nat.le_refl _ | (simp; done) | (simp; omega) | omega)) _ | refine Below.trans ?_ (Below.mono (by assumption) (by first | exact Nat.le_refl _ | (simp; done) | (simp; omega) | omega))))⟩
    · have i6 : ¬ (64 : Int) < (X.size : Int) := by omega
      rw [if_neg (by simp), if_neg h64, rV_tk]
      clear hXs hkl
      go_enter Tryz.func25, Tryz.ntmps25
      go_wp2_with (first | (go_at_call 54; refine (cW _).mono ?_; rintro e w' ⟨rfl, hw'⟩; obtain rfl := hw'.symm) | (go_at_call 55; refine (cK _).mono ?_; rintro e w' ⟨rfl, hw'⟩; obtain rfl := hw'.symm))
      exact bodyPost_ret (v := .tuple #[.agg #[.int .i64 (1), .string (X), .int .i64 (0), .float .f64 (0), .int .i64 ((p : Int))], .int .i64 (E : Int), .int .i64 0]) (by simp [results, Tryz.results25, go_sem]) rfl ⟨rfl, by (repeat (first | exact Below.refl _ _ | assumption | refine Below.drew ?_ | refine below_drewN ?_ _ | refine Below.setCell ?_ (by simp) _ | refine Below.alloc ?_ (by (first | exact Nat.le_refl _ | (simp; done) | (simp; omega) | omega)) _ | refine Below.trans ?_ (Below.mono (by assumption) (by first | exact Nat.le_refl _ | (simp; done) | (simp; omega) | omega))))⟩
  · have h7 := hkl hk
    have i6 : ¬ (64 : Int) < (X.size : Int) := by omega
    rw [if_pos rfl, rV_tk]
    clear hXs hkl
    go_enter Tryz.func25, Tryz.ntmps25
    go_wp2_with (first | (go_at_call 54; refine (cW _).mono ?_; rintro e w' ⟨rfl, hw'⟩; obtain rfl := hw'.symm) | (go_at_call 55; refine (cK _).mono ?_; rintro e w' ⟨rfl, hw'⟩; obtain rfl := hw'.symm))
    exact bodyPost_ret (v := .tuple #[.agg #[.int .i64 (7), .string (X), .int .i64 (0), .float .f64 (0), .int .i64 ((p : Int))], .int .i64 (E : Int), .int .i64 0]) (by simp [results, Tryz.results25, go_sem]) rfl ⟨rfl, by (repeat (first | exact Below.refl _ _ | assumption | refine Below.drew ?_ | refine below_drewN ?_ _ | refine Below.setCell ?_ (by simp) _ | refine Below.alloc ?_ (by (first | exact Nat.le_refl _ | (simp; done) | (simp; omega) | omega)) _ | refine Below.trans ?_ (Below.mono (by assumption) (by first | exact Nat.le_refl _ | (simp; done) | (simp; omega) | omega))))⟩

set_option maxHeartbeats 1000000 in
theorem rtok_var (s : ByteArray) (p : Nat) (hp : p < s.size) (hs : s.size ≤ 65536) (hc : ¬ pSmall (bt s p) = true) (hd : pCapital (bt s p) = true ∨ bt s p = 95) (w : World) : Calls Tryz.prog 25 #[.string s, .int .i64 (p : Int)] w fun e w' => e = .returned (rV (varV s p) p (goes pName s p)) ∧ Below w.heap.size w w' := by
  have cW := rword_any s p (by omega) hs
  have hge := goes_ge pName s p
  have hle := goes_le pName s p (by omega)
  unfold varV
  obtain ⟨E, hE⟩ : ∃ E, goes pName s p = E := ⟨_, rfl⟩
  rw [hE] at cW hge hle ⊢
  obtain ⟨X, hX⟩ : ∃ X, s.extract p E = X := ⟨_, rfl⟩
  rw [hX, rV_tk]
  have hb := fun h => at_byte s p h
  obtain ⟨c, hcc⟩ : ∃ c, bt s p = c := ⟨_, rfl⟩
  rw [hcc] at hc hd
  simp only [hcc] at hb
  have i0 : (0 : Int) ≤ (p : Int) := by omega
  have i1 : (p : Int) < (s.size : Int) := by omega
  simp [pSmall] at hc
  simp [pCapital] at hd
  have i4 : (p : Int) ≤ (E : Int) := by omega
  have i5 : (E : Int) ≤ (s.size : Int) := by omega
  clear hE hcc
  rcases hd with ⟨hd1, hd2⟩ | rfl
  · have i2 : ¬ (97 : Int) ≤ (c : Int) := by omega
    have i3 : (65 : Int) ≤ (c : Int) := by omega
    have i6 : (c : Int) ≤ 90 := by omega
    go_enter Tryz.func25, Tryz.ntmps25
    go_wp2_with (first | (go_at_call 54; refine (cW _).mono ?_; rintro e w' ⟨rfl, hw'⟩; obtain rfl := hw'.symm))
    exact bodyPost_ret (v := .tuple #[.agg #[.int .i64 (2), .string (X), .int .i64 (0), .float .f64 (0), .int .i64 ((p : Int))], .int .i64 (E : Int), .int .i64 0]) (by simp [results, Tryz.results25, go_sem]) rfl ⟨rfl, by (repeat (first | exact Below.refl _ _ | assumption | refine Below.drew ?_ | refine below_drewN ?_ _ | refine Below.setCell ?_ (by simp) _ | refine Below.alloc ?_ (by (first | exact Nat.le_refl _ | (simp; done) | (simp; omega) | omega)) _ | refine Below.trans ?_ (Below.mono (by assumption) (by first | exact Nat.le_refl _ | (simp; done) | (simp; omega) | omega))))⟩
  · go_enter Tryz.func25, Tryz.ntmps25
    go_wp2_with (first | (go_at_call 54; refine (cW _).mono ?_; rintro e w' ⟨rfl, hw'⟩; obtain rfl := hw'.symm))
    exact bodyPost_ret (v := .tuple #[.agg #[.int .i64 (2), .string (X), .int .i64 (0), .float .f64 (0), .int .i64 ((p : Int))], .int .i64 (E : Int), .int .i64 0]) (by simp [results, Tryz.results25, go_sem]) rfl ⟨rfl, by (repeat (first | exact Below.refl _ _ | assumption | refine Below.drew ?_ | refine below_drewN ?_ _ | refine Below.setCell ?_ (by simp) _ | refine Below.alloc ?_ (by (first | exact Nat.le_refl _ | (simp; done) | (simp; omega) | omega)) _ | refine Below.trans ?_ (Below.mono (by assumption) (by first | exact Nat.le_refl _ | (simp; done) | (simp; omega) | omega))))⟩

/-- What the reference tells is three values. -/
theorem rV_form (v : Value) (h : IsTk v) (i E : Nat) : ∃ (k : Int) (x : ByteArray) (n : Int) (f : Nat) (q : Int) (e er : Int), rV v i E = .tuple #[.agg #[.int .i64 (k), .string (x), .int .i64 (n), .float .f64 (f), .int .i64 (q)], .int .i64 e, .int .i64 er] := by
  obtain ⟨k, x, n, f, er, rfl⟩ := h
  by_cases he : er = 0
  · subst he; exact ⟨_, _, _, _, _, _, _, rV_tk k x n f i E⟩
  · exact ⟨_, _, _, _, _, _, _, rV_err k x n f er he i E⟩

set_option maxHeartbeats 1000000 in
theorem rtok_num (s : ByteArray) (p : Nat) (hp : p < s.size) (hs : s.size ≤ 65536) (hd : pDigit (bt s p) = true) (w : World) : Calls Tryz.prog 25 #[.string s, .int .i64 (p : Int)] w fun e w' => e = .returned (rV (numV s p) p (fracEnd s (goes pDigit s p))) ∧ Below w.heap.size w w' := by
  have cN := rnumber_any s p hp hd hs (wbox w)
  have cD := rdigit_any (bt s p)
  rw [hd] at cD
  obtain ⟨k, x, n, f, q, e, er, hV⟩ := rV_form (numV s p) (numV_tk s p) p (fracEnd s (goes pDigit s p))
  rw [hV] at cN ⊢
  have hb := fun h => at_byte s p h
  obtain ⟨c, hcc⟩ : ∃ c, bt s p = c := ⟨_, rfl⟩
  rw [hcc] at hd cD
  simp only [hcc] at hb
  have i0 : (0 : Int) ≤ (p : Int) := by omega
  have i1 : (p : Int) < (s.size : Int) := by omega
  simp [pDigit] at hd
  have i2 : ¬ (97 : Int) ≤ (c : Int) := by omega
  have i3 : ¬ (65 : Int) ≤ (c : Int) := by omega
  have i7 : ((c : Int) == 95) = false := by simp; omega
  clear hcc hV
  go_enter Tryz.func25, Tryz.ntmps25
  go_wp2_with (first | (go_at_call 56; refine (cD _).mono ?_; rintro e w' ⟨rfl, hw'⟩; obtain rfl := hw'.symm) | (go_at_call 57; refine cN.mono ?_; rintro e w1 ⟨rfl, hb1⟩; have HB1 := hidb hb1; obtain ⟨z0, z1, z2, z3, z4, y0, y1, y2, y3, y4, _⟩ := (wbox_box w).keep hb1))
  exact bodyPost_ret (v := .tuple #[.agg #[.int .i64 (k), .string (x), .int .i64 (n), .float .f64 (f), .int .i64 (q)], .int .i64 e, .int .i64 er]) (by simp [results, Tryz.results25, go_sem, z0, z1, z2, z3, z4]) rfl ⟨rfl, below_set5 ((wbox_below w).trans (HB1.out.mono (wbox_below w).size)) (Nat.le_refl _) _ _ _ _ _⟩

set_option maxHeartbeats 1000000 in
theorem rtok_bits (s : ByteArray) (p : Nat) (hp : p < s.size) (hs : s.size ≤ 65536) (hf : bt s p = 35) (w : World) : Calls Tryz.prog 25 #[.string s, .int .i64 (p : Int)] w fun e w' => e = .returned (rV (bitsV s p) p (p + 17)) ∧ Below w.heap.size w w' := by
  have cN := rbits_any s p hp hs (wbox w)
  have cD := rdigit_any 35
  rw [show pDigit 35 = false from rfl] at cD
  obtain ⟨k, x, n, f, q, e, er, hV⟩ := rV_form (bitsV s p) (bitsV_tk s p) p (p + 17)
  rw [hV] at cN ⊢
  have hb : ∀ h, (s[p]'h).toNat = 35 := fun h => by rw [at_byte, hf]
  have i0 : (0 : Int) ≤ (p : Int) := by omega
  have i1 : (p : Int) < (s.size : Int) := by omega
  clear hV hf
  go_enter Tryz.func25, Tryz.ntmps25
  go_wp2_with (first | (go_at_call 56; refine (cD _).mono ?_; rintro e w' ⟨rfl, hw'⟩; obtain rfl := hw'.symm) | (go_at_call 58; refine cN.mono ?_; rintro e w1 ⟨rfl, hb1⟩; have HB1 := hidb hb1; obtain ⟨z0, z1, z2, z3, z4, y0, y1, y2, y3, y4, _⟩ := (wbox_box w).keep hb1))
  exact bodyPost_ret (v := .tuple #[.agg #[.int .i64 (k), .string (x), .int .i64 (n), .float .f64 (f), .int .i64 (q)], .int .i64 e, .int .i64 er]) (by simp [results, Tryz.results25, go_sem, z0, z1, z2, z3, z4]) rfl ⟨rfl, below_set5 ((wbox_below w).trans (HB1.out.mono (wbox_below w).size)) (Nat.le_refl _) _ _ _ _ _⟩

set_option maxHeartbeats 1000000 in
theorem rtok_sign (s : ByteArray) (p : Nat) (hp : p < s.size) (hs : s.size ≤ 65536) (hc : ¬ pSmall (bt s p) = true) (hd : ¬ (pCapital (bt s p) = true ∨ bt s p = 95)) (he : ¬ pDigit (bt s p) = true) (hf : ¬ bt s p = 35) (hq : ¬ (bt s p = 39 ∨ bt s p = 34)) (w : World) : Calls Tryz.prog 25 #[.string s, .int .i64 (p : Int)] w fun e w' => e = .returned (rV (sgV (signAt s p)) p (p + sgN (signAt s p))) ∧ Below w.heap.size w w' := by
  have cS := rsign_any s p (by omega) hs (wbox w)
  have cD := rdigit_any (bt s p)
  have he' : pDigit (bt s p) = false := by simpa using he
  rw [he'] at cD
  have hin := sign_in s p (by omega)
  have hbl := bt_lt s p
  have hb := fun h => at_byte s p h
  obtain ⟨c, hcc⟩ : ∃ c, bt s p = c := ⟨_, rfl⟩
  rw [hcc] at hc hd cD hf hq hbl
  simp only [hcc] at hb
  have i0 : (0 : Int) ≤ (p : Int) := by omega
  have i1 : (p : Int) < (s.size : Int) := by omega
  have e35 : ((c : Int) == 35) = false := by simp; omega
  have e39 : ((c : Int) == 39) = false := by simp; omega
  have e34 : ((c : Int) == 34) = false := by simp; omega
  have e95 : ((c : Int) == 95) = false := by simp; omega
  have hss : decide ((97 : Int) ≤ (c : Int)) = false ∨ (decide ((97 : Int) ≤ (c : Int)) = true ∧ decide ((c : Int) ≤ 122) = false) := by
    simp [pSmall] at hc
    by_cases h : (97 : Int) ≤ (c : Int)
    · right; simp; omega
    · left; simp; omega
  have hcs : decide ((65 : Int) ≤ (c : Int)) = false ∨ (decide ((65 : Int) ≤ (c : Int)) = true ∧ decide ((c : Int) ≤ 90) = false) := by
    have := (not_or.1 hd).1
    simp [pCapital] at this
    by_cases h : (65 : Int) ≤ (c : Int)
    · right; simp; omega
    · left; simp; omega
  clear hc hd he he' hf hq hcc
  cases ho : signAt s p with
  | none =>
    rw [ho] at cS
    show Calls _ _ _ _ fun e w' => e = .returned (rV (badV 21) p _) ∧ _
    rw [rV_bad 21 (by decide)]
    have k1 : (([] : List UInt8) == []) = true := rfl
    rcases hss with s1 | ⟨s1, s2⟩ <;> rcases hcs with t1 | ⟨t1, t2⟩
    all_goals (go_enter Tryz.func25, Tryz.ntmps25)
    all_goals (go_wp2_with (first | (go_at_call 56; refine (cD _).mono ?_; rintro e w' ⟨rfl, hw'⟩; obtain rfl := hw'.symm) | (go_at_call 60; refine cS.mono ?_; rintro e w1 ⟨rfl, hb1⟩; have HB1 := hidb hb1; simp only [sgS]; obtain ⟨z0, z1, z2, z3, z4, y0, y1, y2, y3, y4, _⟩ := (wbox_box w).keep hb1)))
    all_goals exact bodyPost_ret (v := .tuple #[.agg #[.int .i64 (0), .string (⟨#[]⟩), .int .i64 (0), .float .f64 (0), .int .i64 (0)], .int .i64 0, .int .i64 21]) (by simp [results, Tryz.results25, go_sem, z0, z1, z2, z3, z4]) rfl ⟨rfl, below_set5 ((wbox_below w).trans (HB1.out.mono (wbox_below w).size)) (Nat.le_refl _) _ _ _ _ _⟩
  | some l =>
    rw [ho] at cS
    obtain ⟨hl1, hl2⟩ := hin l ho
    show Calls _ _ _ _ fun e w' => e = .returned (rV (.tuple #[.agg #[.int .i64 (6), .string (⟨l.toArray⟩), .int .i64 (0), .float .f64 (0), .int .i64 (0)], .int .i64 0]) p (p + l.length)) ∧ _
    rw [rV_tk]
    simp only [sgS] at cS
    obtain ⟨X, hX⟩ : ∃ X, (⟨l.toArray⟩ : ByteArray) = X := ⟨_, rfl⟩
    have hXs : X.size = l.length := by rw [← hX]; rfl
    have hXn := str_nil X
    rw [hX] at cS ⊢
    rw [← hXs] at hl1 hl2 ⊢
    have hn0 : decide (X.size = 0) = false := by rw [decide_eq_false_iff_not]; omega
    rw [hn0] at hXn
    have hwr : (p : Int) + (X.size : Int) ≤ 65536 := by omega
    clear hX hXs hn0
    rcases hss with s1 | ⟨s1, s2⟩ <;> rcases hcs with t1 | ⟨t1, t2⟩
    all_goals (go_enter Tryz.func25, Tryz.ntmps25)
    all_goals (go_wp2_with (first | (go_at_call 56; refine (cD _).mono ?_; rintro e w' ⟨rfl, hw'⟩; obtain rfl := hw'.symm) | (go_at_call 60; refine cS.mono ?_; rintro e w1 ⟨rfl, hb1⟩; have HB1 := hidb hb1; obtain ⟨z0, z1, z2, z3, z4, y0, y1, y2, y3, y4, _⟩ := (wbox_box w).keep hb1)))
    all_goals exact bodyPost_ret (v := .tuple #[.agg #[.int .i64 (6), .string (X), .int .i64 (0), .float .f64 (0), .int .i64 ((p : Int))], .int .i64 ((p + X.size : Nat) : Int), .int .i64 0]) (by simp [results, Tryz.results25, go_sem, z0, z1, z2, z3, z4]) rfl ⟨rfl, below_set5 ((wbox_below w).trans (HB1.out.mono (wbox_below w).size)) (Nat.le_refl _) _ _ _ _ _⟩
end Go.Proofs.YthdljnakmekhkaaGreatDoor


