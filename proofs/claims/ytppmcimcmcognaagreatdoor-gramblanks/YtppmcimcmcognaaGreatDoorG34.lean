import Derived.Test.YtppmcimcmcognaaGreatDoorG33
import Derived.Test.YtppmcimcmcognaaGreatDoorLxH
import Derived.Test.YtppmcimcmcognaaGreatDoorG09
import Derived.Test.YtppmcimcmcognaaGreatDoorG28
/- The reference passes over blanks and comments. -/
namespace Go.Proofs.YtppmcimcmcognaaGreatDoor
open Go.RowKit Go.Lib
attribute [local go_sem] store_float f64bits
attribute [local go_sem ↓] Go.wp_at_zero Go.wp_at_succ

/-- From p on the tokens are those from p' on. -/
def Goes (s : ByteArray) (p p' : Nat) : Prop := p ≤ p' ∧ p' ≤ s.size ∧ ∀ k done, s.size < p + k → ∃ k', s.size < p' + k' ∧ toks s k p done = toks s k' p' done

theorem Goes.refl (s : ByteArray) (p : Nat) (hp : p ≤ s.size) : Goes s p p := ⟨Nat.le_refl _, hp, fun k _ h => ⟨k, h, rfl⟩⟩
theorem Goes.trans {s : ByteArray} {p q r : Nat} (h1 : Goes s p q) (h2 : Goes s q r) : Goes s p r :=
  ⟨Nat.le_trans h1.1 h2.1, h2.2.1, fun k done h => by
    obtain ⟨k1, a1, b1⟩ := h1.2.2 k done h
    obtain ⟨k2, a2, b2⟩ := h2.2.2 k1 done a1
    exact ⟨k2, a2, b1.trans b2⟩⟩
theorem Goes.blank {s : ByteArray} {p : Nat} (hp : p < s.size) (hb : pBlank (bt s p) = true) : Goes s p (p + 1) := by
  refine ⟨by omega, hp, fun k done h => ⟨k, by omega, ?_⟩⟩
  obtain ⟨k, rfl⟩ : ∃ k', k = k' + 1 := ⟨k - 1, by omega⟩
  simp only [toks, goes_on hp hb]
theorem Goes.line {s : ByteArray} {p : Nat} (hp : p < s.size) (hb : bt s p = 37) : Goes s p (goes pLine s p) := by
  have h1 : p + 1 ≤ goes pLine s p := by rw [goes_on hp (by simp [pLine, hb])]; exact goes_ge _ _ _
  refine ⟨by omega, goes_le _ _ _ (by omega), fun k done h => ?_⟩
  obtain ⟨k, rfl⟩ : ∃ k', k = k' + 1 := ⟨k - 1, by omega⟩
  refine ⟨k, by omega, ?_⟩
  have h2 : goes pBlank s p = p := goes_stop (by rw [hb]; rfl)
  simp only [toks, h2, hp, if_true, hb]

set_option maxHeartbeats 1000000 in
set_option maxRecDepth 1000000 in
theorem rpassed_any (s : ByteArray) (i : Nat) (hi : i ≤ s.size) (hs : s.size ≤ 65536) (w : World) : Calls Tryz.prog 24 #[.string s, .int .i64 (i : Int)] w fun e w' => ∃ q : Nat, e = .returned (.int .i64 (q : Int)) ∧ w' = w ∧ Goes s i q ∧ (q < s.size → pBlank (bt s q) = false ∧ bt s q ≠ 37) := by
  go_enter Tryz.func24, Tryz.ntmps24
  go_wp2_with fail
  go_loopg [1] (s.size - i) (fun gf s1 wx => ∃ p : Nat, s1 = .int .i64 (p : Int) ∧ s.size - p ≤ gf ∧ Goes s i p ∧ wx = w)
  case atStart => exact ⟨i, rfl, Nat.le_refl _, Goes.refl s i hi, rfl⟩
  case round =>
    obtain ⟨p, rfl, hgf, hgo, hwx⟩ := hrel
    obtain rfl := hwx.symm
    have hps := hgo.2.1
    by_cases hlt : p < s.size
    · obtain ⟨g', rfl⟩ : ∃ g', gk = g' + 1 := ⟨gk - 1, by omega⟩
      have i0 : (0 : Int) ≤ (p : Int) := by omega
      have i1 : (p : Int) < (s.size : Int) := by omega
      have hb := fun h => at_byte s p h
      have hg1 := Goes.blank hlt
      have hg2 := Goes.line hlt
      have hge : bt s p = 37 → p + 1 ≤ goes pLine s p := fun hb => by rw [goes_on hlt (by simp [pLine, hb])]; exact goes_ge _ _ _
      obtain ⟨c, hc⟩ : ∃ c, bt s p = c := ⟨_, rfl⟩
      have HC := hidb hc
      rw [hc] at hg1 hg2 hge
      simp only [hc] at hb
      clear hc
      by_cases h37 : c = 37
      · subst h37
        have HG := hidb (hgo.trans (hg2 rfl))
        have hge2 := hge rfl
        clear hg1 hg2 hge
        go_wp2_with fail
        go_loopg [1] (s.size - p) (fun gf s1 wx => ∃ q : Nat, s1 = .int .i64 (q : Int) ∧ p ≤ q ∧ q ≤ s.size ∧ s.size - q ≤ gf ∧ goes pLine s q = goes pLine s p ∧ wx = w)
        case atStart => exact ⟨p, rfl, Nat.le_refl _, hps, Nat.le_refl _, rfl, rfl⟩
        case round =>
          obtain ⟨q, rfl, hpq, hqs, hqg, hqo, hwx2⟩ := hrel
          obtain rfl := hwx2.symm
          clear i0 i1 hb
          by_cases hql : q < s.size
          · obtain ⟨g2, rfl⟩ : ∃ g2, gk = g2 + 1 := ⟨gk - 1, by omega⟩
            have i0 : (0 : Int) ≤ (q : Int) := by omega
            have i1 : (q : Int) < (s.size : Int) := by omega
            have hb := fun h => at_byte s q h
            have h1 := goes_on (p := pLine) hql
            have h2 := goes_stop (p := pLine) (s := s) (i := q)
            obtain ⟨c, hc⟩ : ∃ c, bt s q = c := ⟨_, rfl⟩
            rw [hc] at h1 h2
            simp only [hc] at hb
            clear hc
            by_cases h10 : c = 10
            · subst h10
              have hqe : goes pLine s p = q := by rw [← hqo]; exact h2 rfl
              rw [hqe] at HG hge2
              clear h1 h2
              go_wp2_with fail
              go_roundg g'
              case measure => omega
              case rel => exact ⟨q, rfl, by omega, HG.out, rfl⟩
            · have e10 : ((c : Int) == 10) = false := by simp; omega
              have e11 : ((c : Int) != 10) = true := by simp; omega
              have h3 := h1 (by simp [pLine, h10])
              clear h1 h2
              go_wp2_with fail
              go_roundg g2
              case measure => omega
              case rel => exact ⟨q + 1, by simp, by omega, by omega, by omega, by rw [← h3]; exact hqo, rfl⟩
          · have i1 : ¬ (q : Int) < (s.size : Int) := by omega
            have hqe : goes pLine s p = q := by rw [← hqo]; exact goes_end (by omega)
            rw [hqe] at HG hge2
            go_wp2_with fail
            go_roundg g'
            case measure => omega
            case rel => exact ⟨q, rfl, by omega, HG.out, rfl⟩
      · have e37 : ((c : Int) == 37) = false := by simp; omega
        cases hbl : pBlank c
        · simp [pBlank] at hbl
          have e1 : ((c : Int) == 9) = false := by simp; omega
          have e2 : ((c : Int) == 10) = false := by simp; omega
          have e3 : ((c : Int) == 13) = false := by simp; omega
          have e4 : ((c : Int) == 32) = false := by simp; omega
          clear hg1 hg2 hge
          go_wp2_with fail
          go_ret
          exact ⟨p, rfl, rfl, hgo, fun _ => by rw [HC.out]; exact ⟨by simp [pBlank]; omega, h37⟩⟩
        · have HG := hidb (hgo.trans (hg1 hbl))
          simp [pBlank] at hbl
          clear hg1 hg2 hge
          rcases hbl with ((rfl | rfl) | rfl) | rfl
          all_goals (go_wp2_with fail)
          all_goals (go_roundg g')
          all_goals first | omega | exact ⟨p + 1, by simp, by omega, HG.out, rfl⟩
    · have i1 : ¬ (p : Int) < (s.size : Int) := by omega
      go_wp2_with fail
      go_ret
      exact ⟨p, rfl, rfl, hgo, fun h => absurd h hlt⟩
end Go.Proofs.YtppmcimcmcognaaGreatDoor


/- The reference's numbers. -/
namespace Go.Proofs.YtppmcimcmcognaaGreatDoor
open Go.RowKit Go.Lib
attribute [local go_sem] store_float f64bits
attribute [local go_sem ↓] Go.wp_at_zero Go.wp_at_succ

/-- A token as the reference tells it. -/
def rV (v : Value) (i E : Nat) : Value :=
  match v with
  | .tuple #[.agg #[a, b, c, d, _], .int _ e] => if e = 0 then .tuple #[.agg #[a, b, c, d, .int .i64 (i : Int)], .int .i64 (E : Int), .int .i64 0] else .tuple #[.agg #[.int .i64 (0), .string (⟨#[]⟩), .int .i64 (0), .float .f64 (0), .int .i64 (0)], .int .i64 0, .int .i64 e]
  | v => v
theorem rV_tk (k : Int) (x : ByteArray) (n : Int) (f : Nat) (i E : Nat) : rV (.tuple #[.agg #[.int .i64 (k), .string (x), .int .i64 (n), .float .f64 (f), .int .i64 (0)], .int .i64 0]) i E = .tuple #[.agg #[.int .i64 (k), .string (x), .int .i64 (n), .float .f64 (f), .int .i64 ((i : Int))], .int .i64 (E : Int), .int .i64 0] := rfl
theorem rV_bad (e : Int) (he : e ≠ 0) (i E : Nat) : rV (badV e) i E = .tuple #[.agg #[.int .i64 (0), .string (⟨#[]⟩), .int .i64 (0), .float .f64 (0), .int .i64 (0)], .int .i64 0, .int .i64 e] := by
  show (if e = 0 then _ else _) = _
  rw [if_neg he]

set_option maxHeartbeats 1000000 in
theorem rbits_any (s : ByteArray) (i : Nat) (hi : i < s.size) (hs : s.size ≤ 65536) (w : World) : Calls Tryz.prog 58 #[.string s, .int .i64 (i : Int)] w fun e w' => e = .returned (rV (bitsV s i) i (i + 17)) ∧ Below w.heap.size w w' := by
  unfold bitsV
  obtain ⟨o, ho⟩ : ∃ o, hexN s 16 (i + 1) 0 = o := ⟨_, rfl⟩
  rw [ho]
  have hf := f64frombits
  by_cases hlong : s.size < i + 17
  · have i3 : (s.size : Int) < (i : Int) + 17 := by omega
    obtain rfl : none = o := by
      cases o with
      | none => rfl
      | some v => have := hexN_in s 15 (i + 1) 0 v ho; omega
    rw [rV_bad 22 (by decide)]
    go_enter Tryz.func58, Tryz.ntmps58
    go_wp2_with fail
    exact bodyPost_ret (v := .tuple #[.agg #[.int .i64 (0), .string (⟨#[]⟩), .int .i64 (0), .float .f64 (0), .int .i64 (0)], .int .i64 0, .int .i64 22]) (by simp [results, Tryz.results58, go_sem]) rfl ⟨rfl, by (repeat (first | exact Below.refl _ _ | assumption | refine Below.drew ?_ | refine below_drewN ?_ _ | refine Below.setCell ?_ (by simp) _ | refine Below.alloc ?_ (by (first | exact Nat.le_refl _ | (simp; done) | (simp; omega) | omega)) _ | refine Below.trans ?_ (Below.mono (by assumption) (by first | exact Nat.le_refl _ | (simp; done) | (simp; omega) | omega))))⟩
  · have i3 : ¬ (s.size : Int) < (i : Int) + 17 := by omega
    go_enter Tryz.func58, Tryz.ntmps58
    go_wp2_with fail
    go_loopg [7, 8] 16 (fun gf s7 s8 wx => ∃ m V : Nat, s7 = .int .u64 (V : Int) ∧ s8 = .int .i64 ((i + 1 + m : Nat) : Int) ∧ m + gf = 16 ∧ hexN s gf (i + 1 + m) V = o ∧ V < 16 ^ m ∧ wx = wbox w)
    case atStart => exact ⟨0, 0, rfl, by simp, rfl, ho, by simp, rfl⟩
    case round =>
      obtain ⟨m, V, rfl, rfl, hgf, hx, hV, hwx⟩ := hrel
      obtain rfl := hwx.symm
      by_cases hm : m < 16
      · obtain ⟨g', rfl⟩ : ∃ g', gk = g' + 1 := ⟨gk - 1, by omega⟩
        have hps : i + 1 + m < s.size := by omega
        obtain ⟨q, hq⟩ : ∃ q, i + 1 + m = q := ⟨_, rfl⟩
        have hxa : hexAt s q = hexd (bt s q) := by unfold hexAt; rw [if_pos (by omega)]
        have i0 : (0 : Int) ≤ (q : Int) := by omega
        have i1 : (q : Int) < (s.size : Int) := by omega
        have i2 : (q : Int) < (i : Int) + 17 := by omega
        have hb := fun h => at_byte s q h
        have cH := rhexed_any (bt s q)
        rw [hq] at hx ⊢
        obtain ⟨c, hc⟩ : ∃ c, bt s q = c := ⟨_, rfl⟩
        rw [hc] at cH hxa
        simp only [hc] at hb
        have hV60 : V < 1152921504606846976 := by
          have h1 : 16 ^ m ≤ 16 ^ 15 := Nat.pow_le_pow_right (by omega) (by omega)
          omega
        have H16 : Hid (16 ^ (m + 1) = 16 ^ m * 16) := hidb (Nat.pow_succ _ _)
        cases hd : hexd c with
        | none =>
          rw [hd] at cH hxa
          rw [hexN_none _ _ _ _ hxa] at hx
          subst hx
          clear hxa hc hd
          go_wp2_with (first | (go_at_call 83; refine (cH _).mono ?_; rintro e w' ⟨rfl, hw'⟩; obtain rfl := hw'.symm))
          exact bodyPost_ret (v := .tuple #[.agg #[.int .i64 (0), .string (⟨#[]⟩), .int .i64 (0), .float .f64 (0), .int .i64 (0)], .int .i64 0, .int .i64 22]) (by simp [results, Tryz.results58, go_sem]) rfl ⟨rfl, by (repeat (first | exact Below.refl _ _ | assumption | refine Below.drew ?_ | refine below_drewN ?_ _ | refine Below.setCell ?_ (by simp) _ | refine Below.alloc ?_ (by (first | exact Nat.le_refl _ | (simp; done) | (simp; omega) | omega)) _ | refine Below.trans ?_ (Below.mono (by assumption) (by first | exact Nat.le_refl _ | (simp; done) | (simp; omega) | omega))))⟩
        | some d =>
          have hd16 := hexd_lt hd
          rw [hd] at cH hxa
          rw [hexN_some _ _ _ _ _ hxa] at hx
          obtain ⟨X, hX⟩ : ∃ X : Int, (V : Int) = X := ⟨_, rfl⟩
          obtain ⟨Y, hY⟩ : ∃ Y : Int, (d : Int) = Y := ⟨_, rfl⟩
          rw [hX]
          simp only [hY] at cH
          have x0 : 0 ≤ X := by omega
          have x1 : X < 1152921504606846976 := by omega
          have y0 : 0 ≤ Y := by omega
          have y1 : Y < 16 := by omega
          have y2 : ¬ Y < 0 := by omega
          have e1 : IntKind.u64.wrap (X * 16) = X * 16 := by rw [IntKind.wrap_u64]; omega
          have e2 := or16 X Y x0 x1 y0 y1
          have HRR : Hid (X * 16 + Y = ((V * 16 + d : Nat) : Int)) := hidb (by omega)
          have HV : Hid (V * 16 + d < 16 ^ (m + 1)) := hidb (by rw [H16.out]; omega)
          have HX := hidb hx
          clear hxa hc hd hX hY hV60 hx hV H16 hd16
          go_wp2_with (first | (go_at_call 83; refine (cH _).mono ?_; rintro e w' ⟨rfl, hw'⟩; obtain rfl := hw'.symm))
          go_roundg g'
          case measure => omega
          case rel => exact ⟨m + 1, V * 16 + d, by rw [HRR.out], by rw [← hq]; simp; omega, by omega, by rw [← HX.out, ← hq]; rfl, HV.out, rfl⟩
      · obtain rfl : m = 16 := by omega
        obtain rfl : gk = 0 := by omega
        obtain rfl : some V = o := hx
        have i2 : ¬ (((i + 1 + 16 : Nat) : Int) < (i : Int) + 17) := by omega
        have hV64 : V < 18446744073709551616 := by omega
        have cF := refFinite_any V
        cases hfin : Flt.fin V <;> rw [hfin] at cF
        · go_wp2_with (first | (go_at_call 85; refine (cF _).mono ?_; rintro e w1 ⟨rfl, hb1⟩; have HB1 := hidb hb1; obtain ⟨z0, z1, z2, z3, z4, y0, y1, y2, y3, y4, _⟩ := (wbox_box w).keep hb1))
          exact bodyPost_ret (v := .tuple #[.agg #[.int .i64 (0), .string (⟨#[]⟩), .int .i64 (0), .float .f64 (0), .int .i64 (0)], .int .i64 0, .int .i64 22]) (by simp [results, Tryz.results58, go_sem, z0, z1, z2, z3, z4]) rfl ⟨rfl, below_set5 ((wbox_below w).trans (HB1.out.mono (wbox_below w).size)) (Nat.le_refl _) _ _ _ _ _⟩
        · go_wp2_with (first | (go_at_call 85; refine (cF _).mono ?_; rintro e w1 ⟨rfl, hb1⟩; have HB1 := hidb hb1; obtain ⟨z0, z1, z2, z3, z4, y0, y1, y2, y3, y4, _⟩ := (wbox_box w).keep hb1))
          exact bodyPost_ret (v := .tuple #[.agg #[.int .i64 (4), .string (⟨#[]⟩), .int .i64 (0), .float .f64 (V), .int .i64 ((i : Int))], .int .i64 ((i + 17 : Nat) : Int), .int .i64 0]) (by simp [results, Tryz.results58, go_sem, z0, z1, z2, z3, z4]) rfl ⟨rfl, below_set5 ((wbox_below w).trans (HB1.out.mono (wbox_below w).size)) (Nat.le_refl _) _ _ _ _ _⟩
end Go.Proofs.YtppmcimcmcognaaGreatDoor


/- The reference's tokens, given its token. -/
namespace Go.Proofs.YtppmcimcmcognaaGreatDoor
open Go.RowKit Go.Lib
attribute [local go_sem] store_float f64bits
attribute [local go_sem ↓] Go.wp_at_zero Go.wp_at_succ

/-- The reference's token. -/
def RTok (s : ByteArray) : Prop := ∀ (p : Nat) (W : World), p < s.size → Calls Tryz.prog 25 #[.string s, .int .i64 (p : Int)] W fun e W' => e = .returned (rV (tokV s p) p (tokE s p)) ∧ Below W.heap.size W W'

theorem rV_err (k : Int) (x : ByteArray) (n : Int) (f : Nat) (er : Int) (he : er ≠ 0) (i E : Nat) : rV (.tuple #[.agg #[.int .i64 (k), .string (x), .int .i64 (n), .float .f64 (f), .int .i64 (0)], .int .i64 er]) i E = .tuple #[.agg #[.int .i64 (0), .string (⟨#[]⟩), .int .i64 (0), .float .f64 (0), .int .i64 (0)], .int .i64 0, .int .i64 er] := by
  show (if er = 0 then _ else _) = _
  rw [if_neg he]

theorem toks_at (s : ByteArray) (k p : Nat) (done : List Tk) (hp : p < s.size) (hb : pBlank (bt s p) = false) (h37 : bt s p ≠ 37) : toks s (k + 1) p done = layT s k p done := by
  have h : goes pBlank s p = p := goes_stop hb
  simp only [toks, h, hp, if_true, h37, if_false, layT]
theorem toks_end (s : ByteArray) (k p : Nat) (done : List Tk) (hp : s.size ≤ p) : toks s (k + 1) p done = .inl (done ++ [⟨8, ⟨#[]⟩, 0, 0, p⟩]) := by
  have h : goes pBlank s p = p := goes_end hp
  have h2 : ¬ p < s.size := by omega
  simp only [toks, h, h2, if_false]

set_option maxHeartbeats 1000000 in
set_option maxRecDepth 100000 in
theorem rTokens_of (s : ByteArray) (hTok : RTok s) (w : World) :
    Calls Tryz.prog 17 #[.string s] w fun e w' => TP w.heap.size (allT s) e w' ∧ Below w.heap.size w w' := by
  unfold allT
  by_cases hl : 65536 < s.size
  · have h1 : (65536 : Int) < (s.size : Int) := by omega
    rw [if_pos hl]
    go_enter Tryz.func17, Tryz.ntmps17
    go_wp2_with fail
    exact bodyPost_ret (v := .tuple #[.slice none 0 0, .agg #[.int .i64 3, .int .i64 0]]) (by simp [results, Tryz.results17, go_sem]) rfl ⟨.inr ⟨3, 0, rfl, rfl⟩, (Below.refl _ _).alloc (Nat.le_refl _) _⟩
  · have h1 : ¬ (65536 : Int) < (s.size : Int) := by omega
    rw [if_neg hl]
    obtain ⟨R, hR⟩ : ∃ R, toks s (s.size + 1) 0 [] = R := ⟨_, rfl⟩
    rw [hR]
    have cP0 := fun W => rpassed_any s 0 (Nat.zero_le _) (by omega) W
    go_enter Tryz.func17, Tryz.ntmps17
    go_wp2_with fail
    refine (cP0 _).mono ?_
    rintro e w1 ⟨q, rfl, hw1, hg0, hq0⟩
    obtain rfl := hw1.symm
    obtain ⟨k0, hk0, hR0⟩ := hg0.2.2 (s.size + 1) [] (by omega)
    rw [hR] at hR0
    have hB1 : Below w.heap.size w (w.alloc (Obj.cells #[Value.int IntKind.i64 0, Value.int IntKind.i64 0] 28)) := below_new _ _
    have hF1 : Duo (w.alloc (Obj.cells #[Value.int IntKind.i64 0, Value.int IntKind.i64 0] 28)) w.heap.size (.int .i64 0) (.int .i64 0) := Duo.new w _ _ _
    have hZ1 : (w.alloc (Obj.cells #[Value.int IntKind.i64 0, Value.int IntKind.i64 0] 28)).heap.size = w.heap.size + 1 := by simp
    have hq1 := hg0.2.1
    go_wp2_with fail
    generalize hW1 : w.alloc (Obj.cells #[Value.int IntKind.i64 0, Value.int IntKind.i64 0] 28) = W1 at *
    clear hW1 cP0 hg0
    obtain ⟨i0, hi, hz0, hz1, hz2⟩ := info_parts (P := Tryz.prog) (e := TT) (z := .agg #[.int .i64 0, .string ⟨#[]⟩, .int .i64 0, .float .f64 0, .int .i64 0]) (size := 5) (bytes := 48) (by kernel_rfl)
    go_loopg [4, 5] s.size (fun gf s4 s5 wx => ∃ (p k : Nat) (done : List Tk), s5 = .int .i64 (p : Int) ∧ p ≤ s.size ∧ s.size - p ≤ gf ∧ s.size < p + k ∧ toks s k p done = R ∧ (p < s.size → pBlank (bt s p) = false ∧ bt s p ≠ 37) ∧ done.length ≤ p ∧ Below (w.heap.size + 1) W1 wx ∧ wx.ownsRow (w.heap.size + 1) TT 5 s4 done.length (tkCells done))
    case atStart => exact ⟨q, k0, [], rfl, hq1, by omega, hk0, hR0.symm, hq0, Nat.zero_le _, Below.refl _ _, ⟨rfl, .inl ⟨rfl, rfl⟩⟩⟩
    case round =>
      obtain ⟨p, k, done, rfl, hp, hgf, hk, hRk, hpb, hln, hbw, how⟩ := hrel
      obtain ⟨k, rfl⟩ : ∃ k', k = k' + 1 := ⟨k - 1, by omega⟩
      have hzw := hbw.size
      by_cases hlt : p < s.size
      · obtain ⟨g', rfl⟩ : ∃ g', gk = g' + 1 := ⟨gk - 1, by omega⟩
        have i1 : (p : Int) < (s.size : Int) := by omega
        have cT := fun W => hTok p W hlt
        rw [toks_at s k p done hlt (hpb hlt).1 (hpb hlt).2] at hRk
        have hE3 := tokE_in s p hlt
        unfold layT at hRk
        obtain ⟨tk, x, tn, tf, er, hV⟩ := tokV_tk s p
        have hE1 : erOf (tokV s p) = er := by rw [hV]; rfl
        have hE2 : tkOf (tokV s p) p = ⟨tk, x, tn, tf, p⟩ := by rw [hV]; rfl
        rw [hE1, hE2] at hRk
        rw [hV, okV_tk] at hE3
        rw [hV] at cT
        clear hE1 hE2 hV hpb hq0 hR0 hk0 hR hq1
        by_cases he : er = 0
        · subst he
          obtain ⟨ht1, ht2⟩ := hE3 rfl
          simp only [rV_tk] at cT
          have cP := fun W => rpassed_any s (tokE s p) ht2 (by omega) W
          rw [if_pos rfl] at hRk
          go_wp2_with (first
            | (go_at_call 25; refine (cT _).mono ?_; rintro e w2 ⟨rfl, hb2⟩; have HB2 := hidb hb2; have OW2 := own_but how (But.of_below (S := fun _ => False) hb2) (fun _ _ h => h); have hz2w := hb2.size)
            | (at_builtin; refine wpList_append_own _ rfl _ _ 36 rfl (w.heap.size + 1) TT i0 (.agg #[.int .i64 0, .string ⟨#[]⟩, .int .i64 0, .float .f64 0, .int .i64 0]) 5 48 Tryz.underlying36 hi hz0 hz1 hz2 rfl (by decide) _ _ _ rfl ((OW2.alloc _).alloc _) ⟨w2.heap.size + 1, 0, none⟩ 1 1 [.int .i64 tk, .string x, .int .i64 tn, .float .f64 tf, .int .i64 (p : Int)] rfl rfl ?c1 ?c2 ?c3 ?c4 ?c5 ?_))
          case c1 =>
            intro q u hq
            exact app_cells _ _ _ _ _ _ _ _ (by simp) q u hq
          case c2 =>
            intro u hu
            simp only [List.mem_cons, List.not_mem_nil, or_false] at hu
            rcases hu with rfl | rfl | rfl | rfl | rfl <;> rfl
          case c3 => unfold maxLen; omega
          case c4 => omega
          case c5 => simp; omega
          intro v' w3 hown' hgrow hnil
          have hb3 := grow_below (OW2.alloc _) hgrow (by simp; omega)
          have HB3 : Hid (Below (w.heap.size + 1) W1 w3) := hidb ((hbw.trans (HB2.out.mono (by omega))).trans (((Below.refl (w.heap.size + 1) w2).alloc (by omega) _).trans hb3))
          have HO := hidb hown'
          obtain ⟨ao, n', cap', rfl⟩ : ∃ ao n' cap, v' = .slice ao n' cap := hown'.2.elim (fun h => ⟨_, _, _, h.1⟩) fun ⟨_, _, _, hv, _⟩ => ⟨_, _, _, hv⟩
          clear hown' hgrow hnil hb3 OW2
          go_wp2_with fail
          refine (cP _).mono ?_
          rintro e w4 ⟨q', rfl, hw4, hg', hq'⟩
          obtain rfl := hw4.symm
          obtain ⟨k', hk', hR'⟩ := hg'.2.2 k (done ++ [⟨tk, x, tn, tf, p⟩]) (by omega)
          go_wp2_with fail
          go_roundg g'
          case measure => omega
          case rel =>
            have h1 := hg'.1
            refine ⟨q', k', done ++ [⟨tk, x, tn, tf, p⟩], rfl, hg'.2.1, by omega, hk', hR'.symm.trans hRk, hq', by simp; omega, HB3.out, ?_⟩
            rw [List.length_append, tkCells_snoc]
            exact HO.out
        · simp only [rV_err _ _ _ _ _ he] at cT
          rw [if_neg he] at hRk
          have he1 : (er != 0) = true := by simpa using he
          have he2 : (er == 0) = false := by simpa using he
          go_wp2_with (first
            | (go_at_call 25; refine (cT _).mono ?_; rintro e w2 ⟨rfl, hb2⟩; have HB2 := hidb (hbw.trans (hb2.mono (by omega))); obtain ⟨q0, q1, qf0, qf1, _⟩ := (Duo.low hF1 HB2.out (by omega)).keep (below_new _ (Obj.cells #[.int .i64 0, .string ⟨#[]⟩, .int .i64 0, .float .f64 0, .int .i64 0] 41)); have hz2w := hb2.size)
            | fail)
          exact bodyPost_ret (v := .tuple #[.slice none 0 0, .agg #[.int .i64 er, .int .i64 (p : Int)]]) (by simp [results, Tryz.results17, go_sem, q0, q1]) rfl ⟨.inr ⟨er, p, hRk.symm, rfl⟩, (((hB1.trans (HB2.out.mono (by omega))).alloc (by omega) _).setCell (p := ⟨w.heap.size, 0, none⟩) (Nat.le_refl _) _).setCell (p := ⟨w.heap.size, 1, none⟩) (Nat.le_refl _) _⟩
      · have i1 : ¬ (p : Int) < (s.size : Int) := by omega
        obtain rfl : p = s.size := by omega
        rw [toks_end s k _ done (Nat.le_refl _)] at hRk
        clear hq0 hR0 hk0 hR hq1 hTok
        go_wp2_with (at_builtin; go_must (refine wpList_append_own _ rfl _ _ 36 rfl (w.heap.size + 1) TT i0 (.agg #[.int .i64 0, .string ⟨#[]⟩, .int .i64 0, .float .f64 0, .int .i64 0]) 5 48 Tryz.underlying36 hi hz0 hz1 hz2 rfl (by decide) _ _ _ rfl (how.alloc _) ⟨wr.heap.size, 0, none⟩ 1 1 [.int .i64 8, .string ⟨#[]⟩, .int .i64 0, .float .f64 0, .int .i64 (s.size : Int)] rfl rfl ?c1 ?c2 ?c3 ?c4 ?c5 ?_))
        case c2 => exact ⟨rfl, rfl, rfl, rfl, rfl⟩
        case c3 => unfold maxLen; omega
        case c4 => omega
        case c5 => first | omega | (simp; omega)
        intro v' w3 hown' hgrow hnil
        have hb3 := grow_below how hgrow (by omega)
        have HO := hidb hown'
        obtain ⟨ao, n', cap', rfl⟩ : ∃ ao n' cap, v' = .slice ao n' cap := hown'.2.elim (fun h => ⟨_, _, _, h.1⟩) fun ⟨_, _, _, hv, _⟩ => ⟨_, _, _, hv⟩
        have HB3 : Hid (Below (w.heap.size + 1) W1 w3) := hidb (hbw.trans hb3)
        obtain ⟨q0, q1, qf0, qf1, _⟩ := Duo.low hF1 HB3.out (by omega)
        clear hown' hgrow hnil hb3 how
        go_wp2_with fail
        refine bodyPost_ret (v := .tuple #[.slice ao n' cap', .agg #[.int .i64 0, .int .i64 0]]) (by simp [results, Tryz.results17, go_sem, q0, q1]) rfl ⟨.inl ⟨_, _, hRk.symm, rfl, ?_⟩, (((hB1.trans (HB3.out.mono (by omega)))).setCell (p := ⟨w.heap.size, 0, none⟩) (Nat.le_refl _) _).setCell (p := ⟨w.heap.size, 1, none⟩) (Nat.le_refl _) _⟩
        rw [List.length_append, tkCells_snoc]
        exact own_base (own_but HO.out (((But.refl (fun k => k = w.heap.size) w3).setCell (p := ⟨w.heap.size, 0, none⟩) (fun _ => rfl) _).setCell (p := ⟨w.heap.size, 1, none⟩) (fun _ => rfl) _) (fun k hk => by omega)) (by omega)
end Go.Proofs.YtppmcimcmcognaaGreatDoor


