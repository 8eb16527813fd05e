import Derived.Test.YtecgddiohoeboaaDoorLxI
import Derived.Test.YtecgddiohoeboaaDoorLxH
/- Tokens. -/
namespace Go.Proofs.YtecgddiohoeboaaDoor
open Go.RowKit Go.Lib
attribute [local go_sem] store_float f64bits
attribute [local go_sem ↓] Go.wp_at_zero Go.wp_at_succ

/-- All tokens of a source, or the first fault. -/
def allT (s : ByteArray) : Res := if 65536 < s.size then .inr (3, 0) else toks s (s.size + 1) 0 []

theorem own_base {w : World} {B B' e size n : Nat} {v : Value} {xs : List Value} (h : w.ownsRow B e size v n xs) (hB : B' ≤ B) : w.ownsRow B' e size v n xs := by
  refine ⟨h.1, ?_⟩
  rcases h.2 with h0 | ⟨g, cap, cur, hv, hg, rest⟩
  · exact .inl h0
  · exact .inr ⟨g, cap, cur, hv, Nat.le_trans hB hg, rest⟩

/-- The cells of a row. -/
theorem own_cell {w : World} {B e size n : Nat} {v : Value} {xs : List Value} (h : w.ownsRow B e size v n xs) (hn : 0 < n) : ∃ g cap, v = .slice (some ⟨g, 0, none⟩) n cap ∧ B ≤ g ∧ n ≤ cap ∧ ∀ k u, xs[k]? = some u → w.cell? ⟨g, k, none⟩ = some u := by
  rcases h.2 with ⟨_, h0⟩ | ⟨g, cap, cur, hv, hg, hh, hc, hm, hz, ht⟩
  · omega
  · refine ⟨g, cap, hv, hg, hc, fun k u hk => ?_⟩
    rw [← ht, List.getElem?_take] at hk
    split at hk
    · simp only [World.cell?, hh]
      simpa using hk
    · cases hk

set_option maxHeartbeats 1000000 in
theorem Tokens_any (s : ByteArray) (w : World) (hT : LexTab w) :
    Calls Tryd.prog 10 #[.string s] w fun e w' => TP w.heap.size (allT s) e w' ∧ Below w.heap.size w w' := by
  unfold allT
  by_cases hl : 65536 < s.size
  · have h1 : (65536 : Int) < (s.size : Int) := by omega
    rw [if_pos hl]
    go_enter Tryd.func10, Tryd.ntmps10
    go_wp2_with fail
    exact bodyPost_ret (v := .tuple #[.slice none 0 0, .agg #[.int .i64 3, .int .i64 0]]) (by simp [results, Tryd.results10, go_sem]) rfl ⟨.inr ⟨3, 0, rfl, rfl⟩, (Below.refl _ _).alloc (Nat.le_refl _) _⟩
  · have h1 : ¬ (65536 : Int) < (s.size : Int) := by omega
    rw [if_neg hl]
    have hB2 : Below w.heap.size w ((w.alloc (Obj.cells #[Value.int IntKind.i64 0, Value.int IntKind.i64 0] 26)).alloc (Obj.cells #[Value.string s, Value.int IntKind.i64 0] 49)) := ((Below.refl _ _).alloc (Nat.le_refl _) _).alloc (by simp) _
    have hF : Duo ((w.alloc (Obj.cells #[Value.int IntKind.i64 0, Value.int IntKind.i64 0] 26)).alloc (Obj.cells #[Value.string s, Value.int IntKind.i64 0] 49)) w.heap.size (.int .i64 0) (.int .i64 0) := (Duo.new w _ _ _).keep (below_new _ _)
    have hS : Sc ((w.alloc (Obj.cells #[Value.int IntKind.i64 0, Value.int IntKind.i64 0] 26)).alloc (Obj.cells #[Value.string s, Value.int IntKind.i64 0] 49)) (w.heap.size + 1) s 0 := by
      have := Duo.new (w.alloc (Obj.cells #[Value.int IntKind.i64 0, Value.int IntKind.i64 0] 26)) 49 (.string s) (.int .i64 0)
      simpa [Sc] using this
    have hgw : 7 ≤ w.heap.size := by
      have := cell_lt ((hT.u.2 0 (by omega)).1)
      exact this
    have cT := tokens_any s (w.heap.size + 1) (by omega) _ hS (hT.but (But.of_below (S := fun _ => False) hB2) (fun _ e => e.elim)) (by unfold GB; omega)
    obtain ⟨R, hR⟩ : ∃ R, toks s (s.size + 1) 0 [] = R := ⟨_, rfl⟩
    rw [hR] at cT ⊢
    have hsz : ((w.alloc (Obj.cells #[Value.int IntKind.i64 0, Value.int IntKind.i64 0] 26)).alloc (Obj.cells #[Value.string s, Value.int IntKind.i64 0] 49)).heap.size = w.heap.size + 2 := by simp
    rw [hsz] at cT
    clear hR hT
    go_enter Tryd.func10, Tryd.ntmps10
    go_wp2_with fail
    refine cT.mono ?_
    rintro e w2 ⟨hTP, hbt⟩
    have hbl : Below w.heap.size w w2 := hB2.trans (hbt.below (by rw [hsz]; omega) (fun k hk => by omega))
    obtain ⟨q0, q1, qf0, qf1, _⟩ := hF.but hbt (by omega)
    have HB := hidb hbl
    clear cT hbt hbl hF hS hB2
    rcases hTP with ⟨l, V, rfl, rfl, how⟩ | ⟨er, p, rfl, rfl⟩
    · go_wp2_with fail
      refine bodyPost_ret (v := .tuple #[V, .agg #[.int .i64 0, .int .i64 0]]) (by simp [results, Tryd.results10, go_sem, q0, q1]) rfl ⟨.inl ⟨l, V, rfl, rfl, ?_⟩, (HB.out.setCell (p := ⟨w.heap.size, 0, none⟩) (Nat.le_refl _) _).setCell (p := ⟨w.heap.size, 1, none⟩) (Nat.le_refl _) _⟩
      exact own_base (own_but how (((But.refl (fun k => k = w.heap.size) w2).setCell (p := ⟨w.heap.size, 0, none⟩) (fun _ => rfl) _).setCell (p := ⟨w.heap.size, 1, none⟩) (fun _ => rfl) _) (fun k hk => by omega)) (by omega)
    · go_wp2_with fail
      exact bodyPost_ret (v := .tuple #[.slice none 0 0, .agg #[.int .i64 er, .int .i64 (p : Int)]]) (by simp [results, Tryd.results10, go_sem, q0, q1]) rfl ⟨.inr ⟨er, p, rfl, rfl⟩, (HB.out.setCell (p := ⟨w.heap.size, 0, none⟩) (Nat.le_refl _) _).setCell (p := ⟨w.heap.size, 1, none⟩) (Nat.le_refl _) _⟩
end Go.Proofs.YtecgddiohoeboaaDoor


/- The reference's small functions. -/
namespace Go.Proofs.YtecgddiohoeboaaDoor
open Go.RowKit Go.Lib
attribute [local go_sem] store_float f64bits
attribute [local go_sem ↓] Go.wp_at_zero Go.wp_at_succ

theorem rdigit_any (n : Nat) (w : World) : Calls Tryd.prog 44 #[.int .u8 (n : Int)] w fun e w' => e = .returned (.bool (pDigit n)) ∧ w' = w := by
  unfold pDigit
  by_cases h1 : 48 ≤ n <;> by_cases h2 : n ≤ 57 <;> (have i1 : ((48 : Int) ≤ (n : Int)) = (48 ≤ n) := by (apply propext; omega)) <;> (have i2 : ((n : Int) ≤ 57) = (n ≤ 57) := by (apply propext; omega)) <;> (go_enter Tryd.func44, Tryd.ntmps44; go_wp2; go_ret; refine ⟨?_, rfl⟩; simp [h1, h2]) <;> omega

theorem rletter_any (n : Nat) (w : World) : Calls Tryd.prog 65 #[.int .u8 (n : Int)] w fun e w' => e = .returned (.bool (pName n)) ∧ w' = w := by
  go_enter Tryd.func65, Tryd.ntmps65
  go_wp2
  all_goals (go_ret; refine ⟨congrArg (fun b => Ending.returned (Value.bool b)) ?_, rfl⟩; simp only [pName, pSmall, pCapital, pDigit]; rw [Bool.eq_iff_iff]; simp; omega)

theorem rhexed_any (n : Nat) (w : World) : Calls Tryd.prog 67 #[.int .u8 (n : Int)] w fun e w' => e = .returned (.int .i64 (match hexd n with | some d => (d : Int) | none => -1)) ∧ w' = w := by
  have cD := rdigit_any n w
  unfold hexd
  cases hd : pDigit n <;> rw [hd] at cD
  · simp only [Bool.false_eq_true, if_false]
    by_cases h1 : 97 ≤ n
    · have i1 : (97 : Int) ≤ (n : Int) := by omega
      by_cases h2 : n ≤ 102
      · have i2 : (n : Int) ≤ 102 := by omega
        rw [if_pos ⟨h1, h2⟩]
        go_enter Tryd.func67, Tryd.ntmps67
        go_wp2_with (go_at_call 44; refine cD.mono ?_; rintro e w' ⟨rfl, hw'⟩; obtain rfl := hw'.symm)
        go_ret
        exact ⟨congrArg (fun b => Ending.returned (Value.int .i64 b)) (by omega), rfl⟩
      · have i2 : ¬ (n : Int) ≤ 102 := by omega
        rw [if_neg (by omega)]
        go_enter Tryd.func67, Tryd.ntmps67
        go_wp2_with (go_at_call 44; refine cD.mono ?_; rintro e w' ⟨rfl, hw'⟩; obtain rfl := hw'.symm)
        go_ret
        exact ⟨rfl, rfl⟩
    · have i1 : ¬ (97 : Int) ≤ (n : Int) := by omega
      rw [if_neg (by omega)]
      go_enter Tryd.func67, Tryd.ntmps67
      go_wp2_with (go_at_call 44; refine cD.mono ?_; rintro e w' ⟨rfl, hw'⟩; obtain rfl := hw'.symm)
      go_ret
      exact ⟨rfl, rfl⟩
  · simp only [if_true]
    simp [pDigit] at hd
    have i1 : (48 : Int) ≤ (n : Int) := by omega
    have i2 : (n : Int) ≤ 57 := by omega
    go_enter Tryd.func67, Tryd.ntmps67
    go_wp2_with (go_at_call 44; refine cD.mono ?_; rintro e w' ⟨rfl, hw'⟩; obtain rfl := hw'.symm)
    go_ret
    exact ⟨congrArg (fun b => Ending.returned (Value.int .i64 b)) (by omega), rfl⟩

theorem at_byte (s : ByteArray) (p : Nat) (h : p < s.size) : (s[p]'h).toNat = bt s p := by unfold bt; rw [get_of_lt _ _ h]

set_option maxHeartbeats 1000000 in
theorem rword_any (s : ByteArray) (i : Nat) (hi : i ≤ s.size) (hs : s.size ≤ 65536) (w : World) : Calls Tryd.prog 43 #[.string s, .int .i64 (i : Int)] w fun e w' => e = .returned (.int .i64 (goes pName s i : Nat)) ∧ w' = w := by
  go_enter Tryd.func43, Tryd.ntmps43
  go_wp2_with fail
  go_loopg [1] (s.size - i) (fun gf s1 wx => ∃ p : Nat, s1 = .int .i64 (p : Int) ∧ p ≤ s.size ∧ p + gf = s.size ∧ goes pName s p = goes pName s i ∧ wx = w)
  case atStart => exact ⟨i, rfl, hi, by omega, rfl, rfl⟩
  case round =>
    obtain ⟨p, rfl, hp, hgf, hgo, hwx⟩ := hrel
    obtain rfl := hwx.symm
    by_cases hlt : p < s.size
    · obtain ⟨g', rfl⟩ : ∃ g', gk = g' + 1 := ⟨gk - 1, by omega⟩
      have i0 : (0 : Int) ≤ (p : Int) := by omega
      have i1 : (p : Int) < (s.size : Int) := by omega
      have hb := fun h => at_byte s p h
      have cL := rletter_any (bt s p)
      have h1 := goes_on (p := pName) hlt
      have h2 := goes_stop (p := pName) (s := s) (i := p)
      obtain ⟨c, hc⟩ : ∃ c, bt s p = c := ⟨_, rfl⟩
      rw [hc] at cL h1 h2
      simp only [hc] at hb
      cases hn : pName c <;> rw [hn] at cL
      · have hg := h2 hn
        clear h1 h2 hc
        go_wp2_with (first | (go_at_call 65; refine (cL _).mono ?_; rintro e w' ⟨rfl, hw'⟩; obtain rfl := hw'.symm))
        go_ret
        refine ⟨?_, rfl⟩
        rw [← hgo, hg]
        rfl
      · have hg := h1 hn
        clear h1 h2 hc
        go_wp2_with (first | (go_at_call 65; refine (cL _).mono ?_; rintro e w' ⟨rfl, hw'⟩; obtain rfl := hw'.symm))
        go_roundg g'
        case measure => omega
        case rel => exact ⟨p + 1, by simp, by omega, by omega, by rw [← hg]; exact hgo, rfl⟩
    · have i1 : ¬ (p : Int) < (s.size : Int) := by omega
      go_wp2_with fail
      go_ret
      refine ⟨?_, rfl⟩
      rw [← hgo, goes_end (by omega)]
      rfl

set_option maxHeartbeats 1000000 in
theorem rwhole_any (D : ByteArray) (h : Digs D) (hs : D.size ≤ 18) (w : World) : Calls Tryd.prog 66 #[.string D] w fun e w' => e = .returned (.int .i64 (wor D D.size : Nat)) ∧ w' = w := by
  go_enter Tryd.func66, Tryd.ntmps66
  go_wp2_with fail
  go_loopg [3, 4] D.size (fun gf s3 s4 wx => ∃ pos : Nat, s3 = .int .i64 (wor D pos : Nat) ∧ s4 = .int .i64 (pos : Int) ∧ pos + gf = D.size ∧ wx = w)
  case atStart => exact ⟨0, rfl, rfl, by omega, rfl⟩
  case round =>
    obtain ⟨pos, rfl, rfl, hgf, hwx⟩ := hrel
    obtain rfl := hwx.symm
    by_cases hlt : pos < D.size
    · obtain ⟨g', rfl⟩ : ∃ g', gk = g' + 1 := ⟨gk - 1, by omega⟩
      have i0 : (0 : Int) ≤ (pos : Int) := by omega
      have i1 : (pos : Int) < (D.size : Int) := by omega
      have hd := h pos hlt
      simp [pDigit] at hd
      have hb := fun h => at_byte D pos h
      have hv : wor D pos < 100000000000000000 := by
        have h1 := wor_lt D h pos (by omega)
        have h2 : 10 ^ pos ≤ 10 ^ 17 := Nat.pow_le_pow_right (by omega) (by omega)
        omega
      have hsu : wor D (pos + 1) = wor D pos * 10 + (bt D pos - 48) := rfl
      obtain ⟨V, hV⟩ : ∃ V, wor D pos = V := ⟨_, rfl⟩
      obtain ⟨c, hc⟩ : ∃ c, bt D pos = c := ⟨_, rfl⟩
      rw [hV] at hv hsu ⊢
      rw [hc] at hd hsu
      obtain ⟨X, hX⟩ : ∃ X : Int, (V : Int) = X := ⟨_, rfl⟩
      obtain ⟨Y, hY⟩ : ∃ Y : Int, (c : Int) = Y := ⟨_, rfl⟩
      have hb2 : ∀ h, (((D[pos]'h).toNat : Nat) : Int) = Y := fun h => by rw [hb h, hc, hY]
      rw [hX]
      have x0 : 0 ≤ X := by omega
      have x1 : X < 100000000000000000 := by omega
      have y0 : 48 ≤ Y := by omega
      have y1 : Y ≤ 57 := by omega
      have u1 : IntKind.u8.wrap (Y - 48) = Y - 48 := by rw [IntKind.wrap_u8]; omega
      have HR : Hid ((wor D (pos + 1) : Int) = 10 * X + (Y - 48)) := hidb (by omega)
      clear hv hsu hX hY hd hV hc hb
      go_wp2_with fail
      go_roundg g'
      case measure => omega
      case rel => exact ⟨pos + 1, by rw [HR.out], by simp, by omega, rfl⟩
    · obtain rfl : pos = D.size := by omega
      have i1 : ¬ (D.size : Int) < (D.size : Int) := by omega
      go_wp2_with fail
      go_ret
      exact ⟨rfl, rfl⟩
end Go.Proofs.YtecgddiohoeboaaDoor


/- The reference passes over blanks and comments. -/
namespace Go.Proofs.YtecgddiohoeboaaDoor
open Go.RowKit Go.Lib
attribute [local go_sem] store_float f64bits
attribute [local go_sem ↓] Go.wp_at_zero Go.wp_at_succ

/-- From p on the tokens are those from p' on. -/
def Goes (s : ByteArray) (p p' : Nat) : Prop := p ≤ p' ∧ p' ≤ s.size ∧ ∀ k done, s.size < p + k → ∃ k', s.size < p' + k' ∧ toks s k p done = toks s k' p' done

theorem Goes.refl (s : ByteArray) (p : Nat) (hp : p ≤ s.size) : Goes s p p := ⟨Nat.le_refl _, hp, fun k _ h => ⟨k, h, rfl⟩⟩
theorem Goes.trans {s : ByteArray} {p q r : Nat} (h1 : Goes s p q) (h2 : Goes s q r) : Goes s p r :=
  ⟨Nat.le_trans h1.1 h2.1, h2.2.1, fun k done h => by
    obtain ⟨k1, a1, b1⟩ := h1.2.2 k done h
    obtain ⟨k2, a2, b2⟩ := h2.2.2 k1 done a1
    exact ⟨k2, a2, b1.trans b2⟩⟩
theorem Goes.blank {s : ByteArray} {p : Nat} (hp : p < s.size) (hb : pBlank (bt s p) = true) : Goes s p (p + 1) := by
  refine ⟨by omega, hp, fun k done h => ⟨k, by omega, ?_⟩⟩
  obtain ⟨k, rfl⟩ : ∃ k', k = k' + 1 := ⟨k - 1, by omega⟩
  simp only [toks, goes_on hp hb]
theorem Goes.line {s : ByteArray} {p : Nat} (hp : p < s.size) (hb : bt s p = 37) : Goes s p (goes pLine s p) := by
  have h1 : p + 1 ≤ goes pLine s p := by rw [goes_on hp (by simp [pLine, hb])]; exact goes_ge _ _ _
  refine ⟨by omega, goes_le _ _ _ (by omega), fun k done h => ?_⟩
  obtain ⟨k, rfl⟩ : ∃ k', k = k' + 1 := ⟨k - 1, by omega⟩
  refine ⟨k, by omega, ?_⟩
  have h2 : goes pBlank s p = p := goes_stop (by rw [hb]; rfl)
  simp only [toks, h2, hp, if_true, hb]

set_option maxHeartbeats 1000000 in
set_option maxRecDepth 1000000 in
theorem rpassed_any (s : ByteArray) (i : Nat) (hi : i ≤ s.size) (hs : s.size ≤ 65536) (w : World) : Calls Tryd.prog 22 #[.string s, .int .i64 (i : Int)] w fun e w' => ∃ q : Nat, e = .returned (.int .i64 (q : Int)) ∧ w' = w ∧ Goes s i q ∧ (q < s.size → pBlank (bt s q) = false ∧ bt s q ≠ 37) := by
  go_enter Tryd.func22, Tryd.ntmps22
  go_wp2_with fail
  go_loopg [1] (s.size - i) (fun gf s1 wx => ∃ p : Nat, s1 = .int .i64 (p : Int) ∧ s.size - p ≤ gf ∧ Goes s i p ∧ wx = w)
  case atStart => exact ⟨i, rfl, Nat.le_refl _, Goes.refl s i hi, rfl⟩
  case round =>
    obtain ⟨p, rfl, hgf, hgo, hwx⟩ := hrel
    obtain rfl := hwx.symm
    have hps := hgo.2.1
    by_cases hlt : p < s.size
    · obtain ⟨g', rfl⟩ : ∃ g', gk = g' + 1 := ⟨gk - 1, by omega⟩
      have i0 : (0 : Int) ≤ (p : Int) := by omega
      have i1 : (p : Int) < (s.size : Int) := by omega
      have hb := fun h => at_byte s p h
      have hg1 := Goes.blank hlt
      have hg2 := Goes.line hlt
      have hge : bt s p = 37 → p + 1 ≤ goes pLine s p := fun hb => by rw [goes_on hlt (by simp [pLine, hb])]; exact goes_ge _ _ _
      obtain ⟨c, hc⟩ : ∃ c, bt s p = c := ⟨_, rfl⟩
      have HC := hidb hc
      rw [hc] at hg1 hg2 hge
      simp only [hc] at hb
      clear hc
      by_cases h37 : c = 37
      · subst h37
        have HG := hidb (hgo.trans (hg2 rfl))
        have hge2 := hge rfl
        clear hg1 hg2 hge
        go_wp2_with fail
        go_loopg [1] (s.size - p) (fun gf s1 wx => ∃ q : Nat, s1 = .int .i64 (q : Int) ∧ p ≤ q ∧ q ≤ s.size ∧ s.size - q ≤ gf ∧ goes pLine s q = goes pLine s p ∧ wx = w)
        case atStart => exact ⟨p, rfl, Nat.le_refl _, hps, Nat.le_refl _, rfl, rfl⟩
        case round =>
          obtain ⟨q, rfl, hpq, hqs, hqg, hqo, hwx2⟩ := hrel
          obtain rfl := hwx2.symm
          clear i0 i1 hb
          by_cases hql : q < s.size
          · obtain ⟨g2, rfl⟩ : ∃ g2, gk = g2 + 1 := ⟨gk - 1, by omega⟩
            have i0 : (0 : Int) ≤ (q : Int) := by omega
            have i1 : (q : Int) < (s.size : Int) := by omega
            have hb := fun h => at_byte s q h
            have h1 := goes_on (p := pLine) hql
            have h2 := goes_stop (p := pLine) (s := s) (i := q)
            obtain ⟨c, hc⟩ : ∃ c, bt s q = c := ⟨_, rfl⟩
            rw [hc] at h1 h2
            simp only [hc] at hb
            clear hc
            by_cases h10 : c = 10
            · subst h10
              have hqe : goes pLine s p = q := by rw [← hqo]; exact h2 rfl
              rw [hqe] at HG hge2
              clear h1 h2
              go_wp2_with fail
              go_roundg g'
              case measure => omega
              case rel => exact ⟨q, rfl, by omega, HG.out, rfl⟩
            · have e10 : ((c : Int) == 10) = false := by simp; omega
              have e11 : ((c : Int) != 10) = true := by simp; omega
              have h3 := h1 (by simp [pLine, h10])
              clear h1 h2
              go_wp2_with fail
              go_roundg g2
              case measure => omega
              case rel => exact ⟨q + 1, by simp, by omega, by omega, by omega, by rw [← h3]; exact hqo, rfl⟩
          · have i1 : ¬ (q : Int) < (s.size : Int) := by omega
            have hqe : goes pLine s p = q := by rw [← hqo]; exact goes_end (by omega)
            rw [hqe] at HG hge2
            go_wp2_with fail
            go_roundg g'
            case measure => omega
            case rel => exact ⟨q, rfl, by omega, HG.out, rfl⟩
      · have e37 : ((c : Int) == 37) = false := by simp; omega
        cases hbl : pBlank c
        · simp [pBlank] at hbl
          have e1 : ((c : Int) == 9) = false := by simp; omega
          have e2 : ((c : Int) == 10) = false := by simp; omega
          have e3 : ((c : Int) == 13) = false := by simp; omega
          have e4 : ((c : Int) == 32) = false := by simp; omega
          clear hg1 hg2 hge
          go_wp2_with fail
          go_ret
          exact ⟨p, rfl, rfl, hgo, fun _ => by rw [HC.out]; exact ⟨by simp [pBlank]; omega, h37⟩⟩
        · have HG := hidb (hgo.trans (hg1 hbl))
          simp [pBlank] at hbl
          clear hg1 hg2 hge
          rcases hbl with ((rfl | rfl) | rfl) | rfl
          all_goals (go_wp2_with fail)
          all_goals (go_roundg g')
          all_goals first | omega | exact ⟨p + 1, by simp, by omega, HG.out, rfl⟩
    · have i1 : ¬ (p : Int) < (s.size : Int) := by omega
      go_wp2_with fail
      go_ret
      exact ⟨p, rfl, rfl, hgo, fun h => absurd h hlt⟩
end Go.Proofs.YtecgddiohoeboaaDoor


