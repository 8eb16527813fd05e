import Derived.Test.YtdpfmmbfidknfaaGreatDoorG44
import Derived.Laws.World
import Derived.Test.YtdpfmmbfidknfaaGreatDoorG12
import Derived.Lib.LaidU8
import Derived.ProofKit
import Derived.LaidMore
import Derived.OpenShut
import Derived.Stop.Joined
/- GramBinds, walked. -/
namespace Go.Proofs.YtdpfmmbfidknfaaGreatDoor
open Go.RowKit Go.Lib
attribute [local go_sem] store_float f64bits
attribute [local go_sem ↓] Go.wp_at_zero Go.wp_at_succ

theorem own_sl6 {w : World} {C e size n : Nat} {v : Value} {xs : List Value} (h : w.ownsRow C e size v n xs) : ∃ a c m, v = .slice a m c ∧ n = m := by
  rcases h.2 with ⟨rfl, h0⟩ | ⟨g, cap, cur, rfl, _⟩
  · exact ⟨none, 0, 0, rfl, h0⟩
  · exact ⟨_, _, _, rfl, rfl⟩
theorem lane12 (x : Int) : ∃ (y : Int) (n : Nat), n < 12 ∧ x.tmod 12 = y ∧ ((¬ y < 0 ∧ y = (n : Int)) ∨ (y < 0 ∧ IntKind.i64.wrap (0 - y) = (n : Int) ∧ IntKind.i64.wrap (-y) = (n : Int))) := by
  have h1 := Int.tmod_lt_of_pos x (show (0 : Int) < 12 by decide)
  have h2 := Int.lt_tmod_of_pos x (show (0 : Int) < 12 by decide)
  generalize x.tmod 12 = y at *
  by_cases h : y < 0
  · exact ⟨y, (-y).toNat, by omega, rfl, .inr ⟨h, by rw [IntKind.wrap_i64]; omega, by rw [IntKind.wrap_i64]; omega⟩⟩
  · exact ⟨y, y.toNat, by omega, rfl, .inl ⟨h, by omega⟩⟩
theorem one_byte6 (w : World) (x : UInt8) (X : Int) (hX : ((x.toNat : Nat) : Int) = X) : (convert 41 9 (.slice (some ⟨w.heap.size, 0, none⟩) 1 1)).run Tryz.prog (w.alloc (.cells #[.int .u8 X] 5)) = .ok (.string ⟨#[x]⟩) (w.alloc (.cells #[.int .u8 X] 5)) := by
  have r := run_convert_bytes_back (P := Tryz.prog) (w.alloc (.cells #[.int .u8 X] 5)) 41 9 5 ⟨w.heap.size, 0, none⟩ 1 [x] Tryz.underlying41 Tryz.underlying5 Tryz.underlying9 (fun j hj => by
    have hj0 : j = 0 := by simpa using hj
    subst hj0
    have ea : (⟨w.heap.size, 0, none⟩ : Addr).add 0 = ⟨w.heap.size, 0, none⟩ := by unfold Addr.add; simp
    rw [ea, World.cell?_alloc_new, ← hX]
    rfl)
  exact r

set_option maxHeartbeats 16000000 in
set_option maxRecDepth 100000 in
theorem GramBinds_walk (w : World) (hT : LexTab w) (qa : Option Addr) (np cp : Nat) (ps : List Int) (hps : ps.length = np) (hin : ∀ (j : Nat) (x : Int), ps[j]? = some x → ∃ b o, qa = some ⟨b, o, none⟩ ∧ w.cell? ⟨b, o + j, none⟩ = some (.int .i64 x)) : Calls Tryz.prog 4 #[.slice qa np cp] w fun e w' => e = .returned (.bool true) ∧ Below w.heap.size w w' := by
  have cK := known6_any w hT
  by_cases hl : 30 < np
  · have h1 : (30 : Int) < (np : Int) := by omega
    go_enter Tryz.func4, Tryz.ntmps4
    go_wp2_with (first
      | (go_at_call 5; refine cK.mono ?_; rintro e w1 ⟨rfl, hb1⟩))
    go_ret
    exact ⟨rfl, hb1⟩
  have h1 : ¬ (30 : Int) < (np : Int) := by omega
  have HIN := hidb hin
  have HPS := hidb hps
  have H30 := hidb (show np ≤ 30 by omega)
  have HT := hidb hT
  obtain ⟨i0, hi, hz0, hz1, hz2⟩ := info_str
  clear hin hps hT hl
  go_enter Tryz.func4, Tryz.ntmps4
  go_wp2_with (first
    | (go_at_call 5; refine cK.mono ?_; rintro e w1 ⟨rfl, hb1⟩; have HB1 := hidb hb1; clear hb1)
    | (go_at_call 9; refine (operators_any6 _).mono ?_; rintro e w2 ⟨rfl, hops, hb2⟩; have HB2 := hidb hb2; have HO := hidb hops; clear hops hb2))
  have hR0 : Rw2 w (w2.alloc (Obj.cells #[Value.string ⟨#[48]⟩] 9)) w1.heap.size (.slice none 0 0) (.slice (some ⟨w2.heap.size, 0, none⟩) 1 1) (([] : List Nat).map opX) ([0].map dX) := by
    have s1 := HB1.out.size
    have s2 := HB2.out.size
    obtain ⟨b0, o0, hb0, hlt0, -⟩ := HO.out 0 (opX 0) rfl
    obtain ⟨rfl, rfl⟩ : w1.heap.size = b0 ∧ 0 = o0 := by simpa using hb0
    refine ⟨World.ownsRow_nil _ _ _ _, ⟨rfl, .inr ⟨w2.heap.size, 1, _, rfl, by omega, heap_alloc_new w2 _, Nat.le_refl _, by unfold maxLen; simp, rfl, rfl⟩⟩, by simp [Value.ownBlock], ?_, by simp [Value.ownBlock], HO.out.keep (below_new w2 _), (HB1.out.trans (HB2.out.mono s1)).alloc (by omega) _, by simp; omega⟩
    intro e
    have := Option.some.inj e
    simp only at this
    omega
  have HR0 := hidb hR0
  clear hR0 HO
  generalize w1.heap.size = ab at *
  go_loopw [4, 5, 6, 7, 8] (fun v4 v5 v6 v7 iv wr => ∃ (V4 V5 : Value) (l x : List Nat) (R : ByteArray) (la : Bool) (m : Nat), V4 = v4 ∧ V5 = v5 ∧ v6 = .string R ∧ v7 = .bool la ∧ iv = .int .i64 m ∧ m ≤ np ∧ Rw2 w wr ab V4 V5 (l.map opX) (x.map dX) ∧ Pk l x R la m) (fun _ _ _ _ iv _ => np - (RowKit.intOf iv).toNat)
  case atStart => exact ⟨_, _, [], [0], _, _, 0, rfl, rfl, rfl, rfl, rfl, by omega, HR0.out, Pk.new⟩
  case round =>
  obtain ⟨V4, V5, l, x, R, la, m, rfl, rfl, rfl, rfl, rfl, hm, hrw, hpk⟩ := hrel
  have HR := hidb hrw
  have HP := hidb hpk
  obtain ⟨a4, c4, n4, rfl, hn4, hc4, hs4⟩ : ∃ a c n, V4 = .slice a n c ∧ n = l.length ∧ n ≤ c ∧ StrRow wr a (l.map opX) := by
    obtain ⟨a, c, h1, h2, h3, h4⟩ := own_str hrw.o4
    exact ⟨a, c, _, h1, by simp, h3, h4⟩
  obtain ⟨a5, c5, n5, rfl, hn5, hc5, hs5⟩ : ∃ a c n, V5 = .slice a n c ∧ n = l.length + 1 ∧ n ≤ c ∧ StrRow wr a (x.map dX) := by
    obtain ⟨a, c, h1, h2, h3, h4⟩ := own_str hrw.o5
    exact ⟨a, c, _, h1, by simp [hpk.xl], h3, h4⟩
  by_cases hml : m < np
  · have hmb : (m : Int) < (np : Int) := by omega
    have hmz : (0 : Int) ≤ (m : Int) := by omega
    have hmw : IntKind.i64.wrap ((m : Int) + 1) = (m : Int) + 1 := by rw [IntKind.wrap_i64]; have := H30.out; omega
    obtain ⟨p, hp⟩ : ∃ p, ps[m]? = some p := ⟨_, List.getElem?_eq_getElem (by have := HPS.out; omega)⟩
    obtain ⟨b, o, rfl, hc⟩ := HIN.out m p hp
    have cp0 := (hrw.bel.cell (World.block_lt_of_cell? w _ hc)).trans hc
    obtain ⟨z, s, hs12, hzt, hzs⟩ := lane12 p
    obtain ⟨b1, o1, hb1e, -, hco⟩ := hrw.all s (opX s) (by rw [List.getElem?_map, List.getElem?_range hs12]; rfl)
    obtain ⟨rfl, rfl⟩ : ab = b1 ∧ 0 = o1 := by simpa using hb1e
    rw [Nat.zero_add] at hco
    have hs0 : (0 : Int) ≤ (s : Int) := by omega
    have hs1 : (s : Int) < 12 := by omega
    obtain ⟨d, hd⟩ : ∃ d, (m + 1) % 10 = d := ⟨_, rfl⟩
    have hd10 : d < 10 := by omega
    have e2 : ((m : Int) + 1).tmod 10 = (d : Int) := by rw [Int.tmod_eq_emod_of_nonneg (by omega)]; omega
    have w3 : IntKind.i64.wrap (48 + (d : Int)) = 48 + (d : Int) := by rw [IntKind.wrap_i64]; omega
    have w4 : IntKind.u8.wrap (48 + (d : Int)) = 48 + (d : Int) := by unfold IntKind.wrap IntKind.bits; simp; omega
    obtain ⟨X, hX⟩ : ∃ X, dB d = X := ⟨_, rfl⟩
    have hXn : ((X.toNat : Nat) : Int) = 48 + (d : Int) := by
      rw [← hX]
      unfold dB
      rw [UInt8.toNat_ofNat', Nat.mod_eq_of_lt (by omega)]
      omega
    have ob := fun w => one_byte6 w X _ hXn
    have HXD : Hid (dX d = ⟨#[X]⟩) := hidb (by unfold dX; rw [hX])
    obtain ⟨O, hO⟩ : ∃ O, opX s = O := ⟨_, rfl⟩
    have hOz := opX_small s hs12
    have HLS := hidb (level_any s hs12)
    obtain ⟨v, hv⟩ : ∃ v, lev s = v := ⟨_, rfl⟩
    rw [hO] at hco hOz HLS
    rw [hv] at HLS
    have HOX := hidb hO
    have HV := hidb hv
    have HS12 := hidb hs12
    have HD10 := hidb hd10
    have HN4 : Hid ((l.map opX).length = n4) := hidb (by simp [hn4])
    have HN5 : Hid ((x.map dX).length = n5) := hidb (by simp [hn5, hpk.xl])
    have hll := hpk.lm
    have hrz := hpk.rz
    have HN4b : Hid (n4 ≤ 30) := hidb (by have := H30.out; omega)
    have HN5b : Hid (n5 ≤ 31) := hidb (by have := H30.out; omega)
    have hRz : R.size ≤ 400 := by have := H30.out; omega
    have q1 : ¬ 9223372036854775807 < R.size + 1 := by omega
    have q2 : ¬ 9223372036854775807 < R.size + 1 + O.size := by omega
    have q3 : ¬ 9223372036854775807 < R.size + 1 + O.size + 1 := by omega
    have q4 : ¬ 9223372036854775807 < R.size + 1 + O.size + 1 + 1 := by omega
    clear hrw hpk hn4 hn5 hc4 hc5 hs4 hs5 hp hc hb1e hs12 hd hd10 hX hXn hO hv hOz hll hrz hRz
    have ML : Hid True := hidb trivial
    have M4 : Hid True := hidb trivial
    rcases hzs with ⟨hzn, rfl⟩ | ⟨hzn, hzw, hzw2⟩
    all_goals
      by_cases hv3 : v = 3
      · have hv3' : ((v : Int) == 3) = true := by simp; omega
        have hv3n : ¬ (v : Int) < 3 := by omega
        cases la
        · have HC3 : Hid (lev s = 3 → false = false) := hidb (fun _ => rfl)
          have HLA : Hid (true = (if lev s = 3 then true else if lev s < 3 then false else false)) := hidb (by rw [HV.out, if_pos hv3])
          clear hv3
          go_wp2_with (first
              | (go_at_call 10; (clear ML); refine (HLS.out _).mono ?_; rintro e w3 ⟨rfl, hb3⟩; have HR3 := hidb (HR.out.keep hb3); have HS4 := hidb (by have h := HR3.out.o4.alloc (.cells #[.string O] 9); rw [HN4.out] at h; exact h); clear hb3)
              | (at_builtin; (clear M4); refine wpList_append_own_at _ rfl _ _ 37 rfl w.heap.size SrT i0 (.string ⟨#[]⟩) 1 16 Tryz.underlying37 hi hz0 hz1 hz2 rfl (by decide) (.slice a4 n4 c4) n4 (sX (l.map opX)) rfl HS4.out ⟨w3.heap.size, 0, none⟩ 1 1 [.string O] rfl rfl (cell_one_new _ _ _) (by simp [Value.oneCell']) (by have := HN4b.out; unfold maxLen; omega) (by have := HN4b.out; omega) (by have := HR3.out.bel.size; simp; omega) ?_; intro v4' w4 hown hg hnil hat; have HR4 := hidb (HR3.out.app4 (below_new w3 _) (by rw [HN4.out]; exact hown) hg hat); obtain ⟨a4', c4', m4', rfl, hm4'⟩ := own_sl6 hown; subst hm4'; have HB5 := hidb (HR4.out.keep (below_new w4 (.cells #[.int .u8 (48 + (d : Int))] 5))); have HS5 := hidb (by have h := HB5.out.o5.alloc (.cells #[.string ⟨#[X]⟩] 9); rw [HN5.out] at h; exact h); clear hown hg hnil hat)
              | (at_builtin; refine wpList_append_own_at _ rfl _ _ 37 rfl w.heap.size SrT i0 (.string ⟨#[]⟩) 1 16 Tryz.underlying37 hi hz0 hz1 hz2 rfl (by decide) (.slice a5 n5 c5) n5 (sX (x.map dX)) rfl HS5.out ⟨w4.heap.size + 1, 0, none⟩ 1 1 [.string ⟨#[X]⟩] rfl rfl (by have := cell_one_new (w4.alloc (.cells #[.int .u8 (48 + (d : Int))] 5)) (.string ⟨#[X]⟩) 9; simpa using this) (by simp [Value.oneCell']) (by have := HN5b.out; unfold maxLen; omega) (by have := HN5b.out; omega) (by have := HR4.out.bel.size; simp; omega) ?_; intro v5' w5 hown hg hnil hat; have HR5 := hidb (HB5.out.app5 (below_new (w4.alloc (.cells #[.int .u8 (48 + (d : Int))] 5)) _) (by rw [HN5.out]; exact hown) hg (by simpa using hat)); obtain ⟨a5', c5', m5', rfl, hm5'⟩ := own_sl6 hown; subst hm5'; clear hown hg hnil hat))
          go_roundw
          case rel => exact ⟨_, _, l ++ [s], x ++ [d], _, _, m + 1, rfl, rfl, rfl, rfl, by go_num, by omega, by rw [List.map_append, List.map_append, List.map_singleton, List.map_singleton, HOX.out, HXD.out]; exact HR5.out, by have := HP.out.step HS12.out HD10.out (fun _ => rfl) true (HLA.out); rw [HOX.out, HXD.out] at this; exact this⟩
          case measure => simp [RowKit.intOf]; omega
        · clear hv3
          go_wp2_with (go_at_call 10; (clear ML); refine (HLS.out _).mono ?_; rintro e w3 ⟨rfl, hb3⟩; have HR3 := hidb (HR.out.keep hb3); clear hb3)
          go_roundw
          case rel => exact ⟨_, _, l, x, _, _, m + 1, rfl, rfl, rfl, rfl, by go_num, by omega, HR3.out, HP.out.skip⟩
          case measure => simp [RowKit.intOf]; omega
      · have hv3' : ((v : Int) == 3) = false := by simp; omega
        have HC3 : Hid (lev s = 3 → la = false) := hidb (fun h => absurd (HV.out.symm.trans h) hv3)
        by_cases hvl : v < 3
        · have hvl' : (v : Int) < 3 := by omega
          have HLA : Hid (false = (if lev s = 3 then true else if lev s < 3 then false else la)) := hidb (by rw [HV.out, if_neg hv3, if_pos hvl])
          clear hv3 hvl
          go_wp2_with (first
              | (go_at_call 10; (clear ML); refine (HLS.out _).mono ?_; rintro e w3 ⟨rfl, hb3⟩; have HR3 := hidb (HR.out.keep hb3); have HS4 := hidb (by have h := HR3.out.o4.alloc (.cells #[.string O] 9); rw [HN4.out] at h; exact h); clear hb3)
              | (at_builtin; (clear M4); refine wpList_append_own_at _ rfl _ _ 37 rfl w.heap.size SrT i0 (.string ⟨#[]⟩) 1 16 Tryz.underlying37 hi hz0 hz1 hz2 rfl (by decide) (.slice a4 n4 c4) n4 (sX (l.map opX)) rfl HS4.out ⟨w3.heap.size, 0, none⟩ 1 1 [.string O] rfl rfl (cell_one_new _ _ _) (by simp [Value.oneCell']) (by have := HN4b.out; unfold maxLen; omega) (by have := HN4b.out; omega) (by have := HR3.out.bel.size; simp; omega) ?_; intro v4' w4 hown hg hnil hat; have HR4 := hidb (HR3.out.app4 (below_new w3 _) (by rw [HN4.out]; exact hown) hg hat); obtain ⟨a4', c4', m4', rfl, hm4'⟩ := own_sl6 hown; subst hm4'; have HB5 := hidb (HR4.out.keep (below_new w4 (.cells #[.int .u8 (48 + (d : Int))] 5))); have HS5 := hidb (by have h := HB5.out.o5.alloc (.cells #[.string ⟨#[X]⟩] 9); rw [HN5.out] at h; exact h); clear hown hg hnil hat)
              | (at_builtin; refine wpList_append_own_at _ rfl _ _ 37 rfl w.heap.size SrT i0 (.string ⟨#[]⟩) 1 16 Tryz.underlying37 hi hz0 hz1 hz2 rfl (by decide) (.slice a5 n5 c5) n5 (sX (x.map dX)) rfl HS5.out ⟨w4.heap.size + 1, 0, none⟩ 1 1 [.string ⟨#[X]⟩] rfl rfl (by have := cell_one_new (w4.alloc (.cells #[.int .u8 (48 + (d : Int))] 5)) (.string ⟨#[X]⟩) 9; simpa using this) (by simp [Value.oneCell']) (by have := HN5b.out; unfold maxLen; omega) (by have := HN5b.out; omega) (by have := HR4.out.bel.size; simp; omega) ?_; intro v5' w5 hown hg hnil hat; have HR5 := hidb (HB5.out.app5 (below_new (w4.alloc (.cells #[.int .u8 (48 + (d : Int))] 5)) _) (by rw [HN5.out]; exact hown) hg (by simpa using hat)); obtain ⟨a5', c5', m5', rfl, hm5'⟩ := own_sl6 hown; subst hm5'; clear hown hg hnil hat))
          go_roundw
          case rel => exact ⟨_, _, l ++ [s], x ++ [d], _, _, m + 1, rfl, rfl, rfl, rfl, by go_num, by omega, by rw [List.map_append, List.map_append, List.map_singleton, List.map_singleton, HOX.out, HXD.out]; exact HR5.out, by have := HP.out.step HS12.out HD10.out (HC3.out) false (HLA.out); rw [HOX.out, HXD.out] at this; exact this⟩
          case measure => simp [RowKit.intOf]; omega
        · have hvl' : ¬ (v : Int) < 3 := by omega
          have HLA : Hid (la = (if lev s = 3 then true else if lev s < 3 then false else la)) := hidb (by rw [HV.out, if_neg hv3, if_neg hvl])
          clear hv3 hvl
          go_wp2_with (first
              | (go_at_call 10; (clear ML); refine (HLS.out _).mono ?_; rintro e w3 ⟨rfl, hb3⟩; have HR3 := hidb (HR.out.keep hb3); have HS4 := hidb (by have h := HR3.out.o4.alloc (.cells #[.string O] 9); rw [HN4.out] at h; exact h); clear hb3)
              | (at_builtin; (clear M4); refine wpList_append_own_at _ rfl _ _ 37 rfl w.heap.size SrT i0 (.string ⟨#[]⟩) 1 16 Tryz.underlying37 hi hz0 hz1 hz2 rfl (by decide) (.slice a4 n4 c4) n4 (sX (l.map opX)) rfl HS4.out ⟨w3.heap.size, 0, none⟩ 1 1 [.string O] rfl rfl (cell_one_new _ _ _) (by simp [Value.oneCell']) (by have := HN4b.out; unfold maxLen; omega) (by have := HN4b.out; omega) (by have := HR3.out.bel.size; simp; omega) ?_; intro v4' w4 hown hg hnil hat; have HR4 := hidb (HR3.out.app4 (below_new w3 _) (by rw [HN4.out]; exact hown) hg hat); obtain ⟨a4', c4', m4', rfl, hm4'⟩ := own_sl6 hown; subst hm4'; have HB5 := hidb (HR4.out.keep (below_new w4 (.cells #[.int .u8 (48 + (d : Int))] 5))); have HS5 := hidb (by have h := HB5.out.o5.alloc (.cells #[.string ⟨#[X]⟩] 9); rw [HN5.out] at h; exact h); clear hown hg hnil hat)
              | (at_builtin; refine wpList_append_own_at _ rfl _ _ 37 rfl w.heap.size SrT i0 (.string ⟨#[]⟩) 1 16 Tryz.underlying37 hi hz0 hz1 hz2 rfl (by decide) (.slice a5 n5 c5) n5 (sX (x.map dX)) rfl HS5.out ⟨w4.heap.size + 1, 0, none⟩ 1 1 [.string ⟨#[X]⟩] rfl rfl (by have := cell_one_new (w4.alloc (.cells #[.int .u8 (48 + (d : Int))] 5)) (.string ⟨#[X]⟩) 9; simpa using this) (by simp [Value.oneCell']) (by have := HN5b.out; unfold maxLen; omega) (by have := HN5b.out; omega) (by have := HR4.out.bel.size; simp; omega) ?_; intro v5' w5 hown hg hnil hat; have HR5 := hidb (HB5.out.app5 (below_new (w4.alloc (.cells #[.int .u8 (48 + (d : Int))] 5)) _) (by rw [HN5.out]; exact hown) hg (by simpa using hat)); obtain ⟨a5', c5', m5', rfl, hm5'⟩ := own_sl6 hown; subst hm5'; clear hown hg hnil hat))
          go_roundw
          case rel => exact ⟨_, _, l ++ [s], x ++ [d], _, _, m + 1, rfl, rfl, rfl, rfl, by go_num, by omega, by rw [List.map_append, List.map_append, List.map_singleton, List.map_singleton, HOX.out, HXD.out]; exact HR5.out, by have := HP.out.step HS12.out HD10.out (HC3.out) la (HLA.out); rw [HOX.out, HXD.out] at this; exact this⟩
          case measure => simp [RowKit.intOf]; omega
  · have hmn : ¬ (m : Int) < (np : Int) := by omega
    have GT : ∀ {wx : World}, Below w.heap.size w wx → LexTab wx := fun hb => HT.out.but (But.of_below (S := fun _ => False) hb) (fun _ e => e.elim)
    have hll := hpk.lm
    have h30 := H30.out
    have hrz := hpk.rz
    obtain ⟨T, hTd⟩ : ∃ T, tree l.length x l = T := ⟨_, rfl⟩
    have hTo : TreeOk T l := by rw [← hTd]; exact tree_ok l.length x l (Nat.le_refl _) hpk.xl hpk.s12 hpk.n10 hpk.cmp
    have hTx : txt T = rowB x l := by rw [← hTd]; exact tree_txt l.length x l (Nat.le_refl _) hpk.xl
    have CB := hidb (fun W (hb : Below wr.heap.size wr W) => bracketed_any l.length W a5 a4 n5 c5 n4 c4 x l (Nat.le_refl _) (by rw [hn5, hpk.xl]) hn4.symm (by omega) (by omega) hc5 hc4 (hs5.keep hb) (hs4.keep hb) hpk.s12)
    rw [hTd] at CB
    obtain ⟨B0, hB0⟩ : ∃ B0 : ByteArray, B0.data.toList = txt (full T) := ⟨⟨(txt (full T)).toArray⟩, by simp⟩
    have HB0 : Hid (∀ B : ByteArray, B.data.toList = txt (full T) → B = B0) := hidb (fun B hB => ByteArray.ext (Array.toList_inj.1 (hB.trans hB0.symm)))
    have hb0z : B0.size ≤ 12 * T.sz := by
      have h1 : B0.size = (txt (full T)).length := by rw [← hB0]; rfl
      rw [h1]
      exact txt_small T hTo.ok hTo.nb
    have hsz := hTo.sz
    obtain ⟨r, st, st', p1, p2, hbn⟩ : ∃ r st st', parseP ((⟨#[45, 109, 111, 100, 117, 108, 101, 40, 109, 41, 46, 32, 102, 40, 41, 32, 45, 62, 32]⟩ : ByteArray) ++ R ++ ⟨#[46]⟩) = .ok (r, st) ∧ parseP ((⟨#[45, 109, 111, 100, 117, 108, 101, 40, 109, 41, 46, 32, 102, 40, 41, 32, 45, 62, 32]⟩ : ByteArray) ++ B0 ++ ⟨#[46]⟩) = .ok (r, st') ∧ st.ns.map bareN = st'.ns.map bareN := by
      have z1 : (⟨#[45, 109, 111, 100, 117, 108, 101, 40, 109, 41, 46, 32, 102, 40, 41, 32, 45, 62, 32]⟩ : ByteArray).size = 19 := rfl
      have z2 : (⟨#[46]⟩ : ByteArray).size = 1 := rfl
      have hhg := hTo.hg
      have hfd := Ex.full_dep T
      refine twin_src (e := T) (e' := full T) hTo.ok (Ex.full_ok T hTo.ok) ?_ ?_ ?_ ?_ hTo.wf (Ex.full_wf T hTo.ok) (by rw [Ex.noBr_dep T hTo.nb]; omega) (by omega) (by omega) (Ex.full_sz T) (Ex.full_emit T 1)
      · simp only [ByteArray.data_append, Array.toList_append, hpk.rB, hTx, headB, List.append_assoc]
      · simp only [ByteArray.data_append, Array.toList_append, hB0, headB, List.append_assoc]
      · rw [ByteArray.size_append, ByteArray.size_append, z1, z2]; omega
      · rw [ByteArray.size_append, ByteArray.size_append, z1, z2]; omega
    have hfew : ∀ (i : Nat) (n : Nd), st.ns[i]? = some n → n.l.length ≤ 20000 ∨ 16384 < st.ns.length := fun i n h => by
      have h2 : (flatP (parseP ((⟨#[45, 109, 111, 100, 117, 108, 101, 40, 109, 41, 46, 32, 102, 40, 41, 32, 45, 62, 32]⟩ : ByteArray) ++ R ++ ⟨#[46]⟩))).2.2.2[i]? = some n := by rw [p1]; exact h
      have := flat_short _ h2
      rw [p1] at this
      exact this
    have CP1 : Hid (∀ W, Below w.heap.size w W → Calls Tryz.prog 6 #[.string ((⟨#[45, 109, 111, 100, 117, 108, 101, 40, 109, 41, 46, 32, 102, 40, 41, 32, 45, 62, 32]⟩ : ByteArray) ++ R ++ ⟨#[46]⟩)] W fun e w' => ∃ V, e = .returned (.tuple #[.agg #[V, iv r], .agg #[.int .i64 0, .int .i64 0]]) ∧ Nodes w' W.heap.size V st.ns ∧ Below W.heap.size W w') := hidb (fun W hb => (Parse_any _ W (GT hb)).mono fun e w' h => by have := h.flat; rw [p1] at this; exact this)
    have CP2 : Hid (∀ W, Below w.heap.size w W → Calls Tryz.prog 6 #[.string ((⟨#[45, 109, 111, 100, 117, 108, 101, 40, 109, 41, 46, 32, 102, 40, 41, 32, 45, 62, 32]⟩ : ByteArray) ++ B0 ++ ⟨#[46]⟩)] W fun e w' => ∃ V, e = .returned (.tuple #[.agg #[V, iv r], .agg #[.int .i64 0, .int .i64 0]]) ∧ Nodes w' W.heap.size V st'.ns ∧ Below W.heap.size W w') := hidb (fun W hb => (Parse_any _ W (GT hb)).mono fun e w' h => by have := h.flat; rw [p2] at this; exact this)
    have HN4c : Hid (n4 ≤ 30) := hidb (by omega)
    have HBR := hidb hrw.bel
    have q1 : ¬ 9223372036854775807 < 19 + R.size := by omega
    have q2 : ¬ 9223372036854775807 < 19 + R.size + 1 := by omega
    have q3 : ¬ 9223372036854775807 < 19 + B0.size := by omega
    have q4 : ¬ 9223372036854775807 < 19 + B0.size + 1 := by omega
    have HF3 := hidb hbn
    have HSH := hidb hfew
    clear hrw hpk hn4 hn5 hc4 hc5 hs4 hs5 hll h30 hrz hTd hTo hTx hbn hfew p1 p2 hb0z hsz hB0
    go_wp2_with fail
    refine (CP1.out _ HBR.out).mono ?_
    rintro e u1 ⟨Va, rfl, hNa, hb1⟩
    obtain ⟨va, vm, vc, rfl⟩ := nodes_sl hNa
    have HB1' := hidb hb1
    have HNa := hidb hNa
    clear CP1 hb1 hNa q1 q2
    go_wp2_with fail
    have hX : Below u1.heap.size u1 ((u1.alloc (Obj.cells #[.slice va vm vc, .int .i64 (r : Int)] 25)).alloc (Obj.cells #[.int .i64 0, .int .i64 0] 28)) := ((Below.refl _ _).alloc (Nat.le_refl _) _).alloc (by simp) _
    have hDa : Duo ((u1.alloc (Obj.cells #[.slice va vm vc, .int .i64 (r : Int)] 25)).alloc (Obj.cells #[.int .i64 0, .int .i64 0] 28)) u1.heap.size (.slice va vm vc) (.int .i64 (r : Int)) := (Duo.new u1 _ _ _).keep (below_new _ _)
    have hDf : Duo ((u1.alloc (Obj.cells #[.slice va vm vc, .int .i64 (r : Int)] 25)).alloc (Obj.cells #[.int .i64 0, .int .i64 0] 28)) (u1.heap.size + 1) (.int .i64 0) (.int .i64 0) := by
      have := Duo.new (u1.alloc (Obj.cells #[.slice va vm vc, .int .i64 (r : Int)] 25)) 28 (.int .i64 0) (.int .i64 0)
      simpa using this
    have hNX := HNa.out.but (But.of_below (S := fun _ => False) hX) (fun _ h => h.elim)
    have HXr := hidb (HB1'.out.trans (hX.mono HB1'.out.size))
    have HNX := hidb hNX
    have HDa := hidb hDa
    have HDf := hidb hDf
    clear hX hDa hDf hNX HNa
    generalize ((u1.alloc (Obj.cells #[.slice va vm vc, .int .i64 (r : Int)] 25)).alloc (Obj.cells #[.int .i64 0, .int .i64 0] 28)) = X at HXr HNX HDa HDf ⊢
    refine (CB.out X HXr.out).mono ?_
    rintro e u2 ⟨⟨B, rfl, hB, -⟩, hb2⟩
    obtain rfl := HB0.out B hB
    have HB2' := hidb hb2
    clear hB hb2 CB HB0
    go_wp2_with fail
    have HX2 := hidb (HXr.out.trans (HB2'.out.mono HXr.out.size))
    refine (CP2.out u2 (HBR.out.trans (HX2.out.mono HBR.out.size))).mono ?_
    rintro e u3 ⟨Vb, rfl, hNb, hb3⟩
    obtain ⟨vb, vn, vd, rfl⟩ := nodes_sl hNb
    have hY : Below u3.heap.size u3 ((u3.alloc (Obj.cells #[.slice vb vn vd, .int .i64 (r : Int)] 25)).alloc (Obj.cells #[.int .i64 0, .int .i64 0] 28)) := ((Below.refl _ _).alloc (Nat.le_refl _) _).alloc (by simp) _
    have hDb : Duo ((u3.alloc (Obj.cells #[.slice vb vn vd, .int .i64 (r : Int)] 25)).alloc (Obj.cells #[.int .i64 0, .int .i64 0] 28)) u3.heap.size (.slice vb vn vd) (.int .i64 (r : Int)) := (Duo.new u3 _ _ _).keep (below_new _ _)
    have hDg : Duo ((u3.alloc (Obj.cells #[.slice vb vn vd, .int .i64 (r : Int)] 25)).alloc (Obj.cells #[.int .i64 0, .int .i64 0] 28)) (u3.heap.size + 1) (.int .i64 0) (.int .i64 0) := by
      have := Duo.new (u3.alloc (Obj.cells #[.slice vb vn vd, .int .i64 (r : Int)] 25)) 28 (.int .i64 0) (.int .i64 0)
      simpa using this
    have hb23 := HB2'.out.trans (hb3.mono HB2'.out.size)
    have hXY : Below X.heap.size X ((u3.alloc (Obj.cells #[.slice vb vn vd, .int .i64 (r : Int)] 25)).alloc (Obj.cells #[.int .i64 0, .int .i64 0] 28)) := hb23.trans (hY.mono hb23.size)
    have cS := same_trees false HF3.out (fun h => by cases h) (fun i n hi => (HSH.out i n hi).elim (fun h => h) (fun h => by have := HNX.out.few; omega)) r (HNX.out.but (But.of_below (S := fun _ => False) hXY) (fun _ h => h.elim)) (hNb.but (But.of_below (S := fun _ => False) hY) (fun _ h => h.elim))
    have HDa2 := hidb (HDa.out.keep hXY)
    have HDf2 := hidb (HDf.out.keep hXY)
    have HDb := hidb hDb
    have HDg := hidb hDg
    have HEND := hidb (HBR.out.trans ((HXr.out.trans (hXY.mono HXr.out.size)).mono HBR.out.size))
    clear hNb hb3 hY hDb hDg hb23 hXY HDa HDf
    obtain ⟨m0, m1, _, _, ml⟩ := HDf2.out
    obtain ⟨m2, m3, _, _, ml2⟩ := HDa2.out
    obtain ⟨m4, m5, _, _, ml3⟩ := HDb.out
    obtain ⟨m6, m7, _, _, ml4⟩ := HDg.out
    go_wp2_with (first
      | (go_at_call 8; refine cS.mono ?_; rintro e u4 ⟨rfl, hb4⟩; have HB4 := hidb hb4; clear hb4))
    go_ret
    exact ⟨rfl, HEND.out.trans (HB4.out.mono HEND.out.size)⟩
end Go.Proofs.YtdpfmmbfidknfaaGreatDoor


/- What the rows' condition on the tables gives the walks; and that the start-up's own heap meets it. -/
namespace Go.Proofs.YtdpfmmbfidknfaaGreatDoor
open Go.ChangeShapes Go.WideShapes Go.ChangeAt Go.WideMaps Go.WideElems Go.RowKit Go.Lib

theorem own : ownKnob Tryz.prog.godebug = none := by kernel_rfl

def laid6 : List (String × DataW Unit) := [("unicode/utf8.acceptRanges", Rows.laid_unicode_utf8_acceptRanges), ("math.pow10tab", Rows.laid_math_pow10tab), ("math.pow10postab32", Rows.laid_math_pow10postab32), ("math.pow10negtab32", Rows.laid_math_pow10negtab32), ("exitwave/lex.signs", Rows.laid_exitwave_lex_signs), ("unicode/utf8.first", Rows.laid_unicode_utf8_first)]

/-- The start-up's heap, the pinned table in its place. -/
noncomputable def doorW (os : Os) : World :=
  { World.doorLaid Tryz.prog 400 os with heap := (World.doorLaid Tryz.prog 400 os).heap.modify 5 fun
    | .cells _ t fz => .cells (Lib.firstTab.map fun z => Value.int .u8 z).toArray t fz
    | o => o }

set_option maxRecDepth 1000000 in
theorem door_met (os : Os) (args : Array Value) : laidMetH Tryz.prog laid6 ((doorW os).forCall (fun _ _ => 0) ⟨#[], args, []⟩).memory :=
  laidMetH_of_parts3 (fuel := 8) (laidMet_of_run' 8 (by kernel_rfl) (by kernel_rfl)) (by kernel_rfl) (by kernel_rfl)

theorem gPost : Tryz.prog.globalNamed "math.pow10postab32" = some 2 := by kernel_rfl
theorem tPost : (Tryz.prog.globals[2]?).map (·.type) = some 110 := by kernel_rfl
theorem gTab : Tryz.prog.globalNamed "math.pow10tab" = some 3 := by kernel_rfl
theorem tTab : (Tryz.prog.globals[3]?).map (·.type) = some 111 := by kernel_rfl
theorem gSig : Tryz.prog.globalNamed "exitwave/lex.signs" = some 1 := by kernel_rfl
theorem tSig : (Tryz.prog.globals[1]?).map (·.type) = some 84 := by kernel_rfl

theorem trod_flt {H : Type} {enc : TypeId × Value → H} {P : Program} {w : World} {base : Nat} {spare : Nat → Bool} {held : Bool} {fuel : Nat} {t : TypeId} {cs : List Value} {x : DataW H × List MemPlace} {k : FloatKind} (ht : P.underlying t = some (.float k)) (h : DataW.trod enc P w base spare held fuel t cs = some x) : ∃ n, cs = [.float k n] ∧ x = (.lit (.float k n), []) := by
  cases fuel with
  | zero => simp [DataW.trod] at h
  | succ n =>
    unfold DataW.trod at h
    rw [ht] at h
    split at h <;> simp_all

theorem reads_float {W : World} {name : String} {g n : Nat} {t : TypeId} {ds : List (DataW Unit)} (h : VarReads Tryz.prog W name (.agg ds)) (hg : Tryz.prog.globalNamed name = some g) (ht : (Tryz.prog.globals[g]?).map (·.type) = some t)
    (hu : Tryz.prog.underlying t = some (.array n 31)) (i : Nat) (hi : i < n) (x : Nat) (hx : ds[i]? = some (.lit (.float .f64 x))) : W.cell? ⟨g, i, none⟩ = some (.float .f64 x) := by
  obtain ⟨g', t', cs, fuel, p, hg', hty, hvar, hd⟩ := h
  obtain rfl := Option.some.inj (hg.symm.trans hg')
  obtain rfl := Option.some.inj (ht.symm.trans hty)
  obtain ⟨fuel', d, q, h1, h2⟩ := array_elem hu hd i hi
  have hc : Tryz.prog.cellsOf 31 = 1 := by kernel_rfl
  rw [hc] at h2
  rw [hx] at h1
  cases h1
  obtain ⟨z, hz, he⟩ := trod_flt Tryz.underlying31 h2
  have hv := World.var?_cell hg' hvar i
  cases he
  have h3 : cs.toList[i]? = some (.float .f64 x) := by
    have := congrArg (·[0]?) hz
    simpa [List.getElem?_take, List.getElem?_drop] using this
  rw [hv, ← Array.getElem?_toList, h3]

theorem reads_string {W : World} {name : String} {g n : Nat} {t : TypeId} {ds : List (DataW Unit)} (h : VarReads Tryz.prog W name (.agg ds)) (hg : Tryz.prog.globalNamed name = some g) (ht : (Tryz.prog.globals[g]?).map (·.type) = some t)
    (hu : Tryz.prog.underlying t = some (.array n 9)) (i : Nat) (hi : i < n) (l : List UInt8) (hx : ds[i]? = some (.lit (.string l))) : W.cell? ⟨g, i, none⟩ = some (.string ⟨l.toArray⟩) := by
  obtain ⟨g', t', cs, fuel, p, hg', hty, hvar, hd⟩ := h
  obtain rfl := Option.some.inj (hg.symm.trans hg')
  obtain rfl := Option.some.inj (ht.symm.trans hty)
  obtain ⟨fuel', d, q, h1, h2⟩ := array_elem hu hd i hi
  have hc : Tryz.prog.cellsOf 9 = 1 := by kernel_rfl
  rw [hc] at h2
  rw [hx] at h1
  cases h1
  obtain ⟨z, hz, he, _⟩ := DataW.trod_string Tryz.underlying9 h2
  have hv := World.var?_cell hg' hvar i
  have hl : l = z.data.toList := by
    have := congrArg Prod.fst he
    simpa using this
  have h3 : cs.toList[i]? = some (.string z) := by
    have := congrArg (·[0]?) hz
    simpa [List.getElem?_take, List.getElem?_drop] using this
  rw [hv, ← Array.getElem?_toList, h3, hl]

theorem lexTab {W : World} (h : laidMetH Tryz.prog laid6 W) : LexTab W := by
  rw [MakeChecks.laidMetH_plain _ _ _ (by kernel_rfl)] at h
  have r1 := Lib.laidMet.reads h (.head _)
  have r2 := Lib.laidMet.reads h (.tail _ (.head _))
  have r3 := Lib.laidMet.reads h (.tail _ (.tail _ (.head _)))
  have r5 := Lib.laidMet.reads h (.tail _ (.tail _ (.tail _ (.tail _ (.head _)))))
  have r6 := Lib.laidMet.reads h (.tail _ (.tail _ (.tail _ (.tail _ (.tail _ (.head _))))))
  have e1 : (Rows.laid_unicode_utf8_acceptRanges : DataW Unit) = acceptData := by kernel_rfl
  have e6 : Rows.laid_unicode_utf8_first = firstData := by kernel_rfl
  rw [e1] at r1
  rw [e6] at r6
  refine ⟨utf8Tabs_of_reads (ρ := Tryz.lays197_ren) { Tryz.lays197 with } ⟨by kernel_rfl, by kernel_rfl, by kernel_rfl, by kernel_rfl, by kernel_rfl, by kernel_rfl, by kernel_rfl⟩ r6 r1, ⟨?_, ?_⟩, ?_⟩
  · exact reads_float r3 gPost tPost Tryz.underlying110 0 (by omega) _ rfl
  · intro k x hk
    have hk16 : k < 16 := (List.getElem?_eq_some_iff.1 hk).1
    refine reads_float r2 gTab tTab Tryz.underlying111 k (by omega) x ?_
    match k, hk16, hk with
    | 0, _, hk => cases hk; rfl
    | 1, _, hk => cases hk; rfl
    | 2, _, hk => cases hk; rfl
    | 3, _, hk => cases hk; rfl
    | 4, _, hk => cases hk; rfl
    | 5, _, hk => cases hk; rfl
    | 6, _, hk => cases hk; rfl
    | 7, _, hk => cases hk; rfl
    | 8, _, hk => cases hk; rfl
    | 9, _, hk => cases hk; rfl
    | 10, _, hk => cases hk; rfl
    | 11, _, hk => cases hk; rfl
    | 12, _, hk => cases hk; rfl
    | 13, _, hk => cases hk; rfl
    | 14, _, hk => cases hk; rfl
    | 15, _, hk => cases hk; rfl
  · intro j v hj
    have hj27 : j < 27 := (List.getElem?_eq_some_iff.1 hj).1
    match j, hj27, hj with
    | 0, _, hj => cases hj; exact reads_string r5 gSig tSig Tryz.underlying84 0 (by omega) _ rfl
    | 1, _, hj => cases hj; exact reads_string r5 gSig tSig Tryz.underlying84 1 (by omega) _ rfl
    | 2, _, hj => cases hj; exact reads_string r5 gSig tSig Tryz.underlying84 2 (by omega) _ rfl
    | 3, _, hj => cases hj; exact reads_string r5 gSig tSig Tryz.underlying84 3 (by omega) _ rfl
    | 4, _, hj => cases hj; exact reads_string r5 gSig tSig Tryz.underlying84 4 (by omega) _ rfl
    | 5, _, hj => cases hj; exact reads_string r5 gSig tSig Tryz.underlying84 5 (by omega) _ rfl
    | 6, _, hj => cases hj; exact reads_string r5 gSig tSig Tryz.underlying84 6 (by omega) _ rfl
    | 7, _, hj => cases hj; exact reads_string r5 gSig tSig Tryz.underlying84 7 (by omega) _ rfl
    | 8, _, hj => cases hj; exact reads_string r5 gSig tSig Tryz.underlying84 8 (by omega) _ rfl
    | 9, _, hj => cases hj; exact reads_string r5 gSig tSig Tryz.underlying84 9 (by omega) _ rfl
    | 10, _, hj => cases hj; exact reads_string r5 gSig tSig Tryz.underlying84 10 (by omega) _ rfl
    | 11, _, hj => cases hj; exact reads_string r5 gSig tSig Tryz.underlying84 11 (by omega) _ rfl
    | 12, _, hj => cases hj; exact reads_string r5 gSig tSig Tryz.underlying84 12 (by omega) _ rfl
    | 13, _, hj => cases hj; exact reads_string r5 gSig tSig Tryz.underlying84 13 (by omega) _ rfl
    | 14, _, hj => cases hj; exact reads_string r5 gSig tSig Tryz.underlying84 14 (by omega) _ rfl
    | 15, _, hj => cases hj; exact reads_string r5 gSig tSig Tryz.underlying84 15 (by omega) _ rfl
    | 16, _, hj => cases hj; exact reads_string r5 gSig tSig Tryz.underlying84 16 (by omega) _ rfl
    | 17, _, hj => cases hj; exact reads_string r5 gSig tSig Tryz.underlying84 17 (by omega) _ rfl
    | 18, _, hj => cases hj; exact reads_string r5 gSig tSig Tryz.underlying84 18 (by omega) _ rfl
    | 19, _, hj => cases hj; exact reads_string r5 gSig tSig Tryz.underlying84 19 (by omega) _ rfl
    | 20, _, hj => cases hj; exact reads_string r5 gSig tSig Tryz.underlying84 20 (by omega) _ rfl
    | 21, _, hj => cases hj; exact reads_string r5 gSig tSig Tryz.underlying84 21 (by omega) _ rfl
    | 22, _, hj => cases hj; exact reads_string r5 gSig tSig Tryz.underlying84 22 (by omega) _ rfl
    | 23, _, hj => cases hj; exact reads_string r5 gSig tSig Tryz.underlying84 23 (by omega) _ rfl
    | 24, _, hj => cases hj; exact reads_string r5 gSig tSig Tryz.underlying84 24 (by omega) _ rfl
    | 25, _, hj => cases hj; exact reads_string r5 gSig tSig Tryz.underlying84 25 (by omega) _ rfl
    | 26, _, hj => cases hj; exact reads_string r5 gSig tSig Tryz.underlying84 26 (by omega) _ rfl
end Go.Proofs.YtdpfmmbfidknfaaGreatDoor


