import Derived.Test.YtecgddiohoeboaaDoorG27
import Derived.Test.YtecgddiohoeboaaDoorG16
/- LexFloats. -/
namespace Go.Proofs.YtecgddiohoeboaaDoor
open Go.RowKit Go.Lib
attribute [local go_sem] store_float f64bits f64frombits
attribute [local go_sem ↓] Go.wp_at_zero Go.wp_at_succ

theorem and15 (x : Nat) (h : x < 18446744073709551616) : bits .and .u64 (x : Int) 15 = ((x % 16 : Nat) : Int) := by
  have := u64_and_nat x 15 h (by decide)
  have e3 : x &&& 15 = x % 16 := Nat.and_two_pow_sub_one_eq_mod x 4
  rw [e3] at this
  exact this

theorem nib (U j : Nat) (hj : j < 16) : U / 16 ^ (16 - (j + 1)) = U / 16 ^ (16 - j) * 16 + U / 2 ^ (60 - 4 * j) % 16 := by
  have e1 : (2 : Nat) ^ (60 - 4 * j) = 16 ^ (15 - j) := by
    rw [show (16 : Nat) = 2 ^ 4 from rfl, ← Nat.pow_mul]
    congr 1
    omega
  rw [e1, show 16 - (j + 1) = 15 - j by omega, show 16 - j = (15 - j) + 1 by omega, Nat.pow_succ, ← Nat.div_div_eq_div_mul]
  omega

theorem hexd_mk (d : Nat) (h : d < 16) : hexd (if d < 10 then 48 + d else 87 + d) = some d := by
  unfold hexd pDigit
  split
  · rw [if_pos (by simp; omega)]; congr 1; omega
  · rw [if_neg (by simp; omega), if_pos (by omega)]; congr 1; omega

set_option maxHeartbeats 4000000 in
set_option maxRecDepth 100000 in
theorem LexFloats_walk (u W n : Int) (U : Nat) (hU : Hid (u = (U : Int))) (hU2 : U < 18446744073709551616) (hW0 : 0 ≤ W) (w : World) (hT : LexTab w) : Calls Tryd.prog 7 #[.int .u64 u, .int .u64 W, .int .i64 n] w fun e w' => e = .returned (.bool true) ∧ Below w.heap.size w w' := by
  have cK := known_any w hT
  have ut : u.toNat = U := by rw [hU.out]; rfl
  obtain ⟨V, hV, hV2⟩ : ∃ V : Nat, W.tmod 1000000000000 = (V : Int) ∧ V < 1000000000000 := ⟨(W % 1000000000000).toNat, by rw [Int.tmod_eq_emod_of_nonneg hW0]; omega, by omega⟩
  have hr1 : -11 ≤ n.tmod 12 ∧ n.tmod 12 ≤ 11 := by
    have := Int.tmod_lt_of_pos n (b := 12) (by decide)
    have := Int.lt_tmod_of_pos n (b := 12) (by decide)
    generalize n.tmod 12 = r at *
    omega
  obtain ⟨r, hr⟩ : ∃ r, n.tmod 12 = r := ⟨_, rfl⟩
  rw [hr] at hr1
  clear hW0
  obtain ⟨i00, hi0, hz0, hz1, hz2⟩ := info_parts Tryd.Builder_Extra_169.infoByte
  go_enter Tryd.func7, Tryd.ntmps7
  go_wp2_with (first
      | (go_at_call 9; refine cK.mono ?_; rintro e w1 ⟨rfl, hb1⟩; have HB1 := hidb hb1))
  go_loopg [7, 8] 16 (fun gf s7 s8 wx => ∃ (j : Nat) (acc : List UInt8) (ao : Option Addr) (cap : Nat), s8 = .int .i64 (60 - 4 * (j : Int)) ∧ s7 = .slice ao acc.length cap ∧ acc.length = j ∧ j ≤ 16 ∧ 16 - j ≤ gf ∧ hv acc 0 = some (U / 16 ^ (16 - j)) ∧ Below w.heap.size w wx ∧ wx.ownsRow w.heap.size 5 1 (.slice ao acc.length cap) acc.length (Lib.byteCells acc))
  case atStart =>
    refine ⟨0, [], none, 0, by simp, rfl, rfl, by omega, by omega, ?_, HB1.out, ⟨rfl, .inl ⟨rfl, rfl⟩⟩⟩
    rw [show U / 16 ^ (16 - 0) = 0 from Nat.div_eq_of_lt (by simpa using hU2)]
    rfl
  case round =>
    obtain ⟨j, acc, ao, cap, rfl, rfl, hj, hj16, hgf, hhv, hbw, how⟩ := hrel
    have HH := hidb hhv
    have HJ := hidb hj
    clear hhv hj
    by_cases hlt : j < 16
    · have j1 : (0 : Int) ≤ 60 - 4 * (j : Int) := by omega
      obtain ⟨g', rfl⟩ : ∃ g', gk = g' + 1 := ⟨gk - 1, by omega⟩
      obtain ⟨d, hd⟩ : ∃ d, U / 2 ^ (60 - 4 * j) % 16 = d := ⟨_, rfl⟩
      have hd16 : d < 16 := by omega
      have eb : bits BinOp.and IntKind.u64 (u / 2 ^ (60 - 4 * j)) 15 = (d : Int) := by
        rw [hU.out, ← hd, ← and15 _ (Nat.lt_of_le_of_lt (Nat.div_le_self _ _) hU2)]
        push_cast
        rfl
      have hN := hidb (nib U j hlt)
      rw [hd] at hN
      have hX := hidb (hexd_mk d hd16)
      clear hd
      by_cases h10 : d < 10
      · have k1 : (d : Int) < 10 := by omega
        go_wp2_with (at_builtin; refine wpList_append_own _ rfl _ _ 31 rfl w.heap.size 5 i00 (.int .u8 0) 1 1 Tryd.underlying31 hi0 hz0 hz1 hz2 rfl (by decide) _ _ _ rfl (how.alloc _) ⟨wr.heap.size, 0, none⟩ 1 1 [.int .u8 (48 + (d : Int))] rfl rfl ?e11 ?e12 ?e13 ?e14 ?e15 ?_)
        try (case e11 => intro q u hq; exact app_one _ _ _ _ rfl q u hq)
        case e12 => first | rfl | (intro u hu; cases List.mem_singleton.1 hu; rfl)
        case e13 => have := HJ.out; unfold maxLen; omega
        case e14 => have := HJ.out; omega
        case e15 => first | (have := hbw.size; omega) | (have := hbw.size; simp; omega)
        intro v' w3 hown' hgrow hnil
        have hb3 := grow_below how hgrow hbw.size
        have hsn : Lib.byteCells acc ++ [Value.int .u8 (48 + (d : Int))] = Lib.byteCells (acc ++ [UInt8.ofNat (48 + d)]) := by
          rw [← cell_snoc acc (48 + d) (by omega)]
          congr 3
        have hdg : hexd (48 + d) = some d := by have := hX.out; rw [if_pos h10] at this; exact this
        rw [hsn] at hown'
        have HO := hidb hown'
        have HB := hidb (hbw.trans hb3)
        obtain ⟨g9, cap9, rfl, _⟩ := hown'.form (by omega)
        clear hown' hgrow hnil hb3 hsn
        go_wp2_with fail
        go_roundg g'
        case measure => omega
        case rel =>
          refine ⟨j + 1, acc ++ [UInt8.ofNat (48 + d)], _, _, by first | (simp; omega) | simp, by rw [List.length_append]; rfl, by rw [List.length_append, HJ.out]; rfl, by omega, by omega, ?_, HB.out, by rw [List.length_append]; exact HO.out⟩
          rw [hv_snoc, HH.out, hN.out]
          simp only [Option.bind_some]
          rw [show (UInt8.ofNat (48 + d)).toNat = 48 + d by simp; omega, hdg]
          rfl
      · have k1 : ¬ (d : Int) < 10 := by omega
        go_wp2_with (at_builtin; refine wpList_append_own _ rfl _ _ 31 rfl w.heap.size 5 i00 (.int .u8 0) 1 1 Tryd.underlying31 hi0 hz0 hz1 hz2 rfl (by decide) _ _ _ rfl (how.alloc _) ⟨wr.heap.size, 0, none⟩ 1 1 [.int .u8 (97 + (d : Int) - 10)] rfl rfl ?e21 ?e22 ?e23 ?e24 ?e25 ?_)
        try (case e21 => intro q u hq; exact app_one _ _ _ _ rfl q u hq)
        case e22 => first | rfl | (intro u hu; cases List.mem_singleton.1 hu; rfl)
        case e23 => have := HJ.out; unfold maxLen; omega
        case e24 => have := HJ.out; omega
        case e25 => first | (have := hbw.size; omega) | (have := hbw.size; simp; omega)
        intro v' w3 hown' hgrow hnil
        have hb3 := grow_below how hgrow hbw.size
        have hsn : Lib.byteCells acc ++ [Value.int .u8 (97 + (d : Int) - 10)] = Lib.byteCells (acc ++ [UInt8.ofNat (87 + d)]) := by
          rw [← cell_snoc acc (87 + d) (by omega)]
          congr 3
          omega
        have hdg : hexd (87 + d) = some d := by have := hX.out; rw [if_neg h10] at this; exact this
        rw [hsn] at hown'
        have HO := hidb hown'
        have HB := hidb (hbw.trans hb3)
        obtain ⟨g9, cap9, rfl, _⟩ := hown'.form (by omega)
        clear hown' hgrow hnil hb3 hsn
        go_wp2_with fail
        go_roundg g'
        case measure => omega
        case rel =>
          refine ⟨j + 1, acc ++ [UInt8.ofNat (87 + d)], _, _, by first | (simp; omega) | simp, by rw [List.length_append]; rfl, by rw [List.length_append, HJ.out]; rfl, by omega, by omega, ?_, HB.out, by rw [List.length_append]; exact HO.out⟩
          rw [hv_snoc, HH.out, hN.out]
          simp only [Option.bind_some]
          rw [show (UInt8.ofNat (87 + d)).toNat = 87 + d by simp; omega, hdg]
          rfl
    · have j1 : ¬ (0 : Int) ≤ 60 - 4 * (j : Int) := by omega
      obtain rfl : j = 16 := by omega
      have hcv := text_all acc how
      obtain ⟨X, hX⟩ : ∃ X, (⟨acc.toArray⟩ : ByteArray) = X := ⟨_, rfl⟩
      rw [hX] at hcv
      have HX := hidb hX
      have HB := hidb hbw
      have HO := hidb how
      have hXl : ∀ k (h : k < acc.length), bt X k = (acc[k]).toNat := fun k h => by rw [← hX]; exact bt_mk acc k h
      have hXs : X.size = 16 := by rw [← hX]; exact HJ.out
      obtain ⟨S, hS⟩ : ∃ S, (⟨#[35]⟩ : ByteArray) ++ X = S := ⟨_, rfl⟩
      have hSs : S.size = 17 := by rw [← hS, ByteArray.size_append, hXs]; rfl
      have hS0 : bt S 0 = 35 := by rw [← hS, bt_append _ _ _ (by rw [hXs]; decide)]; rfl
      have hSx : hexN S 16 1 0 = some U := by
        have h1 := hexN_hv S acc 1 0 (fun k h => by
          rw [← hS, bt_append _ _ _ (by have := HJ.out; rw [hXs]; show 1 + k < 1 + 16; omega), if_neg (by show ¬ 1 + k < 1; omega), ← hXl k h]
          congr 1
          show 1 + k - 1 = k
          omega) (by rw [HJ.out, hSs]; decide)
        rw [HJ.out, HH.out] at h1
        rw [h1]
        simp
      have cA := fun W h => Tokens_any S W h
      rw [allT_hash S U hSs hS0 hSx] at cA
      clear hX how hbw hgf hXl hS0 hSx
      cases hfin : Flt.fin U
      · have hs := fun t w => sub_nan t U hfin w
        have ho : ∀ t y, (FloatKind.f64.format.order (Flt.nanOf t) y) = none := fun t y => Flt.nanOf_order t y
        simp only [hfin, Bool.false_eq_true, if_false] at cA
        go_wp2_with fail
        refine (cA _ (hT.but (But.of_below (S := fun _ => False) HB.out) (fun _ e => e.elim))).mono ?_
        rintro e w2 ⟨hTP, hb2⟩
        have HB2 := hidb (HB.out.trans (hb2.mono HB.out.size))
        rcases hTP with ⟨l, V', hl, _⟩ | ⟨er, p, hl, rfl⟩
        case inl => cases hl
        obtain ⟨rfl, rfl⟩ : 22 = er ∧ 0 = p := by have := Sum.inr.inj hl; exact ⟨congrArg Prod.fst this, congrArg Prod.snd this⟩
        clear hb2 hl cA
        by_cases hneg : r < 0
        · obtain ⟨m, rfl⟩ : ∃ m : Nat, r = -(m : Int) := ⟨(-r).toNat, by omega⟩
          have hm : m ≤ 11 := by omega
          have hm0 : 0 < m := by omega
          go_wp2_with fail
          have hD2 : Duo ((w2.alloc (Obj.cells #[Value.int IntKind.i64 22, Value.int IntKind.i64 0] 26)).drew) w2.heap.size (.int .i64 22) (.int .i64 0) := (Duo.new w2 _ _ _).keep ((Below.refl _ _).drew)
          have hB3 : Below w.heap.size w ((w2.alloc (Obj.cells #[Value.int IntKind.i64 22, Value.int IntKind.i64 0] 26)).drew) := (HB2.out.alloc HB2.out.size _).drew
          generalize (w2.alloc (Obj.cells #[Value.int IntKind.i64 22, Value.int IntKind.i64 0] 26)).drew = W2 at hD2 hB3 ⊢
          have HD2 := hidb hD2
          have HB3 := hidb hB3
          clear hD2 hB3
          go_loopg [13, 14, 15, 16] 12 (fun gf s13 s14 s15 s16 wx => ∃ (j v T : Nat) (S : ByteArray), s16 = .int .i64 (j : Int) ∧ s14 = .int .u64 (v : Int) ∧ s15 = .float .f64 T ∧ s13 = .string S ∧ j ≤ m + 1 ∧ m + 1 - j ≤ gf ∧ v = V / 10 ^ j ∧ T = p10 (min j m) ∧ S.size = j ∧ AllD (dl S) ∧ wl (dl S) = V % 10 ^ j ∧ Below W2.heap.size W2 wx)
          case atStart => exact ⟨0, V, 4607182418800017408, ⟨#[]⟩, by simp, rfl, rfl, rfl, by omega, by omega, by simp, by rw [Nat.zero_min]; rfl, rfl, fun c hc => (nomatch (show c ∈ ([] : List UInt8) from hc)), by rw [Nat.pow_zero, Nat.mod_one]; rfl, Below.refl _ _⟩
          case round =>
            obtain ⟨j, v, T, S, rfl, rfl, rfl, rfl, hj, hgf, hv, hT9, hSs, hSd, hSw, hbw⟩ := hrel
            have hv2 : v < 1000000000000 := by rw [hv]; exact Nat.lt_of_le_of_lt (Nat.div_le_self _ _) hV2
            by_cases hlt : j ≤ m
            · obtain ⟨g', rfl⟩ : ∃ g', gk = g' + 1 := ⟨gk - 1, by omega⟩
              have j1 : (j : Int) ≤ (m : Int) := by omega
              obtain ⟨d, hd⟩ : ∃ d, v % 10 = d := ⟨_, rfl⟩
              obtain ⟨q, hq⟩ : ∃ q, v / 10 = q := ⟨_, rfl⟩
              have hd10 : d < 10 := by omega
              have hq2 : q < 1000000000000 := by omega
              have e1 : (v : Int).tmod 10 = (d : Int) := by rw [Int.tmod_eq_emod_of_nonneg (by omega)]; omega
              have e2 : (v : Int).tdiv 10 = (q : Int) := by rw [Int.tdiv_eq_ediv_of_nonneg (by omega)]; omega
              have e4 : IntKind.u64.wrap (q : Int) = (q : Int) := by rw [IntKind.wrap_u64]; omega
              have e3 := text_one wr d hd10
              have HS := hidb (And.intro (wl_step V j (dl S) hSs hSw d (by rw [← hv]; exact hd)) (show V / 10 ^ (j + 1) = q by rw [Nat.pow_succ, ← Nat.div_div_eq_div_mul, ← hv]; exact hq))
              have HSd := hidb hSd
              have HSs := hidb hSs
              have HB := hidb hbw
              have hT8 := hidb hT9
              have hs12 : S.size ≤ 12 := by omega
              obtain ⟨C, hC⟩ : ∃ C, (⟨#[UInt8.ofNat (48 + d)]⟩ : ByteArray) = C := ⟨_, rfl⟩
              have hc1 : C.size = 1 := by rw [← hC]; rfl
              rw [hC] at e3
              have HC := hidb hC
              have HR : Hid (AllD (dl (C ++ S)) ∧ wl (dl (C ++ S)) = V % 10 ^ (j + 1) ∧ (C ++ S).size = j + 1) := hidb ⟨fun c hc => by
                rw [dl_append, ← hC] at hc
                rcases List.mem_append.1 hc with h | h
                · cases List.mem_singleton.1 h; exact dig_mk d hd10
                · exact hSd c h, by rw [dl_append, ← hC]; exact HS.out.1, by rw [ByteArray.size_append, hc1, hSs]; omega⟩
              clear hd hq hv hSw hSd hSs hbw hT9 hC
              by_cases hjm : j < m
              · have j2 : (j : Int) < (m : Int) := by omega
                have hmul := fun t w => run_float_arith (P := Tryd.prog) w .mul t .f64 T 4621819117588971520 (p10 (j + 1)) (by rw [hT8.out, show min j m = j by omega]; exact p10_step j (by omega))
                go_wp2_with fail
                go_roundg g'
                case measure => omega
                case rel => exact ⟨j + 1, q, p10 (j + 1), C ++ S, by simp, rfl, rfl, rfl, by omega, by omega, HS.out.2.symm, by rw [show min (j + 1) m = j + 1 by omega], HR.out.2.2, HR.out.1, HR.out.2.1, HB.out.alloc HB.out.size _⟩
              · have j2 : ¬ (j : Int) < (m : Int) := by omega
                go_wp2_with fail
                go_roundg g'
                case measure => omega
                case rel => exact ⟨j + 1, q, T, C ++ S, by simp, rfl, rfl, rfl, by omega, by omega, HS.out.2.symm, by rw [hT8.out, show min (j + 1) m = m by omega, show min j m = m by omega], HR.out.2.2, HR.out.1, HR.out.2.1, HB.out.alloc HB.out.size _⟩
            · obtain rfl : j = m + 1 := by omega
              have j1 : ¬ ((m + 1 : Nat) : Int) ≤ (m : Int) := by omega
              have HSd := hidb hSd
              have HSw := hidb hSw
              have HSs := hidb hSs
              have HB := hidb hbw
              have hT8 : Hid (T = p10 m) := hidb (by rw [hT9, show min (m + 1) m = m by omega])
              have hs12 : S.size ≤ 12 := by omega
              have HV0 : Hid (v = V / 10 ^ (m + 1) ∧ v < 10 ^ (11 - m)) := hidb ⟨hv, by
                rw [hv]
                refine Nat.div_lt_of_lt_mul ?_
                rw [← Nat.pow_add, show m + 1 + (11 - m) = 12 by omega]
                exact hV2⟩
              clear hv hT9 hSs hSd hSw hbw hgf hj hlt
              have hvz : v < 10 ^ (11 - m) := HV0.out.2
              by_cases hv0 : 0 < v
              · have k0 : (0 : Int) < (v : Int) := by omega
                go_wp2_with fail
                go_loopg [14, 17] 12 (fun gf s14 s17 wx => ∃ (x : Nat) (H : ByteArray), s14 = .int .u64 (x : Int) ∧ s17 = .string H ∧ x < 1000000000000 ∧ 12 - H.size ≤ gf ∧ (wl (dl H) + x * 10 ^ H.size = v ∧ AllD (dl H) ∧ (x = 0 → 1 ≤ H.size ∧ (H.size = 1 ∨ bt H 0 ≠ 48)) ∧ H.size + m ≤ 12) ∧ Below W2.heap.size W2 wx)
                case atStart => exact ⟨v, ⟨#[]⟩, by first | rfl | simp, rfl, by omega, by omega, ⟨by show wl [] + v * 10 ^ 0 = v; simp [wl], fun c hc => (nomatch (show c ∈ ([] : List UInt8) from hc)), fun h => absurd h (by omega), by show 0 + m ≤ 12; omega⟩, HB.out⟩
                case round =>
                  obtain ⟨x, H, rfl, rfl, hx2, hgf, hH, hbw⟩ := hrel
                  have hH12 : H.size ≤ 12 := by omega
                  by_cases hx : 0 < x
                  · have k1 : (0 : Int) < (x : Int) := by omega
                    have hsz : H.size + 1 + m ≤ 11 := by
                      have h1 : 10 ^ H.size < 10 ^ (11 - m) := by
                        refine Nat.lt_of_le_of_lt ?_ hvz
                        have := Nat.mul_le_mul_right (10 ^ H.size) hx
                        have := hH.1
                        omega
                      have := (Nat.pow_lt_pow_iff_right (a := 10) (by omega)).1 h1
                      omega
                    obtain ⟨g', rfl⟩ : ∃ g', gk = g' + 1 := ⟨gk - 1, by omega⟩
                    obtain ⟨d, hd⟩ : ∃ d, x % 10 = d := ⟨_, rfl⟩
                    obtain ⟨q, hq⟩ : ∃ q, x / 10 = q := ⟨_, rfl⟩
                    have hd10 : d < 10 := by omega
                    have hq2 : q < 1000000000000 := by omega
                    have e1 : (x : Int).tmod 10 = (d : Int) := by rw [Int.tmod_eq_emod_of_nonneg (by omega)]; omega
                    have e2 : (x : Int).tdiv 10 = (q : Int) := by rw [Int.tdiv_eq_ediv_of_nonneg (by omega)]; omega
                    have e4 : IntKind.u64.wrap (q : Int) = (q : Int) := by rw [IntKind.wrap_u64]; omega
                    have e3 := text_one wr d hd10
                    obtain ⟨C, hC⟩ : ∃ C, (⟨#[UInt8.ofNat (48 + d)]⟩ : ByteArray) = C := ⟨_, rfl⟩
                    have hc1 : C.size = 1 := by rw [← hC]; rfl
                    rw [hC] at e3
                    have HR : Hid ((wl (dl (C ++ H)) + q * 10 ^ (C ++ H).size = v ∧ AllD (dl (C ++ H)) ∧ (q = 0 → 1 ≤ (C ++ H).size ∧ ((C ++ H).size = 1 ∨ bt (C ++ H) 0 ≠ 48)) ∧ (C ++ H).size + m ≤ 12) ∧ (C ++ H).size = H.size + 1) := hidb (by
                      have hcs : (C ++ H).size = H.size + 1 := by rw [ByteArray.size_append, hc1]; omega
                      rw [hcs]
                      refine ⟨⟨?_, ?_, ?_, by omega⟩, rfl⟩
                      · rw [dl_append, ← hC, ← hH.1]
                        exact digit_carry (dl H) x d q hd hq
                      · intro c hc
                        rw [dl_append, ← hC] at hc
                        rcases List.mem_append.1 hc with h | h
                        · cases List.mem_singleton.1 h; exact dig_mk d hd10
                        · exact hH.2.1 c h
                      · intro hq0
                        refine ⟨by omega, .inr ?_⟩
                        rw [bt_append _ _ _ (by omega), if_pos (by omega), ← hC]
                        show (UInt8.ofNat (48 + d)).toNat ≠ 48
                        rw [show (UInt8.ofNat (48 + d)).toNat = 48 + d by simp; omega]
                        omega)
                    have HB := hidb hbw
                    clear hd hq hH hbw hC
                    go_wp2_with fail
                    go_roundg g'
                    case measure => omega
                    case rel => exact ⟨q, C ++ H, rfl, rfl, hq2, by rw [HR.out.2]; omega, HR.out.1, HB.out.alloc HB.out.size _⟩
                  · have k1 : ¬ (0 : Int) < (x : Int) := by omega
                    obtain rfl : x = 0 := by omega
                    obtain ⟨hH1, hH2, hH3, hH4⟩ := hH
                    obtain ⟨hH5, hH6⟩ := hH3 rfl
                    obtain ⟨R, hR⟩ : ∃ R, (H ++ ⟨#[46]⟩) ++ S = R := ⟨_, rfl⟩
                    have hRt : allT R = .inl [⟨4, ⟨#[]⟩, 0, fq V (m + 1), 0⟩, ⟨8, ⟨#[]⟩, 0, 0, H.size + 1 + (m + 1)⟩] := by
                      rw [← hR]
                      refine dec_src H S V m hm hH5 hH4 HSs.out hH2 HSd.out hH6 ?_
                      rw [HSw.out, show wl (dl H) = v by simpa using hH1, HV0.out.1]
                      exact Nat.div_add_mod' V (10 ^ (m + 1))
                    have cB := fun W h => Tokens_any R W h
                    obtain ⟨L, hL, hL2, hL0, hL3⟩ : ∃ L : List Tk, allT R = .inl L ∧ L.length = 2 ∧ (tkCells L)[0]? = some (.int .i64 4) ∧ (tkCells L)[3]? = some (.float .f64 (fq V (m + 1))) := ⟨_, hRt, rfl, rfl, rfl⟩
                    rw [hL] at cB
                    have HB := hidb hbw
                    have hself : FloatKind.f64.format.order (fq V (m + 1)) (fq V (m + 1)) = some .eq := fq_self V (m + 1) (by omega) (by omega)
                    have hmul := fun t w => run_float_arith (P := Tryd.prog) w .mul t .f64 T 4621819117588971520 (p10 (m + 1)) (by rw [hT8.out]; exact p10_step m (by omega))
                    have hquo := fun t w => run_float_arith (P := Tryd.prog) w .quo t .f64 (floatOfInt .f64 (V : Int)) (p10 (m + 1)) (fq V (m + 1)) (fq_some V (m + 1) (by omega) (by omega))
                    generalize fq V (m + 1) = Z at hself hquo hL3
                    clear hRt hH1 hH2 hH3 hH6 hbw hL
                    go_wp2_with fail
                    refine (cB _ (hT.but (But.of_below (S := fun _ => False) (HB3.out.trans (HB.out.mono HB3.out.size))) (fun _ e => e.elim))).mono ?_
                    rintro e w4 ⟨hTP, hb4⟩
                    rcases hTP with ⟨l, V', hl, rfl, how⟩ | ⟨er, p, hl, _⟩
                    case inr => cases hl
                    obtain rfl : L = l := Sum.inl.inj hl
                    obtain ⟨g, cap, rfl, hg, hcap, hce⟩ := own_cell how (by omega)
                    have x0 := hce 0 _ hL0
                    have x3 := hce 3 _ hL3
                    have hD4 := HD2.out.keep HB.out
                    have hne : ¬ g = w2.heap.size := by have := hD4.lt; omega
                    obtain ⟨q0, q1, qf0, qf1, qlt⟩ := hD4.keep hb4
                    have HB4 := hidb ((HB3.out.trans (HB.out.mono HB3.out.size)).trans (hb4.mono (Nat.le_trans HB3.out.size HB.out.size)))
                    rw [hL2]
                    clear hce how hb4 hD4 hl hg hcap cB hL0 hL3
                    go_wp2_with fail
                    go_ret
                    exact ⟨rfl, (HB4.out.setCell (p := ⟨w2.heap.size, 0, none⟩) HB2.out.size _).setCell (p := ⟨w2.heap.size, 1, none⟩) HB2.out.size _⟩
              · have k0 : ¬ (0 : Int) < (v : Int) := by omega
                obtain rfl : v = 0 := by omega
                go_wp2_with fail
                go_loopg [14, 17] 12 (fun gf s14 s17 wx => ∃ (x : Nat) (H : ByteArray), s14 = .int .u64 (x : Int) ∧ s17 = .string H ∧ x < 1000000000000 ∧ 12 - H.size ≤ gf ∧ (wl (dl H) + x * 10 ^ H.size = 0 ∧ AllD (dl H) ∧ (x = 0 → 1 ≤ H.size ∧ (H.size = 1 ∨ bt H 0 ≠ 48)) ∧ H.size + m ≤ 12) ∧ Below W2.heap.size W2 wx)
                case atStart => exact ⟨0, ⟨#[48]⟩, by first | rfl | simp, rfl, by omega, by omega, ⟨by simp [dl, wl], fun c hc => by cases List.mem_singleton.1 (show c ∈ ([48] : List UInt8) from hc); rfl, fun _ => ⟨Nat.le_refl 1, .inl rfl⟩, by show 1 + m ≤ 12; omega⟩, HB.out⟩
                case round =>
                  obtain ⟨x, H, rfl, rfl, hx2, hgf, hH, hbw⟩ := hrel
                  have hH12 : H.size ≤ 12 := by omega
                  by_cases hx : 0 < x
                  · have k1 : (0 : Int) < (x : Int) := by omega
                    have hsz : H.size + 1 + m ≤ 11 := by
                      have h1 : 10 ^ H.size < 10 ^ (11 - m) := by
                        refine Nat.lt_of_le_of_lt ?_ hvz
                        have := Nat.mul_le_mul_right (10 ^ H.size) hx
                        have := hH.1
                        omega
                      have := (Nat.pow_lt_pow_iff_right (a := 10) (by omega)).1 h1
                      omega
                    obtain ⟨g', rfl⟩ : ∃ g', gk = g' + 1 := ⟨gk - 1, by omega⟩
                    obtain ⟨d, hd⟩ : ∃ d, x % 10 = d := ⟨_, rfl⟩
                    obtain ⟨q, hq⟩ : ∃ q, x / 10 = q := ⟨_, rfl⟩
                    have hd10 : d < 10 := by omega
                    have hq2 : q < 1000000000000 := by omega
                    have e1 : (x : Int).tmod 10 = (d : Int) := by rw [Int.tmod_eq_emod_of_nonneg (by omega)]; omega
                    have e2 : (x : Int).tdiv 10 = (q : Int) := by rw [Int.tdiv_eq_ediv_of_nonneg (by omega)]; omega
                    have e4 : IntKind.u64.wrap (q : Int) = (q : Int) := by rw [IntKind.wrap_u64]; omega
                    have e3 := text_one wr d hd10
                    obtain ⟨C, hC⟩ : ∃ C, (⟨#[UInt8.ofNat (48 + d)]⟩ : ByteArray) = C := ⟨_, rfl⟩
                    have hc1 : C.size = 1 := by rw [← hC]; rfl
                    rw [hC] at e3
                    have HR : Hid ((wl (dl (C ++ H)) + q * 10 ^ (C ++ H).size = 0 ∧ AllD (dl (C ++ H)) ∧ (q = 0 → 1 ≤ (C ++ H).size ∧ ((C ++ H).size = 1 ∨ bt (C ++ H) 0 ≠ 48)) ∧ (C ++ H).size + m ≤ 12) ∧ (C ++ H).size = H.size + 1) := hidb (by
                      have hcs : (C ++ H).size = H.size + 1 := by rw [ByteArray.size_append, hc1]; omega
                      rw [hcs]
                      refine ⟨⟨?_, ?_, ?_, by omega⟩, rfl⟩
                      · rw [dl_append, ← hC, ← hH.1]
                        exact digit_carry (dl H) x d q hd hq
                      · intro c hc
                        rw [dl_append, ← hC] at hc
                        rcases List.mem_append.1 hc with h | h
                        · cases List.mem_singleton.1 h; exact dig_mk d hd10
                        · exact hH.2.1 c h
                      · intro hq0
                        refine ⟨by omega, .inr ?_⟩
                        rw [bt_append _ _ _ (by omega), if_pos (by omega), ← hC]
                        show (UInt8.ofNat (48 + d)).toNat ≠ 48
                        rw [show (UInt8.ofNat (48 + d)).toNat = 48 + d by simp; omega]
                        omega)
                    have HB := hidb hbw
                    clear hd hq hH hbw hC
                    go_wp2_with fail
                    go_roundg g'
                    case measure => omega
                    case rel => exact ⟨q, C ++ H, rfl, rfl, hq2, by rw [HR.out.2]; omega, HR.out.1, HB.out.alloc HB.out.size _⟩
                  · have k1 : ¬ (0 : Int) < (x : Int) := by omega
                    obtain rfl : x = 0 := by omega
                    obtain ⟨hH1, hH2, hH3, hH4⟩ := hH
                    obtain ⟨hH5, hH6⟩ := hH3 rfl
                    obtain ⟨R, hR⟩ : ∃ R, (H ++ ⟨#[46]⟩) ++ S = R := ⟨_, rfl⟩
                    have hRt : allT R = .inl [⟨4, ⟨#[]⟩, 0, fq V (m + 1), 0⟩, ⟨8, ⟨#[]⟩, 0, 0, H.size + 1 + (m + 1)⟩] := by
                      rw [← hR]
                      refine dec_src H S V m hm hH5 hH4 HSs.out hH2 HSd.out hH6 ?_
                      rw [HSw.out, show wl (dl H) = 0 by simpa using hH1, HV0.out.1]
                      exact Nat.div_add_mod' V (10 ^ (m + 1))
                    have cB := fun W h => Tokens_any R W h
                    obtain ⟨L, hL, hL2, hL0, hL3⟩ : ∃ L : List Tk, allT R = .inl L ∧ L.length = 2 ∧ (tkCells L)[0]? = some (.int .i64 4) ∧ (tkCells L)[3]? = some (.float .f64 (fq V (m + 1))) := ⟨_, hRt, rfl, rfl, rfl⟩
                    rw [hL] at cB
                    have HB := hidb hbw
                    have hself : FloatKind.f64.format.order (fq V (m + 1)) (fq V (m + 1)) = some .eq := fq_self V (m + 1) (by omega) (by omega)
                    have hmul := fun t w => run_float_arith (P := Tryd.prog) w .mul t .f64 T 4621819117588971520 (p10 (m + 1)) (by rw [hT8.out]; exact p10_step m (by omega))
                    have hquo := fun t w => run_float_arith (P := Tryd.prog) w .quo t .f64 (floatOfInt .f64 (V : Int)) (p10 (m + 1)) (fq V (m + 1)) (fq_some V (m + 1) (by omega) (by omega))
                    generalize fq V (m + 1) = Z at hself hquo hL3
                    clear hRt hH1 hH2 hH3 hH6 hbw hL
                    go_wp2_with fail
                    refine (cB _ (hT.but (But.of_below (S := fun _ => False) (HB3.out.trans (HB.out.mono HB3.out.size))) (fun _ e => e.elim))).mono ?_
                    rintro e w4 ⟨hTP, hb4⟩
                    rcases hTP with ⟨l, V', hl, rfl, how⟩ | ⟨er, p, hl, _⟩
                    case inr => cases hl
                    obtain rfl : L = l := Sum.inl.inj hl
                    obtain ⟨g, cap, rfl, hg, hcap, hce⟩ := own_cell how (by omega)
                    have x0 := hce 0 _ hL0
                    have x3 := hce 3 _ hL3
                    have hD4 := HD2.out.keep HB.out
                    have hne : ¬ g = w2.heap.size := by have := hD4.lt; omega
                    obtain ⟨q0, q1, qf0, qf1, qlt⟩ := hD4.keep hb4
                    have HB4 := hidb ((HB3.out.trans (HB.out.mono HB3.out.size)).trans (hb4.mono (Nat.le_trans HB3.out.size HB.out.size)))
                    rw [hL2]
                    clear hce how hb4 hD4 hl hg hcap cB hL0 hL3
                    go_wp2_with fail
                    go_ret
                    exact ⟨rfl, (HB4.out.setCell (p := ⟨w2.heap.size, 0, none⟩) HB2.out.size _).setCell (p := ⟨w2.heap.size, 1, none⟩) HB2.out.size _⟩
        · obtain ⟨m, rfl⟩ : ∃ m : Nat, r = (m : Int) := ⟨r.toNat, by omega⟩
          have hm : m ≤ 11 := by omega
          go_wp2_with fail
          have hD2 : Duo ((w2.alloc (Obj.cells #[Value.int IntKind.i64 22, Value.int IntKind.i64 0] 26)).drew) w2.heap.size (.int .i64 22) (.int .i64 0) := (Duo.new w2 _ _ _).keep ((Below.refl _ _).drew)
          have hB3 : Below w.heap.size w ((w2.alloc (Obj.cells #[Value.int IntKind.i64 22, Value.int IntKind.i64 0] 26)).drew) := (HB2.out.alloc HB2.out.size _).drew
          generalize (w2.alloc (Obj.cells #[Value.int IntKind.i64 22, Value.int IntKind.i64 0] 26)).drew = W2 at hD2 hB3 ⊢
          have HD2 := hidb hD2
          have HB3 := hidb hB3
          clear hD2 hB3
          go_loopg [13, 14, 15, 16] 12 (fun gf s13 s14 s15 s16 wx => ∃ (j v T : Nat) (S : ByteArray), s16 = .int .i64 (j : Int) ∧ s14 = .int .u64 (v : Int) ∧ s15 = .float .f64 T ∧ s13 = .string S ∧ j ≤ m + 1 ∧ m + 1 - j ≤ gf ∧ v = V / 10 ^ j ∧ T = p10 (min j m) ∧ S.size = j ∧ AllD (dl S) ∧ wl (dl S) = V % 10 ^ j ∧ Below W2.heap.size W2 wx)
          case atStart => exact ⟨0, V, 4607182418800017408, ⟨#[]⟩, by simp, rfl, rfl, rfl, by omega, by omega, by simp, by rw [Nat.zero_min]; rfl, rfl, fun c hc => (nomatch (show c ∈ ([] : List UInt8) from hc)), by rw [Nat.pow_zero, Nat.mod_one]; rfl, Below.refl _ _⟩
          case round =>
            obtain ⟨j, v, T, S, rfl, rfl, rfl, rfl, hj, hgf, hv, hT9, hSs, hSd, hSw, hbw⟩ := hrel
            have hv2 : v < 1000000000000 := by rw [hv]; exact Nat.lt_of_le_of_lt (Nat.div_le_self _ _) hV2
            by_cases hlt : j ≤ m
            · obtain ⟨g', rfl⟩ : ∃ g', gk = g' + 1 := ⟨gk - 1, by omega⟩
              have j1 : (j : Int) ≤ (m : Int) := by omega
              obtain ⟨d, hd⟩ : ∃ d, v % 10 = d := ⟨_, rfl⟩
              obtain ⟨q, hq⟩ : ∃ q, v / 10 = q := ⟨_, rfl⟩
              have hd10 : d < 10 := by omega
              have hq2 : q < 1000000000000 := by omega
              have e1 : (v : Int).tmod 10 = (d : Int) := by rw [Int.tmod_eq_emod_of_nonneg (by omega)]; omega
              have e2 : (v : Int).tdiv 10 = (q : Int) := by rw [Int.tdiv_eq_ediv_of_nonneg (by omega)]; omega
              have e4 : IntKind.u64.wrap (q : Int) = (q : Int) := by rw [IntKind.wrap_u64]; omega
              have e3 := text_one wr d hd10
              have HS := hidb (And.intro (wl_step V j (dl S) hSs hSw d (by rw [← hv]; exact hd)) (show V / 10 ^ (j + 1) = q by rw [Nat.pow_succ, ← Nat.div_div_eq_div_mul, ← hv]; exact hq))
              have HSd := hidb hSd
              have HSs := hidb hSs
              have HB := hidb hbw
              have hT8 := hidb hT9
              have hs12 : S.size ≤ 12 := by omega
              obtain ⟨C, hC⟩ : ∃ C, (⟨#[UInt8.ofNat (48 + d)]⟩ : ByteArray) = C := ⟨_, rfl⟩
              have hc1 : C.size = 1 := by rw [← hC]; rfl
              rw [hC] at e3
              have HC := hidb hC
              have HR : Hid (AllD (dl (C ++ S)) ∧ wl (dl (C ++ S)) = V % 10 ^ (j + 1) ∧ (C ++ S).size = j + 1) := hidb ⟨fun c hc => by
                rw [dl_append, ← hC] at hc
                rcases List.mem_append.1 hc with h | h
                · cases List.mem_singleton.1 h; exact dig_mk d hd10
                · exact hSd c h, by rw [dl_append, ← hC]; exact HS.out.1, by rw [ByteArray.size_append, hc1, hSs]; omega⟩
              clear hd hq hv hSw hSd hSs hbw hT9 hC
              by_cases hjm : j < m
              · have j2 : (j : Int) < (m : Int) := by omega
                have hmul := fun t w => run_float_arith (P := Tryd.prog) w .mul t .f64 T 4621819117588971520 (p10 (j + 1)) (by rw [hT8.out, show min j m = j by omega]; exact p10_step j (by omega))
                go_wp2_with fail
                go_roundg g'
                case measure => omega
                case rel => exact ⟨j + 1, q, p10 (j + 1), C ++ S, by simp, rfl, rfl, rfl, by omega, by omega, HS.out.2.symm, by rw [show min (j + 1) m = j + 1 by omega], HR.out.2.2, HR.out.1, HR.out.2.1, HB.out.alloc HB.out.size _⟩
              · have j2 : ¬ (j : Int) < (m : Int) := by omega
                go_wp2_with fail
                go_roundg g'
                case measure => omega
                case rel => exact ⟨j + 1, q, T, C ++ S, by simp, rfl, rfl, rfl, by omega, by omega, HS.out.2.symm, by rw [hT8.out, show min (j + 1) m = m by omega, show min j m = m by omega], HR.out.2.2, HR.out.1, HR.out.2.1, HB.out.alloc HB.out.size _⟩
            · obtain rfl : j = m + 1 := by omega
              have j1 : ¬ ((m + 1 : Nat) : Int) ≤ (m : Int) := by omega
              have HSd := hidb hSd
              have HSw := hidb hSw
              have HSs := hidb hSs
              have HB := hidb hbw
              have hT8 : Hid (T = p10 m) := hidb (by rw [hT9, show min (m + 1) m = m by omega])
              have hs12 : S.size ≤ 12 := by omega
              have HV0 : Hid (v = V / 10 ^ (m + 1) ∧ v < 10 ^ (11 - m)) := hidb ⟨hv, by
                rw [hv]
                refine Nat.div_lt_of_lt_mul ?_
                rw [← Nat.pow_add, show m + 1 + (11 - m) = 12 by omega]
                exact hV2⟩
              clear hv hT9 hSs hSd hSw hbw hgf hj hlt
              have hvz : v < 10 ^ (11 - m) := HV0.out.2
              by_cases hv0 : 0 < v
              · have k0 : (0 : Int) < (v : Int) := by omega
                go_wp2_with fail
                go_loopg [14, 17] 12 (fun gf s14 s17 wx => ∃ (x : Nat) (H : ByteArray), s14 = .int .u64 (x : Int) ∧ s17 = .string H ∧ x < 1000000000000 ∧ 12 - H.size ≤ gf ∧ (wl (dl H) + x * 10 ^ H.size = v ∧ AllD (dl H) ∧ (x = 0 → 1 ≤ H.size ∧ (H.size = 1 ∨ bt H 0 ≠ 48)) ∧ H.size + m ≤ 12) ∧ Below W2.heap.size W2 wx)
                case atStart => exact ⟨v, ⟨#[]⟩, by first | rfl | simp, rfl, by omega, by omega, ⟨by show wl [] + v * 10 ^ 0 = v; simp [wl], fun c hc => (nomatch (show c ∈ ([] : List UInt8) from hc)), fun h => absurd h (by omega), by show 0 + m ≤ 12; omega⟩, HB.out⟩
                case round =>
                  obtain ⟨x, H, rfl, rfl, hx2, hgf, hH, hbw⟩ := hrel
                  have hH12 : H.size ≤ 12 := by omega
                  by_cases hx : 0 < x
                  · have k1 : (0 : Int) < (x : Int) := by omega
                    have hsz : H.size + 1 + m ≤ 11 := by
                      have h1 : 10 ^ H.size < 10 ^ (11 - m) := by
                        refine Nat.lt_of_le_of_lt ?_ hvz
                        have := Nat.mul_le_mul_right (10 ^ H.size) hx
                        have := hH.1
                        omega
                      have := (Nat.pow_lt_pow_iff_right (a := 10) (by omega)).1 h1
                      omega
                    obtain ⟨g', rfl⟩ : ∃ g', gk = g' + 1 := ⟨gk - 1, by omega⟩
                    obtain ⟨d, hd⟩ : ∃ d, x % 10 = d := ⟨_, rfl⟩
                    obtain ⟨q, hq⟩ : ∃ q, x / 10 = q := ⟨_, rfl⟩
                    have hd10 : d < 10 := by omega
                    have hq2 : q < 1000000000000 := by omega
                    have e1 : (x : Int).tmod 10 = (d : Int) := by rw [Int.tmod_eq_emod_of_nonneg (by omega)]; omega
                    have e2 : (x : Int).tdiv 10 = (q : Int) := by rw [Int.tdiv_eq_ediv_of_nonneg (by omega)]; omega
                    have e4 : IntKind.u64.wrap (q : Int) = (q : Int) := by rw [IntKind.wrap_u64]; omega
                    have e3 := text_one wr d hd10
                    obtain ⟨C, hC⟩ : ∃ C, (⟨#[UInt8.ofNat (48 + d)]⟩ : ByteArray) = C := ⟨_, rfl⟩
                    have hc1 : C.size = 1 := by rw [← hC]; rfl
                    rw [hC] at e3
                    have HR : Hid ((wl (dl (C ++ H)) + q * 10 ^ (C ++ H).size = v ∧ AllD (dl (C ++ H)) ∧ (q = 0 → 1 ≤ (C ++ H).size ∧ ((C ++ H).size = 1 ∨ bt (C ++ H) 0 ≠ 48)) ∧ (C ++ H).size + m ≤ 12) ∧ (C ++ H).size = H.size + 1) := hidb (by
                      have hcs : (C ++ H).size = H.size + 1 := by rw [ByteArray.size_append, hc1]; omega
                      rw [hcs]
                      refine ⟨⟨?_, ?_, ?_, by omega⟩, rfl⟩
                      · rw [dl_append, ← hC, ← hH.1]
                        exact digit_carry (dl H) x d q hd hq
                      · intro c hc
                        rw [dl_append, ← hC] at hc
                        rcases List.mem_append.1 hc with h | h
                        · cases List.mem_singleton.1 h; exact dig_mk d hd10
                        · exact hH.2.1 c h
                      · intro hq0
                        refine ⟨by omega, .inr ?_⟩
                        rw [bt_append _ _ _ (by omega), if_pos (by omega), ← hC]
                        show (UInt8.ofNat (48 + d)).toNat ≠ 48
                        rw [show (UInt8.ofNat (48 + d)).toNat = 48 + d by simp; omega]
                        omega)
                    have HB := hidb hbw
                    clear hd hq hH hbw hC
                    go_wp2_with fail
                    go_roundg g'
                    case measure => omega
                    case rel => exact ⟨q, C ++ H, rfl, rfl, hq2, by rw [HR.out.2]; omega, HR.out.1, HB.out.alloc HB.out.size _⟩
                  · have k1 : ¬ (0 : Int) < (x : Int) := by omega
                    obtain rfl : x = 0 := by omega
                    obtain ⟨hH1, hH2, hH3, hH4⟩ := hH
                    obtain ⟨hH5, hH6⟩ := hH3 rfl
                    obtain ⟨R, hR⟩ : ∃ R, (H ++ ⟨#[46]⟩) ++ S = R := ⟨_, rfl⟩
                    have hRt : allT R = .inl [⟨4, ⟨#[]⟩, 0, fq V (m + 1), 0⟩, ⟨8, ⟨#[]⟩, 0, 0, H.size + 1 + (m + 1)⟩] := by
                      rw [← hR]
                      refine dec_src H S V m hm hH5 hH4 HSs.out hH2 HSd.out hH6 ?_
                      rw [HSw.out, show wl (dl H) = v by simpa using hH1, HV0.out.1]
                      exact Nat.div_add_mod' V (10 ^ (m + 1))
                    have cB := fun W h => Tokens_any R W h
                    obtain ⟨L, hL, hL2, hL0, hL3⟩ : ∃ L : List Tk, allT R = .inl L ∧ L.length = 2 ∧ (tkCells L)[0]? = some (.int .i64 4) ∧ (tkCells L)[3]? = some (.float .f64 (fq V (m + 1))) := ⟨_, hRt, rfl, rfl, rfl⟩
                    rw [hL] at cB
                    have HB := hidb hbw
                    have hself : FloatKind.f64.format.order (fq V (m + 1)) (fq V (m + 1)) = some .eq := fq_self V (m + 1) (by omega) (by omega)
                    have hmul := fun t w => run_float_arith (P := Tryd.prog) w .mul t .f64 T 4621819117588971520 (p10 (m + 1)) (by rw [hT8.out]; exact p10_step m (by omega))
                    have hquo := fun t w => run_float_arith (P := Tryd.prog) w .quo t .f64 (floatOfInt .f64 (V : Int)) (p10 (m + 1)) (fq V (m + 1)) (fq_some V (m + 1) (by omega) (by omega))
                    generalize fq V (m + 1) = Z at hself hquo hL3
                    clear hRt hH1 hH2 hH3 hH6 hbw hL
                    go_wp2_with fail
                    refine (cB _ (hT.but (But.of_below (S := fun _ => False) (HB3.out.trans (HB.out.mono HB3.out.size))) (fun _ e => e.elim))).mono ?_
                    rintro e w4 ⟨hTP, hb4⟩
                    rcases hTP with ⟨l, V', hl, rfl, how⟩ | ⟨er, p, hl, _⟩
                    case inr => cases hl
                    obtain rfl : L = l := Sum.inl.inj hl
                    obtain ⟨g, cap, rfl, hg, hcap, hce⟩ := own_cell how (by omega)
                    have x0 := hce 0 _ hL0
                    have x3 := hce 3 _ hL3
                    have hD4 := HD2.out.keep HB.out
                    have hne : ¬ g = w2.heap.size := by have := hD4.lt; omega
                    obtain ⟨q0, q1, qf0, qf1, qlt⟩ := hD4.keep hb4
                    have HB4 := hidb ((HB3.out.trans (HB.out.mono HB3.out.size)).trans (hb4.mono (Nat.le_trans HB3.out.size HB.out.size)))
                    rw [hL2]
                    clear hce how hb4 hD4 hl hg hcap cB hL0 hL3
                    go_wp2_with fail
                    go_ret
                    exact ⟨rfl, (HB4.out.setCell (p := ⟨w2.heap.size, 0, none⟩) HB2.out.size _).setCell (p := ⟨w2.heap.size, 1, none⟩) HB2.out.size _⟩
              · have k0 : ¬ (0 : Int) < (v : Int) := by omega
                obtain rfl : v = 0 := by omega
                go_wp2_with fail
                go_loopg [14, 17] 12 (fun gf s14 s17 wx => ∃ (x : Nat) (H : ByteArray), s14 = .int .u64 (x : Int) ∧ s17 = .string H ∧ x < 1000000000000 ∧ 12 - H.size ≤ gf ∧ (wl (dl H) + x * 10 ^ H.size = 0 ∧ AllD (dl H) ∧ (x = 0 → 1 ≤ H.size ∧ (H.size = 1 ∨ bt H 0 ≠ 48)) ∧ H.size + m ≤ 12) ∧ Below W2.heap.size W2 wx)
                case atStart => exact ⟨0, ⟨#[48]⟩, by first | rfl | simp, rfl, by omega, by omega, ⟨by simp [dl, wl], fun c hc => by cases List.mem_singleton.1 (show c ∈ ([48] : List UInt8) from hc); rfl, fun _ => ⟨Nat.le_refl 1, .inl rfl⟩, by show 1 + m ≤ 12; omega⟩, HB.out⟩
                case round =>
                  obtain ⟨x, H, rfl, rfl, hx2, hgf, hH, hbw⟩ := hrel
                  have hH12 : H.size ≤ 12 := by omega
                  by_cases hx : 0 < x
                  · have k1 : (0 : Int) < (x : Int) := by omega
                    have hsz : H.size + 1 + m ≤ 11 := by
                      have h1 : 10 ^ H.size < 10 ^ (11 - m) := by
                        refine Nat.lt_of_le_of_lt ?_ hvz
                        have := Nat.mul_le_mul_right (10 ^ H.size) hx
                        have := hH.1
                        omega
                      have := (Nat.pow_lt_pow_iff_right (a := 10) (by omega)).1 h1
                      omega
                    obtain ⟨g', rfl⟩ : ∃ g', gk = g' + 1 := ⟨gk - 1, by omega⟩
                    obtain ⟨d, hd⟩ : ∃ d, x % 10 = d := ⟨_, rfl⟩
                    obtain ⟨q, hq⟩ : ∃ q, x / 10 = q := ⟨_, rfl⟩
                    have hd10 : d < 10 := by omega
                    have hq2 : q < 1000000000000 := by omega
                    have e1 : (x : Int).tmod 10 = (d : Int) := by rw [Int.tmod_eq_emod_of_nonneg (by omega)]; omega
                    have e2 : (x : Int).tdiv 10 = (q : Int) := by rw [Int.tdiv_eq_ediv_of_nonneg (by omega)]; omega
                    have e4 : IntKind.u64.wrap (q : Int) = (q : Int) := by rw [IntKind.wrap_u64]; omega
                    have e3 := text_one wr d hd10
                    obtain ⟨C, hC⟩ : ∃ C, (⟨#[UInt8.ofNat (48 + d)]⟩ : ByteArray) = C := ⟨_, rfl⟩
                    have hc1 : C.size = 1 := by rw [← hC]; rfl
                    rw [hC] at e3
                    have HR : Hid ((wl (dl (C ++ H)) + q * 10 ^ (C ++ H).size = 0 ∧ AllD (dl (C ++ H)) ∧ (q = 0 → 1 ≤ (C ++ H).size ∧ ((C ++ H).size = 1 ∨ bt (C ++ H) 0 ≠ 48)) ∧ (C ++ H).size + m ≤ 12) ∧ (C ++ H).size = H.size + 1) := hidb (by
                      have hcs : (C ++ H).size = H.size + 1 := by rw [ByteArray.size_append, hc1]; omega
                      rw [hcs]
                      refine ⟨⟨?_, ?_, ?_, by omega⟩, rfl⟩
                      · rw [dl_append, ← hC, ← hH.1]
                        exact digit_carry (dl H) x d q hd hq
                      · intro c hc
                        rw [dl_append, ← hC] at hc
                        rcases List.mem_append.1 hc with h | h
                        · cases List.mem_singleton.1 h; exact dig_mk d hd10
                        · exact hH.2.1 c h
                      · intro hq0
                        refine ⟨by omega, .inr ?_⟩
                        rw [bt_append _ _ _ (by omega), if_pos (by omega), ← hC]
                        show (UInt8.ofNat (48 + d)).toNat ≠ 48
                        rw [show (UInt8.ofNat (48 + d)).toNat = 48 + d by simp; omega]
                        omega)
                    have HB := hidb hbw
                    clear hd hq hH hbw hC
                    go_wp2_with fail
                    go_roundg g'
                    case measure => omega
                    case rel => exact ⟨q, C ++ H, rfl, rfl, hq2, by rw [HR.out.2]; omega, HR.out.1, HB.out.alloc HB.out.size _⟩
                  · have k1 : ¬ (0 : Int) < (x : Int) := by omega
                    obtain rfl : x = 0 := by omega
                    obtain ⟨hH1, hH2, hH3, hH4⟩ := hH
                    obtain ⟨hH5, hH6⟩ := hH3 rfl
                    obtain ⟨R, hR⟩ : ∃ R, (H ++ ⟨#[46]⟩) ++ S = R := ⟨_, rfl⟩
                    have hRt : allT R = .inl [⟨4, ⟨#[]⟩, 0, fq V (m + 1), 0⟩, ⟨8, ⟨#[]⟩, 0, 0, H.size + 1 + (m + 1)⟩] := by
                      rw [← hR]
                      refine dec_src H S V m hm hH5 hH4 HSs.out hH2 HSd.out hH6 ?_
                      rw [HSw.out, show wl (dl H) = 0 by simpa using hH1, HV0.out.1]
                      exact Nat.div_add_mod' V (10 ^ (m + 1))
                    have cB := fun W h => Tokens_any R W h
                    obtain ⟨L, hL, hL2, hL0, hL3⟩ : ∃ L : List Tk, allT R = .inl L ∧ L.length = 2 ∧ (tkCells L)[0]? = some (.int .i64 4) ∧ (tkCells L)[3]? = some (.float .f64 (fq V (m + 1))) := ⟨_, hRt, rfl, rfl, rfl⟩
                    rw [hL] at cB
                    have HB := hidb hbw
                    have hself : FloatKind.f64.format.order (fq V (m + 1)) (fq V (m + 1)) = some .eq := fq_self V (m + 1) (by omega) (by omega)
                    have hmul := fun t w => run_float_arith (P := Tryd.prog) w .mul t .f64 T 4621819117588971520 (p10 (m + 1)) (by rw [hT8.out]; exact p10_step m (by omega))
                    have hquo := fun t w => run_float_arith (P := Tryd.prog) w .quo t .f64 (floatOfInt .f64 (V : Int)) (p10 (m + 1)) (fq V (m + 1)) (fq_some V (m + 1) (by omega) (by omega))
                    generalize fq V (m + 1) = Z at hself hquo hL3
                    clear hRt hH1 hH2 hH3 hH6 hbw hL
                    go_wp2_with fail
                    refine (cB _ (hT.but (But.of_below (S := fun _ => False) (HB3.out.trans (HB.out.mono HB3.out.size))) (fun _ e => e.elim))).mono ?_
                    rintro e w4 ⟨hTP, hb4⟩
                    rcases hTP with ⟨l, V', hl, rfl, how⟩ | ⟨er, p, hl, _⟩
                    case inr => cases hl
                    obtain rfl : L = l := Sum.inl.inj hl
                    obtain ⟨g, cap, rfl, hg, hcap, hce⟩ := own_cell how (by omega)
                    have x0 := hce 0 _ hL0
                    have x3 := hce 3 _ hL3
                    have hD4 := HD2.out.keep HB.out
                    have hne : ¬ g = w2.heap.size := by have := hD4.lt; omega
                    obtain ⟨q0, q1, qf0, qf1, qlt⟩ := hD4.keep hb4
                    have HB4 := hidb ((HB3.out.trans (HB.out.mono HB3.out.size)).trans (hb4.mono (Nat.le_trans HB3.out.size HB.out.size)))
                    rw [hL2]
                    clear hce how hb4 hD4 hl hg hcap cB hL0 hL3
                    go_wp2_with fail
                    go_ret
                    exact ⟨rfl, (HB4.out.setCell (p := ⟨w2.heap.size, 0, none⟩) HB2.out.size _).setCell (p := ⟨w2.heap.size, 1, none⟩) HB2.out.size _⟩
      · have hs := fun t w => sub_fin t U hfin w
        have ho : (FloatKind.f64.format.order 0 0) = some .eq := Flt.order_zero_zero
        have huu : ((U : Int) != u) = false := by rw [hU.out]; simp
        simp only [hfin, if_true] at cA
        obtain ⟨L, hL, hL2, hL0, hL3⟩ : ∃ L : List Tk, [(⟨4, ⟨#[]⟩, 0, U, 0⟩ : Tk), ⟨8, ⟨#[]⟩, 0, 0, 17⟩] = L ∧ L.length = 2 ∧ (tkCells L)[0]? = some (.int .i64 4) ∧ (tkCells L)[3]? = some (.float .f64 U) := ⟨_, rfl, rfl, rfl, rfl⟩
        rw [hL] at cA
        clear hL
        go_wp2_with fail
        refine (cA _ (hT.but (But.of_below (S := fun _ => False) HB.out) (fun _ e => e.elim))).mono ?_
        rintro e w2 ⟨hTP, hb2⟩
        have HB2 := hidb (HB.out.trans (hb2.mono HB.out.size))
        rcases hTP with ⟨l, V', hl, rfl, how⟩ | ⟨er, p, hl, _⟩
        case inr => cases hl
        obtain rfl : L = l := Sum.inl.inj hl
        obtain ⟨g0, cap0, rfl, hg, hcap, hce⟩ := own_cell how (by omega)
        have x0 := hce 0 _ hL0
        have x3 := hce 3 _ hL3
        have hgl : g0 < w2.heap.size := cell_lt x0
        rw [hL2]
        clear hb2 hl cA hce how hg hcap hL0 hL3 hL2
        by_cases hneg : r < 0
        · obtain ⟨m, rfl⟩ : ∃ m : Nat, r = -(m : Int) := ⟨(-r).toNat, by omega⟩
          have hm : m ≤ 11 := by omega
          have hm0 : 0 < m := by omega
          go_wp2_with fail
          have hD2 : Duo (w2.alloc (Obj.cells #[Value.int IntKind.i64 0, Value.int IntKind.i64 0] 26)) w2.heap.size (.int .i64 0) (.int .i64 0) := Duo.new w2 _ _ _
          have hB3 : Below w.heap.size w (w2.alloc (Obj.cells #[Value.int IntKind.i64 0, Value.int IntKind.i64 0] 26)) := HB2.out.alloc HB2.out.size _
          generalize w2.alloc (Obj.cells #[Value.int IntKind.i64 0, Value.int IntKind.i64 0] 26) = W2 at hD2 hB3 ⊢
          have HD2 := hidb hD2
          have HB3 := hidb hB3
          clear hD2 hB3
          go_loopg [13, 14, 15, 16] 12 (fun gf s13 s14 s15 s16 wx => ∃ (j v T : Nat) (S : ByteArray), s16 = .int .i64 (j : Int) ∧ s14 = .int .u64 (v : Int) ∧ s15 = .float .f64 T ∧ s13 = .string S ∧ j ≤ m + 1 ∧ m + 1 - j ≤ gf ∧ v = V / 10 ^ j ∧ T = p10 (min j m) ∧ S.size = j ∧ AllD (dl S) ∧ wl (dl S) = V % 10 ^ j ∧ Below W2.heap.size W2 wx)
          case atStart => exact ⟨0, V, 4607182418800017408, ⟨#[]⟩, by simp, rfl, rfl, rfl, by omega, by omega, by simp, by rw [Nat.zero_min]; rfl, rfl, fun c hc => (nomatch (show c ∈ ([] : List UInt8) from hc)), by rw [Nat.pow_zero, Nat.mod_one]; rfl, Below.refl _ _⟩
          case round =>
            obtain ⟨j, v, T, S, rfl, rfl, rfl, rfl, hj, hgf, hv, hT9, hSs, hSd, hSw, hbw⟩ := hrel
            have hv2 : v < 1000000000000 := by rw [hv]; exact Nat.lt_of_le_of_lt (Nat.div_le_self _ _) hV2
            by_cases hlt : j ≤ m
            · obtain ⟨g', rfl⟩ : ∃ g', gk = g' + 1 := ⟨gk - 1, by omega⟩
              have j1 : (j : Int) ≤ (m : Int) := by omega
              obtain ⟨d, hd⟩ : ∃ d, v % 10 = d := ⟨_, rfl⟩
              obtain ⟨q, hq⟩ : ∃ q, v / 10 = q := ⟨_, rfl⟩
              have hd10 : d < 10 := by omega
              have hq2 : q < 1000000000000 := by omega
              have e1 : (v : Int).tmod 10 = (d : Int) := by rw [Int.tmod_eq_emod_of_nonneg (by omega)]; omega
              have e2 : (v : Int).tdiv 10 = (q : Int) := by rw [Int.tdiv_eq_ediv_of_nonneg (by omega)]; omega
              have e4 : IntKind.u64.wrap (q : Int) = (q : Int) := by rw [IntKind.wrap_u64]; omega
              have e3 := text_one wr d hd10
              have HS := hidb (And.intro (wl_step V j (dl S) hSs hSw d (by rw [← hv]; exact hd)) (show V / 10 ^ (j + 1) = q by rw [Nat.pow_succ, ← Nat.div_div_eq_div_mul, ← hv]; exact hq))
              have HSd := hidb hSd
              have HSs := hidb hSs
              have HB := hidb hbw
              have hT8 := hidb hT9
              have hs12 : S.size ≤ 12 := by omega
              obtain ⟨C, hC⟩ : ∃ C, (⟨#[UInt8.ofNat (48 + d)]⟩ : ByteArray) = C := ⟨_, rfl⟩
              have hc1 : C.size = 1 := by rw [← hC]; rfl
              rw [hC] at e3
              have HC := hidb hC
              have HR : Hid (AllD (dl (C ++ S)) ∧ wl (dl (C ++ S)) = V % 10 ^ (j + 1) ∧ (C ++ S).size = j + 1) := hidb ⟨fun c hc => by
                rw [dl_append, ← hC] at hc
                rcases List.mem_append.1 hc with h | h
                · cases List.mem_singleton.1 h; exact dig_mk d hd10
                · exact hSd c h, by rw [dl_append, ← hC]; exact HS.out.1, by rw [ByteArray.size_append, hc1, hSs]; omega⟩
              clear hd hq hv hSw hSd hSs hbw hT9 hC
              by_cases hjm : j < m
              · have j2 : (j : Int) < (m : Int) := by omega
                have hmul := fun t w => run_float_arith (P := Tryd.prog) w .mul t .f64 T 4621819117588971520 (p10 (j + 1)) (by rw [hT8.out, show min j m = j by omega]; exact p10_step j (by omega))
                go_wp2_with fail
                go_roundg g'
                case measure => omega
                case rel => exact ⟨j + 1, q, p10 (j + 1), C ++ S, by simp, rfl, rfl, rfl, by omega, by omega, HS.out.2.symm, by rw [show min (j + 1) m = j + 1 by omega], HR.out.2.2, HR.out.1, HR.out.2.1, HB.out.alloc HB.out.size _⟩
              · have j2 : ¬ (j : Int) < (m : Int) := by omega
                go_wp2_with fail
                go_roundg g'
                case measure => omega
                case rel => exact ⟨j + 1, q, T, C ++ S, by simp, rfl, rfl, rfl, by omega, by omega, HS.out.2.symm, by rw [hT8.out, show min (j + 1) m = m by omega, show min j m = m by omega], HR.out.2.2, HR.out.1, HR.out.2.1, HB.out.alloc HB.out.size _⟩
            · obtain rfl : j = m + 1 := by omega
              have j1 : ¬ ((m + 1 : Nat) : Int) ≤ (m : Int) := by omega
              have HSd := hidb hSd
              have HSw := hidb hSw
              have HSs := hidb hSs
              have HB := hidb hbw
              have hT8 : Hid (T = p10 m) := hidb (by rw [hT9, show min (m + 1) m = m by omega])
              have hs12 : S.size ≤ 12 := by omega
              have HV0 : Hid (v = V / 10 ^ (m + 1) ∧ v < 10 ^ (11 - m)) := hidb ⟨hv, by
                rw [hv]
                refine Nat.div_lt_of_lt_mul ?_
                rw [← Nat.pow_add, show m + 1 + (11 - m) = 12 by omega]
                exact hV2⟩
              clear hv hT9 hSs hSd hSw hbw hgf hj hlt
              have hvz : v < 10 ^ (11 - m) := HV0.out.2
              by_cases hv0 : 0 < v
              · have k0 : (0 : Int) < (v : Int) := by omega
                go_wp2_with fail
                go_loopg [14, 17] 12 (fun gf s14 s17 wx => ∃ (x : Nat) (H : ByteArray), s14 = .int .u64 (x : Int) ∧ s17 = .string H ∧ x < 1000000000000 ∧ 12 - H.size ≤ gf ∧ (wl (dl H) + x * 10 ^ H.size = v ∧ AllD (dl H) ∧ (x = 0 → 1 ≤ H.size ∧ (H.size = 1 ∨ bt H 0 ≠ 48)) ∧ H.size + m ≤ 12) ∧ Below W2.heap.size W2 wx)
                case atStart => exact ⟨v, ⟨#[]⟩, by first | rfl | simp, rfl, by omega, by omega, ⟨by show wl [] + v * 10 ^ 0 = v; simp [wl], fun c hc => (nomatch (show c ∈ ([] : List UInt8) from hc)), fun h => absurd h (by omega), by show 0 + m ≤ 12; omega⟩, HB.out⟩
                case round =>
                  obtain ⟨x, H, rfl, rfl, hx2, hgf, hH, hbw⟩ := hrel
                  have hH12 : H.size ≤ 12 := by omega
                  by_cases hx : 0 < x
                  · have k1 : (0 : Int) < (x : Int) := by omega
                    have hsz : H.size + 1 + m ≤ 11 := by
                      have h1 : 10 ^ H.size < 10 ^ (11 - m) := by
                        refine Nat.lt_of_le_of_lt ?_ hvz
                        have := Nat.mul_le_mul_right (10 ^ H.size) hx
                        have := hH.1
                        omega
                      have := (Nat.pow_lt_pow_iff_right (a := 10) (by omega)).1 h1
                      omega
                    obtain ⟨g', rfl⟩ : ∃ g', gk = g' + 1 := ⟨gk - 1, by omega⟩
                    obtain ⟨d, hd⟩ : ∃ d, x % 10 = d := ⟨_, rfl⟩
                    obtain ⟨q, hq⟩ : ∃ q, x / 10 = q := ⟨_, rfl⟩
                    have hd10 : d < 10 := by omega
                    have hq2 : q < 1000000000000 := by omega
                    have e1 : (x : Int).tmod 10 = (d : Int) := by rw [Int.tmod_eq_emod_of_nonneg (by omega)]; omega
                    have e2 : (x : Int).tdiv 10 = (q : Int) := by rw [Int.tdiv_eq_ediv_of_nonneg (by omega)]; omega
                    have e4 : IntKind.u64.wrap (q : Int) = (q : Int) := by rw [IntKind.wrap_u64]; omega
                    have e3 := text_one wr d hd10
                    obtain ⟨C, hC⟩ : ∃ C, (⟨#[UInt8.ofNat (48 + d)]⟩ : ByteArray) = C := ⟨_, rfl⟩
                    have hc1 : C.size = 1 := by rw [← hC]; rfl
                    rw [hC] at e3
                    have HR : Hid ((wl (dl (C ++ H)) + q * 10 ^ (C ++ H).size = v ∧ AllD (dl (C ++ H)) ∧ (q = 0 → 1 ≤ (C ++ H).size ∧ ((C ++ H).size = 1 ∨ bt (C ++ H) 0 ≠ 48)) ∧ (C ++ H).size + m ≤ 12) ∧ (C ++ H).size = H.size + 1) := hidb (by
                      have hcs : (C ++ H).size = H.size + 1 := by rw [ByteArray.size_append, hc1]; omega
                      rw [hcs]
                      refine ⟨⟨?_, ?_, ?_, by omega⟩, rfl⟩
                      · rw [dl_append, ← hC, ← hH.1]
                        exact digit_carry (dl H) x d q hd hq
                      · intro c hc
                        rw [dl_append, ← hC] at hc
                        rcases List.mem_append.1 hc with h | h
                        · cases List.mem_singleton.1 h; exact dig_mk d hd10
                        · exact hH.2.1 c h
                      · intro hq0
                        refine ⟨by omega, .inr ?_⟩
                        rw [bt_append _ _ _ (by omega), if_pos (by omega), ← hC]
                        show (UInt8.ofNat (48 + d)).toNat ≠ 48
                        rw [show (UInt8.ofNat (48 + d)).toNat = 48 + d by simp; omega]
                        omega)
                    have HB := hidb hbw
                    clear hd hq hH hbw hC
                    go_wp2_with fail
                    go_roundg g'
                    case measure => omega
                    case rel => exact ⟨q, C ++ H, rfl, rfl, hq2, by rw [HR.out.2]; omega, HR.out.1, HB.out.alloc HB.out.size _⟩
                  · have k1 : ¬ (0 : Int) < (x : Int) := by omega
                    obtain rfl : x = 0 := by omega
                    obtain ⟨hH1, hH2, hH3, hH4⟩ := hH
                    obtain ⟨hH5, hH6⟩ := hH3 rfl
                    obtain ⟨R, hR⟩ : ∃ R, (H ++ ⟨#[46]⟩) ++ S = R := ⟨_, rfl⟩
                    have hRt : allT R = .inl [⟨4, ⟨#[]⟩, 0, fq V (m + 1), 0⟩, ⟨8, ⟨#[]⟩, 0, 0, H.size + 1 + (m + 1)⟩] := by
                      rw [← hR]
                      refine dec_src H S V m hm hH5 hH4 HSs.out hH2 HSd.out hH6 ?_
                      rw [HSw.out, show wl (dl H) = v by simpa using hH1, HV0.out.1]
                      exact Nat.div_add_mod' V (10 ^ (m + 1))
                    have cB := fun W h => Tokens_any R W h
                    obtain ⟨L, hL, hL2, hL0, hL3⟩ : ∃ L : List Tk, allT R = .inl L ∧ L.length = 2 ∧ (tkCells L)[0]? = some (.int .i64 4) ∧ (tkCells L)[3]? = some (.float .f64 (fq V (m + 1))) := ⟨_, hRt, rfl, rfl, rfl⟩
                    rw [hL] at cB
                    have HB := hidb hbw
                    have hself : FloatKind.f64.format.order (fq V (m + 1)) (fq V (m + 1)) = some .eq := fq_self V (m + 1) (by omega) (by omega)
                    have hmul := fun t w => run_float_arith (P := Tryd.prog) w .mul t .f64 T 4621819117588971520 (p10 (m + 1)) (by rw [hT8.out]; exact p10_step m (by omega))
                    have hquo := fun t w => run_float_arith (P := Tryd.prog) w .quo t .f64 (floatOfInt .f64 (V : Int)) (p10 (m + 1)) (fq V (m + 1)) (fq_some V (m + 1) (by omega) (by omega))
                    generalize fq V (m + 1) = Z at hself hquo hL3
                    clear hRt hH1 hH2 hH3 hH6 hbw hL
                    go_wp2_with fail
                    refine (cB _ (hT.but (But.of_below (S := fun _ => False) (HB3.out.trans (HB.out.mono HB3.out.size))) (fun _ e => e.elim))).mono ?_
                    rintro e w4 ⟨hTP, hb4⟩
                    rcases hTP with ⟨l, V', hl, rfl, how⟩ | ⟨er, p, hl, _⟩
                    case inr => cases hl
                    obtain rfl : L = l := Sum.inl.inj hl
                    obtain ⟨g, cap, rfl, hg, hcap, hce⟩ := own_cell how (by omega)
                    have x0 := hce 0 _ hL0
                    have x3 := hce 3 _ hL3
                    have hD4 := HD2.out.keep HB.out
                    have hne : ¬ g = w2.heap.size := by have := hD4.lt; omega
                    obtain ⟨q0, q1, qf0, qf1, qlt⟩ := hD4.keep hb4
                    have HB4 := hidb ((HB3.out.trans (HB.out.mono HB3.out.size)).trans (hb4.mono (Nat.le_trans HB3.out.size HB.out.size)))
                    rw [hL2]
                    clear hce how hb4 hD4 hl hg hcap cB hL0 hL3
                    go_wp2_with fail
                    go_ret
                    exact ⟨rfl, (HB4.out.setCell (p := ⟨w2.heap.size, 0, none⟩) HB2.out.size _).setCell (p := ⟨w2.heap.size, 1, none⟩) HB2.out.size _⟩
              · have k0 : ¬ (0 : Int) < (v : Int) := by omega
                obtain rfl : v = 0 := by omega
                go_wp2_with fail
                go_loopg [14, 17] 12 (fun gf s14 s17 wx => ∃ (x : Nat) (H : ByteArray), s14 = .int .u64 (x : Int) ∧ s17 = .string H ∧ x < 1000000000000 ∧ 12 - H.size ≤ gf ∧ (wl (dl H) + x * 10 ^ H.size = 0 ∧ AllD (dl H) ∧ (x = 0 → 1 ≤ H.size ∧ (H.size = 1 ∨ bt H 0 ≠ 48)) ∧ H.size + m ≤ 12) ∧ Below W2.heap.size W2 wx)
                case atStart => exact ⟨0, ⟨#[48]⟩, by first | rfl | simp, rfl, by omega, by omega, ⟨by simp [dl, wl], fun c hc => by cases List.mem_singleton.1 (show c ∈ ([48] : List UInt8) from hc); rfl, fun _ => ⟨Nat.le_refl 1, .inl rfl⟩, by show 1 + m ≤ 12; omega⟩, HB.out⟩
                case round =>
                  obtain ⟨x, H, rfl, rfl, hx2, hgf, hH, hbw⟩ := hrel
                  have hH12 : H.size ≤ 12 := by omega
                  by_cases hx : 0 < x
                  · have k1 : (0 : Int) < (x : Int) := by omega
                    have hsz : H.size + 1 + m ≤ 11 := by
                      have h1 : 10 ^ H.size < 10 ^ (11 - m) := by
                        refine Nat.lt_of_le_of_lt ?_ hvz
                        have := Nat.mul_le_mul_right (10 ^ H.size) hx
                        have := hH.1
                        omega
                      have := (Nat.pow_lt_pow_iff_right (a := 10) (by omega)).1 h1
                      omega
                    obtain ⟨g', rfl⟩ : ∃ g', gk = g' + 1 := ⟨gk - 1, by omega⟩
                    obtain ⟨d, hd⟩ : ∃ d, x % 10 = d := ⟨_, rfl⟩
                    obtain ⟨q, hq⟩ : ∃ q, x / 10 = q := ⟨_, rfl⟩
                    have hd10 : d < 10 := by omega
                    have hq2 : q < 1000000000000 := by omega
                    have e1 : (x : Int).tmod 10 = (d : Int) := by rw [Int.tmod_eq_emod_of_nonneg (by omega)]; omega
                    have e2 : (x : Int).tdiv 10 = (q : Int) := by rw [Int.tdiv_eq_ediv_of_nonneg (by omega)]; omega
                    have e4 : IntKind.u64.wrap (q : Int) = (q : Int) := by rw [IntKind.wrap_u64]; omega
                    have e3 := text_one wr d hd10
                    obtain ⟨C, hC⟩ : ∃ C, (⟨#[UInt8.ofNat (48 + d)]⟩ : ByteArray) = C := ⟨_, rfl⟩
                    have hc1 : C.size = 1 := by rw [← hC]; rfl
                    rw [hC] at e3
                    have HR : Hid ((wl (dl (C ++ H)) + q * 10 ^ (C ++ H).size = 0 ∧ AllD (dl (C ++ H)) ∧ (q = 0 → 1 ≤ (C ++ H).size ∧ ((C ++ H).size = 1 ∨ bt (C ++ H) 0 ≠ 48)) ∧ (C ++ H).size + m ≤ 12) ∧ (C ++ H).size = H.size + 1) := hidb (by
                      have hcs : (C ++ H).size = H.size + 1 := by rw [ByteArray.size_append, hc1]; omega
                      rw [hcs]
                      refine ⟨⟨?_, ?_, ?_, by omega⟩, rfl⟩
                      · rw [dl_append, ← hC, ← hH.1]
                        exact digit_carry (dl H) x d q hd hq
                      · intro c hc
                        rw [dl_append, ← hC] at hc
                        rcases List.mem_append.1 hc with h | h
                        · cases List.mem_singleton.1 h; exact dig_mk d hd10
                        · exact hH.2.1 c h
                      · intro hq0
                        refine ⟨by omega, .inr ?_⟩
                        rw [bt_append _ _ _ (by omega), if_pos (by omega), ← hC]
                        show (UInt8.ofNat (48 + d)).toNat ≠ 48
                        rw [show (UInt8.ofNat (48 + d)).toNat = 48 + d by simp; omega]
                        omega)
                    have HB := hidb hbw
                    clear hd hq hH hbw hC
                    go_wp2_with fail
                    go_roundg g'
                    case measure => omega
                    case rel => exact ⟨q, C ++ H, rfl, rfl, hq2, by rw [HR.out.2]; omega, HR.out.1, HB.out.alloc HB.out.size _⟩
                  · have k1 : ¬ (0 : Int) < (x : Int) := by omega
                    obtain rfl : x = 0 := by omega
                    obtain ⟨hH1, hH2, hH3, hH4⟩ := hH
                    obtain ⟨hH5, hH6⟩ := hH3 rfl
                    obtain ⟨R, hR⟩ : ∃ R, (H ++ ⟨#[46]⟩) ++ S = R := ⟨_, rfl⟩
                    have hRt : allT R = .inl [⟨4, ⟨#[]⟩, 0, fq V (m + 1), 0⟩, ⟨8, ⟨#[]⟩, 0, 0, H.size + 1 + (m + 1)⟩] := by
                      rw [← hR]
                      refine dec_src H S V m hm hH5 hH4 HSs.out hH2 HSd.out hH6 ?_
                      rw [HSw.out, show wl (dl H) = 0 by simpa using hH1, HV0.out.1]
                      exact Nat.div_add_mod' V (10 ^ (m + 1))
                    have cB := fun W h => Tokens_any R W h
                    obtain ⟨L, hL, hL2, hL0, hL3⟩ : ∃ L : List Tk, allT R = .inl L ∧ L.length = 2 ∧ (tkCells L)[0]? = some (.int .i64 4) ∧ (tkCells L)[3]? = some (.float .f64 (fq V (m + 1))) := ⟨_, hRt, rfl, rfl, rfl⟩
                    rw [hL] at cB
                    have HB := hidb hbw
                    have hself : FloatKind.f64.format.order (fq V (m + 1)) (fq V (m + 1)) = some .eq := fq_self V (m + 1) (by omega) (by omega)
                    have hmul := fun t w => run_float_arith (P := Tryd.prog) w .mul t .f64 T 4621819117588971520 (p10 (m + 1)) (by rw [hT8.out]; exact p10_step m (by omega))
                    have hquo := fun t w => run_float_arith (P := Tryd.prog) w .quo t .f64 (floatOfInt .f64 (V : Int)) (p10 (m + 1)) (fq V (m + 1)) (fq_some V (m + 1) (by omega) (by omega))
                    generalize fq V (m + 1) = Z at hself hquo hL3
                    clear hRt hH1 hH2 hH3 hH6 hbw hL
                    go_wp2_with fail
                    refine (cB _ (hT.but (But.of_below (S := fun _ => False) (HB3.out.trans (HB.out.mono HB3.out.size))) (fun _ e => e.elim))).mono ?_
                    rintro e w4 ⟨hTP, hb4⟩
                    rcases hTP with ⟨l, V', hl, rfl, how⟩ | ⟨er, p, hl, _⟩
                    case inr => cases hl
                    obtain rfl : L = l := Sum.inl.inj hl
                    obtain ⟨g, cap, rfl, hg, hcap, hce⟩ := own_cell how (by omega)
                    have x0 := hce 0 _ hL0
                    have x3 := hce 3 _ hL3
                    have hD4 := HD2.out.keep HB.out
                    have hne : ¬ g = w2.heap.size := by have := hD4.lt; omega
                    obtain ⟨q0, q1, qf0, qf1, qlt⟩ := hD4.keep hb4
                    have HB4 := hidb ((HB3.out.trans (HB.out.mono HB3.out.size)).trans (hb4.mono (Nat.le_trans HB3.out.size HB.out.size)))
                    rw [hL2]
                    clear hce how hb4 hD4 hl hg hcap cB hL0 hL3
                    go_wp2_with fail
                    go_ret
                    exact ⟨rfl, (HB4.out.setCell (p := ⟨w2.heap.size, 0, none⟩) HB2.out.size _).setCell (p := ⟨w2.heap.size, 1, none⟩) HB2.out.size _⟩
        · obtain ⟨m, rfl⟩ : ∃ m : Nat, r = (m : Int) := ⟨r.toNat, by omega⟩
          have hm : m ≤ 11 := by omega
          go_wp2_with fail
          have hD2 : Duo (w2.alloc (Obj.cells #[Value.int IntKind.i64 0, Value.int IntKind.i64 0] 26)) w2.heap.size (.int .i64 0) (.int .i64 0) := Duo.new w2 _ _ _
          have hB3 : Below w.heap.size w (w2.alloc (Obj.cells #[Value.int IntKind.i64 0, Value.int IntKind.i64 0] 26)) := HB2.out.alloc HB2.out.size _
          generalize w2.alloc (Obj.cells #[Value.int IntKind.i64 0, Value.int IntKind.i64 0] 26) = W2 at hD2 hB3 ⊢
          have HD2 := hidb hD2
          have HB3 := hidb hB3
          clear hD2 hB3
          go_loopg [13, 14, 15, 16] 12 (fun gf s13 s14 s15 s16 wx => ∃ (j v T : Nat) (S : ByteArray), s16 = .int .i64 (j : Int) ∧ s14 = .int .u64 (v : Int) ∧ s15 = .float .f64 T ∧ s13 = .string S ∧ j ≤ m + 1 ∧ m + 1 - j ≤ gf ∧ v = V / 10 ^ j ∧ T = p10 (min j m) ∧ S.size = j ∧ AllD (dl S) ∧ wl (dl S) = V % 10 ^ j ∧ Below W2.heap.size W2 wx)
          case atStart => exact ⟨0, V, 4607182418800017408, ⟨#[]⟩, by simp, rfl, rfl, rfl, by omega, by omega, by simp, by rw [Nat.zero_min]; rfl, rfl, fun c hc => (nomatch (show c ∈ ([] : List UInt8) from hc)), by rw [Nat.pow_zero, Nat.mod_one]; rfl, Below.refl _ _⟩
          case round =>
            obtain ⟨j, v, T, S, rfl, rfl, rfl, rfl, hj, hgf, hv, hT9, hSs, hSd, hSw, hbw⟩ := hrel
            have hv2 : v < 1000000000000 := by rw [hv]; exact Nat.lt_of_le_of_lt (Nat.div_le_self _ _) hV2
            by_cases hlt : j ≤ m
            · obtain ⟨g', rfl⟩ : ∃ g', gk = g' + 1 := ⟨gk - 1, by omega⟩
              have j1 : (j : Int) ≤ (m : Int) := by omega
              obtain ⟨d, hd⟩ : ∃ d, v % 10 = d := ⟨_, rfl⟩
              obtain ⟨q, hq⟩ : ∃ q, v / 10 = q := ⟨_, rfl⟩
              have hd10 : d < 10 := by omega
              have hq2 : q < 1000000000000 := by omega
              have e1 : (v : Int).tmod 10 = (d : Int) := by rw [Int.tmod_eq_emod_of_nonneg (by omega)]; omega
              have e2 : (v : Int).tdiv 10 = (q : Int) := by rw [Int.tdiv_eq_ediv_of_nonneg (by omega)]; omega
              have e4 : IntKind.u64.wrap (q : Int) = (q : Int) := by rw [IntKind.wrap_u64]; omega
              have e3 := text_one wr d hd10
              have HS := hidb (And.intro (wl_step V j (dl S) hSs hSw d (by rw [← hv]; exact hd)) (show V / 10 ^ (j + 1) = q by rw [Nat.pow_succ, ← Nat.div_div_eq_div_mul, ← hv]; exact hq))
              have HSd := hidb hSd
              have HSs := hidb hSs
              have HB := hidb hbw
              have hT8 := hidb hT9
              have hs12 : S.size ≤ 12 := by omega
              obtain ⟨C, hC⟩ : ∃ C, (⟨#[UInt8.ofNat (48 + d)]⟩ : ByteArray) = C := ⟨_, rfl⟩
              have hc1 : C.size = 1 := by rw [← hC]; rfl
              rw [hC] at e3
              have HC := hidb hC
              have HR : Hid (AllD (dl (C ++ S)) ∧ wl (dl (C ++ S)) = V % 10 ^ (j + 1) ∧ (C ++ S).size = j + 1) := hidb ⟨fun c hc => by
                rw [dl_append, ← hC] at hc
                rcases List.mem_append.1 hc with h | h
                · cases List.mem_singleton.1 h; exact dig_mk d hd10
                · exact hSd c h, by rw [dl_append, ← hC]; exact HS.out.1, by rw [ByteArray.size_append, hc1, hSs]; omega⟩
              clear hd hq hv hSw hSd hSs hbw hT9 hC
              by_cases hjm : j < m
              · have j2 : (j : Int) < (m : Int) := by omega
                have hmul := fun t w => run_float_arith (P := Tryd.prog) w .mul t .f64 T 4621819117588971520 (p10 (j + 1)) (by rw [hT8.out, show min j m = j by omega]; exact p10_step j (by omega))
                go_wp2_with fail
                go_roundg g'
                case measure => omega
                case rel => exact ⟨j + 1, q, p10 (j + 1), C ++ S, by simp, rfl, rfl, rfl, by omega, by omega, HS.out.2.symm, by rw [show min (j + 1) m = j + 1 by omega], HR.out.2.2, HR.out.1, HR.out.2.1, HB.out.alloc HB.out.size _⟩
              · have j2 : ¬ (j : Int) < (m : Int) := by omega
                go_wp2_with fail
                go_roundg g'
                case measure => omega
                case rel => exact ⟨j + 1, q, T, C ++ S, by simp, rfl, rfl, rfl, by omega, by omega, HS.out.2.symm, by rw [hT8.out, show min (j + 1) m = m by omega, show min j m = m by omega], HR.out.2.2, HR.out.1, HR.out.2.1, HB.out.alloc HB.out.size _⟩
            · obtain rfl : j = m + 1 := by omega
              have j1 : ¬ ((m + 1 : Nat) : Int) ≤ (m : Int) := by omega
              have HSd := hidb hSd
              have HSw := hidb hSw
              have HSs := hidb hSs
              have HB := hidb hbw
              have hT8 : Hid (T = p10 m) := hidb (by rw [hT9, show min (m + 1) m = m by omega])
              have hs12 : S.size ≤ 12 := by omega
              have HV0 : Hid (v = V / 10 ^ (m + 1) ∧ v < 10 ^ (11 - m)) := hidb ⟨hv, by
                rw [hv]
                refine Nat.div_lt_of_lt_mul ?_
                rw [← Nat.pow_add, show m + 1 + (11 - m) = 12 by omega]
                exact hV2⟩
              clear hv hT9 hSs hSd hSw hbw hgf hj hlt
              have hvz : v < 10 ^ (11 - m) := HV0.out.2
              by_cases hv0 : 0 < v
              · have k0 : (0 : Int) < (v : Int) := by omega
                go_wp2_with fail
                go_loopg [14, 17] 12 (fun gf s14 s17 wx => ∃ (x : Nat) (H : ByteArray), s14 = .int .u64 (x : Int) ∧ s17 = .string H ∧ x < 1000000000000 ∧ 12 - H.size ≤ gf ∧ (wl (dl H) + x * 10 ^ H.size = v ∧ AllD (dl H) ∧ (x = 0 → 1 ≤ H.size ∧ (H.size = 1 ∨ bt H 0 ≠ 48)) ∧ H.size + m ≤ 12) ∧ Below W2.heap.size W2 wx)
                case atStart => exact ⟨v, ⟨#[]⟩, by first | rfl | simp, rfl, by omega, by omega, ⟨by show wl [] + v * 10 ^ 0 = v; simp [wl], fun c hc => (nomatch (show c ∈ ([] : List UInt8) from hc)), fun h => absurd h (by omega), by show 0 + m ≤ 12; omega⟩, HB.out⟩
                case round =>
                  obtain ⟨x, H, rfl, rfl, hx2, hgf, hH, hbw⟩ := hrel
                  have hH12 : H.size ≤ 12 := by omega
                  by_cases hx : 0 < x
                  · have k1 : (0 : Int) < (x : Int) := by omega
                    have hsz : H.size + 1 + m ≤ 11 := by
                      have h1 : 10 ^ H.size < 10 ^ (11 - m) := by
                        refine Nat.lt_of_le_of_lt ?_ hvz
                        have := Nat.mul_le_mul_right (10 ^ H.size) hx
                        have := hH.1
                        omega
                      have := (Nat.pow_lt_pow_iff_right (a := 10) (by omega)).1 h1
                      omega
                    obtain ⟨g', rfl⟩ : ∃ g', gk = g' + 1 := ⟨gk - 1, by omega⟩
                    obtain ⟨d, hd⟩ : ∃ d, x % 10 = d := ⟨_, rfl⟩
                    obtain ⟨q, hq⟩ : ∃ q, x / 10 = q := ⟨_, rfl⟩
                    have hd10 : d < 10 := by omega
                    have hq2 : q < 1000000000000 := by omega
                    have e1 : (x : Int).tmod 10 = (d : Int) := by rw [Int.tmod_eq_emod_of_nonneg (by omega)]; omega
                    have e2 : (x : Int).tdiv 10 = (q : Int) := by rw [Int.tdiv_eq_ediv_of_nonneg (by omega)]; omega
                    have e4 : IntKind.u64.wrap (q : Int) = (q : Int) := by rw [IntKind.wrap_u64]; omega
                    have e3 := text_one wr d hd10
                    obtain ⟨C, hC⟩ : ∃ C, (⟨#[UInt8.ofNat (48 + d)]⟩ : ByteArray) = C := ⟨_, rfl⟩
                    have hc1 : C.size = 1 := by rw [← hC]; rfl
                    rw [hC] at e3
                    have HR : Hid ((wl (dl (C ++ H)) + q * 10 ^ (C ++ H).size = v ∧ AllD (dl (C ++ H)) ∧ (q = 0 → 1 ≤ (C ++ H).size ∧ ((C ++ H).size = 1 ∨ bt (C ++ H) 0 ≠ 48)) ∧ (C ++ H).size + m ≤ 12) ∧ (C ++ H).size = H.size + 1) := hidb (by
                      have hcs : (C ++ H).size = H.size + 1 := by rw [ByteArray.size_append, hc1]; omega
                      rw [hcs]
                      refine ⟨⟨?_, ?_, ?_, by omega⟩, rfl⟩
                      · rw [dl_append, ← hC, ← hH.1]
                        exact digit_carry (dl H) x d q hd hq
                      · intro c hc
                        rw [dl_append, ← hC] at hc
                        rcases List.mem_append.1 hc with h | h
                        · cases List.mem_singleton.1 h; exact dig_mk d hd10
                        · exact hH.2.1 c h
                      · intro hq0
                        refine ⟨by omega, .inr ?_⟩
                        rw [bt_append _ _ _ (by omega), if_pos (by omega), ← hC]
                        show (UInt8.ofNat (48 + d)).toNat ≠ 48
                        rw [show (UInt8.ofNat (48 + d)).toNat = 48 + d by simp; omega]
                        omega)
                    have HB := hidb hbw
                    clear hd hq hH hbw hC
                    go_wp2_with fail
                    go_roundg g'
                    case measure => omega
                    case rel => exact ⟨q, C ++ H, rfl, rfl, hq2, by rw [HR.out.2]; omega, HR.out.1, HB.out.alloc HB.out.size _⟩
                  · have k1 : ¬ (0 : Int) < (x : Int) := by omega
                    obtain rfl : x = 0 := by omega
                    obtain ⟨hH1, hH2, hH3, hH4⟩ := hH
                    obtain ⟨hH5, hH6⟩ := hH3 rfl
                    obtain ⟨R, hR⟩ : ∃ R, (H ++ ⟨#[46]⟩) ++ S = R := ⟨_, rfl⟩
                    have hRt : allT R = .inl [⟨4, ⟨#[]⟩, 0, fq V (m + 1), 0⟩, ⟨8, ⟨#[]⟩, 0, 0, H.size + 1 + (m + 1)⟩] := by
                      rw [← hR]
                      refine dec_src H S V m hm hH5 hH4 HSs.out hH2 HSd.out hH6 ?_
                      rw [HSw.out, show wl (dl H) = v by simpa using hH1, HV0.out.1]
                      exact Nat.div_add_mod' V (10 ^ (m + 1))
                    have cB := fun W h => Tokens_any R W h
                    obtain ⟨L, hL, hL2, hL0, hL3⟩ : ∃ L : List Tk, allT R = .inl L ∧ L.length = 2 ∧ (tkCells L)[0]? = some (.int .i64 4) ∧ (tkCells L)[3]? = some (.float .f64 (fq V (m + 1))) := ⟨_, hRt, rfl, rfl, rfl⟩
                    rw [hL] at cB
                    have HB := hidb hbw
                    have hself : FloatKind.f64.format.order (fq V (m + 1)) (fq V (m + 1)) = some .eq := fq_self V (m + 1) (by omega) (by omega)
                    have hmul := fun t w => run_float_arith (P := Tryd.prog) w .mul t .f64 T 4621819117588971520 (p10 (m + 1)) (by rw [hT8.out]; exact p10_step m (by omega))
                    have hquo := fun t w => run_float_arith (P := Tryd.prog) w .quo t .f64 (floatOfInt .f64 (V : Int)) (p10 (m + 1)) (fq V (m + 1)) (fq_some V (m + 1) (by omega) (by omega))
                    generalize fq V (m + 1) = Z at hself hquo hL3
                    clear hRt hH1 hH2 hH3 hH6 hbw hL
                    go_wp2_with fail
                    refine (cB _ (hT.but (But.of_below (S := fun _ => False) (HB3.out.trans (HB.out.mono HB3.out.size))) (fun _ e => e.elim))).mono ?_
                    rintro e w4 ⟨hTP, hb4⟩
                    rcases hTP with ⟨l, V', hl, rfl, how⟩ | ⟨er, p, hl, _⟩
                    case inr => cases hl
                    obtain rfl : L = l := Sum.inl.inj hl
                    obtain ⟨g, cap, rfl, hg, hcap, hce⟩ := own_cell how (by omega)
                    have x0 := hce 0 _ hL0
                    have x3 := hce 3 _ hL3
                    have hD4 := HD2.out.keep HB.out
                    have hne : ¬ g = w2.heap.size := by have := hD4.lt; omega
                    obtain ⟨q0, q1, qf0, qf1, qlt⟩ := hD4.keep hb4
                    have HB4 := hidb ((HB3.out.trans (HB.out.mono HB3.out.size)).trans (hb4.mono (Nat.le_trans HB3.out.size HB.out.size)))
                    rw [hL2]
                    clear hce how hb4 hD4 hl hg hcap cB hL0 hL3
                    go_wp2_with fail
                    go_ret
                    exact ⟨rfl, (HB4.out.setCell (p := ⟨w2.heap.size, 0, none⟩) HB2.out.size _).setCell (p := ⟨w2.heap.size, 1, none⟩) HB2.out.size _⟩
              · have k0 : ¬ (0 : Int) < (v : Int) := by omega
                obtain rfl : v = 0 := by omega
                go_wp2_with fail
                go_loopg [14, 17] 12 (fun gf s14 s17 wx => ∃ (x : Nat) (H : ByteArray), s14 = .int .u64 (x : Int) ∧ s17 = .string H ∧ x < 1000000000000 ∧ 12 - H.size ≤ gf ∧ (wl (dl H) + x * 10 ^ H.size = 0 ∧ AllD (dl H) ∧ (x = 0 → 1 ≤ H.size ∧ (H.size = 1 ∨ bt H 0 ≠ 48)) ∧ H.size + m ≤ 12) ∧ Below W2.heap.size W2 wx)
                case atStart => exact ⟨0, ⟨#[48]⟩, by first | rfl | simp, rfl, by omega, by omega, ⟨by simp [dl, wl], fun c hc => by cases List.mem_singleton.1 (show c ∈ ([48] : List UInt8) from hc); rfl, fun _ => ⟨Nat.le_refl 1, .inl rfl⟩, by show 1 + m ≤ 12; omega⟩, HB.out⟩
                case round =>
                  obtain ⟨x, H, rfl, rfl, hx2, hgf, hH, hbw⟩ := hrel
                  have hH12 : H.size ≤ 12 := by omega
                  by_cases hx : 0 < x
                  · have k1 : (0 : Int) < (x : Int) := by omega
                    have hsz : H.size + 1 + m ≤ 11 := by
                      have h1 : 10 ^ H.size < 10 ^ (11 - m) := by
                        refine Nat.lt_of_le_of_lt ?_ hvz
                        have := Nat.mul_le_mul_right (10 ^ H.size) hx
                        have := hH.1
                        omega
                      have := (Nat.pow_lt_pow_iff_right (a := 10) (by omega)).1 h1
                      omega
                    obtain ⟨g', rfl⟩ : ∃ g', gk = g' + 1 := ⟨gk - 1, by omega⟩
                    obtain ⟨d, hd⟩ : ∃ d, x % 10 = d := ⟨_, rfl⟩
                    obtain ⟨q, hq⟩ : ∃ q, x / 10 = q := ⟨_, rfl⟩
                    have hd10 : d < 10 := by omega
                    have hq2 : q < 1000000000000 := by omega
                    have e1 : (x : Int).tmod 10 = (d : Int) := by rw [Int.tmod_eq_emod_of_nonneg (by omega)]; omega
                    have e2 : (x : Int).tdiv 10 = (q : Int) := by rw [Int.tdiv_eq_ediv_of_nonneg (by omega)]; omega
                    have e4 : IntKind.u64.wrap (q : Int) = (q : Int) := by rw [IntKind.wrap_u64]; omega
                    have e3 := text_one wr d hd10
                    obtain ⟨C, hC⟩ : ∃ C, (⟨#[UInt8.ofNat (48 + d)]⟩ : ByteArray) = C := ⟨_, rfl⟩
                    have hc1 : C.size = 1 := by rw [← hC]; rfl
                    rw [hC] at e3
                    have HR : Hid ((wl (dl (C ++ H)) + q * 10 ^ (C ++ H).size = 0 ∧ AllD (dl (C ++ H)) ∧ (q = 0 → 1 ≤ (C ++ H).size ∧ ((C ++ H).size = 1 ∨ bt (C ++ H) 0 ≠ 48)) ∧ (C ++ H).size + m ≤ 12) ∧ (C ++ H).size = H.size + 1) := hidb (by
                      have hcs : (C ++ H).size = H.size + 1 := by rw [ByteArray.size_append, hc1]; omega
                      rw [hcs]
                      refine ⟨⟨?_, ?_, ?_, by omega⟩, rfl⟩
                      · rw [dl_append, ← hC, ← hH.1]
                        exact digit_carry (dl H) x d q hd hq
                      · intro c hc
                        rw [dl_append, ← hC] at hc
                        rcases List.mem_append.1 hc with h | h
                        · cases List.mem_singleton.1 h; exact dig_mk d hd10
                        · exact hH.2.1 c h
                      · intro hq0
                        refine ⟨by omega, .inr ?_⟩
                        rw [bt_append _ _ _ (by omega), if_pos (by omega), ← hC]
                        show (UInt8.ofNat (48 + d)).toNat ≠ 48
                        rw [show (UInt8.ofNat (48 + d)).toNat = 48 + d by simp; omega]
                        omega)
                    have HB := hidb hbw
                    clear hd hq hH hbw hC
                    go_wp2_with fail
                    go_roundg g'
                    case measure => omega
                    case rel => exact ⟨q, C ++ H, rfl, rfl, hq2, by rw [HR.out.2]; omega, HR.out.1, HB.out.alloc HB.out.size _⟩
                  · have k1 : ¬ (0 : Int) < (x : Int) := by omega
                    obtain rfl : x = 0 := by omega
                    obtain ⟨hH1, hH2, hH3, hH4⟩ := hH
                    obtain ⟨hH5, hH6⟩ := hH3 rfl
                    obtain ⟨R, hR⟩ : ∃ R, (H ++ ⟨#[46]⟩) ++ S = R := ⟨_, rfl⟩
                    have hRt : allT R = .inl [⟨4, ⟨#[]⟩, 0, fq V (m + 1), 0⟩, ⟨8, ⟨#[]⟩, 0, 0, H.size + 1 + (m + 1)⟩] := by
                      rw [← hR]
                      refine dec_src H S V m hm hH5 hH4 HSs.out hH2 HSd.out hH6 ?_
                      rw [HSw.out, show wl (dl H) = 0 by simpa using hH1, HV0.out.1]
                      exact Nat.div_add_mod' V (10 ^ (m + 1))
                    have cB := fun W h => Tokens_any R W h
                    obtain ⟨L, hL, hL2, hL0, hL3⟩ : ∃ L : List Tk, allT R = .inl L ∧ L.length = 2 ∧ (tkCells L)[0]? = some (.int .i64 4) ∧ (tkCells L)[3]? = some (.float .f64 (fq V (m + 1))) := ⟨_, hRt, rfl, rfl, rfl⟩
                    rw [hL] at cB
                    have HB := hidb hbw
                    have hself : FloatKind.f64.format.order (fq V (m + 1)) (fq V (m + 1)) = some .eq := fq_self V (m + 1) (by omega) (by omega)
                    have hmul := fun t w => run_float_arith (P := Tryd.prog) w .mul t .f64 T 4621819117588971520 (p10 (m + 1)) (by rw [hT8.out]; exact p10_step m (by omega))
                    have hquo := fun t w => run_float_arith (P := Tryd.prog) w .quo t .f64 (floatOfInt .f64 (V : Int)) (p10 (m + 1)) (fq V (m + 1)) (fq_some V (m + 1) (by omega) (by omega))
                    generalize fq V (m + 1) = Z at hself hquo hL3
                    clear hRt hH1 hH2 hH3 hH6 hbw hL
                    go_wp2_with fail
                    refine (cB _ (hT.but (But.of_below (S := fun _ => False) (HB3.out.trans (HB.out.mono HB3.out.size))) (fun _ e => e.elim))).mono ?_
                    rintro e w4 ⟨hTP, hb4⟩
                    rcases hTP with ⟨l, V', hl, rfl, how⟩ | ⟨er, p, hl, _⟩
                    case inr => cases hl
                    obtain rfl : L = l := Sum.inl.inj hl
                    obtain ⟨g, cap, rfl, hg, hcap, hce⟩ := own_cell how (by omega)
                    have x0 := hce 0 _ hL0
                    have x3 := hce 3 _ hL3
                    have hD4 := HD2.out.keep HB.out
                    have hne : ¬ g = w2.heap.size := by have := hD4.lt; omega
                    obtain ⟨q0, q1, qf0, qf1, qlt⟩ := hD4.keep hb4
                    have HB4 := hidb ((HB3.out.trans (HB.out.mono HB3.out.size)).trans (hb4.mono (Nat.le_trans HB3.out.size HB.out.size)))
                    rw [hL2]
                    clear hce how hb4 hD4 hl hg hcap cB hL0 hL3
                    go_wp2_with fail
                    go_ret
                    exact ⟨rfl, (HB4.out.setCell (p := ⟨w2.heap.size, 0, none⟩) HB2.out.size _).setCell (p := ⟨w2.heap.size, 1, none⟩) HB2.out.size _⟩
end Go.Proofs.YtecgddiohoeboaaDoor


