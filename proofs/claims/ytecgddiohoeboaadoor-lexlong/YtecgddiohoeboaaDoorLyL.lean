/- LexLong. -/
import Derived.Test.YtecgddiohoeboaaDoorLyC
import Derived.Lib.AppendStr
namespace Go.Proofs.YtecgddiohoeboaaDoor
open Go.RowKit Go.Lib
attribute [local go_sem] store_float f64bits
attribute [local go_sem ↓] Go.wp_at_zero Go.wp_at_succ

set_option maxHeartbeats 1000000 in
set_option maxRecDepth 100000 in
/-- The reference's tokens of any bytes. -/
theorem rTokens_any (s : ByteArray) (w : World) :
    Calls Tryd.prog 11 #[.string s] w fun e w' => TP w.heap.size (allT s) e w' ∧ Below w.heap.size w w' := by
  by_cases hl : 65536 < s.size
  · have h1 : (65536 : Int) < (s.size : Int) := by omega
    unfold allT
    rw [if_pos hl]
    go_enter Tryd.func11, Tryd.ntmps11
    go_wp2_with fail
    exact bodyPost_ret (v := .tuple #[.slice none 0 0, .agg #[.int .i64 3, .int .i64 0]]) (by simp [results, Tryd.results11, go_sem]) rfl ⟨.inr ⟨3, 0, rfl, rfl⟩, (Below.refl _ _).alloc (Nat.le_refl _) _⟩
  · exact rTokens_of s (rTok_all s (by omega)) w

/-- The first bytes of a row that is owned, as a string. -/
theorem text_cut {wr : World} {base g n cap : Nat} (l : List UInt8) (h : wr.ownsRow base 5 1 (.slice (some ⟨g, 0, none⟩) n cap) l.length (Lib.byteCells l)) (k : Nat) (hk : k ≤ l.length) :
    (convert 31 9 (.slice (some ⟨g, 0, none⟩) k cap)).run Tryd.prog wr = .ok (.string ⟨(l.take k).toArray⟩) wr := by
  obtain ⟨h1, ⟨h3, h2⟩ | ⟨g', cap', cur, he, hg, hh, hn, hc, hs, ht⟩⟩ := h
  · cases h3
  · cases he
    have hlk : (l.take k).length = k := by rw [List.length_take]; omega
    have := run_convert_bytes_back (P := Tryd.prog) wr 31 9 5 ⟨g, 0, none⟩ cap (l.take k) Tryd.underlying31 Tryd.underlying5 Tryd.underlying9 (fun j hj => by
      have ea : (⟨g, 0, none⟩ : Addr).add j = ⟨g, j, none⟩ := by
        unfold Addr.add
        split
        · rename_i h; subst h; rfl
        · simp
      rw [ea]
      rw [Nat.mul_one] at ht
      have hjl : j < l.length := by omega
      have hj2 : (cur.toList.take l.length)[j]? = some (Value.int .u8 (((l[j]).toNat : Nat) : Int)) := by
        rw [ht]; unfold Lib.byteCells; rw [List.getElem?_map, List.getElem?_eq_getElem hjl]; rfl
      rw [List.getElem?_take_of_lt hjl] at hj2
      unfold World.cell?
      simp only [hh]
      simpa using hj2)
    rw [hlk] at this
    exact this

set_option maxHeartbeats 4000000 in
set_option maxRecDepth 100000 in
theorem LexLong_walk (s : ByteArray) (n : Int) (w : World) (hT : LexTab w) : Calls Tryd.prog 4 #[.string s, .int .i64 n] w fun e w' => e = .returned (.bool true) ∧ Below w.heap.size w w' := by
  have cK := known_any w hT
  by_cases h0 : s.size = 0
  · have k0 : ((s.size : Int) == 0) = true := by simp [h0]
    go_enter Tryd.func4, Tryd.ntmps4
    go_wp2_with (first
      | (go_at_call 9; refine cK.mono ?_; rintro e w1 ⟨rfl, hb1⟩))
    go_ret
    exact ⟨rfl, hb1⟩
  have k0 : ((s.size : Int) == 0) = false := by rw [beq_eq_false_iff_ne]; omega
  by_cases hl : 100 < s.size
  · have h1 : (100 : Int) < (s.size : Int) := by omega
    go_enter Tryd.func4, Tryd.ntmps4
    go_wp2_with (first
      | (go_at_call 9; refine cK.mono ?_; rintro e w1 ⟨rfl, hb1⟩))
    go_ret
    exact ⟨rfl, hb1⟩
  have h1 : ¬ (100 : Int) < (s.size : Int) := by omega
  have hr1 : -3 ≤ n.tmod 4 ∧ n.tmod 4 ≤ 3 := by
    have := Int.tmod_lt_of_pos n (b := 4) (by decide)
    have := Int.lt_tmod_of_pos n (b := 4) (by decide)
    generalize n.tmod 4 = r at *
    omega
  obtain ⟨r, hr⟩ : ∃ r, n.tmod 4 = r := ⟨_, rfl⟩
  rw [hr] at hr1
  obtain ⟨i00, hi0, hz0, hz1, hz2⟩ := info_parts Tryd.Builder_Extra_169.infoByte
  by_cases hneg : r < 0
  · obtain ⟨m, rfl⟩ : ∃ m : Nat, r = -(m : Int) := ⟨(-r).toNat, by omega⟩
    have hm : m ≤ 3 := by omega
    have hm0 : 0 < m := by omega
    go_enter Tryd.func4, Tryd.ntmps4
    go_wp2_with (first
      | (go_at_call 9; refine cK.mono ?_; rintro e w1 ⟨rfl, hb1⟩; have HB1 := hidb hb1))
    go_loopg [6] 65537 (fun gf s6 wx => ∃ (acc : List UInt8) (ao : Option Addr) (cap : Nat), s6 = .slice ao acc.length cap ∧ acc.length ≤ 70000 ∧ 65537 - acc.length ≤ gf ∧ Below w.heap.size w wx ∧ wx.ownsRow w.heap.size 5 1 (.slice ao acc.length cap) acc.length (Lib.byteCells acc))
    case atStart => exact ⟨[], none, 0, rfl, by simp, by simp, HB1.out, ⟨rfl, .inl ⟨rfl, rfl⟩⟩⟩
    case round =>
      obtain ⟨acc, ao, cap, rfl, hal, hgf, hbw, how⟩ := hrel
      by_cases hlt : acc.length < 65534 + m
      · have j1 : (acc.length : Int) < 65534 + (m : Int) := by omega
        obtain ⟨g', rfl⟩ : ∃ g', gk = g' + 1 := ⟨gk - 1, by omega⟩
        go_wp2_with (at_builtin; refine wpList_append_own_string _ rfl _ _ 31 9 rfl w.heap.size 5 i00 Tryd.underlying31 Tryd.underlying9 hi0 hz0 hz1 hz2 _ _ _ rfl how s rfl ?e1 ?e2 ?e3 ?_)
        case e1 => unfold maxLen; omega
        case e2 => omega
        case e3 => exact hbw.size
        intro v' w3 hown' hgrow hnil
        have hb3 : Below w.heap.size wr w3 := (Below.refl w.heap.size wr).grown hgrow hbw.size (fun k hk => (how.lt k hk).1)
        rw [show Lib.byteCells acc ++ strCells s = Lib.byteCells (acc ++ s.data.toList) from (Lib.byteCells_append acc s.data.toList).symm] at hown'
        have HO := hidb hown'
        have HB := hidb (hbw.trans hb3)
        obtain ⟨ao', n', cap', rfl⟩ : ∃ ao n' cap, v' = .slice ao n' cap := hown'.2.elim (fun h => ⟨_, _, _, h.1⟩) fun ⟨_, _, _, hv, _⟩ => ⟨_, _, _, hv⟩
        obtain ⟨g9, cap9, hv9, _⟩ := hown'.form (by omega)
        cases hv9
        clear hown' hgrow hnil hb3
        go_wp2_with fail
        go_roundg g'
        case measure => omega
        case rel =>
          have hsz : s.data.toList.length = s.size := rfl
          exact ⟨acc ++ s.data.toList, _, _, by rw [List.length_append, hsz], by rw [List.length_append, hsz]; omega, by rw [List.length_append, hsz]; omega, HB.out, by rw [List.length_append, hsz]; exact HO.out⟩
      · have j1 : ¬ (acc.length : Int) < 65534 + (m : Int) := by omega
        obtain ⟨g9, cap9, hv9, hg9, hg10⟩ := how.form (by omega)
        cases hv9
        have hcap : acc.length ≤ cap := by
          obtain ⟨_, ⟨h3, _⟩ | ⟨g', cap', cur, he, _, _, hn', _⟩⟩ := how
          · cases h3
          · cases he; exact hn'
        have hcv := text_cut acc how (65534 + m) (by omega)
        have hsz : (⟨(acc.take (65534 + m)).toArray⟩ : ByteArray).size = 65534 + m := by
          show (acc.take (65534 + m)).length = _
          rw [List.length_take]; omega
        obtain ⟨X, hX⟩ : ∃ X, (⟨(acc.take (65534 + m)).toArray⟩ : ByteArray) = X := ⟨_, rfl⟩
        rw [hX] at hcv hsz
        clear hX
        have HB := hidb hbw
        have c1 : (0 : Int) ≤ 65534 + (m : Int) := by omega
        have c2 : (65534 : Int) + (m : Int) ≤ (cap : Int) := by omega
        have c3 : ((65534 : Int) + (m : Int)).toNat = 65534 + m := by omega
        clear how hgf hbw
        have hlen : ∀ l, allT X = .inl l → 0 < l.length ∧ l.length ≤ X.size + 1 := fun l h => by
          unfold allT at h
          split at h
          · cases h
          · exact toks_len X (X.size + 1) 0 [] l (Nat.zero_le _) (Nat.le_refl _) h
        have cA := fun W h => Tokens_any X W h
        have cB := fun W => rTokens_any X W
        obtain ⟨R, hR⟩ : ∃ R, allT X = R := ⟨_, rfl⟩
        rw [hR] at cA cB hlen
        clear hR
        go_wp2_with fail
        refine (cA _ (hT.but (But.of_below (S := fun _ => False) HB.out) (fun _ e => e.elim))).mono ?_
        rintro e w2 ⟨hTP, hb2⟩
        have HB2 := hidb (HB.out.trans (hb2.mono HB.out.size))
        rcases hTP with ⟨l, V, rfl, rfl, how⟩ | ⟨er, p, rfl, rfl⟩
        · obtain ⟨hl1, hl2⟩ := hlen l rfl
          obtain ⟨g, cap, rfl, hg, hcap, hce⟩ := own_cell how hl1
          clear hce hg hcap
          go_wp2_with fail
          refine (cB _).mono ?_
          rintro e w3 ⟨hTP3, hb3⟩
          rcases hTP3 with ⟨l3, V3, hl3, rfl, how3⟩ | ⟨er, p, hl3, _⟩
          case inr => cases hl3
          obtain rfl : l = l3 := Sum.inl.inj hl3
          obtain ⟨g3, cap3, rfl, hg3, hcap3, hce3⟩ := own_cell how3 hl1
          clear hce3 hg3 hcap3
          have OA := own_but (own_but (own_but (own_base how (Nat.zero_le _)) (But.of_below (S := fun _ => False) (below_new w2 (Obj.cells #[Value.int IntKind.i64 0, Value.int IntKind.i64 0] 26))) (fun _ _ h => h)) (But.of_below (S := fun _ => False) hb3) (fun _ _ h => h)) (But.of_below (S := fun _ => False) (below_new w3 (Obj.cells #[Value.int IntKind.i64 0, Value.int IntKind.i64 0] 26))) (fun _ _ h => h)
          have OB := own_but (own_base how3 (Nat.zero_le _)) (But.of_below (S := fun _ => False) (below_new w3 (Obj.cells #[Value.int IntKind.i64 0, Value.int IntKind.i64 0] 26))) (fun _ _ h => h)
          have cS := same_rows _ _ l 0 hl1 (by omega) _ OA OB
          obtain ⟨q0, q1, qf0, qf1, qlt⟩ := ((Duo.new w2 26 (.int .i64 0) (.int .i64 0)).keep hb3).keep (below_new w3 (Obj.cells #[Value.int IntKind.i64 0, Value.int IntKind.i64 0] 26))
          have HB3 := hidb (((HB2.out.alloc HB2.out.size (Obj.cells #[Value.int IntKind.i64 0, Value.int IntKind.i64 0] 26)).trans (hb3.mono (by have := HB2.out.size; simp; omega))))
          have hz3 := hb3.size
          clear OA OB how how3 hb3 hb2
          go_wp2_with (first
            | (go_at_call 12; refine cS.mono ?_; rintro e w4 ⟨rfl, hb4⟩))
          go_ret
          refine ⟨rfl, (HB3.out.alloc HB3.out.size _).trans (hb4.mono ?_)⟩
          have := HB3.out.size
          simp
          omega
        · go_wp2_with fail
          refine (cB _).mono ?_
          rintro e w3 ⟨hTP3, hb3⟩
          rcases hTP3 with ⟨l3, V3, hl3, _⟩ | ⟨er3, p3, hl3, rfl⟩
          case inl => cases hl3
          obtain ⟨rfl, rfl⟩ : er = er3 ∧ p = p3 := by have := Sum.inr.inj hl3; exact ⟨congrArg Prod.fst this, congrArg Prod.snd this⟩
          obtain ⟨q0, q1, qf0, qf1, qlt⟩ := ((Duo.new w2 26 (.int .i64 er) (.int .i64 (p : Int))).keep hb3).keep (below_new w3 (Obj.cells #[Value.int IntKind.i64 er, Value.int IntKind.i64 (p : Int)] 26))
          have HB3 := hidb (((HB2.out.alloc HB2.out.size (Obj.cells #[Value.int IntKind.i64 er, Value.int IntKind.i64 (p : Int)] 26)).trans (hb3.mono (by have := HB2.out.size; simp; omega))))
          clear hb3 hb2
          have k1 : (er == er) = true := by simp
          have k2 : ((p : Int) == (p : Int)) = true := by simp
          go_wp2_with (first
            | (go_at_call 12; refine (same_nil _).mono ?_; rintro e w4 ⟨rfl, hb4⟩))
          go_ret
          refine ⟨rfl, (HB3.out.alloc HB3.out.size _).trans (hb4.mono ?_)⟩
          have := HB3.out.size
          simp
          omega
  · obtain ⟨m, rfl⟩ : ∃ m : Nat, r = (m : Int) := ⟨r.toNat, by omega⟩
    have hm : m ≤ 3 := by omega
    go_enter Tryd.func4, Tryd.ntmps4
    go_wp2_with (first
      | (go_at_call 9; refine cK.mono ?_; rintro e w1 ⟨rfl, hb1⟩; have HB1 := hidb hb1))
    go_loopg [6] 65537 (fun gf s6 wx => ∃ (acc : List UInt8) (ao : Option Addr) (cap : Nat), s6 = .slice ao acc.length cap ∧ acc.length ≤ 70000 ∧ 65537 - acc.length ≤ gf ∧ Below w.heap.size w wx ∧ wx.ownsRow w.heap.size 5 1 (.slice ao acc.length cap) acc.length (Lib.byteCells acc))
    case atStart => exact ⟨[], none, 0, rfl, by simp, by simp, HB1.out, ⟨rfl, .inl ⟨rfl, rfl⟩⟩⟩
    case round =>
      obtain ⟨acc, ao, cap, rfl, hal, hgf, hbw, how⟩ := hrel
      by_cases hlt : acc.length < 65534 + m
      · have j1 : (acc.length : Int) < 65534 + (m : Int) := by omega
        obtain ⟨g', rfl⟩ : ∃ g', gk = g' + 1 := ⟨gk - 1, by omega⟩
        go_wp2_with (at_builtin; refine wpList_append_own_string _ rfl _ _ 31 9 rfl w.heap.size 5 i00 Tryd.underlying31 Tryd.underlying9 hi0 hz0 hz1 hz2 _ _ _ rfl how s rfl ?e1 ?e2 ?e3 ?_)
        case e1 => unfold maxLen; omega
        case e2 => omega
        case e3 => exact hbw.size
        intro v' w3 hown' hgrow hnil
        have hb3 : Below w.heap.size wr w3 := (Below.refl w.heap.size wr).grown hgrow hbw.size (fun k hk => (how.lt k hk).1)
        rw [show Lib.byteCells acc ++ strCells s = Lib.byteCells (acc ++ s.data.toList) from (Lib.byteCells_append acc s.data.toList).symm] at hown'
        have HO := hidb hown'
        have HB := hidb (hbw.trans hb3)
        obtain ⟨ao', n', cap', rfl⟩ : ∃ ao n' cap, v' = .slice ao n' cap := hown'.2.elim (fun h => ⟨_, _, _, h.1⟩) fun ⟨_, _, _, hv, _⟩ => ⟨_, _, _, hv⟩
        obtain ⟨g9, cap9, hv9, _⟩ := hown'.form (by omega)
        cases hv9
        clear hown' hgrow hnil hb3
        go_wp2_with fail
        go_roundg g'
        case measure => omega
        case rel =>
          have hsz : s.data.toList.length = s.size := rfl
          exact ⟨acc ++ s.data.toList, _, _, by rw [List.length_append, hsz], by rw [List.length_append, hsz]; omega, by rw [List.length_append, hsz]; omega, HB.out, by rw [List.length_append, hsz]; exact HO.out⟩
      · have j1 : ¬ (acc.length : Int) < 65534 + (m : Int) := by omega
        obtain ⟨g9, cap9, hv9, hg9, hg10⟩ := how.form (by omega)
        cases hv9
        have hcap : acc.length ≤ cap := by
          obtain ⟨_, ⟨h3, _⟩ | ⟨g', cap', cur, he, _, _, hn', _⟩⟩ := how
          · cases h3
          · cases he; exact hn'
        have hcv := text_cut acc how (65534 + m) (by omega)
        have hsz : (⟨(acc.take (65534 + m)).toArray⟩ : ByteArray).size = 65534 + m := by
          show (acc.take (65534 + m)).length = _
          rw [List.length_take]; omega
        obtain ⟨X, hX⟩ : ∃ X, (⟨(acc.take (65534 + m)).toArray⟩ : ByteArray) = X := ⟨_, rfl⟩
        rw [hX] at hcv hsz
        clear hX
        have HB := hidb hbw
        have c1 : (0 : Int) ≤ 65534 + (m : Int) := by omega
        have c2 : (65534 : Int) + (m : Int) ≤ (cap : Int) := by omega
        have c3 : ((65534 : Int) + (m : Int)).toNat = 65534 + m := by omega
        clear how hgf hbw
        have hlen : ∀ l, allT X = .inl l → 0 < l.length ∧ l.length ≤ X.size + 1 := fun l h => by
          unfold allT at h
          split at h
          · cases h
          · exact toks_len X (X.size + 1) 0 [] l (Nat.zero_le _) (Nat.le_refl _) h
        have cA := fun W h => Tokens_any X W h
        have cB := fun W => rTokens_any X W
        obtain ⟨R, hR⟩ : ∃ R, allT X = R := ⟨_, rfl⟩
        rw [hR] at cA cB hlen
        clear hR
        go_wp2_with fail
        refine (cA _ (hT.but (But.of_below (S := fun _ => False) HB.out) (fun _ e => e.elim))).mono ?_
        rintro e w2 ⟨hTP, hb2⟩
        have HB2 := hidb (HB.out.trans (hb2.mono HB.out.size))
        rcases hTP with ⟨l, V, rfl, rfl, how⟩ | ⟨er, p, rfl, rfl⟩
        · obtain ⟨hl1, hl2⟩ := hlen l rfl
          obtain ⟨g, cap, rfl, hg, hcap, hce⟩ := own_cell how hl1
          clear hce hg hcap
          go_wp2_with fail
          refine (cB _).mono ?_
          rintro e w3 ⟨hTP3, hb3⟩
          rcases hTP3 with ⟨l3, V3, hl3, rfl, how3⟩ | ⟨er, p, hl3, _⟩
          case inr => cases hl3
          obtain rfl : l = l3 := Sum.inl.inj hl3
          obtain ⟨g3, cap3, rfl, hg3, hcap3, hce3⟩ := own_cell how3 hl1
          clear hce3 hg3 hcap3
          have OA := own_but (own_but (own_but (own_base how (Nat.zero_le _)) (But.of_below (S := fun _ => False) (below_new w2 (Obj.cells #[Value.int IntKind.i64 0, Value.int IntKind.i64 0] 26))) (fun _ _ h => h)) (But.of_below (S := fun _ => False) hb3) (fun _ _ h => h)) (But.of_below (S := fun _ => False) (below_new w3 (Obj.cells #[Value.int IntKind.i64 0, Value.int IntKind.i64 0] 26))) (fun _ _ h => h)
          have OB := own_but (own_base how3 (Nat.zero_le _)) (But.of_below (S := fun _ => False) (below_new w3 (Obj.cells #[Value.int IntKind.i64 0, Value.int IntKind.i64 0] 26))) (fun _ _ h => h)
          have cS := same_rows _ _ l 0 hl1 (by omega) _ OA OB
          obtain ⟨q0, q1, qf0, qf1, qlt⟩ := ((Duo.new w2 26 (.int .i64 0) (.int .i64 0)).keep hb3).keep (below_new w3 (Obj.cells #[Value.int IntKind.i64 0, Value.int IntKind.i64 0] 26))
          have HB3 := hidb (((HB2.out.alloc HB2.out.size (Obj.cells #[Value.int IntKind.i64 0, Value.int IntKind.i64 0] 26)).trans (hb3.mono (by have := HB2.out.size; simp; omega))))
          have hz3 := hb3.size
          clear OA OB how how3 hb3 hb2
          go_wp2_with (first
            | (go_at_call 12; refine cS.mono ?_; rintro e w4 ⟨rfl, hb4⟩))
          go_ret
          refine ⟨rfl, (HB3.out.alloc HB3.out.size _).trans (hb4.mono ?_)⟩
          have := HB3.out.size
          simp
          omega
        · go_wp2_with fail
          refine (cB _).mono ?_
          rintro e w3 ⟨hTP3, hb3⟩
          rcases hTP3 with ⟨l3, V3, hl3, _⟩ | ⟨er3, p3, hl3, rfl⟩
          case inl => cases hl3
          obtain ⟨rfl, rfl⟩ : er = er3 ∧ p = p3 := by have := Sum.inr.inj hl3; exact ⟨congrArg Prod.fst this, congrArg Prod.snd this⟩
          obtain ⟨q0, q1, qf0, qf1, qlt⟩ := ((Duo.new w2 26 (.int .i64 er) (.int .i64 (p : Int))).keep hb3).keep (below_new w3 (Obj.cells #[Value.int IntKind.i64 er, Value.int IntKind.i64 (p : Int)] 26))
          have HB3 := hidb (((HB2.out.alloc HB2.out.size (Obj.cells #[Value.int IntKind.i64 er, Value.int IntKind.i64 (p : Int)] 26)).trans (hb3.mono (by have := HB2.out.size; simp; omega))))
          clear hb3 hb2
          have k1 : (er == er) = true := by simp
          have k2 : ((p : Int) == (p : Int)) = true := by simp
          go_wp2_with (first
            | (go_at_call 12; refine (same_nil _).mono ?_; rintro e w4 ⟨rfl, hb4⟩))
          go_ret
          refine ⟨rfl, (HB3.out.alloc HB3.out.size _).trans (hb4.mono ?_)⟩
          have := HB3.out.size
          simp
          omega
end Go.Proofs.YtecgddiohoeboaaDoor
