import Derived.Test.YtecgddiohoeboaaDoorLzF
import Derived.Test.YtecgddiohoeboaaDoorLzG
import Derived.Test.YtecgddiohoeboaaDoorG26
import Derived.Deep.RegionLaw
import Derived.Deep.RegionHeld3
/- LexAlone. -/
namespace Go.Proofs.YtecgddiohoeboaaDoor
open Go.RowKit Go.Lib
attribute [local go_sem] store_float f64bits f64frombits
attribute [local go_sem ↓] Go.wp_at_zero Go.wp_at_succ

theorem own_pre {w : World} {B e size g n cap : Nat} {xs : List Value} (h : w.ownsRow B e size (.slice (some ⟨g, 0, none⟩) n cap) n xs) (k : Nat) (hk : k ≤ n) : w.ownsRow B e size (.slice (some ⟨g, 0, none⟩) k cap) k (xs.take (k * size)) := by
  obtain ⟨h1, ⟨h3, _⟩ | ⟨g', cap', cur, he, hg, hh, hn, hc, hs, ht⟩⟩ := h
  · cases h3
  · cases he
    have hm : k * size ≤ n * size := Nat.mul_le_mul_right size hk
    refine ⟨by rw [List.length_take]; omega, .inr ⟨g, cap, cur, rfl, hg, hh, by omega, hc, hs, ?_⟩⟩
    rw [← ht, List.take_take, Nat.min_eq_left hm]

theorem own_new (w : World) (v0 v1 v2 v3 v4 : Value) : (w.alloc (.cells #[v0, v1, v2, v3, v4] TT)).ownsRow 0 TT 5 (.slice (some ⟨w.heap.size, 0, none⟩) 1 1) 1 [v0, v1, v2, v3, v4] :=
  ⟨rfl, .inr ⟨w.heap.size, 1, _, rfl, Nat.zero_le _, heap_alloc_new w _, Nat.le_refl _, by unfold maxLen; omega, rfl, rfl⟩⟩

set_option maxHeartbeats 4000000 in
set_option maxRecDepth 100000 in
theorem LexAlone_walk (s B : ByteArray) (w : World) (hT : LexTab w) : Calls Tryd.prog 6 #[.string s, .string B] w fun e w' => e = .returned (.bool true) ∧ Below w.heap.size w w' := by
  have cK := known_any w hT
  by_cases hl : 2000 < s.size
  · have h1 : (2000 : Int) < (s.size : Int) := by omega
    go_enter Tryd.func6, Tryd.ntmps6
    go_wp2_with (first
      | (go_at_call 9; refine cK.mono ?_; rintro e w1 ⟨rfl, hb1⟩))
    go_ret
    exact ⟨rfl, hb1⟩
  have h1 : ¬ (2000 : Int) < (s.size : Int) := by omega
  by_cases hl2 : 20 < B.size
  · have h2 : (20 : Int) < (B.size : Int) := by omega
    go_enter Tryd.func6, Tryd.ntmps6
    go_wp2_with (first
      | (go_at_call 9; refine cK.mono ?_; rintro e w1 ⟨rfl, hb1⟩))
    go_ret
    exact ⟨rfl, hb1⟩
  have h2 : ¬ (20 : Int) < (B.size : Int) := by omega
  go_enter Tryd.func6, Tryd.ntmps6
  go_wp2_with (first
      | (go_at_call 9; refine cK.mono ?_; rintro e w1 ⟨rfl, hb1⟩; have HB1 := hidb hb1))
  go_loopg [5] B.size (fun gf s5 wx => ∃ j : Nat, s5 = .int .i64 (j : Int) ∧ j ≤ B.size ∧ B.size - j ≤ gf ∧ (∀ i, i < j → pBlank (bt B i) = true) ∧ wx = w1)
  case atStart => exact ⟨0, rfl, Nat.zero_le _, by omega, fun i hi => by omega, rfl⟩
  case round =>
    obtain ⟨j, rfl, hjb, hgf, hbl, hwx⟩ := hrel
    obtain rfl := hwx.symm
    by_cases hlt : j < B.size
    · obtain ⟨g', rfl⟩ : ∃ g', gk = g' + 1 := ⟨gk - 1, by omega⟩
      have i0 : (0 : Int) ≤ (j : Int) := by omega
      have i1 : (j : Int) < (B.size : Int) := by omega
      have hb := fun h => at_byte B j h
      obtain ⟨c, hc⟩ : ∃ c, bt B j = c := ⟨_, rfl⟩
      simp only [hc] at hb
      have HC := hidb hc
      have HBL := hidb hbl
      clear hc hbl
      by_cases hcb : pBlank c = true
      · have hc4 : c = 9 ∨ c = 10 ∨ c = 13 ∨ c = 32 := by simp [pBlank] at hcb; omega
        have HN : Hid (∀ i, i < j + 1 → pBlank (bt B i) = true) := hidb (fun i hi => by
          by_cases h : i < j
          · exact HBL.out i h
          · obtain rfl : i = j := by omega
            rw [HC.out]; exact hcb)
        rcases hc4 with rfl | rfl | rfl | rfl
        all_goals (
          go_wp2_with fail
          go_roundg g'
          case measure => omega
          case rel => exact ⟨j + 1, by simp, by omega, by omega, HN.out, rfl⟩)
      · have e9 : ((c : Int) != 9) = true := by simp [pBlank] at hcb ⊢; omega
        have e10 : ((c : Int) != 10) = true := by simp [pBlank] at hcb ⊢; omega
        have e13 : ((c : Int) != 13) = true := by simp [pBlank] at hcb ⊢; omega
        have e32 : ((c : Int) != 32) = true := by simp [pBlank] at hcb ⊢; omega
        clear hcb
        go_wp2_with fail
        go_ret
        exact ⟨rfl, HB1.out⟩
    · have i1 : ¬ (j : Int) < (B.size : Int) := by omega
      obtain rfl : j = B.size := by omega
      have cA := fun W h => Tokens_any s W h
      have hch := chain_of s (s.size + 1) 0 [] (toks s (s.size + 1) 0 []) (Nat.zero_le _) (by omega) rfl
      have hall : allT s = toks s (s.size + 1) 0 [] := by unfold allT; rw [if_neg (by omega)]
      rw [← hall] at hch
      obtain ⟨R, hR⟩ : ∃ R, allT s = R := ⟨_, rfl⟩
      rw [hR] at cA hch
      clear hR hall
      have HBL := hidb hbl
      have HCH := hidb hch
      clear hbl hch
      go_wp2_with fail
      refine (cA _ (hT.but (But.of_below (S := fun _ => False) HB1.out) (fun _ e => e.elim))).mono ?_
      rintro e w2 ⟨hTP, hb2⟩
      have HB2 := hidb (HB1.out.trans (hb2.mono HB1.out.size))
      rcases hTP with ⟨l, V, rfl, rfl, how⟩ | ⟨er, p, rfl, rfl⟩
      · obtain ⟨ts, hchain, hlts⟩ := HCH.out.1 l rfl
        rw [List.nil_append] at hlts
        clear HCH
        have hl1 : 0 < l.length := by rw [hlts, List.length_append]; simp
        obtain ⟨g, cap, rfl, hg, hcap, hce⟩ := own_cell how hl1
        have HLL : Hid (l.length = ts.length + 1) := hidb (by rw [hlts, List.length_append]; rfl)
        have HLT := hidb hlts
        clear hlts
        have hgl : g < w2.heap.size := cell_lt (hce 0 _ (tk_at l 0 (l[0]'(by omega)) (by simp) 0 _ rfl))
        go_wp2_with fail
        have hB3 : Below w.heap.size w (w2.alloc (Obj.cells #[Value.int IntKind.i64 0, Value.int IntKind.i64 0] 26)) := HB2.out.alloc HB2.out.size _
        have hgl3 : g < (w2.alloc (Obj.cells #[Value.int IntKind.i64 0, Value.int IntKind.i64 0] 26)).heap.size := by simp; omega
        have hce3 : ∀ k u, (tkCells l)[k]? = some u → (w2.alloc (Obj.cells #[Value.int IntKind.i64 0, Value.int IntKind.i64 0] 26)).cell? ⟨g, k, none⟩ = some u := fun k u h => ((below_new w2 _).cell (p := ⟨g, k, none⟩) hgl).trans (hce k u h)
        have how3 := own_but (own_base how (Nat.zero_le _)) (But.of_below (S := fun _ => False) (below_new w2 (Obj.cells #[Value.int IntKind.i64 0, Value.int IntKind.i64 0] 26))) (fun _ _ h => h)
        generalize w2.alloc (Obj.cells #[Value.int IntKind.i64 0, Value.int IntKind.i64 0] 26) = W2 at hB3 hgl3 hce3 how3 ⊢
        have HB3 := hidb hB3
        have HCE := hidb hce3
        have HOW := hidb how3
        clear hce hce3 hB3 how how3 hb2 hg hcap cA
        go_loopg [8, 9] ts.length (fun gf s8 s9 wx => ∃ (j P : Nat) (Wd : ByteArray) (pre rest done : List Tk), s9 = .int .i64 (j : Int) ∧ s8 = .string Wd ∧ ts = pre ++ rest ∧ pre.length = j ∧ rest.length ≤ gf ∧ Chain s P rest ∧ done.length = j ∧ (∀ (i : Nat) (a b : Tk), pre[i]? = some a → done[i]? = some b → a.k = b.k ∧ a.x = b.x ∧ a.n = b.n ∧ a.f = b.f) ∧ Adv Wd done ∧ Wd.size ≤ 20 + nextP s rest + 21 * j ∧ j ≤ nextP s rest ∧ Below W2.heap.size W2 wx)
        case atStart => exact ⟨0, 0, B, [], ts, [], rfl, rfl, rfl, rfl, Nat.le_refl _, hchain, rfl, fun i a b h => by simp at h, adv_start B HBL.out, by omega, Nat.zero_le _, Below.refl _ _⟩
        case round =>
          obtain ⟨j, P, Wd, pre, rest, done, rfl, rfl, hts, hpre, hrg, hC, hdn, hdl, hAdv, hws, hjn, hbw⟩ := hrel
          have hlen : l.length = j + rest.length + 1 := by rw [HLL.out, hts, List.length_append, hpre]
          have HLEN := hidb hlen
          cases hC with
          | stop _ b hp hr =>
            have i1 : ¬ (j : Int) + 1 < (l.length : Int) := by simp at hlen; omega
            have hj2 : j ≤ 2000 := by simp only [nextP] at hjn; omega
            have hwz : Wd.size ≤ 65536 := by simp only [nextP] at hws; omega
            have hen := adv_end Wd done hwz hAdv
            have cW := fun W h => Tokens_any Wd W h
            rw [hen] at cW
            obtain ⟨L, hL⟩ : ∃ L, done ++ [(⟨8, ⟨#[]⟩, 0, 0, Wd.size⟩ : Tk)] = L := ⟨_, rfl⟩
            rw [hL] at cW
            have hLl : L.length = j + 1 := by rw [← hL, List.length_append, hdn]; rfl
            have HLl := hidb hLl
            have hlj : l.length = j + 1 := by simpa using hlen
            have HLJ := hidb hlj
            have hlk : ∀ (i : Nat) (a b : Tk), L[i]? = some a → l[i]? = some b → a.k = b.k ∧ a.x = b.x ∧ a.n = b.n ∧ a.f = b.f := by
              intro i a b ha hb'
              rw [← hL] at ha
              rw [HLT.out, hts, List.append_nil] at hb'
              by_cases hij : i < j
              · rw [List.getElem?_append_left (by omega)] at ha
                rw [List.getElem?_append_left (by omega)] at hb'
                obtain ⟨e1, e2, e3, e4⟩ := hdl i b a hb' ha
                exact ⟨e1.symm, e2.symm, e3.symm, e4.symm⟩
              · have hij2 : i = j := by
                  have := (List.getElem?_eq_some_iff.1 ha).1
                  rw [List.length_append, hdn] at this
                  simp at this
                  omega
                subst hij2
                rw [List.getElem?_append_right (by omega), hdn, Nat.sub_self] at ha
                rw [List.getElem?_append_right (by omega), hpre, Nat.sub_self] at hb'
                cases ha
                cases hb'
                exact ⟨rfl, rfl, rfl, rfl⟩
            have HLK := hidb hlk
            have htl : l[j]? = some ⟨8, ⟨#[]⟩, 0, 0, s.size⟩ := by
              rw [HLT.out, hts, List.append_nil, List.getElem?_append_right (by omega), hpre, Nat.sub_self]
              rfl
            have HE0 : Hid (∀ W', Below W2.heap.size W2 W' → W'.cell? ⟨g, j * 5, none⟩ = some (.int .i64 8)) := hidb (fun W' hb' => (hb'.cell (p := ⟨g, j * 5, none⟩) hgl3).trans (HCE.out _ _ (tk_at l j _ htl 0 _ rfl)))
            have HE4 : Hid (∀ W', Below W2.heap.size W2 W' → W'.cell? ⟨g, j * 5 + 4, none⟩ = some (.int .i64 (s.size : Int))) := hidb (fun W' hb' => (hb'.cell (p := ⟨g, j * 5 + 4, none⟩) hgl3).trans (HCE.out _ _ (tk_at l j _ htl 4 _ rfl)))
            have HBW := hidb hbw
            clear hlk htl hlj hlen hLl hL hen hbw hdl hdn hts hpre hrg hAdv hws hjn
            go_wp2_with fail
            refine (cW _ (hT.but (But.of_below (S := fun _ => False) (HB3.out.trans (HBW.out.mono HB3.out.size))) (fun _ e => e.elim))).mono ?_
            rintro e w8 ⟨hTP, hb8⟩
            rcases hTP with ⟨l8, V8, hl8, rfl, how8⟩ | ⟨er8, p8, hl8, _⟩
            case inr => cases hl8
            obtain rfl : L = l8 := Sum.inl.inj hl8
            obtain ⟨g8, cap8, rfl, hg8, hcap8, hce8⟩ := own_cell how8 (by have := HLl.out; omega)
            have hbw8 : Below W2.heap.size W2 w8 := HBW.out.trans (hb8.mono HBW.out.size)
            have OA := own_but (own_base how8 (Nat.zero_le _)) (But.of_below (S := fun _ => False) (below_new w8 (Obj.cells #[Value.int IntKind.i64 0, Value.int IntKind.i64 0] 26))) (fun _ _ h => h)
            have OB := own_but (own_but HOW.out (But.of_below (S := fun _ => False) hbw8) (fun _ _ h => h)) (But.of_below (S := fun _ => False) (below_new w8 (Obj.cells #[Value.int IntKind.i64 0, Value.int IntKind.i64 0] 26))) (fun _ _ h => h)
            rw [show l.length = L.length by rw [HLJ.out, HLl.out]] at OB
            have hD8 := Duo.new w8 26 (.int .i64 0) (.int .i64 0)
            have e0 := HE0.out _ hbw8
            have e4 := HE4.out _ hbw8
            have hgl8 : g < w8.heap.size := by have := hbw8.size; omega
            have HBE := hidb (HB3.out.trans (hbw8.mono HB3.out.size))
            rw [HLJ.out]
            rw [HLl.out] at OA OB ⊢
            have HOA := hidb OA
            have HOB := hidb OB
            clear OA OB how8 hce8 hg8 hcap8 hb8 hl8 cW hbw8
            go_wp2_with fail
            refine (same_like _ _ L l (HLJ.out.trans HLl.out.symm) HLK.out 0 (by have := HLl.out; omega) (by have := HLl.out; omega) _ (by rw [HLl.out]; exact HOA.out) (by rw [HLl.out]; exact HOB.out)).mono ?_
            rintro e w10 ⟨rfl, hb10⟩
            go_wp2_with fail
            go_ret
            exact ⟨rfl, (HBE.out.alloc HBE.out.size _).trans (hb10.mono (by have := HBE.out.size; simp; omega))⟩
          | tok _ q rest hpq hq hr hb h37 hok hc =>
            obtain ⟨g', rfl⟩ : ∃ g', gk = g' + 1 := ⟨gk - 1, by simp at hrg; omega⟩
            have i0 : (0 : Int) ≤ (j : Int) := by omega
            have i1 : (j : Int) + 1 < (l.length : Int) := by simp at hlen; omega
            have i2 : (j : Int) < (l.length : Int) := by omega
            obtain ⟨hn1, hn2, _⟩ := hc.next
            obtain ⟨hE1, hE2⟩ := tokE_in s q hq hok
            obtain ⟨tk, tx, tn, tf, er, hV⟩ := tokV_tk s q
            obtain ⟨q2, hq2⟩ : ∃ q2, nextP s rest = q2 := ⟨_, rfl⟩
            have HTA : Hid (∀ W', Below W2.heap.size W2 W' → ∀ f u, [Value.int .i64 tk, .string tx, .int .i64 tn, .float .f64 tf, .int .i64 (q : Int)][f]? = some u → W'.cell? ⟨g, j * 5 + f, none⟩ = some u) := hidb (fun W' hb' f u h => (hb'.cell (p := ⟨g, j * 5 + f, none⟩) hgl3).trans (HCE.out _ _ (tk_at l j ⟨tk, tx, tn, tf, q⟩ (by
              rw [HLT.out, hts, List.append_assoc, List.getElem?_append_right (by omega), hpre, Nat.sub_self]
              simp only [List.cons_append, List.getElem?_cons_zero, hV]
              rfl) f u h)))
            have HTC : Hid (∀ W', Below W2.heap.size W2 W' → W'.cell? ⟨g, (j + 1) * 5 + 4, none⟩ = some (.int .i64 (q2 : Int))) := hidb (fun W' hb' => (hb'.cell (p := ⟨g, (j + 1) * 5 + 4, none⟩) hgl3).trans (by
              have hnx : ∃ t : Tk, (rest ++ [(⟨8, ⟨#[]⟩, 0, 0, s.size⟩ : Tk)])[0]? = some t ∧ t.p = q2 := by
                cases rest with
                | nil => exact ⟨_, rfl, hq2⟩
                | cons t r => exact ⟨_, rfl, hq2⟩
              obtain ⟨t, ht, htp⟩ := hnx
              refine HCE.out _ _ (tk_at l (j + 1) t ?_ 4 _ (by rw [← htp]; rfl))
              rw [HLT.out, hts, List.append_assoc, List.getElem?_append_right (by omega), hpre, show j + 1 - j = 1 by omega, List.cons_append, List.getElem?_cons_succ]
              exact ht))
            have a4 := HTA.out _ hbw 4 _ rfl
            have c4 := HTC.out _ hbw
            have hz := hbw.size
            have hg3 : g < wr.heap.size := by omega
            have i3 : (q : Int) < (q2 : Int) := by omega
            have i5 : (0 : Int) ≤ (q : Int) := by omega
            have i6 : (q : Int) ≤ (q2 : Int) := by omega
            have i7 : (q2 : Int) ≤ (s.size : Int) := by omega
            have hqs : q2 ≤ 2000 := by omega
            have hwz : Wd.size ≤ 20 + q + 21 * j := by rw [nextP, tkOf_p] at hws; exact hws
            have hjq : j ≤ q := by rw [nextP, tkOf_p] at hjn; exact hjn
            have hj2 : j ≤ 2000 := by rw [nextP, tkOf_p] at hjn; omega
            have i4 : (0 : Int) ≤ (j : Int) + 1 := by omega
            have v1 : IntKind.i64.wrap ((j : Int) + 1) = (j : Int) + 1 := by rw [IntKind.wrap_i64]; omega
            have t1 : ((j : Int) + 1).toNat = j + 1 := by omega
            have HH := hidb (And.intro hts (And.intro hpre (And.intro hdn (And.intro hdl hq2))))
            clear hlen hts hpre hdn hdl hq2
            go_wp2_with fail
            go_quiet (fail)
            have hbw4 := below_drewN hbw nq
            clear a4 c4 hg3 hz hbw
            generalize wr.drewN nq = W4 at hbw4 ⊢
            have a4 := HTA.out _ hbw4 4 _ rfl
            have c4 := HTC.out _ hbw4
            have hz := hbw4.size
            have hg3 : g < W4.heap.size := by omega
            have HB4 := hidb hbw4
            clear hbw4
            go_wp2_with fail
            go_quiet (fail)
            have hbw5 := below_drewN HB4.out nq
            clear a4 c4 hg3 hz HB4
            generalize W4.drewN nq = W5 at hbw5 ⊢
            have hPO := part_one s (by omega) q rest hq hb h37 hok hc
            rw [HH.out.2.2.2.2] at hPO
            have hXs : (s.extract q q2).size ≤ 2000 := by rw [size_ext]; omega
            have HXz : Hid ((s.extract q q2).size = q2 - q) := hidb (by rw [size_ext]; omega)
            have ht0 : tkOf (tokV s q) 0 = ⟨tk, tx, tn, tf, 0⟩ := by rw [hV]; rfl
            rw [ht0] at hPO
            have cP := fun W h => Tokens_any (s.extract q q2 ++ ⟨#[32]⟩) W h
            rw [hPO] at cP
            have HB5 := hidb hbw5
            clear hPO hbw5 ht0
            go_wp2_with fail
            refine (cP _ (hT.but (But.of_below (S := fun _ => False) (HB3.out.trans (HB5.out.mono HB3.out.size))) (fun _ e => e.elim))).mono ?_
            rintro e w6 ⟨hTP, hb6⟩
            rcases hTP with ⟨l6, V6, hl6, rfl, how6⟩ | ⟨er6, p6, hl6, _⟩
            case inr => cases hl6
            obtain rfl := Sum.inl.inj hl6
            obtain ⟨X, hX⟩ : ∃ X, s.extract q q2 = X := ⟨_, rfl⟩
            rw [hX] at hXs HXz ⊢
            have HX := hidb hX
            obtain ⟨g6, cap6, rfl, hg6, hcap6, hce6⟩ := own_cell how6 (by simp)
            have hbw6 : Below W2.heap.size W2 w6 := HB5.out.trans (hb6.mono HB5.out.size)
            have HB6 := hidb hbw6
            have a0 : w6.cell? ⟨g, j * 5, none⟩ = some (.int .i64 tk) := HTA.out _ hbw6 0 _ rfl
            have a1 := HTA.out _ hbw6 1 _ rfl
            have a2 := HTA.out _ hbw6 2 _ rfl
            have a3 := HTA.out _ hbw6 3 _ rfl
            have a4 := HTA.out _ hbw6 4 _ rfl
            have hz := hbw6.size
            have hg3 : g < w6.heap.size := by omega
            have HO6 := hidb how6
            clear hX hl6 hce6 how6 hb6 hbw6 cP
            simp only [List.length_cons, List.length_nil]
            go_wp2_with fail
            have hD7 : Duo ((w6.alloc (Obj.cells #[Value.int IntKind.i64 0, Value.int IntKind.i64 0] 26)).alloc (Obj.cells #[Value.int IntKind.i64 tk, Value.string tx, Value.int IntKind.i64 tn, Value.float FloatKind.f64 tf, Value.int IntKind.i64 0] 35)) w6.heap.size (.int .i64 0) (.int .i64 0) := (Duo.new w6 _ _ _).keep (below_new _ _)
            have hX7 := Box.new (w6.alloc (Obj.cells #[Value.int IntKind.i64 0, Value.int IntKind.i64 0] 26)) 35 (.int .i64 tk) (.string tx) (.int .i64 tn) (.float .f64 tf) (.int .i64 0)
            have hB7 : Below w6.heap.size w6 ((w6.alloc (Obj.cells #[Value.int IntKind.i64 0, Value.int IntKind.i64 0] 26)).alloc (Obj.cells #[Value.int IntKind.i64 tk, Value.string tx, Value.int IntKind.i64 tn, Value.float FloatKind.f64 tf, Value.int IntKind.i64 0] 35)) := ((Below.refl _ _).alloc (Nat.le_refl _) _).alloc (by simp) _
            have hs7 : (w6.alloc (Obj.cells #[Value.int IntKind.i64 0, Value.int IntKind.i64 0] 26)).heap.size = w6.heap.size + 1 := by simp
            rw [hs7] at hX7
            clear hs7
            generalize (w6.alloc (Obj.cells #[Value.int IntKind.i64 0, Value.int IntKind.i64 0] 26)).alloc (Obj.cells #[Value.int IntKind.i64 tk, Value.string tx, Value.int IntKind.i64 tn, Value.float FloatKind.f64 tf, Value.int IntKind.i64 0] 35) = W7 at hD7 hX7 hB7 ⊢
            obtain ⟨q0, q1, _, _, _⟩ := hD7
            obtain ⟨x0, x1, x2, x3, x4, _, _, _, _, _, xlt⟩ := hX7
            have hB8 : Below w6.heap.size w6 ((W7.alloc (Obj.cells #[Value.int IntKind.i64 tk, Value.string tx, Value.int IntKind.i64 tn, Value.float FloatKind.f64 tf, Value.int IntKind.i64 0] 35)).drew) := (hB7.alloc hB7.size _).drew
            have OA : ((W7.alloc (Obj.cells #[Value.int IntKind.i64 tk, Value.string tx, Value.int IntKind.i64 tn, Value.float FloatKind.f64 tf, Value.int IntKind.i64 0] 35)).drew).ownsRow 0 TT 5 (.slice (some ⟨g6, 0, none⟩) 1 cap6) 1 (tkCells [⟨tk, tx, tn, tf, 0⟩]) := own_but (own_base (own_pre HO6.out 1 (by simp)) (Nat.zero_le _)) (But.of_below (S := fun _ => False) hB8) (fun _ _ h => h)
            have OB : ((W7.alloc (Obj.cells #[Value.int IntKind.i64 tk, Value.string tx, Value.int IntKind.i64 tn, Value.float FloatKind.f64 tf, Value.int IntKind.i64 0] 35)).drew).ownsRow 0 TT 5 (.slice (some ⟨W7.heap.size, 0, none⟩) 1 1) 1 (tkCells [⟨tk, tx, tn, tf, 0⟩]) := (own_new W7 _ _ _ _ _).drew
            have cS := same_rows _ _ [⟨tk, tx, tn, tf, 0⟩] 0 (by simp) (by simp) _ OA OB
            have HB8 := hidb hB8
            have HW78 : Hid (Below W7.heap.size W7 ((W7.alloc (Obj.cells #[Value.int IntKind.i64 tk, Value.string tx, Value.int IntKind.i64 tn, Value.float FloatKind.f64 tf, Value.int IntKind.i64 0] 35)).drew)) := hidb ((below_new W7 _).drew)
            have hc62 : (1 : Int) ≤ (cap6 : Int) := by simp at hcap6; omega
            clear OA OB hB8 hB7 a0 a1 a2 a3 a4
            go_region_held3 (fun w' => w'.cell? ⟨w6.heap.size, 0, none⟩ = some (.int .i64 0) ∧ w'.cell? ⟨w6.heap.size, 1, none⟩ = some (.int .i64 0) ∧ w'.cell? ⟨w6.heap.size + 1, 0, none⟩ = some (.int .i64 tk) ∧ w'.cell? ⟨w6.heap.size + 1, 1, none⟩ = some (.string tx) ∧ w'.cell? ⟨w6.heap.size + 1, 2, none⟩ = some (.int .i64 tn) ∧ w'.cell? ⟨w6.heap.size + 1, 3, none⟩ = some (.float .f64 tf) ∧ w'.cell? ⟨w6.heap.size + 1, 4, none⟩ = some (.int .i64 0))
              (first | with_reducible exact ⟨q0, q1, x0, x1, x2, x3, x4⟩ | with_reducible exact ⟨z0, z1, z2, z3, z4, z5, z6⟩ | go_keep)
              (first | (go_at_call 12; refine cS.mono ?_; rintro e w9 ⟨rfl, hb9⟩; have hB9 := HW78.out.trans (hb9.mono HW78.out.size); have z0 := (hB9.cell (cell_lt q0)).trans q0; have z1 := (hB9.cell (cell_lt q1)).trans q1; have z2 := (hB9.cell (cell_lt x0)).trans x0; have z3 := (hB9.cell (cell_lt x1)).trans x1; have z4 := (hB9.cell (cell_lt x2)).trans x2; have z5 := (hB9.cell (cell_lt x3)).trans x3; have z6 := (hB9.cell (cell_lt x4)).trans x4))
            have hBF : Below W2.heap.size W2 w9 := (HB6.out.trans (HB8.out.mono HB6.out.size)).trans (hb9.mono (Nat.le_trans HB6.out.size HB8.out.size))
            have HBF := hidb hBF
            clear hBF hb9 hB9 z0 z1 z2 z3 z4 z5 z6 q0 q1 x0 x1 x2 x3 x4 cS
            go_wp2_with fail
            go_roundg g'
            case measure => omega
            case rel =>
              obtain ⟨hts, hpre, hdn, hdl, hq2⟩ := HH.out
              have hadv := adv_step Wd B s done hAdv HBL.out q rest hq hb h37 hok hc
              rw [hq2, HX.out] at hadv
              refine ⟨j + 1, tokE s q, ((Wd ++ X) ++ ⟨#[10]⟩) ++ B, pre ++ [tkOf (tokV s q) q], rest, done ++ [tkOf (tokV s q) Wd.size], by simp, rfl, by rw [hts, List.append_assoc]; rfl, by rw [List.length_append, hpre]; rfl, by simp at hrg; omega, hc, by rw [List.length_append, hdn]; rfl, fun i a b ha hb' => ?_, hadv, ?_, by rw [hq2]; omega, HBF.out⟩
              · by_cases hij : i < j
                · rw [List.getElem?_append_left (by omega)] at ha
                  rw [List.getElem?_append_left (by omega)] at hb'
                  exact hdl i a b ha hb'
                · have hij2 : i = j := by
                    have := (List.getElem?_eq_some_iff.1 ha).1
                    rw [List.length_append, hpre] at this
                    simp at this
                    omega
                  subst hij2
                  rw [List.getElem?_append_right (by omega), hpre, Nat.sub_self] at ha
                  rw [List.getElem?_append_right (by omega), hdn, Nat.sub_self] at hb'
                  cases ha
                  cases hb'
                  rw [tkOf_move s q Wd.size]
                  exact ⟨rfl, rfl, rfl, rfl⟩
              · rw [ByteArray.size_append, ByteArray.size_append, ByteArray.size_append, HXz.out, hq2]
                have : (⟨#[10]⟩ : ByteArray).size = 1 := rfl
                omega
      · obtain ⟨her, hpe⟩ := HCH.out.2 er p rfl
        have k1 : (0 : Int) ≤ (p : Int) := by omega
        have k2 : (p : Int) ≤ (s.size : Int) := by omega
        have k3 : (er == 0) = false := by simpa using her
        have k4 : (er != 0) = true := by simpa using her
        obtain ⟨q0, q1, qf0, qf1, qlt⟩ := Duo.new w2 26 (.int .i64 er) (.int .i64 (p : Int))
        clear HCH her
        go_wp2_with fail
        go_ret
        exact ⟨rfl, HB2.out.alloc HB2.out.size _⟩
end Go.Proofs.YtecgddiohoeboaaDoor


