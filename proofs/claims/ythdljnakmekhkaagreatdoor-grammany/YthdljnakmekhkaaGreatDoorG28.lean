import Derived.Test.YthdljnakmekhkaaGreatDoorG24
import Derived.Test.YthdljnakmekhkaaGreatDoorG23
import Derived.Test.YthdljnakmekhkaaGreatDoorG27
import Derived.Deep.RegionLaw
import Derived.Deep.RegionHeldLaw
import Derived.Deep.AppendLies
import Derived.Laws.BytesString
import Derived.Laws.BytesArg
import Derived.BigQuiet
/- The reference's quotations. -/
namespace Go.Proofs.YthdljnakmekhkaaGreatDoor
open Go.RowKit Go.Lib
attribute [local go_sem] store_float f64bits
attribute [local go_sem ↓] Go.wp_at_zero Go.wp_at_succ

theorem quotN_end (s : ByteArray) (m k p : Nat) (acc : List UInt8) (hp : s.size ≤ p) : quotN s m (k + 1) p acc = none := by
  have h : goes (pIn m) s p = p := goes_end hp
  have h2 : ¬ p < s.size := by omega
  simp only [quotN, h, h2, if_false]
theorem quotN_mark (s : ByteArray) (m k p : Nat) (acc : List UInt8) (hp : p < s.size) (hm : bt s p = m) : quotN s m (k + 1) p acc = some (acc, p + 1) := by
  have h : goes (pIn m) s p = p := goes_stop (by rw [hm]; simp [pIn])
  have h3 : (s.extract p p).data.toList = [] := by rw [ext_list]; simp
  simp only [quotN, h, hp, if_true, hm, h3, List.append_nil]
theorem quotN_esc (s : ByteArray) (m k p : Nat) (acc : List UInt8) (hp : p < s.size) (hm : bt s p = 92) (hn : m ≠ 92) : quotN s m (k + 1) p acc = (escAt s (p + 1)).bind fun x => quotN s m k x.2 (acc ++ [UInt8.ofNat x.1]) := by
  have h : goes (pIn m) s p = p := goes_stop (by rw [hm]; simp [pIn])
  have h3 : (s.extract p p).data.toList = [] := by rw [ext_list]; simp
  have h4 : ¬ (92 = m) := fun e => hn e.symm
  simp only [quotN, h, hp, if_true, hm, h3, List.append_nil, h4, if_false]
theorem quotN_byte (s : ByteArray) (m k p : Nat) (acc : List UInt8) (hp : p < s.size) (h1 : bt s p ≠ m) (h2 : bt s p ≠ 92) : quotN s m (k + 1) p acc = quotN s m (k + 1) (p + 1) (acc ++ [UInt8.ofNat (bt s p)]) := by
  have h : goes (pIn m) s p = goes (pIn m) s (p + 1) := goes_on hp (by simp [pIn, h1, h2])
  have hge := goes_ge (pIn m) s (p + 1)
  have h3 : acc ++ (s.extract p (goes (pIn m) s (p + 1))).data.toList = (acc ++ [UInt8.ofNat (bt s p)]) ++ (s.extract (p + 1) (goes (pIn m) s (p + 1))).data.toList := by
    rw [ext_list, ext_list, List.append_assoc]
    congr 1
    have hl : p < s.data.toList.length := hp
    rw [List.drop_eq_getElem_cons hl]
    obtain ⟨n, hn⟩ : ∃ n, goes (pIn m) s (p + 1) - p = n + 1 := ⟨goes (pIn m) s (p + 1) - p - 1, by omega⟩
    rw [hn, List.take_succ_cons, show goes (pIn m) s (p + 1) - (p + 1) = n from by omega]
    have : UInt8.ofNat (bt s p) = s.data.toList[p]'hl := by
      unfold bt
      rw [UInt8.ofNat_toNat, get_of_lt s p hp]
      rfl
    rw [this]
    rfl
  simp only [quotN, h, h3]

/-- A row of bytes that is owned, as a string. -/
theorem text_all {wr : World} {base : Nat} {v : Value} (l : List UInt8) (h : wr.ownsRow base 5 1 v l.length (Lib.byteCells l)) :
    (convert 34 9 v).run Tryz.prog wr = .ok (.string ⟨l.toArray⟩) wr := by
  obtain ⟨h1, ⟨h3, h2⟩ | ⟨g, cap, cur, rfl, hg, hh, hn, hc, hs, ht⟩⟩ := h
  · obtain rfl : l = [] := List.eq_nil_of_length_eq_zero h2
    rw [h3]
    exact run_convert_bytes_nil (P := Tryz.prog) (w := wr) 34 5 Tryz.underlying34 Tryz.underlying5 0 0 9 Tryz.underlying9
  · exact run_convert_bytes_back (P := Tryz.prog) wr 34 9 5 ⟨g, 0, none⟩ cap l Tryz.underlying34 Tryz.underlying5 Tryz.underlying9 (fun j hj => by
      have ea : (⟨g, 0, none⟩ : Addr).add j = ⟨g, j, none⟩ := by
        unfold Addr.add
        split
        · rename_i h; subst h; rfl
        · simp
      rw [ea]
      rw [Nat.mul_one] at ht
      have hj2 : (cur.toList.take l.length)[j]? = some (Value.int .u8 (((l[j]).toNat : Nat) : Int)) := by
        rw [ht]; unfold Lib.byteCells; rw [List.getElem?_map, List.getElem?_eq_getElem hj]; rfl
      rw [List.getElem?_take_of_lt hj] at hj2
      unfold World.cell?
      simp only [hh]
      simpa using hj2)

theorem app_one (w : World) (t : TypeId) (a0 : Value) (g : Nat) (hg : g = w.heap.size) (j : Nat) (u : Value) (hj : [a0][j]? = some u) : (w.alloc (.cells #[a0] t)).cell? ((⟨g, 0, none⟩ : Addr).add j) = some u := by
  subst hg
  match j, hj with
  | 0, hj => simp at hj; subst hj; simp [Addr.add]
  | (j + 1), hj => simp at hj

theorem cell_snoc (acc : List UInt8) (c : Nat) (hc : c < 256) : Lib.byteCells acc ++ [.int .u8 (c : Int)] = Lib.byteCells (acc ++ [UInt8.ofNat c]) := by
  rw [Lib.byteCells_append]
  simp [Lib.byteCells]
  omega

def quR (o : Option (List UInt8 × Nat)) : Value := .tuple #[.string ⟨((o.map Prod.fst).getD []).toArray⟩, .int .i64 ((o.map Prod.snd).getD 0 : Nat), .bool o.isSome]

theorem step_hexed {ops : Array Oper} {o : Oper} {a : Act} {w : World} {K : Act → World → Prop} {Q : Exit → Act → World → Prop} {E : Prop} (hg : o.guard = none) (x : Operand)
    (hop : o.op = Op.call { callee := .value (.func 83), args := #[x], argTypes := #[5] }) (n : Nat) (hx : a.eval x = .int .u8 (n : Int)) (d : Nat) (hd : hexd n = some d)
    (h : K (a.put o.dst (.int .i64 (d : Int))) w) : if Region.wanted o (yielded ops a.tmps) = true then Oper.wp Tryz.prog o a w K Q else E := by
  have hc := rhexed_any n w
  rw [hd] at hc
  have hw : Region.wanted o (yielded ops a.tmps) = true := by simp [Region.wanted, hg]
  rw [if_pos hw]
  have hrun : (execOp a.eval o).run Tryz.prog w = .ok (.enter 83 #[.int .u8 (n : Int)]) w := by
    unfold execOp
    rw [hop]
    have hf : a.eval (.func 83) = ({ tmps := #[], defers := [] } : Act).eval (.func 83) := rfl
    simp only [resolve, hx, hf, List.map_toArray, List.map_cons, List.map_nil]
    go_simp
  unfold Oper.wp
  rw [hrun, Oper.upon_enter]
  refine hc.mono fun e w'' hh => ?_
  obtain ⟨rfl, rfl⟩ := hh
  exact h

theorem step_app1 {ops : Array Oper} {o : Oper} {a : Act} {w : World} {K : Act → World → Prop} {Q : Exit → Act → World → Prop} {E : Prop} (hg : o.guard = none) (s x : Operand)
    (hop : o.op = Op.call { callee := .builtin .append, args := #[s, x], argTypes := #[34, 34] }) (base : Nat) (v : Value) (n : Nat) (xs : List Value) (hs : a.eval s = v) (how : w.ownsRow base 5 1 v n xs)
    (ad : Addr) (c : Value) (hx : a.eval x = .slice (some ad) 1 1) (hc : w.cell? (ad.add 0) = some c) (h1 : c.oneCell' = true) (z1 : n + 1 ≤ maxLen) (z2 : (n + 1) * 1 ≤ 140737488355328) (hb : base ≤ w.heap.size)
    (h : ∀ g cap w', w'.ownsRow base 5 1 (.slice (some ⟨g, 0, none⟩) (n + 1) cap) (n + 1) (xs ++ [c]) → w.grownBy w' v.ownBlock → K (a.put o.dst (.slice (some ⟨g, 0, none⟩) (n + 1) cap)) w') :
    if Region.wanted o (yielded ops a.tmps) = true then Oper.wp Tryz.prog o a w K Q else E := by
  obtain ⟨i00, hi0, hz0, hz1, hz2⟩ := info_parts Tryz.Builder_Extra_169.infoByte
  exact step_append_lies w hg s x 34 hop base 5 i00 (.int .u8 0) 1 1 Tryz.underlying34 hi0 hz0 hz1 hz2 rfl (by decide) v n xs hs how ad 1 1 [c] hx rfl
    (fun j u hj => match j, hj with
      | 0, hj => by simp at hj; subst hj; exact hc
      | (j + 1), hj => by simp at hj) (fun u hu => by cases List.mem_singleton.1 hu; exact h1) (by decide) z1 z2 hb _ rfl (fun g cap w' h2 h3 _ _ => h g cap w' h2 h3)

set_option maxHeartbeats 16000000 in
set_option maxRecDepth 100000 in
theorem rquoted_any (s : ByteArray) (i : Nat) (hi : i < s.size) (hm : bt s i = 39 ∨ bt s i = 34) (hs : s.size ≤ 65536) (w : World) : Calls Tryz.prog 59 #[.string s, .int .i64 (i : Int)] w fun e w' => e = .returned (quR (quotN s (bt s i) (s.size + 1) (i + 1) [])) ∧ Below w.heap.size w w' := by
  have hbi := fun h => at_byte s i h
  obtain ⟨o, ho⟩ : ∃ o, quotN s (bt s i) (s.size + 1) (i + 1) [] = o := ⟨_, rfl⟩
  rw [ho]
  obtain ⟨m, hmm⟩ : ∃ m, bt s i = m := ⟨_, rfl⟩
  rw [hmm] at hm ho
  simp only [hmm] at hbi
  clear hmm
  obtain ⟨i00, hi0, hz0, hz1, hz2⟩ := info_parts Tryz.Builder_Extra_169.infoByte
  have j0 : (0 : Int) ≤ (i : Int) := by omega
  have j1 : (i : Int) < (s.size : Int) := by omega
  go_enter Tryz.func59, Tryz.ntmps59
  go_wp2_with fail
  go_loopg [7, 8] s.size (fun gf s7 s8 wx => ∃ (p k : Nat) (acc : List UInt8), s8 = .int .i64 (p : Int) ∧ i < p ∧ p ≤ s.size + 1 ∧ s.size + 1 - p ≤ gf ∧ s.size < p + k ∧ 0 < k ∧ quotN s m k p acc = o ∧ acc.length ≤ p ∧ Below w.heap.size w wx ∧ wx.ownsRow w.heap.size 5 1 s7 acc.length (Lib.byteCells acc))
  case atStart => exact ⟨i + 1, s.size + 1, [], by simp, by omega, by omega, by omega, by omega, by omega, ho, by simp, Below.refl _ _, ⟨rfl, .inl ⟨rfl, rfl⟩⟩⟩
  case round =>
    obtain ⟨p, k, acc, rfl, hip, hps, hgf, hk, hk0, hq, hln, hbw, how⟩ := hrel
    obtain ⟨k, rfl⟩ : ∃ k', k = k' + 1 := ⟨k - 1, by omega⟩
    by_cases hlt : p < s.size
    · obtain ⟨g', rfl⟩ : ∃ g', gk = g' + 1 := ⟨gk - 1, by omega⟩
      have i0 : (0 : Int) ≤ (p : Int) := by omega
      have i1 : (p : Int) < (s.size : Int) := by omega
      have hb := fun h => at_byte s p h
      obtain ⟨c, hc⟩ : ∃ c, bt s p = c := ⟨_, rfl⟩
      have HC := hidb hc
      simp only [hc] at hb
      by_cases hcm : c = m
      · subst hcm
        rw [quotN_mark s c k p acc hlt hc] at hq
        subst hq
        have e1 : ((c : Int) == (c : Int)) = true := by simp
        have hcv := text_all acc how
        obtain ⟨X, hX⟩ : ∃ X, (⟨acc.toArray⟩ : ByteArray) = X := ⟨_, rfl⟩
        rw [hX] at hcv
        have HX := hidb hX
        clear hX
        go_wp2_with fail
        exact bodyPost_ret (v := .tuple #[.string X, .int .i64 ((p + 1 : Nat) : Int), .bool true]) (by simp [results, Tryz.results59, go_sem]) rfl ⟨by rw [← HX.out]; rfl, hbw⟩
      · have e1 : ((c : Int) == (m : Int)) = false := by simp; omega
        by_cases h92 : c = 92
        · subst h92
          have e2 : ((92 : Int) != 92) = false := by decide
          have hm92 : m ≠ 92 := by omega
          rw [quotN_esc s m k p acc hlt hc hm92] at hq
          unfold escAt at hq
          by_cases h2 : s.size ≤ p + 1
          · have r1 : (s.size : Int) ≤ (p : Int) + 1 := by omega
            rw [if_neg (by omega)] at hq
            obtain rfl : none = o := hq
            go_wp2_with fail
            exact bodyPost_ret (v := .tuple #[.string ⟨#[]⟩, .int .i64 0, .bool false]) (by simp [results, Tryz.results59, go_sem]) rfl ⟨rfl, hbw⟩
          · have r1 : ¬ (s.size : Int) ≤ (p : Int) + 1 := by omega
            have r2 : (p : Int) + 1 < (s.size : Int) := by omega
            have hd1 : ∀ h, (s[p + 1]'h).toNat = bt s (p + 1) := fun h => at_byte s (p + 1) h
            rw [if_pos (by omega)] at hq
            have hdl := bt_lt s (p + 1)
            obtain ⟨d, hd⟩ : ∃ d, bt s (p + 1) = d := ⟨_, rfl⟩
            rw [hd] at hq hdl
            simp only [hd] at hd1
            have HD := hidb hd
            clear hd
            by_cases k1 : d = 92 ∨ d = 39 ∨ d = 34
            · rw [if_pos k1] at hq
              simp only [Option.bind_some] at hq
              rcases k1 with rfl | rfl | rfl
              · go_wp2_with (at_builtin; refine wpList_append_own _ rfl _ _ 34 rfl w.heap.size 5 i00 (.int .u8 0) 1 1 Tryz.underlying34 hi0 hz0 hz1 hz2 rfl (by decide) _ _ _ rfl (how.alloc _) ⟨wr.heap.size, 0, none⟩ 1 1 [.int .u8 (92 : Int)] rfl rfl ?e01 ?e02 ?e03 ?e04 ?e05 ?_)
                try (case e01 => intro q u hq; exact app_one _ _ _ _ rfl q u hq)
                case e02 => first | rfl | (intro u hu; cases List.mem_singleton.1 hu; rfl)
                case e03 => unfold maxLen; omega
                case e04 => omega
                case e05 => first | (have := hbw.size; omega) | (have := hbw.size; simp; omega)
                intro v' w3 hown' hgrow hnil
                have hb3 := grow_below how hgrow hbw.size
                have hsn := cell_snoc acc 92 (by omega)
                rw [show Lib.byteCells acc ++ [Value.int .u8 92] = Lib.byteCells (acc ++ [UInt8.ofNat 92]) from hsn] at hown'
                have HO := hidb hown'
                have HB := hidb (hbw.trans hb3)
                obtain ⟨ao, n', cap', rfl⟩ : ∃ ao n' cap, v' = .slice ao n' cap := hown'.2.elim (fun h => ⟨_, _, _, h.1⟩) fun ⟨_, _, _, hv, _⟩ => ⟨_, _, _, hv⟩
                clear hown' hgrow hnil hb3 hsn
                go_wp2_with fail
                go_roundg g'
                case measure => omega
                case rel => exact ⟨p + 2, k, acc ++ [UInt8.ofNat 92], by simp, by omega, by omega, by omega, by omega, by omega, hq, by rw [List.length_append]; simp; omega, HB.out, by rw [List.length_append]; exact HO.out⟩
              · go_wp2_with (at_builtin; refine wpList_append_own _ rfl _ _ 34 rfl w.heap.size 5 i00 (.int .u8 0) 1 1 Tryz.underlying34 hi0 hz0 hz1 hz2 rfl (by decide) _ _ _ rfl (how.alloc _) ⟨wr.heap.size, 0, none⟩ 1 1 [.int .u8 (39 : Int)] rfl rfl ?e11 ?e12 ?e13 ?e14 ?e15 ?_)
                try (case e11 => intro q u hq; exact app_one _ _ _ _ rfl q u hq)
                case e12 => first | rfl | (intro u hu; cases List.mem_singleton.1 hu; rfl)
                case e13 => unfold maxLen; omega
                case e14 => omega
                case e15 => first | (have := hbw.size; omega) | (have := hbw.size; simp; omega)
                intro v' w3 hown' hgrow hnil
                have hb3 := grow_below how hgrow hbw.size
                have hsn := cell_snoc acc 39 (by omega)
                rw [show Lib.byteCells acc ++ [Value.int .u8 39] = Lib.byteCells (acc ++ [UInt8.ofNat 39]) from hsn] at hown'
                have HO := hidb hown'
                have HB := hidb (hbw.trans hb3)
                obtain ⟨ao, n', cap', rfl⟩ : ∃ ao n' cap, v' = .slice ao n' cap := hown'.2.elim (fun h => ⟨_, _, _, h.1⟩) fun ⟨_, _, _, hv, _⟩ => ⟨_, _, _, hv⟩
                clear hown' hgrow hnil hb3 hsn
                go_wp2_with fail
                go_roundg g'
                case measure => omega
                case rel => exact ⟨p + 2, k, acc ++ [UInt8.ofNat 39], by simp, by omega, by omega, by omega, by omega, by omega, hq, by rw [List.length_append]; simp; omega, HB.out, by rw [List.length_append]; exact HO.out⟩
              · go_wp2_with (at_builtin; refine wpList_append_own _ rfl _ _ 34 rfl w.heap.size 5 i00 (.int .u8 0) 1 1 Tryz.underlying34 hi0 hz0 hz1 hz2 rfl (by decide) _ _ _ rfl (how.alloc _) ⟨wr.heap.size, 0, none⟩ 1 1 [.int .u8 (34 : Int)] rfl rfl ?e21 ?e22 ?e23 ?e24 ?e25 ?_)
                try (case e21 => intro q u hq; exact app_one _ _ _ _ rfl q u hq)
                case e22 => first | rfl | (intro u hu; cases List.mem_singleton.1 hu; rfl)
                case e23 => unfold maxLen; omega
                case e24 => omega
                case e25 => first | (have := hbw.size; omega) | (have := hbw.size; simp; omega)
                intro v' w3 hown' hgrow hnil
                have hb3 := grow_below how hgrow hbw.size
                have hsn := cell_snoc acc 34 (by omega)
                rw [show Lib.byteCells acc ++ [Value.int .u8 34] = Lib.byteCells (acc ++ [UInt8.ofNat 34]) from hsn] at hown'
                have HO := hidb hown'
                have HB := hidb (hbw.trans hb3)
                obtain ⟨ao, n', cap', rfl⟩ : ∃ ao n' cap, v' = .slice ao n' cap := hown'.2.elim (fun h => ⟨_, _, _, h.1⟩) fun ⟨_, _, _, hv, _⟩ => ⟨_, _, _, hv⟩
                clear hown' hgrow hnil hb3 hsn
                go_wp2_with fail
                go_roundg g'
                case measure => omega
                case rel => exact ⟨p + 2, k, acc ++ [UInt8.ofNat 34], by simp, by omega, by omega, by omega, by omega, by omega, hq, by rw [List.length_append]; simp; omega, HB.out, by rw [List.length_append]; exact HO.out⟩
            · rw [if_neg k1] at hq
              have q1 : ((d : Int) == 92) = false := by simp; omega
              have q2 : ((d : Int) == 39) = false := by simp; omega
              have q3 : ((d : Int) == 34) = false := by simp; omega
              by_cases k2 : d = 110
              · subst k2
                rw [if_pos rfl] at hq
                simp only [Option.bind_some] at hq
                clear q1 q2 q3
                go_wp2_with (at_builtin; refine wpList_append_own _ rfl _ _ 34 rfl w.heap.size 5 i00 (.int .u8 0) 1 1 Tryz.underlying34 hi0 hz0 hz1 hz2 rfl (by decide) _ _ _ rfl (how.alloc _) ⟨wr.heap.size, 0, none⟩ 1 1 [.int .u8 (10 : Int)] rfl rfl ?e31 ?e32 ?e33 ?e34 ?e35 ?_)
                try (case e31 => intro q u hq; exact app_one _ _ _ _ rfl q u hq)
                case e32 => first | rfl | (intro u hu; cases List.mem_singleton.1 hu; rfl)
                case e33 => unfold maxLen; omega
                case e34 => omega
                case e35 => first | (have := hbw.size; omega) | (have := hbw.size; simp; omega)
                intro v' w3 hown' hgrow hnil
                have hb3 := grow_below how hgrow hbw.size
                have hsn := cell_snoc acc 10 (by omega)
                rw [show Lib.byteCells acc ++ [Value.int .u8 10] = Lib.byteCells (acc ++ [UInt8.ofNat 10]) from hsn] at hown'
                have HO := hidb hown'
                have HB := hidb (hbw.trans hb3)
                obtain ⟨ao, n', cap', rfl⟩ : ∃ ao n' cap, v' = .slice ao n' cap := hown'.2.elim (fun h => ⟨_, _, _, h.1⟩) fun ⟨_, _, _, hv, _⟩ => ⟨_, _, _, hv⟩
                clear hown' hgrow hnil hb3 hsn
                go_wp2_with fail
                go_roundg g'
                case measure => omega
                case rel => exact ⟨p + 2, k, acc ++ [UInt8.ofNat 10], by simp, by omega, by omega, by omega, by omega, by omega, hq, by rw [List.length_append]; simp; omega, HB.out, by rw [List.length_append]; exact HO.out⟩
              · by_cases k3 : d = 116
                · subst k3
                  rw [if_neg k2, if_pos rfl] at hq
                  simp only [Option.bind_some] at hq
                  clear q1 q2 q3
                  go_wp2_with (at_builtin; refine wpList_append_own _ rfl _ _ 34 rfl w.heap.size 5 i00 (.int .u8 0) 1 1 Tryz.underlying34 hi0 hz0 hz1 hz2 rfl (by decide) _ _ _ rfl (how.alloc _) ⟨wr.heap.size, 0, none⟩ 1 1 [.int .u8 (9 : Int)] rfl rfl ?e41 ?e42 ?e43 ?e44 ?e45 ?_)
                  try (case e41 => intro q u hq; exact app_one _ _ _ _ rfl q u hq)
                  case e42 => first | rfl | (intro u hu; cases List.mem_singleton.1 hu; rfl)
                  case e43 => unfold maxLen; omega
                  case e44 => omega
                  case e45 => first | (have := hbw.size; omega) | (have := hbw.size; simp; omega)
                  intro v' w3 hown' hgrow hnil
                  have hb3 := grow_below how hgrow hbw.size
                  have hsn := cell_snoc acc 9 (by omega)
                  rw [show Lib.byteCells acc ++ [Value.int .u8 9] = Lib.byteCells (acc ++ [UInt8.ofNat 9]) from hsn] at hown'
                  have HO := hidb hown'
                  have HB := hidb (hbw.trans hb3)
                  obtain ⟨ao, n', cap', rfl⟩ : ∃ ao n' cap, v' = .slice ao n' cap := hown'.2.elim (fun h => ⟨_, _, _, h.1⟩) fun ⟨_, _, _, hv, _⟩ => ⟨_, _, _, hv⟩
                  clear hown' hgrow hnil hb3 hsn
                  go_wp2_with fail
                  go_roundg g'
                  case measure => omega
                  case rel => exact ⟨p + 2, k, acc ++ [UInt8.ofNat 9], by simp, by omega, by omega, by omega, by omega, by omega, hq, by rw [List.length_append]; simp; omega, HB.out, by rw [List.length_append]; exact HO.out⟩
                · rw [if_neg k2, if_neg k3] at hq
                  have q4 : ((d : Int) == 110) = false := by simp; omega
                  have q5 : ((d : Int) == 116) = false := by simp; omega
                  by_cases k4 : d = 120
                  · subst k4
                    rw [if_pos rfl] at hq
                    clear q1 q2 q3 q4 q5
                    by_cases x0 : s.size ≤ p + 3
                    · have y1 : (s.size : Int) ≤ (p : Int) + 3 := by omega
                      have hn : hexN s 2 (p + 1 + 1) 0 = none := by
                        cases hx : hexN s 2 (p + 1 + 1) 0 with
                        | none => rfl
                        | some v => have := hexN_in s 1 (p + 1 + 1) 0 v hx; omega
                      rw [hn] at hq
                      obtain rfl : none = o := hq
                      go_wp2_with fail
                      exact bodyPost_ret (v := .tuple #[.string ⟨#[]⟩, .int .i64 0, .bool false]) (by simp [results, Tryz.results59, go_sem]) rfl ⟨rfl, by first | exact hbw | exact below_drewN hbw _ | exact hbw.drew⟩
                    · have y1 : ¬ (s.size : Int) ≤ (p : Int) + 3 := by omega
                      have y2 : (p : Int) + 2 < (s.size : Int) := by omega
                      have y3 : (p : Int) + 3 < (s.size : Int) := by omega
                      have hf2 : ∀ h, (s[p + 2]'h).toNat = bt s (p + 2) := fun h => at_byte s (p + 2) h
                      have hf3 : ∀ h, (s[p + 3]'h).toNat = bt s (p + 3) := fun h => at_byte s (p + 3) h
                      have cH2 := rhexed_any (bt s (p + 2))
                      have cH3 := rhexed_any (bt s (p + 3))
                      have ha2 : hexAt s (p + 1 + 1) = hexd (bt s (p + 2)) := by unfold hexAt; rw [if_pos (by omega)]
                      have ha3 : hexAt s (p + 1 + 1 + 1) = hexd (bt s (p + 3)) := by unfold hexAt; rw [if_pos (by omega)]
                      obtain ⟨b2, hb2⟩ : ∃ b2, bt s (p + 2) = b2 := ⟨_, rfl⟩
                      obtain ⟨b3, hb3⟩ : ∃ b3, bt s (p + 3) = b3 := ⟨_, rfl⟩
                      rw [hb2] at cH2 ha2
                      rw [hb3] at cH3 ha3
                      simp only [hb2] at hf2
                      simp only [hb3] at hf3
                      clear hb2 hb3
                      cases h2 : hexd b2 with
                      | none =>
                        rw [h2] at cH2 ha2
                        rw [hexN_none s 1 _ 0 ha2] at hq
                        obtain rfl : none = o := hq
                        clear ha2 ha3 cH3
                        go_wp2_with (first | (go_at_call 83; refine (cH2 _).mono ?_; rintro e w' ⟨rfl, hw'⟩; obtain rfl := hw'.symm; clear cH2))
                        exact bodyPost_ret (v := .tuple #[.string ⟨#[]⟩, .int .i64 0, .bool false]) (by simp [results, Tryz.results59, go_sem]) rfl ⟨rfl, by first | exact hbw | exact below_drewN hbw _ | exact hbw.drew⟩
                      | some a2 =>
                        rw [h2] at cH2 ha2
                        rw [hexN_some s 1 _ 0 _ ha2] at hq
                        cases h3 : hexd b3 with
                        | none =>
                          rw [h3] at cH3 ha3
                          rw [hexN_none s 0 _ _ ha3] at hq
                          obtain rfl : none = o := hq
                          clear ha2 ha3
                          go_wp2_with (first | (go_at_call 83; refine (cH2 _).mono ?_; rintro e w' ⟨rfl, hw'⟩; obtain rfl := hw'.symm; clear cH2) | (go_at_call 83; refine (cH3 _).mono ?_; rintro e w' ⟨rfl, hw'⟩; obtain rfl := hw'.symm; clear cH3))
                          exact bodyPost_ret (v := .tuple #[.string ⟨#[]⟩, .int .i64 0, .bool false]) (by simp [results, Tryz.results59, go_sem]) rfl ⟨rfl, by first | exact hbw | exact below_drewN hbw _ | exact hbw.drew⟩
                        | some a3 =>
                          rw [h3] at cH3 ha3
                          rw [hexN_some s 0 _ _ _ ha3] at hq
                          have cJ2 := cH2
                          have cJ3 := cH3
                          simp only [hexN, Option.map_some, Option.bind_some] at hq
                          rw [show (0 * 16 + a2) * 16 + a3 = 16 * a2 + a3 by omega, show p + 1 + 3 = p + 4 by omega] at hq
                          go_wp2_with (first | (go_at_call 83; refine (cH2 _).mono ?_; rintro e w' ⟨rfl, hw'⟩; obtain rfl := hw'.symm; clear cH2) | (go_at_call 83; refine (cH3 _).mono ?_; rintro e w' ⟨rfl, hw'⟩; obtain rfl := hw'.symm; clear cH3))
                          have y4 : (0 : Int) ≤ (p : Int) + 2 := by omega
                          have y5 : (0 : Int) ≤ (p : Int) + 3 := by omega
                          have d2 : a2 < 16 := hexd_lt h2
                          have d3 : a3 < 16 := hexd_lt h3
                          have v2 : IntKind.i64.wrap ((p : Int) + 2) = (p : Int) + 2 := by rw [IntKind.wrap_i64]; omega
                          have v3 : IntKind.i64.wrap ((p : Int) + 3) = (p : Int) + 3 := by rw [IntKind.wrap_i64]; omega
                          have t2 : ((p : Int) + 2).toNat = p + 2 := by omega
                          have t3 : ((p : Int) + 3).toNat = p + 3 := by omega
                          have v4 : IntKind.i64.wrap (16 * (a2 : Int)) = 16 * (a2 : Int) := by rw [IntKind.wrap_i64]; omega
                          have v5 : IntKind.i64.wrap (16 * (a2 : Int) + (a3 : Int)) = 16 * (a2 : Int) + (a3 : Int) := by rw [IntKind.wrap_i64]; omega
                          have v6 : IntKind.u8.wrap (16 * (a2 : Int) + (a3 : Int)) = 16 * (a2 : Int) + (a3 : Int) := by rw [IntKind.wrap_u8]; omega
                          have z1 : acc.length + 1 ≤ maxLen := by unfold maxLen; omega
                          have z2 : (acc.length + 1) * 1 ≤ 140737488355328 := by omega
                          have z3 := hbw.size
                          clear cJ2 cJ3
                          have ow : ((wr.alloc (Obj.cells #[.int .u8 (16 * (a2 : Int) + (a3 : Int))] 5)).drew).ownsRow w.heap.size 5 1 u7 acc.length (Lib.byteCells acc) := (how.alloc _).drew
                          have nw : ((wr.alloc (Obj.cells #[.int .u8 (16 * (a2 : Int) + (a3 : Int))] 5)).drew).cell? ((⟨wr.heap.size, 0, none⟩ : Addr).add 0) = some (.int .u8 (16 * (a2 : Int) + (a3 : Int))) := app_one wr _ _ _ rfl 0 _ rfl
                          have z4 : w.heap.size ≤ ((wr.alloc (Obj.cells #[.int .u8 (16 * (a2 : Int) + (a3 : Int))] 5)).drew).heap.size := by simp; omega
                          go_region_law (first
                            | refine step_hexed rfl (.tmp 93) rfl b2 rfl a2 h2 ?_
                            | refine step_hexed rfl (.tmp 99) rfl b3 rfl a3 h3 ?_
                            | (refine step_app1 rfl (.tmp 89) (.tmp 103) rfl w.heap.size u7 acc.length (Lib.byteCells acc) rfl ow ⟨wr.heap.size, 0, none⟩ (.int .u8 (16 * (a2 : Int) + (a3 : Int))) rfl nw rfl z1 z2 z4 ?_; intro g cap w3 hown' hgrow))
                          all_goals (
                            have hsn : Lib.byteCells acc ++ [Value.int .u8 (16 * (a2 : Int) + (a3 : Int))] = Lib.byteCells (acc ++ [UInt8.ofNat (16 * a2 + a3)]) := by
                              have := cell_snoc acc (16 * a2 + a3) (by omega)
                              push_cast at this
                              exact this
                            have hb3 : Below w.heap.size wr w3 := (((Below.refl w.heap.size wr).alloc z3 _).drew).grown hgrow z4 (fun k hk => (ow.lt k hk).1)
                            rw [hsn] at hown'
                            have HO := hidb hown'
                            have HB := hidb (hbw.trans hb3)
                            clear hown' hgrow hb3 hsn ow nw z1 z2 z3 z4 v3 v4 v5 v6 t2 t3 y4 y5 hf2 hf3 hd1
                            go_wp2_with fail
                            go_roundg g'
                            case measure => omega
                            case rel => exact ⟨p + 4, k, acc ++ [UInt8.ofNat (16 * a2 + a3)], by first | rfl | (simp; omega) | simp, by omega, by omega, by omega, by omega, by omega, hq, by rw [List.length_append]; simp; omega, HB.out, by rw [List.length_append]; exact HO.out⟩)
                  · rw [if_neg k4] at hq
                    have q6 : ((d : Int) == 120) = false := by simp; omega
                    obtain rfl : none = o := hq
                    go_wp2_with fail
                    exact bodyPost_ret (v := .tuple #[.string ⟨#[]⟩, .int .i64 0, .bool false]) (by simp [results, Tryz.results59, go_sem]) rfl ⟨rfl, hbw⟩
        · have e2 : ((c : Int) != 92) = true := by simp; omega
          have e3 : ((c : Int) == 92) = false := by simp; omega
          rw [quotN_byte s m k p acc hlt (by omega) (by omega)] at hq
          go_wp2_with (at_builtin; refine wpList_append_own _ rfl _ _ 34 rfl w.heap.size 5 i00 (.int .u8 0) 1 1 Tryz.underlying34 hi0 hz0 hz1 hz2 rfl (by decide) _ _ _ rfl (how.alloc _) ⟨wr.heap.size, 0, none⟩ 1 1 [.int .u8 (c : Int)] rfl rfl ?e51 ?e52 ?e53 ?e54 ?e55 ?_)
          try (case e51 => intro q u hq; exact app_one _ _ _ _ rfl q u hq)
          case e52 => first | rfl | (intro u hu; cases List.mem_singleton.1 hu; rfl)
          case e53 => unfold maxLen; omega
          case e54 => omega
          case e55 => first | (have := hbw.size; omega) | (have := hbw.size; simp; omega)
          intro v' w3 hown' hgrow hnil
          have hb3 := grow_below how hgrow hbw.size
          rw [cell_snoc acc c (by have := bt_lt s p; omega)] at hown'
          have HO := hidb hown'
          have HB := hidb (hbw.trans hb3)
          obtain ⟨ao, n', cap', rfl⟩ : ∃ ao n' cap, v' = .slice ao n' cap := hown'.2.elim (fun h => ⟨_, _, _, h.1⟩) fun ⟨_, _, _, hv, _⟩ => ⟨_, _, _, hv⟩
          clear hown' hgrow hnil hb3
          go_wp2_with fail
          go_roundg g'
          case measure => omega
          case rel => exact ⟨p + 1, k + 1, acc ++ [UInt8.ofNat c], by simp, by omega, by omega, by omega, by omega, by omega, by rw [← hq, HC.out], by rw [List.length_append]; simp; omega, HB.out, by rw [List.length_append]; exact HO.out⟩
    · have i1 : ¬ (p : Int) < (s.size : Int) := by omega
      rw [quotN_end s m k p acc (by omega)] at hq
      subst hq
      go_wp2_with fail
      exact bodyPost_ret (v := .tuple #[.string ⟨#[]⟩, .int .i64 0, .bool false]) (by simp [results, Tryz.results59, go_sem]) rfl ⟨rfl, hbw⟩
end Go.Proofs.YthdljnakmekhkaaGreatDoor


/- The law's Same on rows of tokens. -/
namespace Go.Proofs.YthdljnakmekhkaaGreatDoor
open Go.RowKit Go.Lib
attribute [local go_sem] store_float f64bits
attribute [local go_sem ↓] Go.wp_at_zero Go.wp_at_succ

end Go.Proofs.YthdljnakmekhkaaGreatDoor


/- The chapter's first example. -/
namespace Go.Proofs.YthdljnakmekhkaaGreatDoor
open Go.RowKit Go.Lib
attribute [local go_sem] store_float f64bits
attribute [local go_sem ↓] Go.wp_at_zero Go.wp_at_succ

def KS : ByteArray := ⟨#[102, 40, 88, 41, 45, 62, 88, 43, 49, 46, 53, 46, 37, 101]⟩
def KT : List Tk := [⟨1, ⟨#[102]⟩, 0, 0, 0⟩, ⟨6, ⟨#[40]⟩, 0, 0, 1⟩, ⟨2, ⟨#[88]⟩, 0, 0, 2⟩, ⟨6, ⟨#[41]⟩, 0, 0, 3⟩, ⟨6, ⟨#[45, 62]⟩, 0, 0, 4⟩, ⟨2, ⟨#[88]⟩, 0, 0, 6⟩, ⟨6, ⟨#[43]⟩, 0, 0, 7⟩, ⟨4, ⟨#[]⟩, 0, 4609434218613702656, 8⟩, ⟨6, ⟨#[46]⟩, 0, 0, 11⟩, ⟨8, ⟨#[]⟩, 0, 0, 14⟩]

end Go.Proofs.YthdljnakmekhkaaGreatDoor


/- LexTokens, given the reference's token. -/
namespace Go.Proofs.YthdljnakmekhkaaGreatDoor
open Go.RowKit Go.Lib
attribute [local go_sem] store_float f64bits
attribute [local go_sem ↓] Go.wp_at_zero Go.wp_at_succ

end Go.Proofs.YthdljnakmekhkaaGreatDoor


/- The reference's token, whole; LexTokens. -/
namespace Go.Proofs.YthdljnakmekhkaaGreatDoor
open Go.RowKit Go.Lib
attribute [local go_sem] store_float f64bits
attribute [local go_sem ↓] Go.wp_at_zero Go.wp_at_succ

set_option maxHeartbeats 1000000 in
theorem rtok_quote (s : ByteArray) (p : Nat) (hp : p < s.size) (hs : s.size ≤ 65536) (hq : bt s p = 39 ∨ bt s p = 34) (w : World) : Calls Tryz.prog 25 #[.string s, .int .i64 (p : Int)] w fun e w' => e = .returned (rV (quoteV s p) p (quoteE s p)) ∧ Below w.heap.size w w' := by
  have cQ := rquoted_any s p hp hq hs (wbox w)
  have i0 : (0 : Int) ≤ (p : Int) := by omega
  have i1 : (p : Int) < (s.size : Int) := by omega
  unfold quoteV quoteE
  rcases hq with hq | hq
  · have cD := rdigit_any 39
    rw [show pDigit 39 = false from rfl] at cD
    have hb : ∀ h, (s[p]'h).toNat = 39 := fun h => by rw [at_byte, hq]
    rw [hq] at cQ ⊢
    clear hq
    cases ho : quotN s 39 (s.size + 1) (p + 1) [] with
    | none =>
      rw [ho] at cQ
      show Calls _ _ _ _ fun e w' => e = .returned (rV (badV 23) p _) ∧ _
      rw [rV_bad 23 (by decide)]
      replace cQ : Calls Tryz.prog 59 #[.string s, .int .i64 (p : Int)] (wbox w) fun e w' => e = .returned (.tuple #[.string ⟨#[]⟩, .int .i64 0, .bool false]) ∧ Below (wbox w).heap.size (wbox w) w' := cQ
      go_enter Tryz.func25, Tryz.ntmps25
      go_wp2_with (first | (go_at_call 56; refine (cD _).mono ?_; rintro e w' ⟨rfl, hw'⟩; obtain rfl := hw'.symm) | (go_at_call 59; refine cQ.mono ?_; rintro e w1 ⟨rfl, hb1⟩; have HB1 := hidb hb1; obtain ⟨z0, z1, z2, z3, z4, y0, y1, y2, y3, y4, _⟩ := (wbox_box w).keep hb1))
      exact bodyPost_ret (v := .tuple #[.agg #[.int .i64 (0), .string (⟨#[]⟩), .int .i64 (0), .float .f64 (0), .int .i64 (0)], .int .i64 0, .int .i64 23]) (by simp [results, Tryz.results25, go_sem, z0, z1, z2, z3, z4]) rfl ⟨rfl, below_set5 ((wbox_below w).trans (HB1.out.mono (wbox_below w).size)) (Nat.le_refl _) _ _ _ _ _⟩
    | some x =>
      obtain ⟨l, E⟩ := x
      rw [ho] at cQ
      obtain ⟨X, hX⟩ : ∃ X, (⟨l.toArray⟩ : ByteArray) = X := ⟨_, rfl⟩
      replace cQ : Calls Tryz.prog 59 #[.string s, .int .i64 (p : Int)] (wbox w) fun e w' => e = .returned (.tuple #[.string X, .int .i64 (E : Int), .bool true]) ∧ Below (wbox w).heap.size (wbox w) w' := by rw [← hX]; exact cQ
      clear ho
      show Calls _ _ _ _ fun e w' => e = .returned (rV (atomV ⟨l.toArray⟩) p E) ∧ _
      rw [hX]
      clear hX
      unfold atomV
      by_cases h64 : 64 < X.size
      · have i6 : (64 : Int) < (X.size : Int) := by omega
        rw [if_pos h64, rV_bad 23 (by decide)]
        go_enter Tryz.func25, Tryz.ntmps25
        go_wp2_with (first | (go_at_call 56; refine (cD _).mono ?_; rintro e w' ⟨rfl, hw'⟩; obtain rfl := hw'.symm) | (go_at_call 59; refine cQ.mono ?_; rintro e w1 ⟨rfl, hb1⟩; have HB1 := hidb hb1; obtain ⟨z0, z1, z2, z3, z4, y0, y1, y2, y3, y4, _⟩ := (wbox_box w).keep hb1))
        exact bodyPost_ret (v := .tuple #[.agg #[.int .i64 (0), .string (⟨#[]⟩), .int .i64 (0), .float .f64 (0), .int .i64 (0)], .int .i64 0, .int .i64 23]) (by simp [results, Tryz.results25, go_sem, z0, z1, z2, z3, z4]) rfl ⟨rfl, below_set5 ((wbox_below w).trans (HB1.out.mono (wbox_below w).size)) (Nat.le_refl _) _ _ _ _ _⟩
      · have i6 : ¬ (64 : Int) < (X.size : Int) := by omega
        rw [if_neg h64, rV_tk]
        go_enter Tryz.func25, Tryz.ntmps25
        go_wp2_with (first | (go_at_call 56; refine (cD _).mono ?_; rintro e w' ⟨rfl, hw'⟩; obtain rfl := hw'.symm) | (go_at_call 59; refine cQ.mono ?_; rintro e w1 ⟨rfl, hb1⟩; have HB1 := hidb hb1; obtain ⟨z0, z1, z2, z3, z4, y0, y1, y2, y3, y4, _⟩ := (wbox_box w).keep hb1))
        exact bodyPost_ret (v := .tuple #[.agg #[.int .i64 (1), .string (X), .int .i64 (0), .float .f64 (0), .int .i64 ((p : Int))], .int .i64 (E : Int), .int .i64 0]) (by simp [results, Tryz.results25, go_sem, z0, z1, z2, z3, z4]) rfl ⟨rfl, below_set5 ((wbox_below w).trans (HB1.out.mono (wbox_below w).size)) (Nat.le_refl _) _ _ _ _ _⟩
  · have cD := rdigit_any 34
    rw [show pDigit 34 = false from rfl] at cD
    have hb : ∀ h, (s[p]'h).toNat = 34 := fun h => by rw [at_byte, hq]
    rw [hq] at cQ ⊢
    clear hq
    cases ho : quotN s 34 (s.size + 1) (p + 1) [] with
    | none =>
      rw [ho] at cQ
      show Calls _ _ _ _ fun e w' => e = .returned (rV (badV 23) p _) ∧ _
      rw [rV_bad 23 (by decide)]
      replace cQ : Calls Tryz.prog 59 #[.string s, .int .i64 (p : Int)] (wbox w) fun e w' => e = .returned (.tuple #[.string ⟨#[]⟩, .int .i64 0, .bool false]) ∧ Below (wbox w).heap.size (wbox w) w' := cQ
      go_enter Tryz.func25, Tryz.ntmps25
      go_wp2_with (first | (go_at_call 56; refine (cD _).mono ?_; rintro e w' ⟨rfl, hw'⟩; obtain rfl := hw'.symm) | (go_at_call 59; refine cQ.mono ?_; rintro e w1 ⟨rfl, hb1⟩; have HB1 := hidb hb1; obtain ⟨z0, z1, z2, z3, z4, y0, y1, y2, y3, y4, _⟩ := (wbox_box w).keep hb1))
      exact bodyPost_ret (v := .tuple #[.agg #[.int .i64 (0), .string (⟨#[]⟩), .int .i64 (0), .float .f64 (0), .int .i64 (0)], .int .i64 0, .int .i64 23]) (by simp [results, Tryz.results25, go_sem, z0, z1, z2, z3, z4]) rfl ⟨rfl, below_set5 ((wbox_below w).trans (HB1.out.mono (wbox_below w).size)) (Nat.le_refl _) _ _ _ _ _⟩
    | some x =>
      obtain ⟨l, E⟩ := x
      rw [ho] at cQ
      obtain ⟨X, hX⟩ : ∃ X, (⟨l.toArray⟩ : ByteArray) = X := ⟨_, rfl⟩
      replace cQ : Calls Tryz.prog 59 #[.string s, .int .i64 (p : Int)] (wbox w) fun e w' => e = .returned (.tuple #[.string X, .int .i64 (E : Int), .bool true]) ∧ Below (wbox w).heap.size (wbox w) w' := by rw [← hX]; exact cQ
      clear ho
      show Calls _ _ _ _ fun e w' => e = .returned (rV (.tuple #[.agg #[.int .i64 (5), .string (⟨l.toArray⟩), .int .i64 (0), .float .f64 (0), .int .i64 (0)], .int .i64 0]) p E) ∧ _
      rw [hX, rV_tk]
      clear hX
      go_enter Tryz.func25, Tryz.ntmps25
      go_wp2_with (first | (go_at_call 56; refine (cD _).mono ?_; rintro e w' ⟨rfl, hw'⟩; obtain rfl := hw'.symm) | (go_at_call 59; refine cQ.mono ?_; rintro e w1 ⟨rfl, hb1⟩; have HB1 := hidb hb1; obtain ⟨z0, z1, z2, z3, z4, y0, y1, y2, y3, y4, _⟩ := (wbox_box w).keep hb1))
      exact bodyPost_ret (v := .tuple #[.agg #[.int .i64 (5), .string (X), .int .i64 (0), .float .f64 (0), .int .i64 ((p : Int))], .int .i64 (E : Int), .int .i64 0]) (by simp [results, Tryz.results25, go_sem, z0, z1, z2, z3, z4]) rfl ⟨rfl, below_set5 ((wbox_below w).trans (HB1.out.mono (wbox_below w).size)) (Nat.le_refl _) _ _ _ _ _⟩

theorem rTok_all (s : ByteArray) (hs : s.size ≤ 65536) : RTok s := by
  intro p W hp
  unfold tokV tokE
  by_cases h1 : pSmall (bt s p) = true
  · rw [if_pos h1, if_pos h1]; exact rtok_word s p hp hs h1 W
  rw [if_neg h1, if_neg h1]
  by_cases h2 : pCapital (bt s p) = true ∨ bt s p = 95
  · rw [if_pos h2, if_pos h2]; exact rtok_var s p hp hs h1 h2 W
  rw [if_neg h2, if_neg h2]
  by_cases h3 : pDigit (bt s p) = true
  · rw [if_pos h3, if_pos h3]; exact rtok_num s p hp hs h3 W
  rw [if_neg h3, if_neg h3]
  by_cases h4 : bt s p = 35
  · rw [if_pos h4, if_pos h4]; exact rtok_bits s p hp hs h4 W
  rw [if_neg h4, if_neg h4]
  by_cases h5 : bt s p = 39 ∨ bt s p = 34
  · rw [if_pos h5, if_pos h5]; exact rtok_quote s p hp hs h5 W
  rw [if_neg h5, if_neg h5]
  exact rtok_sign s p hp hs h1 h2 h3 h4 h5 W

end Go.Proofs.YthdljnakmekhkaaGreatDoor


