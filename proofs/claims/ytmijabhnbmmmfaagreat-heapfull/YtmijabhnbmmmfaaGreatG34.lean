import Derived.Test.YtmijabhnbmmmfaaGreatG33
import Derived.Deep.LoopGhost
import Derived.Deep.RegionLaw
/- read of a word that points. -/
namespace Go.Proofs.YtmijabhnbmmmfaaGreat
open Go.RowKit Go.Deep
attribute [local go_sem] store_float f64bits f64frombits
attribute [local go_sem ↓] Go.wp_at_zero Go.wp_at_succ

/-- What is read, and what is still to be read. -/
structure RdP (hb ab most : Nat) (ws : List Int) (L : List ByteArray) (F : List Nat) (a : Option Addr) (c : Nat) (full pre : List Tr) (es : List (Tr × Int)) (r ds : List Tr) (q : Nat) (y : Int) : Prop where
  tot : pre ++ (es.map (·.1) ++ r) = full
  sa : SameAll pre ds
  el : ∀ (j : Nat) (x : Tr × Int), es[j]? = some x → ws[q + j]? = some x.2 ∧ RdOk hb ab most ws L F a c x.1 x.2
  rl : RepL ws L r y
  re : ∀ t, t ∈ r → ∀ u, Rep ws L t u → RdOk hb ab most ws L F a c t u

theorem own_form {w : World} {base : Nat} {v : Value} {n : Nat} {xs : List Value} (h : w.ownsRow base 44 5 v n xs) : ∃ av cv, v = .slice av n cv := by
  rcases h.2 with ⟨rfl, h0⟩ | ⟨g, cap, cur, rfl, _⟩
  · exact ⟨none, 0, by rw [h0]⟩
  · exact ⟨_, _, rfl⟩

theorem repl_tag {ws : List Int} {L : List ByteArray} {r : List Tr} {y : Int} (h : RepL ws L r y) : (tagI y = 4 ∨ tagI y = 6) ∧ 0 ≤ y ∧ y ≤ 18446744073709551615 ∧ ptB y = !r.isEmpty := by
  cases r with
  | nil => unfold RepL at h; subst h; have := nil_made; exact ⟨Or.inl this.1, this.2.2.1, this.2.2.2.1, by unfold ptB; rw [this.1]; rfl⟩
  | cons t2 r2 =>
    unfold RepL at h
    obtain ⟨p2, rfl, hp2, _⟩ := h
    have := cons_made hp2
    exact ⟨Or.inr this.1, this.2.2.1, this.2.2.2.1, by unfold ptB; rw [this.1]; rfl⟩

set_option maxHeartbeats 3000000 in
set_option maxRecDepth 100000 in
theorem read_point {hb ab most : Nat} {ws : List Int} {L : List ByteArray} {F : List Nat} {a : Option Addr} {c g : Nat} {u y : Int} {n cc fl q : Nat} {A : Addr} {k Nn : Int} {a0 : Option Addr} {c0 : Nat} (es : List (Tr × Int)) (r : List Tr) (ha : a = some ⟨g, 0, none⟩) (h0 : 0 ≤ u) (h1 : u ≤ 18446744073709551615) (ht : tagI u = 5 ∨ tagI u = 6)
    (BLK : ∀ w, HP w hb ab most ws L F a c → Calls Tryz.prog 53 #[.pointer (some ⟨hb, 0, none⟩), .int .u64 u] w fun e w' => e = .returned (.tuple #[.agg #[.slice (some A) n n, .int .i64 k, .int .i64 Nn, .float .f64 fl, .string ⟨#[]⟩, .slice none 0 0, .slice (some ⟨g, q, none⟩) es.length cc, .int .u64 y], .bool true]) ∧ Below w.heap.size w w')
    (hel : ∀ (j : Nat) (x : Tr × Int), es[j]? = some x → ws[q + j]? = some x.2 ∧ RdOk hb ab most ws L F a c x.1 x.2)
    (hrl : RepL ws L r y) (hre : ∀ t, t ∈ r → ∀ u, Rep ws L t u → RdOk hb ab most ws L F a c t u) (hlen : es.length + r.length ≤ 65536)
    (hk : (Lit.int .i64 k).wf = true) (hn : (Lit.int .i64 Nn).wf = true) (hf : (Lit.float .f64 fl).wf = true) : RdOk hb ab most ws L F a c (.mk k Nn fl ⟨#[]⟩ a0 c0 (es.map (·.1) ++ r)) u := by
  intro w hp
  have BK := hidb (fun w' (hb' : Below w.heap.size w w') => BLK w' (hp.keep hb'))
  have PT := hidb (points_any u h0 h1)
  have e : ptB u = true := by unfold ptB; rcases ht with h | h <;> rw [h] <;> rfl
  rw [e] at PT
  have HPP := hidb hp
  have HP0 := hidb (show RdP hb ab most ws L F a c (es.map (·.1) ++ r) [] es r [] q y from ⟨rfl, by unfold SameAll; trivial, hel, hrl, hre⟩)
  have HK := hidb hk
  have HN := hidb hn
  have HF := hidb hf
  have HA := hidb ha
  have HLEN := hidb (show (es.map (·.1) ++ r).length ≤ 65536 by simpa using hlen)
  generalize hfull : es.map (·.1) ++ r = full at *
  clear hp e BLK hel hrl hre hk hn hf hlen ht hfull ha
  go_enter Tryz.func38, Tryz.ntmps38
  go_wp2_with (go_at_call 51; refine (PT.out _).mono ?_; rintro e w' ⟨rfl, hw'⟩; obtain rfl := hw'.symm)
  refine (BK.out _ (below_new _ _)).mono ?_
  rintro e w1 ⟨rfl, hb1⟩
  have HB := hidb (below_in hb1)
  have hwlt : w.heap.size < w1.heap.size := by have := hb1.size; simp at this; omega
  have RB := (Box.new w 44 (.int .i64 0) (.int .i64 0) (.float .f64 0) (.string ⟨#[]⟩) (.slice none 0 0)).keep hb1
  have o1 := Oct.new w1 129 (.slice (some A) n n) (.int .i64 k) (.int .i64 Nn) (.float .f64 fl) (.string ⟨#[]⟩) (.slice none 0 0) (.slice (some ⟨g, q, none⟩) es.length cc) (.int .u64 y)
  have e1 : (w1.alloc (.cells #[.slice (some A) n n, .int .i64 k, .int .i64 Nn, .float .f64 fl, .string ⟨#[]⟩, .slice none 0 0, .slice (some ⟨g, q, none⟩) es.length cc, .int .u64 y] 129)).heap.size = w1.heap.size + 1 := by simp
  have x1 := Box.new (w1.alloc (.cells #[.slice (some A) n n, .int .i64 k, .int .i64 Nn, .float .f64 fl, .string ⟨#[]⟩, .slice none 0 0, .slice (some ⟨g, q, none⟩) es.length cc, .int .u64 y] 129)) 44 (.int .i64 k) (.int .i64 Nn) (.float .f64 fl) (.string ⟨#[]⟩) (.slice none 0 0)
  rw [e1] at x1
  have HM0 : Hid (RdM w ((w1.alloc (.cells #[.slice (some A) n n, .int .i64 k, .int .i64 Nn, .float .f64 fl, .string ⟨#[]⟩, .slice none 0 0, .slice (some ⟨g, q, none⟩) es.length cc, .int .u64 y] 129)).alloc (.cells #[.int .i64 k, .int .i64 Nn, .float .f64 fl, .string ⟨#[]⟩, .slice none 0 0] 44)) w1.heap.size k Nn fl g [] none 0 q es.length cc y) :=
    hidb ⟨⟨_, _, _, _, _, _, o1.keep (below_new _ _)⟩, x1, rows_nil _ _, (RB.keep (below_new _ _)).keep (below_new _ _), (HB.out.alloc HB.out.size _).alloc (by rw [e1]; have := HB.out.size; omega) _, by simp, hwlt⟩
  generalize hB : w1.heap.size = B at HM0
  clear hb1 BK PT RB o1 x1 e1 HB hwlt
  go_wp2_with fail
  clear hB
  go_loopg [] r.length (fun gk wr => ∃ (pre : List Tr) (es : List (Tr × Int)) (r ds : List Tr) (av : Option Addr) (cv q cc : Nat) (y : Int), r.length = gk ∧ RdP hb ab most ws L F a c full pre es r ds q y ∧ RdM w wr B k Nn fl g ds av cv q es.length cc y)
  case atStart => exact ⟨[], es, r, [], none, 0, q, cc, y, rfl, HP0.out, HM0.out⟩
  case round =>
    clear HP0 HM0
    obtain ⟨pre, es, r, ds, av, cv, q, cc, y, hgk, hP, hM⟩ := hrel
    have HGK := hidb hgk
    have HPR := hidb hP
    have HMR := hidb hM
    have hll : pre.length + (es.length + r.length) ≤ 65536 := by
      have := HLEN.out
      rw [← hP.tot] at this
      simpa using this
    have hdl : pre.length = ds.length := sameAll_len _ _ hP.sa
    have HLL := hidb hll
    have HDL := hidb hdl
    have GR := hidb (grow_terms (B + 2) (.slice av ds.length cv) ds.length es.length _ wr hM.own (by omega) (by omega) hM.sz)
    obtain ⟨A', n', n'', k', N', f', ho⟩ := hM.oc
    obtain ⟨o0, o1, o2, o3, o4, o5, o6, o7, s0, s1, s2, s3, s4, s5, s6, s7, -⟩ := ho
    obtain ⟨d0, d1, d2, d3, d4, g0, g1, g2, g3, g4, -⟩ := hM.bx
    have hbb : ¬ B = B + 1 := by omega
    have hbb2 : ¬ B + 1 = B := by omega
    clear hP hM hgk hll hdl
    go_wp2_with fail
    refine GR.out.mono ?_
    rintro e w2 ⟨v', rfl, ho2, hv2, hb2⟩
    obtain ⟨av2, cv2, rfl⟩ := own_form ho2
    have HM2 := hidb (HMR.out.grow hb2 ho2 hv2)
    clear o0 o1 o2 o3 o4 o5 o6 o7 s0 s1 s2 s3 s4 s5 s6 s7 d0 d1 d2 d3 d4 g0 g1 g2 g3 g4 GR ho2 hv2 A' n' n'' k' N' f'
    obtain ⟨A', n', n'', k', N', f', ho⟩ := (HMR.out.keep hb2).oc
    obtain ⟨o0, o1, o2, o3, o4, o5, o6, o7, s0, s1, s2, s3, s4, s5, s6, s7, -⟩ := ho
    obtain ⟨d0, d1, d2, d3, d4, g0, g1, g2, g3, g4, -⟩ := (HMR.out.keep hb2).bx
    go_wp2_with fail
    clear o0 o1 o2 o3 o4 o5 o6 o7 s0 s1 s2 s3 s4 s5 s6 s7 d0 d1 d2 d3 d4 g0 g1 g2 g3 g4 HMR hb2 A' n' n'' k' N' f'
    generalize w2.setCell ⟨B + 1, 4, none⟩ (.slice av2 ds.length cv2) = W2 at *
    go_loopw [40] (fun iv wr => ∃ (m : Nat) (ds2 : List Tr) (av : Option Addr) (cv : Nat), m ≤ es.length ∧ iv = .int .i64 m ∧ SameAll (pre ++ (es.take m).map (·.1)) ds2 ∧ RdM w wr B k Nn fl g ds2 av cv q es.length cc y) (fun iv _ => es.length - (intOf iv).toNat)
    case atStart => exact ⟨0, ds, av2, cv2, by omega, rfl, by simpa using HPR.out.sa, HM2.out⟩
    case round =>
      clear HM2
      obtain ⟨m, ds2, av3, cv3, hm, rfl, hsa, hM⟩ := hrel
      have HSA := hidb hsa
      have HM := hidb hM
      have hdl : ds2.length ≤ 65536 := by
        have e := sameAll_len _ _ hsa
        have := HLL.out
        simp only [List.length_append, List.length_map, List.length_take] at e
        omega
      have HPW := hidb (HPP.out.keep hM.be)
      clear hsa hM
      by_cases hml : m < es.length
      · have hmb : (m : Int) < (es.length : Int) := by omega
        have hmz : (0 : Int) ≤ (m : Int) := by omega
        obtain ⟨x, hx⟩ : ∃ x, es[m]? = some x := ⟨_, List.getElem?_eq_getElem hml⟩
        obtain ⟨hw, hrd⟩ := HPR.out.el m x hx
        obtain ⟨g', e', _, _, hcell⟩ := hp_cell HPW.out (q + m) x.2 hw
        rw [HA.out] at e'
        obtain rfl : g = g' := by simpa using e'
        have v0 := hcell wr (Below.refl _ _)
        have hbd : Below wr.heap.size wr wr.drew := (Below.refl _ _).drew
        have RDK := hidb (hrd wr.drew (HPW.out.keep hbd))
        have HMD := hidb (HM.out.keep hbd)
        have HNX : Hid (∀ t', Same x.1 t' → SameAll (pre ++ (es.take (m + 1)).map (·.1)) (ds2 ++ [t'])) := hidb (fun t' h => by
          rw [List.take_add_one, hx]
          simp only [Option.toList, List.map_append, List.map_cons, List.map_nil, ← List.append_assoc]
          exact sameAll_snoc h _ _ HSA.out)
        obtain ⟨d0, d1, d2, d3, d4, g0, g1, g2, g3, g4, -⟩ := HMD.out.bx
        have z1 : ds2.length + 1 ≤ maxLen := by unfold maxLen; omega
        have z2 : (ds2.length + 1) * 64 ≤ 140737488355328 := by omega
        have hm65 : m ≤ 65536 := by have := HLL.out; omega
        have HM1 := hidb (show m + 1 ≤ es.length ∧ es.length - (m + 1) < es.length - m by omega)
        clear hw hcell e' hbd hrd hx HSA
        generalize x.2 = X2 at *
        generalize x.1 = X1 at *
        go_wp2_with fail
        go_region_law (first
          | (refine step_read rfl (run_call ent_read #[.tmp 46, .tmp 47] _ rfl #[.pointer (some ⟨hb, 0, none⟩), .int .u64 X2] rfl) RDK.out ?_; intro k3 n3 f3 s3 a3 c3 ks3 w3 hsm hin3 hb3; have HM3 := hidb (HMD.out.keep hb3); obtain ⟨m0, m1, m2, m3, m4, n0, n1, n2, n3', n4, -⟩ := HM3.out.bx; have ma4 := (HM3.out.keep (below_new w3 (.cells #[.int .i64 k3, .int .i64 n3, .float .f64 f3, .string s3, .slice a3 ks3.length c3] 44))).bx.c4; have HSM := hidb hsm; have HTO := hidb (told_off HMD.out.rows HMD.out.sz hin3); have z4 : B + 2 ≤ (w3.alloc (.cells #[.int .i64 k3, .int .i64 n3, .float .f64 f3, .string s3, .slice a3 ks3.length c3] 44)).heap.size := (by have := HM3.out.sz; simp; omega); clear hsm hin3 hb3)
          | (refine step_app5 rfl (.tmp 45) (.tmp 49) rfl (B + 2) (.slice av3 ds2.length cv3) ds2.length (ds2.flatMap Tr.cells) rfl (HM3.out.keep (below_new w3 _)).own ⟨w3.heap.size, 0, none⟩ (Tr.cells (.mk k3 n3 f3 s3 a3 c3 ks3)) rfl rfl (app_cells w3 k3 n3 f3 s3 a3 c3 ks3) (tr_one _) z1 z2 z4 ?_; intro g' cap w4 hown hgrow hat; have HM4 := hidb (HM3.out.app (below_new w3 _) (in_below (below_new w3 _) HTO.out.1) (on_mono (fun b hS => ⟨hS.1, Nat.lt_of_lt_of_le hS.2.1 (by simp), hS.2.2⟩) _ HTO.out.2) hown hgrow hat); obtain ⟨p0, p1, p2, p3, p4, r0, r1, r2, r3, r4, -⟩ := HM3.out.box_app (below_new w3 _) hgrow; clear hown hgrow hat))
        all_goals (
          go_wp2_with fail
          go_roundw
          case rel => exact ⟨m + 1, ds2 ++ [.mk k3 n3 f3 s3 a3 c3 ks3], some ⟨g', 0, none⟩, cap, HM1.out.1, by go_num, HNX.out _ HSM.out, HM4.out⟩
          case measure => have := HM1.out.2; simp [intOf]; omega)
      · have hmn : ¬ (m : Int) < (es.length : Int) := by omega
        obtain rfl : m = es.length := by omega
        rw [List.take_length] at HSA
        obtain ⟨ty, y0, y1, ep⟩ := repl_tag HPR.out.rl
        have PY := hidb (points_any y y0 y1)
        rw [ep] at PY
        obtain ⟨A', n', n'', k', N', f', ho⟩ := HM.out.oc
        obtain ⟨o0, o1, o2, o3, o4, o5, o6, o7, s0, s1, s2, s3, s4, s5, s6, s7, -⟩ := ho
        obtain ⟨d0, d1, d2, d3, d4, g0, g1, g2, g3, g4, -⟩ := HM.out.bx
        obtain ⟨p0, p1, p2, p3, p4, r0, r1, r2, r3, r4, -⟩ := HM.out.rb
        cases r with
        | nil =>
          have hne1 : ¬ B + 1 = w.heap.size := by have := HM.out.wb; omega
          have hne2 : ¬ w.heap.size = B + 1 := by have := HM.out.wb; omega
          clear ty ep
          go_wp2_with (go_at_call 51; refine (PY.out _).mono ?_; rintro e w' ⟨rfl, hw'⟩; obtain rfl := hw'.symm)
          have hR := ((((HM.out.rows.set (p := ⟨w.heap.size, 0, none⟩) (by have := HM.out.wb; show w.heap.size < B + 2; omega) (.int .i64 k)).set (p := ⟨w.heap.size, 1, none⟩) (by have := HM.out.wb; show w.heap.size < B + 2; omega) (.int .i64 Nn)).set (p := ⟨w.heap.size, 2, none⟩) (by have := HM.out.wb; show w.heap.size < B + 2; omega) (.float .f64 fl)).set (p := ⟨w.heap.size, 3, none⟩) (by have := HM.out.wb; show w.heap.size < B + 2; omega) (.string ⟨#[]⟩)).set (p := ⟨w.heap.size, 4, none⟩) (by have := HM.out.wb; show w.heap.size < B + 2; omega) (.slice av3 ds2.length cv3)
          obtain ⟨a9, c9, e9, hin9⟩ := rows_tree hR k Nn fl ⟨#[]⟩ HK.out HN.out HF.out (Nat.zero_le _)
          obtain ⟨rfl, rfl⟩ : av3 = a9 ∧ cv3 = c9 := by simpa using e9
          have ht9 := HPR.out.tot
          simp only [List.append_nil] at ht9
          refine bodyPost_ret (v := .agg #[.int .i64 k, .int .i64 Nn, .float .f64 fl, .string ⟨#[]⟩, .slice av3 ds2.length cv3]) (by simp [results, Tryz.results38, go_sem, p0, p1, p2, p3, p4]) rfl ⟨.mk k Nn fl ⟨#[]⟩ av3 cv3 ds2, rfl, ?_, in_mono (by have := HM.out.wb; omega) _ hin9, below_set5 HM.out.be (Nat.le_refl _) _ _ _ _ _⟩
          unfold Same
          refine ⟨rfl, rfl, rfl, rfl, ?_⟩
          rw [← ht9]
          exact HSA.out
        | cons t2 r2 =>
          have hrl := HPR.out.rl
          unfold RepL at hrl
          obtain ⟨p, rfl, hp16, ⟨x, hx, hrx⟩, y', hy', hry⟩ := hrl
          obtain ⟨m1, m2, m3, m4, m5⟩ := cons_made hp16
          obtain ⟨ty', y0', y1', -⟩ := repl_tag hry
          have BL := hidb (block_of hb (ofW 6 p) p ⟨g, p, none⟩ ⟨g, p, none⟩ 2 1 2 0 8 0 y' m3 m4 m2 wr (Or.inl ⟨m1, fun w' hb' => pair_ok (HPW.out.keep hb') g p HA.out y' hy' y0' y1' ty'⟩))
          have HPN := hidb (show RdP hb ab most ws L F a c full (pre ++ es.map (·.1)) [(t2, x)] r2 ds2 p y' from ⟨by have := HPR.out.tot; simpa using this, HSA.out, fun j z hj => by
            rcases j with _ | j
            · obtain rfl : (t2, x) = z := by simpa using hj
              exact ⟨hx, HPR.out.re t2 (List.mem_cons_self ..) x hrx⟩
            · simp at hj, hry, fun t ht => HPR.out.re t (List.mem_cons_of_mem _ ht)⟩)
          generalize ofW 6 p = U at *
          have HMK := hidb (fun w' hb' => HM.out.next (w2 := w') hb' p y')
          clear ty ep hx hrx hy' hry m1 m2 m3 m4 m5 ty'
          go_wp2_with (first
            | (go_at_call 51; refine (PY.out _).mono ?_; rintro e w' ⟨rfl, hw'⟩; obtain rfl := hw'.symm)
            | (go_at_call 53; refine BL.out.mono ?_; rintro e w5 ⟨rfl, hb5⟩; have HM6 := hidb (HMK.out w5 hb5); obtain ⟨A9, n9, n99, k9, N9, f9, ho9⟩ := (HM.out.keep hb5).oc; obtain ⟨q0, q1, q2, q3, q4, q5, q6, q7, t0, t1, t2', t3, t4, t5, t6, t7, -⟩ := ho9; clear hb5 o0 o1 o2 o3 o4 o5 o6 o7 s0 s1 s2 s3 s4 s5 s6 s7))
          go_roundg r2.length
          case measure => have := HGK.out; simp at this; omega
          case rel => exact ⟨_, _, _, _, _, _, _, _, _, rfl, HPN.out, HM6.out⟩
end Go.Proofs.YtmijabhnbmmmfaaGreat


/- read of whatever says a right term; Load. -/
namespace Go.Proofs.YtmijabhnbmmmfaaGreat
open Go.RowKit Go.Deep
attribute [local go_sem] store_float f64bits f64frombits
attribute [local go_sem ↓] Go.wp_at_zero Go.wp_at_succ

theorem empty_of {s : ByteArray} (h : s.toList.isEmpty = true) : s = ⟨#[]⟩ := by
  rw [ByteArray.toList_eq] at h
  obtain ⟨d⟩ := s
  obtain ⟨l⟩ := d
  cases l with
  | nil => rfl
  | cons a r => simp at h

section
variable {hb ab most : Nat} {ws : List Int} {L : List ByteArray} {F : List Nat} {a : Option Addr} {c g : Nat}

theorem read_nil {a0 : Option Addr} {c0 : Nat} : RdOk hb ab most ws L F a c (.mk 8 0 0 ⟨#[]⟩ a0 c0 []) (ofW 4 0) := by
  obtain ⟨h1, _, h3, h4, h5⟩ := nil_made
  have e1 : aloneK (ofW 4 0) = 8 := by unfold aloneK; rw [h1]; rfl
  have e2 : aloneN (ofW 4 0) = 0 := by unfold aloneN; rw [h1]; rfl
  have e3 : aloneS L (ofW 4 0) = ⟨#[]⟩ := by unfold aloneS; rw [h1]; rfl
  refine read_alone h3 h4 h5 (by omega) ?_ (by rw [e1]; decide) (by rw [e2]; decide) (by rw [e3]; exact Nat.zero_le _)
  rw [e1, e2, e3]
  unfold Same SameAll
  exact ⟨rfl, rfl, rfl, rfl, trivial⟩

/-- A list that has some. -/
theorem read_list (ha : a = some ⟨g, 0, none⟩) {a0 : Option Addr} {c0 : Nat} (l : List Tr) (hl : l.length ≤ 65536) (hk : ∀ t, t ∈ l → ∀ u, Rep ws L t u → RdOk hb ab most ws L F a c t u) (u : Int) (h : RepL ws L l u) : RdOk hb ab most ws L F a c (.mk 8 0 0 ⟨#[]⟩ a0 c0 l) u := by
  cases l with
  | nil =>
    unfold RepL at h
    subst h
    exact read_nil
  | cons t r =>
    unfold RepL at h
    obtain ⟨p, rfl, hp, ⟨x, hx, hrx⟩, y, hy, hry⟩ := h
    obtain ⟨m1, m2, m3, m4, m5⟩ := cons_made hp
    obtain ⟨ty, y0, y1, -⟩ := repl_tag hry
    exact read_point (u := ofW 6 p) (y := y) (n := 2) (cc := 2) (fl := 0) (q := p) (A := ⟨g, p, none⟩) (k := 8) (Nn := 0) [(t, x)] r ha m3 m4 (Or.inr m1)
      (fun w hp' => block_of hb (ofW 6 p) p ⟨g, p, none⟩ ⟨g, p, none⟩ 2 1 2 0 8 0 y m3 m4 m2 w (Or.inl ⟨m1, fun w' hb' => pair_ok (hp'.keep hb') g p ha y hy y0 y1 ty⟩))
      (fun j z hj => by
        rcases j with _ | j
        · obtain rfl : (t, x) = z := by simpa using hj
          exact ⟨hx, hk t (List.mem_cons_self ..) x hrx⟩
        · simp at hj) hry (fun t' ht' => hk t' (List.mem_cons_of_mem _ ht')) (by simp only [List.length_cons, List.length_nil] at hl ⊢; omega) (by decide) (by decide) (by decide)

theorem zip_fst : ∀ (vs : List Int) (kids : List Tr), vs.length = kids.length → (List.zipWith (fun x t => ((t, x) : Tr × Int)) vs kids).map (fun x => x.1) = kids
  | [], [], _ => rfl
  | v :: vr, t :: r, h => by
    have := zip_fst vr r (by simpa using h)
    simp only [List.zipWith_cons_cons, List.map_cons, this]

theorem box_read (ha : a = some ⟨g, 0, none⟩) {a0 : Option Addr} {c0 : Nat} (k N : Int) (f p sz fr : Nat) (kids : List Tr) (hfr : frN k = fr) (hkB : hdB k = true) (hsz : sz ≤ 65536) (hw : ws[p]? = some (hdW k sz)) (hlen : p + (fr + kids.length) ≤ ws.length) (hln : lnN k sz = ((fr + kids.length : Nat) : Int)) (hlb : lnB k sz = true)
    (hf : f < 18446744073709551616) (hNw : (Lit.int .i64 N).wf = true) (hkw : (Lit.int .i64 k).wf = true)
    (hbr : ∀ w, HP w hb ab most ws L F a c → Calls Tryz.prog 99 #[.int .i64 k, .slice (some ⟨g, p, none⟩) (fr + kids.length) (fr + kids.length)] w fun e w'' => e = .returned (.agg #[.int .i64 (k), .int .i64 (N), .float .f64 (f), .string ⟨#[]⟩, .slice none 0 0]) ∧ Below w.heap.size w w'') (hgood : errT (.mk k N f ⟨#[]⟩ none 0 []) = 0)
    (hp : p ≤ 16777216) (hel : RepAll ws L kids (p + fr)) (hk : ∀ t, t ∈ kids → ∀ u, Rep ws L t u → RdOk hb ab most ws L F a c t u) :
    RdOk hb ab most ws L F a c (.mk k N f ⟨#[]⟩ a0 c0 kids) (ofW 5 p) := by
  obtain ⟨m1, m2, m3, m4, m5⟩ := box_made hp
  obtain ⟨e0, e1, e2, e3, e4⟩ := hd_made hkB (s := sz) (by omega) (by omega)
  obtain ⟨vs, hvl, hv⟩ := repAll_words kids (p + fr) hel
  have hfr0 : 1 ≤ fr := by rw [← hfr]; unfold frN; split <;> omega
  have hkl : kids.length ≤ 65536 := by
    unfold lnN at hln
    unfold frN at hfr
    split at hln
    · rename_i h7; rw [if_pos h7] at hfr; omega
    · rename_i h7
      rw [if_neg h7] at hfr
      split at hln <;> omega
  have hxl : (List.zipWith (fun x t => ((t, x) : Tr × Int)) vs kids).length = kids.length := by simp [hvl]
  have hI := read_point (hb := hb) (ab := ab) (most := most) (ws := ws) (L := L) (F := F) (a := a) (c := c) (u := ofW 5 p) (y := ofW 4 0) (n := fr + kids.length) (cc := fr + kids.length - fr) (fl := f) (g := g) (q := if fr + kids.length = fr then p else p + fr) (A := ⟨g, p, none⟩) (k := k) (Nn := N) (a0 := a0) (c0 := c0) (List.zipWith (fun x t => ((t, x) : Tr × Int)) vs kids) [] ha m3 m4 (Or.inl m1)
    (fun w hp' => by
      rw [hxl]
      have em : kids.length = fr + kids.length - fr := by omega
      rw [em]
      have em2 : fr + (fr + kids.length - fr) = fr + kids.length := by omega
      rw [em2]
      refine block_of hb (ofW 5 p) p ⟨g, p, none⟩ ⟨g, if fr + kids.length = fr then p else p + fr, none⟩ (fr + kids.length) (fr + kids.length - fr) (fr + kids.length - fr) f k N (ofW 4 0) m3 m4 m2 w (Or.inr ⟨m1, fun w' hb' => ?_⟩)
      have := box_ok (hp'.keep hb') g ha p (fr + kids.length) sz (hdW k sz) k N f hw e0 e1 e2 e3 e4 hln hlb hlen (by omega) hsz hf hNw hkw (fun w'' hb'' => hbr w'' ((hp'.keep hb').keep hb'')) hgood
      rw [hfr] at this
      exact this)
    (fun j z hj => by
      have hjl : j < kids.length := by
        rcases Nat.lt_or_ge j kids.length with q | q
        · exact q
        · rw [List.getElem?_eq_none (by rw [hxl]; exact q)] at hj; cases hj
      obtain ⟨t, ht⟩ : ∃ t, kids[j]? = some t := ⟨_, List.getElem?_eq_getElem hjl⟩
      obtain ⟨x, x1, x2, x3⟩ := hv j t ht
      have ez : z = (t, x) := by
        rw [List.getElem?_zipWith, x1, ht] at hj
        simpa using hj.symm
      subst ez
      rw [if_neg (by omega)]
      exact ⟨x2, hk t (List.mem_of_getElem? ht) x x3⟩) (by unfold RepL; rfl) (fun t ht => by simp at ht) (by rw [hxl]; simpa using hkl) hkw hNw (by simpa [Lit.wf] using hf)
  rw [zip_fst vs kids hvl, List.append_nil] at hI
  exact hI

/-- Its floats are of 64 bits. -/
def smF : Tr → Bool
  | .mk _ _ f _ _ _ _ => decide (f < 18446744073709551616)

theorem wf64 {n : Int} (h0 : -1099511627776000000 ≤ n) (h1 : n ≤ 1099511627776000000) : (Lit.int .i64 n).wf = true := by
  have e0 : IntKind.i64.min = -9223372036854775808 := by decide
  have e1 : IntKind.i64.max = 9223372036854775807 := by decide
  simp only [Lit.wf, e0, e1, Bool.and_eq_true, decide_eq_true_eq]
  omega

theorem in_smF {w : World} : ∀ t : Tr, t.In w 0 → allT smF t = true := by
  refine Tr.ind fun k n f s a c kids hk hin => ?_
  have hfit : (Tr.mk k n f s a c kids).fit := by unfold Tr.In at hin; exact hin.1
  have hf : f < 18446744073709551616 := by have := hfit.2.2.1; simpa [Lit.wf] using this
  simp only [allT, smF, decide_eq_true hf, Bool.true_and]
  have hall : ∀ (l : List Tr), (∀ t, t ∈ l → t ∈ kids) → allAll smF l = true := by
    intro l
    induction l with
    | nil => intro _; simp [allAll]
    | cons t r ih =>
      intro hl
      have ht := hl t (List.mem_cons_self ..)
      simp only [allAll, Bool.and_eq_true]
      refine ⟨?_, ih fun u hu => hl u (List.mem_cons_of_mem _ hu)⟩
      obtain ⟨j, hj⟩ := List.getElem?_of_mem ht
      refine hk t ht ?_
      unfold Tr.In at hin
      cases a with
      | none =>
        have h0 := hin.1.2.2.2.2.2.2 rfl
        have h1 := hin.1.2.2.2.2.1
        have := get_lt hj
        omega
      | some ad => exact (inAll_get (hin.2 ad rfl).2 j t hj).2
  exact hall kids fun t h => h

set_option maxRecDepth 100000 in
theorem rep_readP (ha : a = some ⟨g, 0, none⟩) (hL : L.length ≤ 100000) : ∀ t : Tr, allT smF t = true → allT goodT t = true → wN t ≤ 65536 → ∀ u, Rep ws L t u → RdOk hb ab most ws L F a c t u := by
  refine Tr.ind fun k n f s a' c' kids hk hin hg hwn u h => ?_
  simp only [allT, Bool.and_eq_true] at hg hin
  obtain ⟨hg1, hg2⟩ := hg
  have hf : f < 18446744073709551616 := by have := hin.1; simpa [smF] using this
  have hwk : ∀ t, t ∈ kids → wN t ≤ wAll kids := by
    intro t ht
    clear hk hin hg1 hg2 hwn h
    induction kids with
    | nil => simp at ht
    | cons v r ih =>
      simp only [wAll]
      rcases List.mem_cons.1 ht with rfl | ht
      · omega
      · have := ih ht; omega
  have hkids : wAll kids ≤ 65536 → ∀ t, t ∈ kids → ∀ u, Rep ws L t u → RdOk hb ab most ws L F a c t u := by
    intro hwa t ht
    exact hk t ht (good_kids hin.2 ht) (good_kids hg2 ht) (by have := hwk t ht; omega)
  unfold Rep at h
  simp only [wN] at hwn
  by_cases c1 : k = 1
  · rw [if_pos c1] at h
    subst c1 h
    simp [goodT] at hg1
    obtain ⟨hs0, hl0, ⟨_, hw, hf0⟩ | ⟨hq, _⟩⟩ := rightB_cases0 hg1
    · have e0 : kids = [] := List.length_eq_zero_iff.1 hl0
      subst e0 hf0
      obtain rfl := empty_of hs0
      have hb' := whB_yes hw
      obtain ⟨m1, m2, m3, m4, m5⟩ := of_made (t := 1) (b := n) (by decide) (by decide) (by simp [mayB]; omega)
      have e1 : aloneK (ofW 1 n) = 1 := by unfold aloneK; rw [m1]; rfl
      have e2 : aloneN (ofW 1 n) = n := by unfold aloneN; rw [m1, m2]; rfl
      have e3 : aloneS L (ofW 1 n) = ⟨#[]⟩ := by unfold aloneS; rw [m1]; rfl
      refine read_alone m3 m4 m5 (by omega) ?_ (by rw [e1]; decide) (by rw [e2]; exact wf64 (by omega) (by omega)) (by rw [e3]; exact Nat.zero_le _)
      rw [e1, e2, e3]
      unfold Same SameAll
      exact ⟨rfl, rfl, rfl, rfl, trivial⟩
    · omega
  rw [if_neg c1] at h hwn
  by_cases c6 : k = 6
  · rw [if_pos c6] at h
    subst c6 h
    simp [goodT] at hg1
    have e0 : kids = [] := hg1.2.2
    have hf0 := hg1.2.1.1
    subst e0 hf0
    obtain rfl := empty_of (s := s) (by simpa using hg1.2.1.2)
    obtain ⟨m1, m2, m3, m4, m5⟩ := of_made (t := 3) (b := n) (by decide) (by decide) (by simp [mayB]; omega)
    have e1 : aloneK (ofW 3 n) = 6 := by unfold aloneK; rw [m1]; rfl
    have e2 : aloneN (ofW 3 n) = n := by unfold aloneN; rw [m1, m2]; rfl
    have e3 : aloneS L (ofW 3 n) = ⟨#[]⟩ := by unfold aloneS; rw [m1]; rfl
    refine read_alone m3 m4 m5 (by omega) ?_ (by rw [e1]; decide) (by rw [e2]; exact wf64 (by omega) (by omega)) (by rw [e3]; exact Nat.zero_le _)
    rw [e1, e2, e3]
    unfold Same SameAll
    exact ⟨rfl, rfl, rfl, rfl, trivial⟩
  rw [if_neg c6] at h hwn
  by_cases c3 : k = 3
  · rw [if_pos c3] at h
    obtain ⟨i, rfl, hi⟩ := h
    subst c3
    simp [goodT] at hg1
    have e0 : kids = [] := hg1.2.2
    have hf0 := hg1.2.1.1
    have hn0 := hg1.2.1.2
    subst e0 hf0 hn0
    have hil := get_lt hi
    obtain ⟨m1, m2, m3, m4, m5⟩ := of_made (t := 2) (b := (i : Int)) (by decide) (by decide) (by simp [mayB]; omega)
    have e1 : aloneK (ofW 2 (i : Int)) = 3 := by unfold aloneK; rw [m1]; rfl
    have e2 : aloneN (ofW 2 (i : Int)) = 0 := by unfold aloneN; rw [m1]; rfl
    have e3 : aloneS L (ofW 2 (i : Int)) = s := by
      have hti : txIs L (i : Int) = true := by simp [txIs]; omega
      unfold aloneS; rw [m1, m2]; simp [txOf, hti, hi]
    refine read_alone m3 m4 m5 (by omega) ?_ (by rw [e1]; decide) (by rw [e2]; decide) (by rw [e3]; exact Nat.le_trans hg1.1 (by unfold maxLen; omega))
    rw [e1, e2, e3]
    unfold Same SameAll
    exact ⟨rfl, rfl, rfl, rfl, trivial⟩
  rw [if_neg c3] at h hwn
  by_cases c8 : k = 8
  · rw [if_pos c8] at h hwn
    subst c8
    simp [goodT] at hg1
    obtain ⟨⟨rfl, rfl⟩, hs0⟩ := hg1
    obtain rfl := empty_of (s := s) (by simpa using hs0)
    exact read_list ha kids (by omega) (hkids (by omega)) u h
  rw [if_neg c8] at h hwn
  obtain ⟨p, rfl, hp, hfr, hra⟩ := h
  have hfl : (front k n f kids.length).length = frN k := by
    unfold front frN
    by_cases c2 : k = 2
    · simp [c2]
    by_cases c4 : k = 4
    · simp [c4]
    by_cases c5 : k = 5
    · simp [c5]
    have c7 : k = 7 := by
      simp only [goodT, c1, c2, c3, c4, c5, c6, c8, or_self, if_false] at hg1
      by_cases h : k = 7
      · exact h
      · simp [h] at hg1
    simp [c7]
  have hplen : p + frN k ≤ ws.length := by
    have : frN k - 1 < (front k n f kids.length).length := by rw [hfl]; unfold frN; split <;> omega
    have := get_lt (hfr (frN k - 1) _ (List.getElem?_eq_getElem this))
    have : 1 ≤ frN k := by unfold frN; split <;> omega
    omega
  have hlen := all_len kids (p + (front k n f kids.length).length) hra (by rw [hfl]; exact hplen)
  rw [hfl] at hra hlen hwn
  have hwa : wAll kids ≤ 65536 := by omega
  have hkk := hkids hwa
  by_cases c2 : k = 2
  · subst c2
    simp [goodT] at hg1
    obtain ⟨hs0, hl0, ⟨hq, _⟩ | ⟨_, hn0, hfin⟩⟩ := rightB_cases0 hg1
    · omega
    have e0 : kids = [] := List.length_eq_zero_iff.1 hl0
    subst e0 hn0
    obtain rfl := empty_of hs0
    have hx := hfr 1 (f : Int) rfl
    exact box_read ha 2 0 f p 1 2 [] rfl rfl (by omega) (hfr 0 _ rfl) (by simpa [frN] using hlen) rfl rfl hf (by decide) (by decide) (fun w hp' => by
      obtain ⟨g', e', _, _, hc⟩ := hp_cell hp' (p + 1) (f : Int) hx
      rw [ha] at e'
      obtain rfl : g = g' := by simpa using e'
      exact bare_2 g p 2 f w (by omega) (hc w (Below.refl _ _))) (bare_err (by simp [goodT, rightB, hfin]) (by decide)) hp hra hkk
  by_cases c4 : k = 4
  · subst c4
    simp [goodT] at hg1
    have e0 : kids = [] := hg1.2.2
    subst e0
    have hx := hfr 1 n rfl
    have hn := hg1.1
    have hf0 := hg1.2.1.1
    subst hf0
    obtain rfl := empty_of (s := s) (by simpa using hg1.2.1.2)
    exact box_read ha 4 n 0 p 1 2 [] rfl rfl (by omega) (hfr 0 _ rfl) (by simpa [frN] using hlen) rfl rfl (by omega) (wf64 (by omega) (by omega)) (by decide) (fun w hp' => by
      obtain ⟨g', e', _, _, hc⟩ := hp_cell hp' (p + 1) n hx
      rw [ha] at e'
      obtain rfl : g = g' := by simpa using e'
      exact bare_n 4 (Or.inl rfl) g p 2 n w (by omega) hn.1 hn.2 (hc w (Below.refl _ _))) (bare_err (by simp [goodT]; exact hn) (by decide)) hp hra hkk
  by_cases c5 : k = 5
  · subst c5
    simp [goodT] at hg1
    have hx := hfr 1 n rfl
    have hn := hg1.1
    have hf0 := hg1.2.1
    subst hf0
    obtain rfl := empty_of (s := s) (by simpa using hg1.2.2)
    exact box_read ha 5 n 0 p kids.length 2 kids rfl rfl (by simp [frN] at hwn; omega) (hfr 0 _ rfl) (by simp [frN] at hlen; omega) (by simp [lnN]) (by simp [lnB]) (by omega) (wf64 (by omega) (by omega)) (by decide) (fun w hp' => by
      obtain ⟨g', e', _, _, hc⟩ := hp_cell hp' (p + 1) n hx
      rw [ha] at e'
      obtain rfl : g = g' := by simpa using e'
      exact bare_n 5 (Or.inr rfl) g p (2 + kids.length) n w (by omega) hn.1 (by omega) (hc w (Below.refl _ _))) (bare_err (by simp [goodT]; omega) (by decide)) hp hra hkk
  have c7 : k = 7 := by
    simp only [goodT, c1, c2, c3, c4, c5, c6, c8, or_self, if_false] at hg1
    by_cases h : k = 7
    · exact h
    · simp [h] at hg1
  subst c7
  simp [goodT] at hg1
  obtain ⟨⟨rfl, rfl⟩, hs0⟩ := hg1
  obtain rfl := empty_of (s := s) (by simpa using hs0)
  exact box_read ha 7 0 0 p kids.length 1 kids rfl rfl (by simp [frN] at hwn; omega) (hfr 0 _ rfl) (by simp [frN] at hlen; omega) (by simp [lnN]) (by simp [lnB]) (by omega) (by decide) (by decide) (fun w hp' => bare_7 _ w) (bare_err (by simp [goodT]) (by decide)) hp hra hkk

theorem rep_read (ha : a = some ⟨g, 0, none⟩) (hL : L.length ≤ 100000) (w0 : World) (t : Tr) (hin : t.In w0 0) (hg : allT goodT t = true) (hw : wN t ≤ 65536) (u : Int) (h : Rep ws L t u) : RdOk hb ab most ws L F a c t u := rep_readP ha hL t (in_smF t hin) hg hw u h

theorem in_set5 {w : World} {base b : Nat} (hb : b < base) (u0 u1 u2 u3 u4 : Value) (t : Tr) (h : t.In w base) : t.In (set5 w b u0 u1 u2 u3 u4) base := by
  refine in_on (S := fun k => k < w.heap.size ∧ base ≤ k) (fun k hk => ?_) t h (on_in t h)
  have hne : k ≠ b := by omega
  unfold set5
  rw [Below.heap_setCell _ _ _ _ hne, Below.heap_setCell _ _ _ _ hne, Below.heap_setCell _ _ _ _ hne, Below.heap_setCell _ _ _ _ hne, Below.heap_setCell _ _ _ _ hne]

set_option maxHeartbeats 1600000 in
set_option maxRecDepth 100000 in
theorem load_ok (w0 w : World) (t : Tr) (u : Int) (hp : HP w hb ab most ws L F a c) (ha : a = some ⟨g, 0, none⟩) (hL : L.length ≤ 100000) (hin : t.In w0 0) (he : errT t = 0) (hr : Rep ws L t u) :
    Calls Tryz.prog 19 #[.pointer (some ⟨hb, 0, none⟩), .int .u64 u] w fun e w' => ∃ t', e = .returned (.tuple #[t'.val, .int .i64 0]) ∧ Same t t' ∧ t'.In w' w.heap.size ∧ Below w.heap.size w w' := by
  obtain ⟨hg, hw1, hw2⟩ := words_right he
  have hlt := hp.tri.lt
  have hFlt := hp.tab.lt
  have hd := right_deep he
  have hws : ws.length ≤ 16777216 := Nat.le_trans hp.fits hp.small
  have hglt : g < w.heap.size := by
    rcases hp.row with ⟨e, _⟩ | ⟨g', cs, e, _, _, _, h4⟩
    · rw [ha] at e; cases e
    · rw [ha] at e
      obtain rfl : g = g' := by simpa using e
      exact h4
  have hFW : w.heap.size + 1 ∉ F := fun h => by have := hFlt _ h; omega
  have cx : ∀ gb, w.heap.size ≤ gb → Ctx hb ab most gb ws L F a c g := fun gb hgb => ⟨ha, by omega, fun h => by have := hFlt _ h; omega, by omega, hL, hws⟩
  have OV := hidb (fun gb hgb => (rep_over (cx gb hgb) w0 t hin hg hw2 u 1 hr (by omega)).2)
  have RD := hidb (rep_read (hb := hb) (ab := ab) (most := most) (F := F) (c := c) ha hL w0 t hin hg hw2 u hr)
  have hD := deepN_pos t
  have HPP := hidb hp
  have HB0 := hidb (show Below w.heap.size w ((w.alloc (.cells #[.int .i64 0, .int .i64 0, .float .f64 0, .string ⟨#[]⟩, .slice none 0 0] 44)).alloc (.cells #[.pointer (some ⟨hb, 0, none⟩), .int .i64 0, .slice none 0 0] 103)) from (below_new w _).alloc (by simp) _)
  have e1 : (w.alloc (.cells #[.int .i64 0, .int .i64 0, .float .f64 0, .string ⟨#[]⟩, .slice none 0 0] 44)).heap.size = w.heap.size + 1 := by simp
  have tr := Tri.new (w.alloc (.cells #[.int .i64 0, .int .i64 0, .float .f64 0, .string ⟨#[]⟩, .slice none 0 0] 44)) 103 (.pointer (some ⟨hb, 0, none⟩)) (.int .i64 0) (.slice none 0 0)
  rw [e1] at tr
  have HBX := hidb ((Box.new w 44 (.int .i64 0) (.int .i64 0) (.float .f64 0) (.string ⟨#[]⟩) (.slice none 0 0)).keep (below_new _ (.cells #[.pointer (some ⟨hb, 0, none⟩), .int .i64 0, .slice none 0 0] 103)))
  have hgg : ∀ g', a = some ⟨g', 0, none⟩ → w.heap.size + 1 ≠ g' := fun g' e => by
    rw [ha] at e
    obtain rfl : g = g' := by simpa using e
    omega
  have HO := hidb (holds_ok (gb := w.heap.size + 1) (W := 0) _ (hp.keep HB0.out) tr (by omega) hFW hgg (OV.out (w.heap.size + 1) (by omega)) hD hw2)
  have HS : Hid (¬ hb = w.heap.size + 1 ∧ w.heap.size ≠ w.heap.size + 1 ∧ w.heap.size + 1 ∉ F ∧ g ≠ w.heap.size + 1) := hidb ⟨by omega, by omega, hFW, by omega⟩
  have HA := hidb ha
  clear hgg hp hin he hr hlt hFlt hd hws hglt hFW cx OV hg hw1 hw2 tr e1 hD ha
  go_enter Tryz.func19, Tryz.ntmps19
  go_wp2_with fail
  refine HO.out.mono ?_
  rintro e w2 ⟨rfl, hbt⟩
  have HP2 := hidb ((HPP.out.keep HB0.out).but hbt (fun e => HS.out.1 e) (fun x hx e => HS.out.2.2.1 (e ▸ hx)) (fun g' e e2 => by
    rw [HA.out] at e
    obtain rfl : g = g' := by simpa using e
    exact HS.out.2.2.2 e2))
  have HX2 := hidb (HBX.out.but hbt HS.out.2.1)
  have HB2 := hidb (HB0.out.trans (hbt.below HB0.out.size (fun k e => by have e' : k = w.heap.size + 1 := e; omega)))
  clear hbt HO HBX
  go_wp2_with fail
  refine (RD.out _ HP2.out).mono ?_
  rintro e w3 ⟨⟨k, n, f, s, a3, c3, ks⟩, rfl, hsm, hin3, hb3⟩
  have HX3 := hidb (HX2.out.keep hb3)
  have HSM := hidb hsm
  have HI3 := hidb hin3
  have HB3 := hidb (HB2.out.trans (hb3.mono HB2.out.size))
  have hwl : w.heap.size < w2.heap.size := HX2.out.lt
  obtain ⟨d0, d1, d2, d3, d4, g0, g1, g2, g3, g4, -⟩ := HX3.out
  clear hsm hin3 hb3 RD
  simp only [Tr.val, Tr.cells]
  go_wp2_with fail
  exact bodyPost_ret (v := .tuple #[.agg #[.int .i64 k, .int .i64 n, .float .f64 f, .string s, .slice a3 ks.length c3], .int .i64 0]) (by simp [results, Tryz.results19, go_sem, d0, d1, d2, d3, d4]) rfl ⟨.mk k n f s a3 c3 ks, rfl, HSM.out, in_mono (Nat.le_of_lt hwl) _ (in_set5 hwl _ _ _ _ _ _ HI3.out), below_set5 HB3.out (Nat.le_refl _) _ _ _ _ _⟩
end
end Go.Proofs.YtmijabhnbmmmfaaGreat


