import Derived.Test.YtogahhbckfnllaaG32
import Derived.Test.YtogahhbckfnllaaG36
import Derived.Test.YtogahhbckfnllaaG37
import Derived.Test.YtogahhbckfnllaaG07
import Derived.Test.YtogahhbckfnllaaG18
/- All's iterator: copies of the noted terms, one by one. -/
namespace Go.Proofs.Ytogahhbckfnllaa
open Go.RowKit Go.Shelf Go.Sort
attribute [local go_sem] store_float f64bits Oper.semAt_some

abbrev alle (x : Nat × Tr) : Array Value := #[.int .i64 (x.1 : Int), x.2.val]
set_option maxRecDepth 100000 in
set_option maxHeartbeats 4000000 in
theorem alls_o {w : World} {nv gr cap : Nat} {ts : List Tr} (hnv : w.cell? ⟨nv, 0, none⟩ = some (.slice (some ⟨gr, 0, none⟩) ts.length cap)) (hrow : ∀ (j : Nat) (u : Value), (ts.flatMap Tr.cells)[j]? = some u → w.cell? ⟨gr, j, none⟩ = some u) (hl : ts.length ≤ 100000)
    {M : Nat → Prop} (hMn : ¬ M nv) (hMg : ¬ M gr) (hT : ∀ W', But M w W' → ∀ t ∈ ts, t.In W' 0) (hS : ∀ t ∈ ts, Small t ∧ cnT t ≤ 1000000000) :
    SeqW Try.prog 28 #[.pointer (some ⟨nv, 0, none⟩)] alle (fun pre x W => x.1 = pre.length ∧ ∃ t, ts[x.1]? = some t ∧ Sm t x.2 ∧ x.2.In W 0) M 0 (fun xs => xs.length = ts.length) (fun _ => True) ts.length w := by
  intro l J Jx W hW hJ hJx hY h0
  have HJ := hidb hJ
  have HY := hidb hY
  have H0 := hidb h0
  have HW := hidb (But.of_below (S := M) hW)
  have HR := hidb (And.intro hrow (And.intro hMg hMn))
  have HT := hidb (And.intro hT hS)
  have HL := hidb hl
  have kn := (hW.cell (World.block_lt_of_cell? _ _ hnv)).trans hnv
  clear hJ hY h0 hW hrow hMg hMn hT hS hnv hl
  refine callsIn_of_wp Try.func28 rfl trivial ?_ rfl
  simp only [Try.ntmps28, List.size_toArray, List.length_cons, List.length_nil, Nat.reduceAdd, Nat.reduceSub, Array.replicate_succ, Array.replicate_zero, List.push_toArray, List.append_toArray, List.nil_append, List.cons_append]
  gi_wp2
  gi_loopg [7] (ts.length) (fun gk iv wr => ∃ i, i ≤ ts.length ∧ ts.length - i ≤ gk ∧ iv = .int .i64 (i : Int) ∧ But M W wr ∧ ∃ pre, pre.length = i ∧ J pre wr)
  case atStart => exact ⟨0, by omega, by omega, rfl, But.refl _ _, [], rfl, H0.out⟩
  case round =>
  obtain ⟨i, hi, hgk, rfl, hbt, pre, hpl, hj⟩ := hrel
  have HBT := hidb hbt
  have HJI := hidb hj
  have HG := hidb (And.intro hi (And.intro hgk hpl))
  clear hbt hj hi hgk hpl kn
  by_cases hil : i < ts.length
  · obtain ⟨t, ht⟩ : ∃ t, ts[i]? = some t := ⟨_, List.getElem?_eq_getElem hil⟩
    have hmem := List.mem_of_getElem? ht
    obtain ⟨k, n, f, s, a, c, kids⟩ := t
    have hc : ∀ j, j < 5 → wr.cell? ⟨gr, i * 5 + j, none⟩ = (Tr.cells (.mk k n f s a c kids))[j]? := fun j hj5 => by
      have e := flat_get ts i _ ht j hj5
      obtain ⟨u, hu⟩ : ∃ u, (Tr.cells (.mk k n f s a c kids))[j]? = some u := ⟨_, List.getElem?_eq_getElem (by simpa [Tr.cells] using hj5)⟩
      rw [hu] at e ⊢
      have e2 := HR.out.1 _ _ e
      exact ((HW.out.trans HBT.out).cell (p := ⟨gr, i * 5 + j, none⟩) (World.block_lt_of_cell? _ _ e2) HR.out.2.1).trans e2
    have x0 : wr.cell? ⟨gr, i * 5, none⟩ = some (.int .i64 k) := hc 0 (by omega)
    have x1 : wr.cell? ⟨gr, i * 5 + 1, none⟩ = some (.int .i64 n) := hc 1 (by omega)
    have x2 : wr.cell? ⟨gr, i * 5 + 2, none⟩ = some (.float .f64 f) := hc 2 (by omega)
    have x3 : wr.cell? ⟨gr, i * 5 + 3, none⟩ = some (.string s) := hc 3 (by omega)
    have x4 : wr.cell? ⟨gr, i * 5 + 4, none⟩ = some (.slice a kids.length c) := hc 4 (by omega)
    have s1 : (0 : Int) ≤ (i : Int) := by omega
    have s2 : (i : Int) < (ts.length : Int) := by omega
    have d1 : decide ((i : Int) < (ts.length : Int)) = true := by simpa using hil
    have HM := hidb (And.intro ht hmem)
    have hln := HL.out
    clear hc ht hmem
    have HC : Hid (∀ W', But M wr W' → Tr.In W' 0 (.mk k n f s a c kids)) := hidb (fun W' hb => HT.out.1 W' ((HW.out.trans HBT.out).trans hb) _ HM.out.2)
    gi_wp2_with ((try refine ⟨trivial, rfl, ?_⟩); gi_at_call 29; refine (callsIn_wide.2 (copy_any (.mk k n f s a c kids) _ (HC.out _ ((But.refl _ _).alloc _)) (HT.out.2 _ HM.out.2).1 (HT.out.2 _ HM.out.2).2)).mono ?_
                 rintro e W2 ⟨t', rfl, hsm, hin2, hbe⟩
                 have hbw : Below wr.heap.size wr W2 := (below_new wr _).trans (hbe.mono (by simp))
                 have hj2 : J pre W2 := HJ.out _ _ _ none HJI.out ⟨hbw.os, hbw.tape, hbw.output, hbw.size, fun k hk _ => hbw.block k hk⟩ (fun r e => by cases e)
                 obtain ⟨fn, tmps, assign, body, hy, hRR⟩ := HY.out pre (i, t') W2 ⟨HG.out.2.2.symm, _, HM.out.1, hsm, in_mono (Nat.zero_le _) _ hin2⟩ hj2 (by have := HG.out.2.2; omega) (by have := HBT.out.size; have := hbw.size; omega)
                 have HRR := hidb hRR
                 have HBW := hidb hbw
                 clear hsm hin2 hbe hbw hj2 hRR)
    refine ⟨rfl, HRR.out.mono ?_⟩
    rintro e W3 ⟨hb3, ⟨rfl, hj3⟩ | ⟨rfl, hjx3⟩⟩
    · have HB3 := hidb (HBT.out.trans ((But.of_below HBW.out).trans (hb3.mono (fun k _ hk => hk.1))))
      have HJ3 := hidb hj3
      have s5 : -9223372036854775808 ≤ (i : Int) + 1 ∧ (i : Int) + 1 ≤ 9223372036854775807 := by omega
      clear hj3 hb3
      gi_wp2
      go_roundg (ts.length - (i + 1))
      case measure => have := HG.out; omega
      case rel =>
        refine ⟨i + 1, by omega, by omega, ?_, HB3.out, _, ?_, HJ3.out⟩
        · rw [Int.natCast_add]; rfl
        · simp [HG.out.2.2]
    · gi_wp2
      refine bodyPost_ret (results_none rfl _ _ _) rfl ?_
      exact ⟨⟨_, rfl⟩, .inr ⟨_, trivial, hjx3⟩⟩
  · have d1 : decide ((i : Int) < (ts.length : Int)) = false := by simpa using hil
    have HIL := hidb hil
    clear hil
    gi_wp2
    go_end0
    refine ⟨⟨_, rfl⟩, .inl ⟨pre, ?_, HJI.out⟩⟩
    have := HIL.out; have := HG.out; omega
end Go.Proofs.Ytogahhbckfnllaa


/- Are two terms identical? The document's own look, walked. -/
namespace Go.Proofs.Ytogahhbckfnllaa
open Go.RowKit Go.Deep
attribute [local go_sem] store_float f64bits f64frombits
attribute [local go_sem ↓] Go.wp_at_zero Go.wp_at_succ

mutual
def idT : Tr → Tr → Bool
  | .mk k n f s _ _ ks, .mk k' n' f' s' _ _ ks' => ((k == k') && (n == n') && ((f : Int) == (f' : Int))) && ((s.toList == s'.toList) && (((ks.length : Int) == (ks'.length : Int)) && idA ks ks'))
def idA : List Tr → List Tr → Bool
  | [], _ => true
  | _ :: _, [] => true
  | t :: r, t' :: r' => idT t t' && idA r r'
end

set_option maxHeartbeats 1000000 in
set_option maxRecDepth 100000 in
theorem same1_any (k n : Int) (f : Nat) (s : ByteArray) (a : Option Addr) (l c : Nat) (k' n' : Int) (f' : Nat) (s' : ByteArray) (a' : Option Addr) (l' c' : Nat) (w : World) : Calls Try.prog 38 #[.agg #[.int .i64 k, .int .i64 n, .float .f64 f, .string s, .slice a l c], .agg #[.int .i64 k', .int .i64 n', .float .f64 f', .string s', .slice a' l' c']] w fun e w' => e = .returned (.bool ((k == k') && (n == n') && ((f : Int) == (f' : Int)))) ∧ Below w.heap.size w w' := by
  cases h1 : (k == k')
  all_goals cases h2 : (n == n')
  all_goals
    go_enter Try.func38, Try.ntmps38
    go_wp2_with fail
    have X1 := (Box.new w 36 (.int .i64 k) (.int .i64 n) (.float .f64 f) (.string s) (.slice a l c)).keep (below_new _ (Obj.cells #[.int .i64 k', .int .i64 n', .float .f64 f', .string s', .slice a' l' c'] 36))
    have X2 := Box.new (w.alloc (Obj.cells #[.int .i64 k, .int .i64 n, .float .f64 f, .string s, .slice a l c] 36)) 36 (.int .i64 k') (.int .i64 n') (.float .f64 f') (.string s') (.slice a' l' c')
    have hs1 : (w.alloc (Obj.cells #[.int .i64 k, .int .i64 n, .float .f64 f, .string s, .slice a l c] 36)).heap.size = w.heap.size + 1 := by simp
    rw [hs1] at X2
    have HB2 : Hid (Below w.heap.size w ((w.alloc (Obj.cells #[.int .i64 k, .int .i64 n, .float .f64 f, .string s, .slice a l c] 36)).alloc (Obj.cells #[.int .i64 k', .int .i64 n', .float .f64 f', .string s', .slice a' l' c'] 36))) := hidb ((below_new w _).alloc (by simp) _)
    generalize hW2 : ((w.alloc (Obj.cells #[.int .i64 k, .int .i64 n, .float .f64 f, .string s, .slice a l c] 36)).alloc (Obj.cells #[.int .i64 k', .int .i64 n', .float .f64 f', .string s', .slice a' l' c'] 36)) = W2 at *
    clear hW2 hs1
    obtain ⟨x0, x1, x2, x3, x4, -, -, -, -, -, -⟩ := X1
    obtain ⟨y0, y1, y2, y3, y4, -, -, -, -, -, -⟩ := X2
    go_quiet (fail)
    have HB4 := hidb (below_drewN HB2.out nq)
    go_wp2
    go_ret
    exact ⟨by simp, HB4.out⟩

set_option maxHeartbeats 3000000 in
set_option maxRecDepth 100000 in
theorem idn_any : ∀ (t t' : Tr) (w : World), t.In w 0 → t'.In w 0 → Calls Try.prog 23 #[t.val, t'.val] w fun e w' => e = .returned (.bool (idT t t')) ∧ Below w.heap.size w w' := by
  refine Tr.ind fun k n f s a c kids hk => ?_
  rintro ⟨k', n', f', s', a', c', kids'⟩ w hin hin'
  have HK := hidb hk
  have HI := hidb hin
  have HI' := hidb hin'
  have hlen := len_small hin
  have SM := hidb (fun W => same1_any k n f s a kids.length c k' n' f' s' a' kids'.length c' W)
  obtain ⟨b1, hb1⟩ : ∃ b, ((k == k') && (n == n') && ((f : Int) == (f' : Int))) = b := ⟨_, rfl⟩
  obtain ⟨b2, hb2⟩ : ∃ b, (s.toList == s'.toList) = b := ⟨_, rfl⟩
  obtain ⟨b3, hb3⟩ : ∃ b, ((kids.length : Int) == (kids'.length : Int)) = b := ⟨_, rfl⟩
  have HQ : Hid (idT (.mk k n f s a c kids) (.mk k' n' f' s' a' c' kids') = (b1 && (b2 && (b3 && idA kids kids')))) := hidb (by simp only [idT]; rw [hb1, hb2, hb3])
  rw [hb1] at SM
  have HB3 := hidb hb3
  have hb3' : ((kids.length : Int) != (kids'.length : Int)) = !b3 := by rw [← hb3]; rfl
  simp only [Tr.val, Tr.cells]
  clear hk hin hin' hb1
  have X1 := (Box.new w 36 (.int .i64 k) (.int .i64 n) (.float .f64 f) (.string s) (.slice a kids.length c)).keep (below_new _ (Obj.cells #[.int .i64 k', .int .i64 n', .float .f64 f', .string s', .slice a' kids'.length c'] 36))
  have X2 := Box.new (w.alloc (Obj.cells #[.int .i64 k, .int .i64 n, .float .f64 f, .string s, .slice a kids.length c] 36)) 36 (.int .i64 k') (.int .i64 n') (.float .f64 f') (.string s') (.slice a' kids'.length c')
  rw [show (w.alloc (Obj.cells #[.int .i64 k, .int .i64 n, .float .f64 f, .string s, .slice a kids.length c] 36)).heap.size = w.heap.size + 1 by simp] at X2
  have HX1 := hidb X1
  have HX2 := hidb X2
  have HB2 : Hid (Below w.heap.size w ((w.alloc (Obj.cells #[.int .i64 k, .int .i64 n, .float .f64 f, .string s, .slice a kids.length c] 36)).alloc (Obj.cells #[.int .i64 k', .int .i64 n', .float .f64 f', .string s', .slice a' kids'.length c'] 36))) := hidb ((below_new w _).alloc (by simp) _)
  clear X1 X2
  by_cases hall : b1 = true ∧ b2 = true ∧ b3 = true
  · obtain ⟨rfl, rfl, rfl⟩ := hall
    go_enter Try.func23, Try.ntmps23
    go_wp2_with (first
      | (go_at_call 38; refine (SM.out _).mono ?_; rintro e w3 ⟨rfl, hb⟩; have HB3w := hidb (HB2.out.trans (hb.mono HB2.out.size)); have HY1 := hidb (HX1.out.keep hb); have HY2 := hidb (HX2.out.keep hb); obtain ⟨x0, x1, x2, x3, x4, -, -, -, -, -, -⟩ := HY1.out; obtain ⟨y0, y1, y2, y3, y4, -, -, -, -, -, -⟩ := HY2.out; clear hb))
    have hll : kids.length = kids'.length := by have := HB3.out; simp at this; omega
    have HLL := hidb hll
    have hlb : (kids.length : Int) ≤ 9223372036854775807 := by omega
    clear x0 x1 x2 x3 x4 y0 y1 y2 y3 y4 hb2 hb3 hb3' hll
    go_loopw [5] (fun iv wr => ∃ (m : Nat), m ≤ kids.length ∧ iv = .int .i64 m ∧ idA kids kids' = idA (kids.drop m) (kids'.drop m) ∧ Below w3.heap.size w3 wr) (fun iv _ => kids.length - (RowKit.intOf iv).toNat)
    case atStart => exact ⟨0, by omega, rfl, rfl, Below.refl _ _⟩
    case round =>
    obtain ⟨m, hm, rfl, hid, hbw⟩ := hrel
    have HD := hidb hid
    have HBW := hidb hbw
    have HW := hidb (HB3w.out.trans (hbw.mono HB3w.out.size))
    have e4 := (HY1.out.keep hbw).c4
    have e4' := (HY2.out.keep hbw).c4
    clear hid hbw
    by_cases hml : m < kids.length
    · have hmb : (m : Int) < (kids.length : Int) := by omega
      have hmb' : (m : Int) < (kids'.length : Int) := by have := HLL.out; omega
      have hmz : (0 : Int) ≤ (m : Int) := by omega
      have hmw : IntKind.i64.wrap ((m : Int) + 1) = (m : Int) + 1 := by rw [IntKind.wrap_i64]; omega
      obtain ⟨b, o, rfl, hat⟩ := kid_at (in_below HW.out HI.out) (by omega)
      obtain ⟨k1, n1, f1, s1, a1, c1, ks1, hu1, hin1, p0, p1, p2, p3, p4⟩ := hat m hml
      obtain ⟨b', o', rfl, hat'⟩ := kid_at (in_below HW.out HI'.out) (by have := HLL.out; omega)
      obtain ⟨k2, n2, f2, s2, a2, c2, ks2, hu2, hin2, q0, q1, q2, q3, q4⟩ := hat' m (by have := HLL.out; omega)
      have hbl := World.block_lt_of_cell? _ _ p0
      have hbl' := World.block_lt_of_cell? _ _ q0
      have hel := World.block_lt_of_cell? _ _ e4
      have hel' := World.block_lt_of_cell? _ _ e4'
      have HSX : Hid (wr.drew.cell? ⟨w.heap.size, 4, none⟩ = some (.slice (some ⟨b, o, none⟩) kids.length c) ∧ wr.drew.cell? ⟨w.heap.size + 1, 4, none⟩ = some (.slice (some ⟨b', o', none⟩) kids'.length c') ∧ wr.drew.cell? ⟨b, o + m * 5, none⟩ = some (.int .i64 k1) ∧ wr.drew.cell? ⟨b, o + m * 5 + 1, none⟩ = some (.int .i64 n1) ∧ wr.drew.cell? ⟨b, o + m * 5 + 2, none⟩ = some (.float .f64 f1) ∧ wr.drew.cell? ⟨b, o + m * 5 + 3, none⟩ = some (.string s1) ∧ wr.drew.cell? ⟨b, o + m * 5 + 4, none⟩ = some (.slice a1 ks1.length c1) ∧ wr.drew.cell? ⟨b', o' + m * 5, none⟩ = some (.int .i64 k2) ∧ wr.drew.cell? ⟨b', o' + m * 5 + 1, none⟩ = some (.int .i64 n2) ∧ wr.drew.cell? ⟨b', o' + m * 5 + 2, none⟩ = some (.float .f64 f2) ∧ wr.drew.cell? ⟨b', o' + m * 5 + 3, none⟩ = some (.string s2) ∧ wr.drew.cell? ⟨b', o' + m * 5 + 4, none⟩ = some (.slice a2 ks2.length c2)) := hidb ⟨e4, e4', p0, p1, p2, p3, p4, q0, q1, q2, q3, q4⟩
      have IH := hidb (HK.out _ (List.mem_of_getElem? hu1) (.mk k2 n2 f2 s2 a2 c2 ks2) wr.drew (in_below ((Below.refl _ _).drew) hin1) (in_below ((Below.refl _ _).drew) hin2))
      simp only [Tr.val, Tr.cells] at IH
      have HDD : Hid (idA (kids.drop m) (kids'.drop m) = (idT (.mk k1 n1 f1 s1 a1 c1 ks1) (.mk k2 n2 f2 s2 a2 c2 ks2) && idA (kids.drop (m + 1)) (kids'.drop (m + 1)))) := hidb (by rw [drop_one hu1, drop_one hu2]; simp only [idA])
      generalize idT (.mk k1 n1 f1 s1 a1 c1 ks1) (.mk k2 n2 f2 s2 a2 c2 ks2) = r at *
      clear hat hat' hu1 hu2 hin1 hin2 p0 p1 p2 p3 p4 q0 q1 q2 q3 q4
      go_wp2_with fail
      go_region_held3 (fun w' => w'.cell? ⟨w.heap.size, 4, none⟩ = some (.slice (some ⟨b, o, none⟩) kids.length c) ∧ w'.cell? ⟨w.heap.size + 1, 4, none⟩ = some (.slice (some ⟨b', o', none⟩) kids'.length c') ∧ w'.cell? ⟨b, o + m * 5, none⟩ = some (.int .i64 k1) ∧ w'.cell? ⟨b, o + m * 5 + 1, none⟩ = some (.int .i64 n1) ∧ w'.cell? ⟨b, o + m * 5 + 2, none⟩ = some (.float .f64 f1) ∧ w'.cell? ⟨b, o + m * 5 + 3, none⟩ = some (.string s1) ∧ w'.cell? ⟨b, o + m * 5 + 4, none⟩ = some (.slice a1 ks1.length c1) ∧ w'.cell? ⟨b', o' + m * 5, none⟩ = some (.int .i64 k2) ∧ w'.cell? ⟨b', o' + m * 5 + 1, none⟩ = some (.int .i64 n2) ∧ w'.cell? ⟨b', o' + m * 5 + 2, none⟩ = some (.float .f64 f2) ∧ w'.cell? ⟨b', o' + m * 5 + 3, none⟩ = some (.string s2) ∧ w'.cell? ⟨b', o' + m * 5 + 4, none⟩ = some (.slice a2 ks2.length c2))
        (first | with_reducible exact HSX.out | with_reducible exact HS6.out) (first
        | (go_at_call 23; refine IH.out.mono ?_; rintro e w6 ⟨rfl, hb6⟩; have HS6 : Hid (w6.cell? ⟨w.heap.size, 4, none⟩ = some (.slice (some ⟨b, o, none⟩) kids.length c) ∧ w6.cell? ⟨w.heap.size + 1, 4, none⟩ = some (.slice (some ⟨b', o', none⟩) kids'.length c') ∧ w6.cell? ⟨b, o + m * 5, none⟩ = some (.int .i64 k1) ∧ w6.cell? ⟨b, o + m * 5 + 1, none⟩ = some (.int .i64 n1) ∧ w6.cell? ⟨b, o + m * 5 + 2, none⟩ = some (.float .f64 f1) ∧ w6.cell? ⟨b, o + m * 5 + 3, none⟩ = some (.string s1) ∧ w6.cell? ⟨b, o + m * 5 + 4, none⟩ = some (.slice a1 ks1.length c1) ∧ w6.cell? ⟨b', o' + m * 5, none⟩ = some (.int .i64 k2) ∧ w6.cell? ⟨b', o' + m * 5 + 1, none⟩ = some (.int .i64 n2) ∧ w6.cell? ⟨b', o' + m * 5 + 2, none⟩ = some (.float .f64 f2) ∧ w6.cell? ⟨b', o' + m * 5 + 3, none⟩ = some (.string s2) ∧ w6.cell? ⟨b', o' + m * 5 + 4, none⟩ = some (.slice a2 ks2.length c2)) := hidb ⟨(hb6.cell hel).trans HSX.out.1, (hb6.cell hel').trans HSX.out.2.1, (hb6.cell hbl).trans HSX.out.2.2.1, (hb6.cell hbl).trans HSX.out.2.2.2.1, (hb6.cell hbl).trans HSX.out.2.2.2.2.1, (hb6.cell hbl).trans HSX.out.2.2.2.2.2.1, (hb6.cell hbl).trans HSX.out.2.2.2.2.2.2.1, (hb6.cell hbl').trans HSX.out.2.2.2.2.2.2.2.1, (hb6.cell hbl').trans HSX.out.2.2.2.2.2.2.2.2.1, (hb6.cell hbl').trans HSX.out.2.2.2.2.2.2.2.2.2.1, (hb6.cell hbl').trans HSX.out.2.2.2.2.2.2.2.2.2.2.1, (hb6.cell hbl').trans HSX.out.2.2.2.2.2.2.2.2.2.2.2⟩; have HB6 := hidb (HBW.out.trans ((undrew hb6).mono HBW.out.size)); clear hb6))
      cases r with
      | true =>
        go_wp2_with fail
        go_roundw
        case rel => exact ⟨m + 1, by omega, by go_num, by rw [HD.out, HDD.out]; rfl, HB6.out⟩
        case measure => simp [RowKit.intOf]; omega
      | false =>
        go_wp2_with fail
        go_ret
        exact ⟨by rw [HQ.out, HD.out, HDD.out]; rfl, HB3w.out.trans (HB6.out.mono HB3w.out.size)⟩
    · have hmn : ¬ (m : Int) < (kids.length : Int) := by omega
      go_wp2_with fail
      go_ret
      exact ⟨by rw [HQ.out, HD.out, List.drop_of_length_le (by omega)]; rfl, HW.out⟩
  · have HF : Hid ((b1 && (b2 && (b3 && idA kids kids'))) = false) := hidb (by revert hall; cases b1 <;> cases b2 <;> cases b3 <;> simp)
    cases b1
    all_goals cases b2
    all_goals cases b3
    all_goals try (exact absurd ⟨rfl, rfl, rfl⟩ hall)
    all_goals clear hall
    all_goals go_enter Try.func23, Try.ntmps23
    all_goals
      go_wp2_with (first
        | (go_at_call 38; refine (SM.out _).mono ?_; rintro e w3 ⟨rfl, hb⟩; have HB3w := hidb (HB2.out.trans (hb.mono HB2.out.size)); have HY1 := hidb (HX1.out.keep hb); have HY2 := hidb (HX2.out.keep hb); obtain ⟨x0, x1, x2, x3, x4, -, -, -, -, -, -⟩ := HY1.out; obtain ⟨y0, y1, y2, y3, y4, -, -, -, -, -, -⟩ := HY2.out; clear hb))
      go_ret
      exact ⟨by rw [HQ.out, HF.out]; rfl, HB3w.out⟩

/-- The same term, wherever it lies, is identical to the same ones. -/
theorem idT_sm : ∀ (t t' u : Tr), Sm t t' → idT t u = idT t' u := by
  refine Tr.ind fun k n f s a c kids hk => ?_
  rintro ⟨k', n', f', s', a', c', kids'⟩ ⟨k2, n2, f2, s2, a2, c2, kids2⟩ h
  unfold Sm at h
  obtain ⟨rfl, rfl, rfl, rfl, h⟩ := h
  have hl := smA_len h
  have hall : ∀ (l l' m : List Tr), (∀ t, t ∈ l → t ∈ kids) → SmA l l' → idA l m = idA l' m := by
    intro l
    induction l with
    | nil =>
      intro l' m _ h
      cases l' with
      | nil => rfl
      | cons => unfold SmA at h; exact h.elim
    | cons t r ih =>
      intro l' m hm h
      cases l' with
      | nil => unfold SmA at h; exact h.elim
      | cons t' r' =>
        unfold SmA at h
        cases m with
        | nil => simp only [idA]
        | cons u q =>
          simp only [idA]
          rw [hk t (hm t (by simp)) t' u h.1, ih r' q (fun x hx => hm x (by simp [hx])) h.2]
  simp only [idT]
  rw [hall kids kids' kids2 (fun t h => h) h, hl]
end Go.Proofs.Ytogahhbckfnllaa


