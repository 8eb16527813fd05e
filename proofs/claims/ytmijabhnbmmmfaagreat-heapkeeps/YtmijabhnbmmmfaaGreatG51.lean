import Derived.Test.YtmijabhnbmmmfaaGreatG34
import Derived.BigQuiet
import Derived.Test.YtmijabhnbmmmfaaGreatG36
import Derived.Test.YtmijabhnbmmmfaaGreatG23
/- Twin, of terms that are the same. -/
namespace Go.Proofs.YtmijabhnbmmmfaaGreat
open Go.RowKit Go.Deep
attribute [local go_sem] store_float f64bits f64frombits
attribute [local go_sem ↓] Go.wp_at_zero Go.wp_at_succ

theorem ent_twin : Ent 21 := by
  intro args w
  kernel_rfl

theorem sameAll_get : ∀ (l l' : List Tr), SameAll l l' → ∀ (j : Nat) (t t' : Tr), l[j]? = some t → l'[j]? = some t' → Same t t'
  | [], [], _, j, t, t', h, _ => by simp at h
  | u :: r, u' :: r', hl, j, t, t', h, h' => by
    unfold SameAll at hl
    rcases j with _ | j
    · obtain rfl : u = t := by simpa using h
      obtain rfl : u' = t' := by simpa using h'
      exact hl.1
    · exact sameAll_get r r' hl.2 j t t' (by simpa using h) (by simpa using h')
  | [], _ :: _, hl, _, _, _, _, _ => by unfold SameAll at hl; exact hl.elim
  | _ :: _, [], hl, _, _, _, _, _ => by unfold SameAll at hl; exact hl.elim

theorem step_twin {vs : Array Value} {ops : Array Oper} {o : Oper} {a : Act} {w : World} {K : Act → World → Prop} {Q : Exit → Act → World → Prop} {E : Prop} (hg : o.guard = none) (hrun : (execOp a.eval o).run Tryz.prog w = .ok (.enter 21 vs) w)
    (hc : Calls Tryz.prog 21 vs w fun e w' => e = .returned (.bool true) ∧ Below w.heap.size w w') (hok : ∀ w', Below w.heap.size w w' → K (a.put o.dst (.bool true)) w') :
    if Region.wanted o (yielded ops a.tmps) = true then Oper.wp Tryz.prog o a w K Q else E :=
  step_call hg hrun hc fun e w' hh => by
    obtain ⟨rfl, h⟩ := hh
    exact hok w' h

set_option maxHeartbeats 3000000 in
set_option maxRecDepth 100000 in
theorem twin_same : ∀ t t' : Tr, Same t t' → ∀ w, t.In w 0 → t'.In w 0 → Calls Tryz.prog 21 #[t.val, t'.val] w fun e w' => e = .returned (.bool true) ∧ Below w.heap.size w w' := by
  refine Tr.ind fun k n f s a c kids hk t' hs w hin hin' => ?_
  obtain ⟨k', n', f', s', a', c', kids'⟩ := t'
  unfold Same at hs
  obtain ⟨rfl, rfl, rfl, rfl, hsa⟩ := hs
  have hl := sameAll_len _ _ hsa
  have hsm := len_small hin
  obtain ⟨M, hM⟩ : ∃ M, kids.length = M := ⟨_, rfl⟩
  have hM' : kids'.length = M := by omega
  have HK := hidb hk
  have HSA := hidb hsa
  have HI := hidb hin
  have HI' := hidb hin'
  have HM := hidb hM
  have HM' := hidb hM'
  rw [hM] at hsm
  simp only [Tr.val, Tr.cells]
  rw [hM, hM']
  clear hk hsa hin hin' hl hM hM'
  go_enter Tryz.func21, Tryz.ntmps21
  go_wp2_with fail
  have X1 := (Box.new w 44 (.int .i64 k) (.int .i64 n) (.float .f64 f) (.string s) (.slice a M c)).keep (below_new _ (Obj.cells #[.int .i64 k, .int .i64 n, .float .f64 f, .string s, .slice a' M c'] 44))
  have X2 := Box.new (w.alloc (Obj.cells #[.int .i64 k, .int .i64 n, .float .f64 f, .string s, .slice a M c] 44)) 44 (.int .i64 k) (.int .i64 n) (.float .f64 f) (.string s) (.slice a' M c')
  have hs1 : (w.alloc (Obj.cells #[.int .i64 k, .int .i64 n, .float .f64 f, .string s, .slice a M c] 44)).heap.size = w.heap.size + 1 := by simp
  rw [hs1] at X2
  have HB2 : Hid (Below w.heap.size w ((w.alloc (Obj.cells #[.int .i64 k, .int .i64 n, .float .f64 f, .string s, .slice a M c] 44)).alloc (Obj.cells #[.int .i64 k, .int .i64 n, .float .f64 f, .string s, .slice a' M c'] 44))) := hidb ((below_new w _).alloc (by simp) _)
  generalize hW2 : ((w.alloc (Obj.cells #[.int .i64 k, .int .i64 n, .float .f64 f, .string s, .slice a M c] 44)).alloc (Obj.cells #[.int .i64 k, .int .i64 n, .float .f64 f, .string s, .slice a' M c'] 44)) = W2 at *
  clear hW2 hs1
  have HX1 := hidb X1
  have HX2 := hidb X2
  obtain ⟨x0, x1, x2, x3, x4, -, -, -, -, -, -⟩ := X1
  obtain ⟨y0, y1, y2, y3, y4, -, -, -, -, -, -⟩ := X2
  have k1 : (k != k) = false := by simp
  have k2 : (!(s.toList == s.toList)) = false := by simp
  have k3 : (n != n) = false := by simp
  have k4 : (((f : Nat) : Int) != ((f : Nat) : Int)) = false := by simp
  have k6 : (((M : Nat) : Int) != ((M : Nat) : Int)) = false := by simp
  go_quiet (fail)
  have HB4 := hidb (below_drewN HB2.out nq)
  have hbd : Below W2.heap.size W2 (W2.drewN nq) := below_drewN (Below.refl _ _) nq
  have HX3 := hidb (HX1.out.keep hbd)
  have HX4 := hidb (HX2.out.keep hbd)
  clear hbd x0 x1 x2 x3 x4 y0 y1 y2 y3 y4 HX1 HX2 HB2
  generalize W2.drewN nq = W4 at HB4 HX3 HX4 ⊢
  go_wp2_with fail
  clear k1 k2 k3 k4 k6
  go_loopw [5] (fun iv wr => ∃ (m : Nat), m ≤ M ∧ iv = .int .i64 m ∧ Below W4.heap.size W4 wr) (fun iv _ => M - (intOf iv).toNat)
  case atStart => exact ⟨0, by omega, rfl, Below.refl _ _⟩
  case round =>
    obtain ⟨m, hm, rfl, hby⟩ := hrel
    have HBY := hidb hby
    have HBW := hidb (HB4.out.trans (hby.mono HB4.out.size))
    have e4 := (HX3.out.keep hby).c4
    have g4 := (HX4.out.keep hby).c4
    clear hby
    by_cases hml : m < M
    · have hmb : (m : Int) < (M : Int) := by omega
      have hmz : (0 : Int) ≤ (m : Int) := by omega
      obtain ⟨b, o, rfl, hat⟩ := kid_at HI.out (by have := HM.out; omega)
      obtain ⟨k1, n1, f1, s1, a1, c1, ks1, hu1, hin1, x0, x1, x2, x3, x4⟩ := hat m (by have := HM.out; omega)
      obtain ⟨b', o', rfl, hat'⟩ := kid_at HI'.out (by have := HM'.out; omega)
      obtain ⟨k2, n2, f2, s2, a2, c2, ks2, hu2, hin2, y0, y1, y2, y3, y4⟩ := hat' m (by have := HM'.out; omega)
      have hlb : b < w.heap.size := World.block_lt_of_cell? w _ x0
      have hlb' : b' < w.heap.size := World.block_lt_of_cell? w _ y0
      have v0 := (HBW.out.cell hlb).trans x0
      have v1 := (HBW.out.cell hlb).trans x1
      have v2 := (HBW.out.cell hlb).trans x2
      have v3 := (HBW.out.cell hlb).trans x3
      have v4 := (HBW.out.cell hlb).trans x4
      have z0 := (HBW.out.cell hlb').trans y0
      have z1 := (HBW.out.cell hlb').trans y1
      have z2 := (HBW.out.cell hlb').trans y2
      have z3 := (HBW.out.cell hlb').trans y3
      have z4 := (HBW.out.cell hlb').trans y4
      have hss := sameAll_get _ _ HSA.out m _ _ hu1 hu2
      have hbd : Below wr.heap.size wr wr.drew := (Below.refl _ _).drew
      have TW := hidb (HK.out _ (List.mem_of_getElem? hu1) _ hss wr.drew (in_below (HBW.out.trans (hbd.mono HBW.out.size)) hin1) (in_below (HBW.out.trans (hbd.mono HBW.out.size)) hin2))
      simp only [Tr.val, Tr.cells] at TW
      clear hat hat' hu1 hu2 hin1 hin2 x0 x1 x2 x3 x4 y0 y1 y2 y3 y4 hss hbd
      go_wp2_with fail
      go_region_law (first
        | (refine step_twin rfl (run_call ent_twin #[.tmp 54, .tmp 59] _ rfl #[.agg #[.int .i64 k1, .int .i64 n1, .float .f64 f1, .string s1, .slice a1 ks1.length c1], .agg #[.int .i64 k2, .int .i64 n2, .float .f64 f2, .string s2, .slice a2 ks2.length c2]] rfl) TW.out ?_; intro wz hbz; have HBZ := hidb (HBY.out.trans ((undrew hbz).mono HBY.out.size)); clear hbz))
      all_goals (
        go_wp2_with fail
        go_roundw
        case rel => exact ⟨m + 1, by omega, by go_num, HBZ.out⟩
        case measure => simp [intOf]; omega)
    · have hmn : ¬ (m : Int) < (M : Int) := by omega
      go_wp2_with fail
      go_ret
      exact ⟨rfl, HBW.out⟩
end Go.Proofs.YtmijabhnbmmmfaaGreat


/- The chapter's first example. -/
namespace Go.Proofs.YtmijabhnbmmmfaaGreat
open Go.RowKit Go.Deep
attribute [local go_sem] store_float f64bits f64frombits
attribute [local go_sem ↓] Go.wp_at_zero Go.wp_at_succ

/-- {a, 1.5}. -/
def tK (b : Nat) : Tr := .mk 7 0 0 ⟨#[]⟩ (some ⟨b, 0, none⟩) 2 [.mk 3 0 0 ⟨#[97]⟩ none 0 [], .mk 2 0 4609434218613702656 ⟨#[]⟩ none 0 []]

abbrev objK : Obj := .cells #[.int .i64 3, .int .i64 0, .float .f64 0, .string ⟨#[97]⟩, .slice none 0 0, .int .i64 2, .int .i64 0, .float .f64 4609434218613702656, .string ⟨#[]⟩, .slice none 0 0] 44

theorem leaf_in (w : World) (k n : Int) (f : Nat) (s : ByteArray) (hk : (Lit.int .i64 k).wf = true) (hn : (Lit.int .i64 n).wf = true) (hf : (Lit.float .f64 f).wf = true) (hs : s.size ≤ maxLen) : (Tr.mk k n f s none 0 []).In w 0 := by
  unfold Tr.In
  exact ⟨⟨hk, hn, hf, hs, by simp, by omega, fun _ => rfl⟩, fun ad h => by simp at h⟩

theorem kn_in (w : World) : (tK w.heap.size).In (w.alloc objK) 0 := by
  unfold tK Tr.In
  refine ⟨⟨by decide, by decide, by decide, Nat.zero_le _, by simp, by unfold maxLen; omega, fun h => by simp at h⟩, fun ad had => ⟨Nat.zero_le _, inAll_of fun j t hj => ?_⟩⟩
  obtain rfl : (⟨w.heap.size, 0, none⟩ : Addr) = ad := by simpa using had
  match j, hj with
  | 0, hj =>
    obtain rfl : Tr.mk 3 0 0 ⟨#[97]⟩ none 0 [] = t := by simpa using hj
    refine ⟨fun i hi => ?_, leaf_in _ _ _ _ _ (by decide) (by decide) (by decide) (by show (1 : Nat) ≤ maxLen; unfold maxLen; omega)⟩
    match i, hi with
    | 0, _ => simp [Addr.add, Tr.cells]
    | 1, _ => simp [Addr.add, Tr.cells]
    | 2, _ => simp [Addr.add, Tr.cells]
    | 3, _ => simp [Addr.add, Tr.cells]
    | 4, _ => simp [Addr.add, Tr.cells]
  | 1, hj =>
    obtain rfl : Tr.mk 2 0 4609434218613702656 ⟨#[]⟩ none 0 [] = t := by simpa using hj
    refine ⟨fun i hi => ?_, leaf_in _ _ _ _ _ (by decide) (by decide) (by decide) (Nat.zero_le _)⟩
    match i, hi with
    | 0, _ => simp [Addr.add, Tr.cells]
    | 1, _ => simp [Addr.add, Tr.cells]
    | 2, _ => simp [Addr.add, Tr.cells]
    | 3, _ => simp [Addr.add, Tr.cells]
    | 4, _ => simp [Addr.add, Tr.cells]
  | j + 2, hj => simp at hj

theorem kn_on (b : Nat) : (tK b).On (fun k => k = b) := by
  unfold tK Tr.On
  refine ⟨fun _ ad had => ?_, ?_⟩
  · obtain rfl : (⟨b, 0, none⟩ : Addr) = ad := by simpa using had
    rfl
  · unfold Tr.OnAll
    refine ⟨?_, ?_⟩
    · unfold Tr.On; exact ⟨fun h => by simp at h, by unfold Tr.OnAll; trivial⟩
    · unfold Tr.OnAll
      refine ⟨?_, by unfold Tr.OnAll; trivial⟩
      unfold Tr.On; exact ⟨fun h => by simp at h, by unfold Tr.OnAll; trivial⟩

theorem kn_small (b : Nat) : Small (tK b) := by
  unfold tK
  simp [Small, SmallAll]

theorem kn_err (b : Nat) : errT (tK b) = 0 := by
  have h1 : meas (tK b) 200 65536 = 5 := by simp [tK, meas, measAll, own]
  have h2 : allT goodT (tK b) = true := by
    simp [tK, allT, allAll, goodT, rightB]
    decide
  unfold errT
  rw [h1, h2]
  rfl

theorem kn_w (b : Nat) : wN (tK b) = 5 := by simp [tK, wN, wAll, front]
theorem kn_cnt (b : Nat) : cntT (tK b) = 3 := by simp [tK, cntT, cntAll]
theorem kn_1 (b : Nat) : (layT (tK b) 0 []).1 = 5 := by
  have : (layT (tK b) 0 []).1 = ofW 5 ((0 : Nat) : Int) := by simp [tK, layT]
  rw [this]
  decide
theorem kn_4 (b : Nat) : (layT (tK b) 0 []).2.1[4]? = some 4609434218613702656 := by
  simp [tK, layT, layAll, front]
end Go.Proofs.YtmijabhnbmmmfaaGreat


