import Derived.Test.YtajadhkpadkikaaGreatDoorG15
import Derived.BigQuiet
/- law2.Twin of any two terms. -/
namespace Go.Proofs.YtajadhkpadkikaaGreatDoor
open Go.RowKit Go.Lib Go.Deep
attribute [local go_sem] store_float f64bits f64frombits
attribute [local go_sem ↓] Go.wp_at_zero Go.wp_at_succ

theorem step_twinX {vs : Array Value} {ops : Array Oper} {o : Oper} {a : Act} {w : World} {K : Act → World → Prop} {Q : Exit → Act → World → Prop} {E : Prop} (hg : o.guard = none) (hrun : (execOp a.eval o).run Tryz.prog w = .ok (.enter 10 vs) w)
    (hc : Calls Tryz.prog 10 vs w fun e w' => (∃ x, e = .returned (.bool x)) ∧ Below w.heap.size w w') (hok : ∀ x w', Below w.heap.size w w' → K (a.put o.dst (.bool x)) w') :
    if Region.wanted o (yielded ops a.tmps) = true then Oper.wp Tryz.prog o a w K Q else E :=
  step_call hg hrun hc fun e w' hh => by
    obtain ⟨⟨x, rfl⟩, h⟩ := hh
    exact hok x w' h

set_option maxHeartbeats 3000000 in
set_option maxRecDepth 100000 in
theorem twin_eq (k n : Int) (f : Nat) (s : ByteArray) (a : Option Addr) (c : Nat) (kids : List Tr) (hk : ∀ t, t ∈ kids → ∀ t' : Tr, ∀ w, t.In w 0 → t'.In w 0 → Calls Tryz.prog 10 #[t.val, t'.val] w fun e w' => (∃ x, e = .returned (.bool x)) ∧ Below w.heap.size w w') (a' : Option Addr) (c' : Nat) (kids' : List Tr) (hl : kids.length = kids'.length) (w : World) (hin : (Tr.mk k n f s a c kids).In w 0) (hin' : (Tr.mk k n f s a' c' kids').In w 0) :
    Calls Tryz.prog 10 #[(Tr.mk k n f s a c kids).val, (Tr.mk k n f s a' c' kids').val] w fun e w' => (∃ x, e = .returned (.bool x)) ∧ Below w.heap.size w w' := by
  have hsm := len_small hin
  obtain ⟨M, hM⟩ : ∃ M, kids.length = M := ⟨_, rfl⟩
  have hM' : kids'.length = M := by omega
  have HK := hidb hk
  have HI := hidb hin
  have HI' := hidb hin'
  have HM := hidb hM
  have HM' := hidb hM'
  rw [hM] at hsm
  simp only [Tr.val, Tr.cells]
  rw [hM, hM']
  clear hk hin hin' hl hM hM'
  go_enter Tryz.func10, Tryz.ntmps10
  go_wp2_with fail
  have X1 := (Box.new w 25 (.int .i64 k) (.int .i64 n) (.float .f64 f) (.string s) (.slice a M c)).keep (below_new _ (Obj.cells #[.int .i64 k, .int .i64 n, .float .f64 f, .string s, .slice a' M c'] 25))
  have X2 := Box.new (w.alloc (Obj.cells #[.int .i64 k, .int .i64 n, .float .f64 f, .string s, .slice a M c] 25)) 25 (.int .i64 k) (.int .i64 n) (.float .f64 f) (.string s) (.slice a' M c')
  have hs1 : (w.alloc (Obj.cells #[.int .i64 k, .int .i64 n, .float .f64 f, .string s, .slice a M c] 25)).heap.size = w.heap.size + 1 := by simp
  rw [hs1] at X2
  have HB2 : Hid (Below w.heap.size w ((w.alloc (Obj.cells #[.int .i64 k, .int .i64 n, .float .f64 f, .string s, .slice a M c] 25)).alloc (Obj.cells #[.int .i64 k, .int .i64 n, .float .f64 f, .string s, .slice a' M c'] 25))) := hidb ((below_new w _).alloc (by simp) _)
  generalize hW2 : ((w.alloc (Obj.cells #[.int .i64 k, .int .i64 n, .float .f64 f, .string s, .slice a M c] 25)).alloc (Obj.cells #[.int .i64 k, .int .i64 n, .float .f64 f, .string s, .slice a' M c'] 25)) = W2 at *
  clear hW2 hs1
  have HX1 := hidb X1
  have HX2 := hidb X2
  obtain ⟨x0, x1, x2, x3, x4, -, -, -, -, -, -⟩ := X1
  obtain ⟨y0, y1, y2, y3, y4, -, -, -, -, -, -⟩ := X2
  have k1 : (k != k) = false := by simp
  have k2 : (!(s.toList == s.toList)) = false := by simp
  have k3 : (n != n) = false := by simp
  have k4 : (((f : Nat) : Int) != ((f : Nat) : Int)) = false := by simp
  have k6 : (((M : Nat) : Int) != ((M : Nat) : Int)) = false := by simp
  go_quiet (fail)
  have HB4 := hidb (below_drewN HB2.out nq)
  have hbd : Below W2.heap.size W2 (W2.drewN nq) := below_drewN (Below.refl _ _) nq
  have HX3 := hidb (HX1.out.keep hbd)
  have HX4 := hidb (HX2.out.keep hbd)
  clear hbd x0 x1 x2 x3 x4 y0 y1 y2 y3 y4 HX1 HX2 HB2
  generalize W2.drewN nq = W4 at HB4 HX3 HX4 ⊢
  go_wp2_with fail
  clear k1 k2 k3 k4 k6
  go_loopw [5] (fun iv wr => ∃ (m : Nat), m ≤ M ∧ iv = .int .i64 m ∧ Below W4.heap.size W4 wr) (fun iv _ => M - (intOf iv).toNat)
  case atStart => exact ⟨0, by omega, rfl, Below.refl _ _⟩
  case round =>
    obtain ⟨m, hm, rfl, hby⟩ := hrel
    have HBY := hidb hby
    have HBW := hidb (HB4.out.trans (hby.mono HB4.out.size))
    have e4 := (HX3.out.keep hby).c4
    have g4 := (HX4.out.keep hby).c4
    clear hby
    by_cases hml : m < M
    · have hmb : (m : Int) < (M : Int) := by omega
      have hmz : (0 : Int) ≤ (m : Int) := by omega
      obtain ⟨b, o, rfl, hat⟩ := kid_at HI.out (by have := HM.out; omega)
      obtain ⟨k1, n1, f1, s1, a1, c1, ks1, hu1, hin1, x0, x1, x2, x3, x4⟩ := hat m (by have := HM.out; omega)
      obtain ⟨b', o', rfl, hat'⟩ := kid_at HI'.out (by have := HM'.out; omega)
      obtain ⟨k2, n2, f2, s2, a2, c2, ks2, hu2, hin2, y0, y1, y2, y3, y4⟩ := hat' m (by have := HM'.out; omega)
      have hlb : b < w.heap.size := World.block_lt_of_cell? w _ x0
      have hlb' : b' < w.heap.size := World.block_lt_of_cell? w _ y0
      have v0 := (HBW.out.cell hlb).trans x0
      have v1 := (HBW.out.cell hlb).trans x1
      have v2 := (HBW.out.cell hlb).trans x2
      have v3 := (HBW.out.cell hlb).trans x3
      have v4 := (HBW.out.cell hlb).trans x4
      have z0 := (HBW.out.cell hlb').trans y0
      have z1 := (HBW.out.cell hlb').trans y1
      have z2 := (HBW.out.cell hlb').trans y2
      have z3 := (HBW.out.cell hlb').trans y3
      have z4 := (HBW.out.cell hlb').trans y4
      have hbd : Below wr.heap.size wr wr.drew := (Below.refl _ _).drew
      have TW := hidb (HK.out _ (List.mem_of_getElem? hu1) _ wr.drew (in_below (HBW.out.trans (hbd.mono HBW.out.size)) hin1) (in_below (HBW.out.trans (hbd.mono HBW.out.size)) hin2))
      simp only [Tr.val, Tr.cells] at TW
      clear hat hat' hu1 hu2 hin1 hin2 x0 x1 x2 x3 x4 y0 y1 y2 y3 y4 hbd
      go_wp2_with fail
      go_region_law (first
        | (refine step_twinX rfl (run_call ent_twin #[.tmp 54, .tmp 59] _ rfl #[.agg #[.int .i64 k1, .int .i64 n1, .float .f64 f1, .string s1, .slice a1 ks1.length c1], .agg #[.int .i64 k2, .int .i64 n2, .float .f64 f2, .string s2, .slice a2 ks2.length c2]] rfl) TW.out ?_; intro x wz hbz; have HBZ := hidb (HBY.out.trans ((undrew hbz).mono HBY.out.size)); clear hbz))
      all_goals (
        cases x
        · go_wp2_with fail
          go_ret
          exact ⟨⟨_, rfl⟩, HB4.out.trans (HBZ.out.mono HB4.out.size)⟩
        · go_wp2_with fail
          go_roundw
          case rel => exact ⟨m + 1, by omega, by go_num, HBZ.out⟩
          case measure => simp [intOf]; omega)
    · have hmn : ¬ (m : Int) < (M : Int) := by omega
      go_wp2_with fail
      go_ret
      exact ⟨by first | exact ⟨_, rfl⟩ | exact .inr rfl | exact .inl rfl, HBW.out⟩

set_option maxHeartbeats 3000000 in
set_option maxRecDepth 100000 in
theorem twin_ne (k n : Int) (f : Nat) (s : ByteArray) (a : Option Addr) (M c : Nat) (k' n' : Int) (f' : Nat) (s' : ByteArray) (a' : Option Addr) (M' c' : Nat) (w : World) (hne : ¬ ((k != k') = false ∧ (n != n') = false ∧ (!(s.toList == s'.toList)) = false ∧ ((f : Int) != (f' : Int)) = false ∧ ((M : Int) != (M' : Int)) = false)) :
    Calls Tryz.prog 10 #[.agg #[.int .i64 k, .int .i64 n, .float .f64 f, .string s, .slice a M c], .agg #[.int .i64 k', .int .i64 n', .float .f64 f', .string s', .slice a' M' c']] w fun e w' => (∃ x, e = .returned (.bool x)) ∧ Below w.heap.size w w' := by
  obtain ⟨V, hV⟩ : ∃ V, (w.alloc (.cells #[.int .i64 k, .int .i64 n, .float .f64 f, .string s, .slice a M c] 25)).alloc (.cells #[.int .i64 k', .int .i64 n', .float .f64 f', .string s', .slice a' M' c'] 25) = V := ⟨_, rfl⟩
  have HBV : Hid (Below w.heap.size w V) := hidb (by rw [← hV]; exact (below_new w _).alloc (by simp) _)
  have HB1 : Box V w.heap.size (.int .i64 k) (.int .i64 n) (.float .f64 f) (.string s) (.slice a M c) := by rw [← hV]; exact (Box.new w _ _ _ _ _ _).keep (below_new _ _)
  have HB2 : Box V (w.heap.size + 1) (.int .i64 k') (.int .i64 n') (.float .f64 f') (.string s') (.slice a' M' c') := by
    rw [← hV]
    have := Box.new (w.alloc (.cells #[.int .i64 k, .int .i64 n, .float .f64 f, .string s, .slice a M c] 25)) 25 (.int .i64 k') (.int .i64 n') (.float .f64 f') (.string s') (.slice a' M' c')
    simpa using this
  obtain ⟨x0, x1, x2, x3, x4, -, -, -, -, -, -⟩ := HB1
  obtain ⟨y0, y1, y2, y3, y4, -, -, -, -, -, -⟩ := HB2
  have HV := hidb hV
  clear hV
  cases h1 : (k != k')
  · cases h2 : (n != n')
    · cases h3 : (!(s.toList == s'.toList))
      · cases h4 : ((f : Int) != (f' : Int))
        · cases h5 : ((M : Int) != (M' : Int))
          · exact absurd ⟨h1, h2, h3, h4, h5⟩ hne
          · clear hne
            go_enter Tryz.func10, Tryz.ntmps10
            go_wp2_with fail
            rw [HV.out]
            go_quiet (fail)
            go_wp2_with fail
            go_ret
            exact ⟨⟨_, rfl⟩, below_drewN HBV.out _⟩
        · clear hne
          go_enter Tryz.func10, Tryz.ntmps10
          go_wp2_with fail
          rw [HV.out]
          go_quiet (fail)
          go_wp2_with fail
          go_ret
          exact ⟨⟨_, rfl⟩, below_drewN HBV.out _⟩
      · clear hne
        go_enter Tryz.func10, Tryz.ntmps10
        go_wp2_with fail
        rw [HV.out]
        go_quiet (fail)
        go_wp2_with fail
        go_ret
        exact ⟨⟨_, rfl⟩, below_drewN HBV.out _⟩
    · clear hne
      go_enter Tryz.func10, Tryz.ntmps10
      go_wp2_with fail
      rw [HV.out]
      go_quiet (fail)
      go_wp2_with fail
      go_ret
      exact ⟨⟨_, rfl⟩, below_drewN HBV.out _⟩
  · clear hne
    go_enter Tryz.func10, Tryz.ntmps10
    go_wp2_with fail
    rw [HV.out]
    go_quiet (fail)
    go_wp2_with fail
    go_ret
    exact ⟨⟨_, rfl⟩, below_drewN HBV.out _⟩
theorem twin_tot : ∀ t t' : Tr, ∀ w, t.In w 0 → t'.In w 0 → Calls Tryz.prog 10 #[t.val, t'.val] w fun e w' => (∃ x, e = .returned (.bool x)) ∧ Below w.heap.size w w' := by
  refine Tr.ind fun k n f s a c kids hk => ?_
  rintro ⟨k', n', f', s', a', c', kids'⟩ w hin hin'
  by_cases hq : (k != k') = false ∧ (n != n') = false ∧ (!(s.toList == s'.toList)) = false ∧ ((f : Int) != (f' : Int)) = false ∧ ((kids.length : Int) != (kids'.length : Int)) = false
  · obtain ⟨q1, q2, q3, q4, q5⟩ := hq
    obtain rfl : k = k' := by simpa using q1
    obtain rfl : n = n' := by simpa using q2
    obtain rfl : f = f' := by simp at q4; omega
    obtain rfl : s = s' := by
      have hs : s.toList = s'.toList := by simpa using q3
      rw [ByteArray.toList_eq, ByteArray.toList_eq] at hs
      exact ByteArray.ext (Array.toList_inj.1 hs)
    exact twin_eq k n f s a c kids hk a' c' kids' (by simp at q5; omega) w hin hin'
  · exact twin_ne k n f s a kids.length c k' n' f' s' a' kids'.length c' w hq
end Go.Proofs.YtajadhkpadkikaaGreatDoor


