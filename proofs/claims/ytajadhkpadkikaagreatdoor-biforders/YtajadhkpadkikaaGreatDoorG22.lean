import Derived.Test.YtajadhkpadkikaaGreatDoorG21
/- The kinds' compare; term.compare of any two right terms. -/
namespace Go.Proofs.YtajadhkpadkikaaGreatDoor
open Go.RowKit Go.Lib Go.Deep
attribute [local go_sem] store_float f64bits
attribute [local go_sem ↓] Go.wp_at_zero Go.wp_at_succ

theorem below3 (w : World) (o1 o2 o3 : Obj) : Below w.heap.size w (((w.alloc o1).alloc o2).alloc o3) := (((Below.refl _ w).alloc (Nat.le_refl _) _).alloc (by simp) _).alloc (by simp; omega) _
set_option maxRecDepth 100000 in
theorem cmpAll_any (a : Option Addr) (l c : Nat) (a' : Option Addr) (l' c' : Nat) (w : World) (R : Int) (hC : ∀ W, Below w.heap.size w W → Calls Tryz.prog 287 #[.slice a l c, .slice a' l' c', .func (.func 24) #[] #[]] W fun e w' => e = .returned (.int .i64 R) ∧ Below W.heap.size W w') :
    Calls Tryz.prog 286 #[.slice a l c, .slice a' l' c'] w fun e w' => e = .returned (.int .i64 R) ∧ Below w.heap.size w w' := by
  have HC := hidb hC
  clear hC
  go_enter Tryz.func286, Tryz.ntmps286
  go_wp2_with fail
  refine (HC.out _ (Below.refl _ _)).mono ?_
  rintro e w1 ⟨rfl, hb1⟩
  have HB1 := hidb hb1
  clear hb1
  go_wp2_with fail
  go_ret
  exact ⟨rfl, HB1.out⟩
set_option maxHeartbeats 1000000 in
set_option maxRecDepth 100000 in
theorem cmp_number (k n : Int) (f : Nat) (s : ByteArray) (a : Option Addr) (l c : Nat) (k' n' : Int) (f' : Nat) (s' : ByteArray) (a' : Option Addr) (l' c' : Nat) (w : World) (hf : f < 18446744073709551616) (hf' : f' < 18446744073709551616) (h : rightB k n f s l = true) (h' : rightB k' n' f' s' l' = true) : Calls Tryz.prog 260 #[.agg #[], .agg #[.int .i64 k, .int .i64 n, .float .f64 f, .string s, .slice a l c], .agg #[.int .i64 k', .int .i64 n', .float .f64 f', .string s', .slice a' l' c']] w fun e w' => e = .returned (.int .i64 (Flt.ordI (compare (valU k n f) (valU k' n' f')))) ∧ Below w.heap.size w w' := by
  have NC := hidb (cmp_any k n k' n' f f' s s' a a' l c l' c' hf hf' h h')
  clear hf hf' h h'
  obtain ⟨V, hV⟩ : ∃ V, ((w.alloc (.cells #[] 78)).alloc (.cells #[.int .i64 k, .int .i64 n, .float .f64 f, .string s, .slice a l c] 25)).alloc (.cells #[.int .i64 k', .int .i64 n', .float .f64 f', .string s', .slice a' l' c'] 25) = V := ⟨_, rfl⟩
  have HBV : Hid (Below w.heap.size w V) := hidb (by rw [← hV]; exact below3 _ _ _ _)
  have HX1 : Hid (Box V (w.heap.size + 1) (.int .i64 k) (.int .i64 n) (.float .f64 f) (.string s) (.slice a l c)) := hidb (by
    rw [← hV]
    have := (Box.new (w.alloc (.cells #[] 78)) 25 (.int .i64 k) (.int .i64 n) (.float .f64 f) (.string s) (.slice a l c)).keep (below_new _ (.cells #[.int .i64 k', .int .i64 n', .float .f64 f', .string s', .slice a' l' c'] 25))
    simpa using this)
  have HX2 : Hid (Box V (w.heap.size + 1 + 1) (.int .i64 k') (.int .i64 n') (.float .f64 f') (.string s') (.slice a' l' c')) := hidb (by
    rw [← hV]
    have := Box.new ((w.alloc (.cells #[] 78)).alloc (.cells #[.int .i64 k, .int .i64 n, .float .f64 f, .string s, .slice a l c] 25)) 25 (.int .i64 k') (.int .i64 n') (.float .f64 f') (.string s') (.slice a' l' c')
    simpa using this)
  obtain ⟨x0, x1, x2, x3, x4, -, -, -, -, -, xl⟩ := HX1.out
  obtain ⟨y0, y1, y2, y3, y4, -, -, -, -, -, yl⟩ := HX2.out
  have HV := hidb hV
  clear hV
  go_enter Tryz.func260, Tryz.ntmps260
  go_wp2_with fail
  rw [HV.out]
  refine (NC.out _).mono ?_
  rintro e w1 ⟨rfl, hb1⟩
  have HB1 := hidb (HBV.out.trans (hb1.mono HBV.out.size))
  clear hb1
  go_wp2_with fail
  go_ret
  exact ⟨rfl, HB1.out⟩
set_option maxHeartbeats 1000000 in
set_option maxRecDepth 100000 in
theorem cmp_atom (k n : Int) (f : Nat) (s : ByteArray) (a : Option Addr) (l c : Nat) (k' n' : Int) (f' : Nat) (s' : ByteArray) (a' : Option Addr) (l' c' : Nat) (w : World)  : Calls Tryz.prog 267 #[.agg #[], .agg #[.int .i64 k, .int .i64 n, .float .f64 f, .string s, .slice a l c], .agg #[.int .i64 k', .int .i64 n', .float .f64 f', .string s', .slice a' l' c']] w fun e w' => e = .returned (.int .i64 (compareBytes s.data.toList s'.data.toList)) ∧ Below w.heap.size w w' := by
  obtain ⟨V, hV⟩ : ∃ V, ((w.alloc (.cells #[] 82)).alloc (.cells #[.int .i64 k, .int .i64 n, .float .f64 f, .string s, .slice a l c] 25)).alloc (.cells #[.int .i64 k', .int .i64 n', .float .f64 f', .string s', .slice a' l' c'] 25) = V := ⟨_, rfl⟩
  have HBV : Hid (Below w.heap.size w V) := hidb (by rw [← hV]; exact below3 _ _ _ _)
  have HX1 : Hid (Box V (w.heap.size + 1) (.int .i64 k) (.int .i64 n) (.float .f64 f) (.string s) (.slice a l c)) := hidb (by
    rw [← hV]
    have := (Box.new (w.alloc (.cells #[] 82)) 25 (.int .i64 k) (.int .i64 n) (.float .f64 f) (.string s) (.slice a l c)).keep (below_new _ (.cells #[.int .i64 k', .int .i64 n', .float .f64 f', .string s', .slice a' l' c'] 25))
    simpa using this)
  have HX2 : Hid (Box V (w.heap.size + 1 + 1) (.int .i64 k') (.int .i64 n') (.float .f64 f') (.string s') (.slice a' l' c')) := hidb (by
    rw [← hV]
    have := Box.new ((w.alloc (.cells #[] 82)).alloc (.cells #[.int .i64 k, .int .i64 n, .float .f64 f, .string s, .slice a l c] 25)) 25 (.int .i64 k') (.int .i64 n') (.float .f64 f') (.string s') (.slice a' l' c')
    simpa using this)
  obtain ⟨x0, x1, x2, x3, x4, -, -, -, -, -, xl⟩ := HX1.out
  obtain ⟨y0, y1, y2, y3, y4, -, -, -, -, -, yl⟩ := HX2.out
  have HV := hidb hV
  clear hV
  go_enter Tryz.func267, Tryz.ntmps267
  go_wp2_with fail
  rw [HV.out]
  refine (compS s s' _).mono ?_
  rintro e w1 ⟨rfl, rfl⟩
  go_wp2_with fail
  go_ret
  exact ⟨rfl, HBV.out⟩
set_option maxHeartbeats 1000000 in
set_option maxRecDepth 100000 in
theorem cmp_serial (k n : Int) (f : Nat) (s : ByteArray) (a : Option Addr) (l c : Nat) (k' n' : Int) (f' : Nat) (s' : ByteArray) (a' : Option Addr) (l' c' : Nat) (w : World)  : Calls Tryz.prog 276 #[.agg #[], .agg #[.int .i64 k, .int .i64 n, .float .f64 f, .string s, .slice a l c], .agg #[.int .i64 k', .int .i64 n', .float .f64 f', .string s', .slice a' l' c']] w fun e w' => e = .returned (.int .i64 (cmpI n n')) ∧ Below w.heap.size w w' := by
  obtain ⟨V, hV⟩ : ∃ V, ((w.alloc (.cells #[] 83)).alloc (.cells #[.int .i64 k, .int .i64 n, .float .f64 f, .string s, .slice a l c] 25)).alloc (.cells #[.int .i64 k', .int .i64 n', .float .f64 f', .string s', .slice a' l' c'] 25) = V := ⟨_, rfl⟩
  have HBV : Hid (Below w.heap.size w V) := hidb (by rw [← hV]; exact below3 _ _ _ _)
  have HX1 : Hid (Box V (w.heap.size + 1) (.int .i64 k) (.int .i64 n) (.float .f64 f) (.string s) (.slice a l c)) := hidb (by
    rw [← hV]
    have := (Box.new (w.alloc (.cells #[] 83)) 25 (.int .i64 k) (.int .i64 n) (.float .f64 f) (.string s) (.slice a l c)).keep (below_new _ (.cells #[.int .i64 k', .int .i64 n', .float .f64 f', .string s', .slice a' l' c'] 25))
    simpa using this)
  have HX2 : Hid (Box V (w.heap.size + 1 + 1) (.int .i64 k') (.int .i64 n') (.float .f64 f') (.string s') (.slice a' l' c')) := hidb (by
    rw [← hV]
    have := Box.new ((w.alloc (.cells #[] 83)).alloc (.cells #[.int .i64 k, .int .i64 n, .float .f64 f, .string s, .slice a l c] 25)) 25 (.int .i64 k') (.int .i64 n') (.float .f64 f') (.string s') (.slice a' l' c')
    simpa using this)
  obtain ⟨x0, x1, x2, x3, x4, -, -, -, -, -, xl⟩ := HX1.out
  obtain ⟨y0, y1, y2, y3, y4, -, -, -, -, -, yl⟩ := HX2.out
  have HV := hidb hV
  clear hV
  go_enter Tryz.func276, Tryz.ntmps276
  go_wp2_with fail
  rw [HV.out]
  refine (compCl n n' _).mono ?_
  rintro e w1 ⟨rfl, rfl⟩
  go_wp2_with fail
  go_ret
  exact ⟨rfl, HBV.out⟩
set_option maxHeartbeats 1000000 in
set_option maxRecDepth 100000 in
theorem cmp_list (k n : Int) (f : Nat) (s : ByteArray) (a : Option Addr) (l c : Nat) (k' n' : Int) (f' : Nat) (s' : ByteArray) (a' : Option Addr) (l' c' : Nat) (w : World) (R : Int) (hC : ∀ W, Below w.heap.size w W → Calls Tryz.prog 287 #[.slice a l c, .slice a' l' c', .func (.func 24) #[] #[]] W fun e w' => e = .returned (.int .i64 R) ∧ Below W.heap.size W w') : Calls Tryz.prog 296 #[.agg #[], .agg #[.int .i64 k, .int .i64 n, .float .f64 f, .string s, .slice a l c], .agg #[.int .i64 k', .int .i64 n', .float .f64 f', .string s', .slice a' l' c']] w fun e w' => e = .returned (.int .i64 (R)) ∧ Below w.heap.size w w' := by
  have HC := hidb hC
  clear hC
  obtain ⟨V, hV⟩ : ∃ V, ((w.alloc (.cells #[] 89)).alloc (.cells #[.int .i64 k, .int .i64 n, .float .f64 f, .string s, .slice a l c] 25)).alloc (.cells #[.int .i64 k', .int .i64 n', .float .f64 f', .string s', .slice a' l' c'] 25) = V := ⟨_, rfl⟩
  have HBV : Hid (Below w.heap.size w V) := hidb (by rw [← hV]; exact below3 _ _ _ _)
  have HX1 : Hid (Box V (w.heap.size + 1) (.int .i64 k) (.int .i64 n) (.float .f64 f) (.string s) (.slice a l c)) := hidb (by
    rw [← hV]
    have := (Box.new (w.alloc (.cells #[] 89)) 25 (.int .i64 k) (.int .i64 n) (.float .f64 f) (.string s) (.slice a l c)).keep (below_new _ (.cells #[.int .i64 k', .int .i64 n', .float .f64 f', .string s', .slice a' l' c'] 25))
    simpa using this)
  have HX2 : Hid (Box V (w.heap.size + 1 + 1) (.int .i64 k') (.int .i64 n') (.float .f64 f') (.string s') (.slice a' l' c')) := hidb (by
    rw [← hV]
    have := Box.new ((w.alloc (.cells #[] 89)).alloc (.cells #[.int .i64 k, .int .i64 n, .float .f64 f, .string s, .slice a l c] 25)) 25 (.int .i64 k') (.int .i64 n') (.float .f64 f') (.string s') (.slice a' l' c')
    simpa using this)
  obtain ⟨x0, x1, x2, x3, x4, -, -, -, -, -, xl⟩ := HX1.out
  obtain ⟨y0, y1, y2, y3, y4, -, -, -, -, -, yl⟩ := HX2.out
  have HV := hidb hV
  clear hV
  go_enter Tryz.func296, Tryz.ntmps296
  go_wp2_with fail
  rw [HV.out]
  refine (cmpAll_any a l c a' l' c' _ R (fun W2 hb2 => HC.out W2 (HBV.out.trans (hb2.mono HBV.out.size)))).mono ?_
  rintro e w1 ⟨rfl, hb1⟩
  have HB1 := hidb (HBV.out.trans (hb1.mono HBV.out.size))
  clear hb1
  go_wp2_with fail
  go_ret
  exact ⟨rfl, HB1.out⟩
set_option maxHeartbeats 1000000 in
set_option maxRecDepth 100000 in
theorem cmp_function (k n : Int) (f : Nat) (s : ByteArray) (a : Option Addr) (l c : Nat) (k' n' : Int) (f' : Nat) (s' : ByteArray) (a' : Option Addr) (l' c' : Nat) (w : World) (R : Int) (hC : ∀ W, Below w.heap.size w W → Calls Tryz.prog 287 #[.slice a l c, .slice a' l' c', .func (.func 24) #[] #[]] W fun e w' => e = .returned (.int .i64 R) ∧ Below W.heap.size W w') : Calls Tryz.prog 281 #[.agg #[], .agg #[.int .i64 k, .int .i64 n, .float .f64 f, .string s, .slice a l c], .agg #[.int .i64 k', .int .i64 n', .float .f64 f', .string s', .slice a' l' c']] w fun e w' => e = .returned (.int .i64 (if cmpI n n' ≠ 0 then cmpI n n' else R)) ∧ Below w.heap.size w w' := by
  have HC := hidb hC
  clear hC
  obtain ⟨RR, hRR⟩ : ∃ RR, (if cmpI n n' ≠ 0 then cmpI n n' else R) = RR := ⟨_, rfl⟩
  have HRR := hidb hRR
  rw [hRR]
  clear hRR
  obtain ⟨V, hV⟩ : ∃ V, ((w.alloc (.cells #[] 86)).alloc (.cells #[.int .i64 k, .int .i64 n, .float .f64 f, .string s, .slice a l c] 25)).alloc (.cells #[.int .i64 k', .int .i64 n', .float .f64 f', .string s', .slice a' l' c'] 25) = V := ⟨_, rfl⟩
  have HBV : Hid (Below w.heap.size w V) := hidb (by rw [← hV]; exact below3 _ _ _ _)
  have HX1 : Hid (Box V (w.heap.size + 1) (.int .i64 k) (.int .i64 n) (.float .f64 f) (.string s) (.slice a l c)) := hidb (by
    rw [← hV]
    have := (Box.new (w.alloc (.cells #[] 86)) 25 (.int .i64 k) (.int .i64 n) (.float .f64 f) (.string s) (.slice a l c)).keep (below_new _ (.cells #[.int .i64 k', .int .i64 n', .float .f64 f', .string s', .slice a' l' c'] 25))
    simpa using this)
  have HX2 : Hid (Box V (w.heap.size + 1 + 1) (.int .i64 k') (.int .i64 n') (.float .f64 f') (.string s') (.slice a' l' c')) := hidb (by
    rw [← hV]
    have := Box.new ((w.alloc (.cells #[] 86)).alloc (.cells #[.int .i64 k, .int .i64 n, .float .f64 f, .string s, .slice a l c] 25)) 25 (.int .i64 k') (.int .i64 n') (.float .f64 f') (.string s') (.slice a' l' c')
    simpa using this)
  obtain ⟨x0, x1, x2, x3, x4, -, -, -, -, -, xl⟩ := HX1.out
  obtain ⟨y0, y1, y2, y3, y4, -, -, -, -, -, yl⟩ := HX2.out
  have HV := hidb hV
  clear hV
  go_enter Tryz.func281, Tryz.ntmps281
  go_wp2_with fail
  rw [HV.out]
  have CA := hidb (fun W (hb : Below V.heap.size V W) => cmpAll_any a l c a' l' c' W R (fun W2 hb2 => HC.out W2 (HBV.out.trans ((hb.trans (hb2.mono hb.size)).mono HBV.out.size))))
  refine (compCl n n' _).mono ?_
  rintro e w1 ⟨rfl, rfl⟩
  by_cases h0 : cmpI n n' = 0
  · have hb0 : (cmpI n n' != 0) = false := by simp [h0]
    obtain rfl : R = RR := by have := HRR.out; rw [if_neg (by simpa using h0)] at this; exact this
    clear h0 HRR
    generalize cmpI n n' = C0 at *
    go_wp2_with fail
    refine (CA.out _ (Below.refl _ _)).mono ?_
    rintro e w2 ⟨rfl, hb2⟩
    have HB2 := hidb (HBV.out.trans (hb2.mono HBV.out.size))
    clear hb2
    go_wp2_with fail
    go_ret
    exact ⟨rfl, HB2.out⟩
  · have hb0 : (cmpI n n' != 0) = true := by simp [h0]
    have HQ : Hid (cmpI n n' = RR) := hidb (by have := HRR.out; rw [if_pos h0] at this; exact this)
    clear h0 HRR
    generalize cmpI n n' = C0 at *
    go_wp2_with fail
    go_ret
    exact ⟨by rw [← HQ.out]; rfl, HBV.out⟩
set_option maxHeartbeats 1000000 in
set_option maxRecDepth 100000 in
theorem cmp_tuple (k n : Int) (f : Nat) (s : ByteArray) (a : Option Addr) (l c : Nat) (k' n' : Int) (f' : Nat) (s' : ByteArray) (a' : Option Addr) (l' c' : Nat) (w : World) (R : Int) (hC : ∀ W, Below w.heap.size w W → Calls Tryz.prog 287 #[.slice a l c, .slice a' l' c', .func (.func 24) #[] #[]] W fun e w' => e = .returned (.int .i64 R) ∧ Below W.heap.size W w') : Calls Tryz.prog 291 #[.agg #[], .agg #[.int .i64 k, .int .i64 n, .float .f64 f, .string s, .slice a l c], .agg #[.int .i64 k', .int .i64 n', .float .f64 f', .string s', .slice a' l' c']] w fun e w' => e = .returned (.int .i64 (if cmpI l l' ≠ 0 then cmpI l l' else R)) ∧ Below w.heap.size w w' := by
  have HC := hidb hC
  clear hC
  obtain ⟨RR, hRR⟩ : ∃ RR, (if cmpI l l' ≠ 0 then cmpI l l' else R) = RR := ⟨_, rfl⟩
  have HRR := hidb hRR
  rw [hRR]
  clear hRR
  obtain ⟨V, hV⟩ : ∃ V, ((w.alloc (.cells #[] 88)).alloc (.cells #[.int .i64 k, .int .i64 n, .float .f64 f, .string s, .slice a l c] 25)).alloc (.cells #[.int .i64 k', .int .i64 n', .float .f64 f', .string s', .slice a' l' c'] 25) = V := ⟨_, rfl⟩
  have HBV : Hid (Below w.heap.size w V) := hidb (by rw [← hV]; exact below3 _ _ _ _)
  have HX1 : Hid (Box V (w.heap.size + 1) (.int .i64 k) (.int .i64 n) (.float .f64 f) (.string s) (.slice a l c)) := hidb (by
    rw [← hV]
    have := (Box.new (w.alloc (.cells #[] 88)) 25 (.int .i64 k) (.int .i64 n) (.float .f64 f) (.string s) (.slice a l c)).keep (below_new _ (.cells #[.int .i64 k', .int .i64 n', .float .f64 f', .string s', .slice a' l' c'] 25))
    simpa using this)
  have HX2 : Hid (Box V (w.heap.size + 1 + 1) (.int .i64 k') (.int .i64 n') (.float .f64 f') (.string s') (.slice a' l' c')) := hidb (by
    rw [← hV]
    have := Box.new ((w.alloc (.cells #[] 88)).alloc (.cells #[.int .i64 k, .int .i64 n, .float .f64 f, .string s, .slice a l c] 25)) 25 (.int .i64 k') (.int .i64 n') (.float .f64 f') (.string s') (.slice a' l' c')
    simpa using this)
  obtain ⟨x0, x1, x2, x3, x4, -, -, -, -, -, xl⟩ := HX1.out
  obtain ⟨y0, y1, y2, y3, y4, -, -, -, -, -, yl⟩ := HX2.out
  have HV := hidb hV
  clear hV
  go_enter Tryz.func291, Tryz.ntmps291
  go_wp2_with fail
  rw [HV.out]
  have CA := hidb (fun W (hb : Below V.heap.size V W) => cmpAll_any a l c a' l' c' W R (fun W2 hb2 => HC.out W2 (HBV.out.trans ((hb.trans (hb2.mono hb.size)).mono HBV.out.size))))
  refine (compCi l l' _).mono ?_
  rintro e w1 ⟨rfl, rfl⟩
  by_cases h0 : cmpI l l' = 0
  · have hb0 : (cmpI l l' != 0) = false := by simp [h0]
    obtain rfl : R = RR := by have := HRR.out; rw [if_neg (by simpa using h0)] at this; exact this
    clear h0 HRR
    generalize cmpI l l' = C0 at *
    go_wp2_with fail
    refine (CA.out _ (Below.refl _ _)).mono ?_
    rintro e w2 ⟨rfl, hb2⟩
    have HB2 := hidb (HBV.out.trans (hb2.mono HBV.out.size))
    clear hb2
    go_wp2_with fail
    go_ret
    exact ⟨rfl, HB2.out⟩
  · have hb0 : (cmpI l l' != 0) = true := by simp [h0]
    have HQ : Hid (cmpI l l' = RR) := hidb (by have := HRR.out; rw [if_pos h0] at this; exact this)
    clear h0 HRR
    generalize cmpI l l' = C0 at *
    go_wp2_with fail
    go_ret
    exact ⟨by rw [← HQ.out]; rfl, HBV.out⟩

theorem good_kind {k n : Int} {f : Nat} {s : ByteArray} {a : Option Addr} {c : Nat} {ks : List Tr} (h : goodT (.mk k n f s a c ks) = true) : k = 1 ∨ k = 2 ∨ k = 3 ∨ k = 4 ∨ k = 5 ∨ k = 6 ∨ k = 7 ∨ k = 8 := by
  unfold goodT at h
  by_cases e1 : k = 1
  · exact .inl e1
  by_cases e2 : k = 2
  · exact .inr (.inl e2)
  by_cases e3 : k = 3
  · exact .inr (.inr (.inl e3))
  by_cases e4 : k = 4
  · exact .inr (.inr (.inr (.inl e4)))
  by_cases e5 : k = 5
  · exact .inr (.inr (.inr (.inr (.inl e5))))
  by_cases e6 : k = 6
  · exact .inr (.inr (.inr (.inr (.inr (.inl e6)))))
  by_cases e7 : k = 7
  · exact .inr (.inr (.inr (.inr (.inr (.inr (.inl e7))))))
  by_cases e8 : k = 8
  · exact .inr (.inr (.inr (.inr (.inr (.inr (.inr e8))))))
  simp [e1, e2, e3, e4, e5, e6, e7, e8] at h
theorem cmpI_zero {x y : Int} : cmpI x y = 0 ↔ x = y := by
  unfold cmpI
  constructor
  · intro h
    split at h
    · omega
    · split at h <;> omega
  · intro h
    rw [if_neg (by omega), if_neg (by omega)]

/-- A kind's compare of two of its rank. -/
theorem fcmp_ok (k n : Int) (f : Nat) (s : ByteArray) (a : Option Addr) (c : Nat) (ks : List Tr) (k' n' : Int) (f' : Nat) (s' : ByteArray) (a' : Option Addr) (c' : Nat) (ks' : List Tr) (w : World) (hf : f < 18446744073709551616) (hf' : f' < 18446744073709551616) (hg : goodT (.mk k n f s a c ks) = true) (hg' : goodT (.mk k' n' f' s' a' c' ks') = true) (hr : cmpI (rk k) (rk k') = 0)
    (hC : ∀ W, Below w.heap.size w W → Calls Tryz.prog 287 #[.slice a ks.length c, .slice a' ks'.length c', .func (.func 24) #[] #[]] W fun e w' => e = .returned (.int .i64 (cmpA ks ks')) ∧ Below W.heap.size W w') :
    Calls Tryz.prog (fcmp k) #[.agg #[], .agg #[.int .i64 k, .int .i64 n, .float .f64 f, .string s, .slice a ks.length c], .agg #[.int .i64 k', .int .i64 n', .float .f64 f', .string s', .slice a' ks'.length c']] w fun e w' => e = .returned (.int .i64 (cmpT (.mk k n f s a c ks) (.mk k' n' f' s' a' c' ks'))) ∧ Below w.heap.size w w' := by
  have hrk := cmpI_zero.1 hr
  have hgn : ∀ k n f s a c ks, (k = 1 ∨ k = 2) → goodT (.mk k n f s a c ks) = true → rightB k n f s ks.length = true := fun k n f s a c ks h hg => by
    rcases h with rfl | rfl <;> simpa [goodT] using hg
  have num : (k = 1 ∨ k = 2) → (k' = 1 ∨ k' = 2) → Calls Tryz.prog 260 #[.agg #[], .agg #[.int .i64 k, .int .i64 n, .float .f64 f, .string s, .slice a ks.length c], .agg #[.int .i64 k', .int .i64 n', .float .f64 f', .string s', .slice a' ks'.length c']] w fun e w' => e = .returned (.int .i64 (cmpT (.mk k n f s a c ks) (.mk k' n' f' s' a' c' ks'))) ∧ Below w.heap.size w w' := fun h h' => by
    have := cmp_number k n f s a ks.length c k' n' f' s' a' ks'.length c' w hf hf' (hgn _ _ _ _ _ _ _ h hg) (hgn _ _ _ _ _ _ _ h' hg')
    unfold cmpT
    rw [if_neg (by simpa using hr), if_pos h]
    exact this
  rcases good_kind hg with rfl | rfl | rfl | rfl | rfl | rfl | rfl | rfl
  · rcases good_kind hg' with rfl | rfl | rfl | rfl | rfl | rfl | rfl | rfl <;> first | exact num (Or.inl rfl) (Or.inl rfl) | exact num (Or.inl rfl) (Or.inr rfl) | exact num (Or.inr rfl) (Or.inl rfl) | exact num (Or.inr rfl) (Or.inr rfl) | exact absurd hrk (by decide)
  · rcases good_kind hg' with rfl | rfl | rfl | rfl | rfl | rfl | rfl | rfl <;> first | exact num (Or.inl rfl) (Or.inl rfl) | exact num (Or.inl rfl) (Or.inr rfl) | exact num (Or.inr rfl) (Or.inl rfl) | exact num (Or.inr rfl) (Or.inr rfl) | exact absurd hrk (by decide)
  · have := cmp_atom 3 n f s a ks.length c k' n' f' s' a' ks'.length c' w
    unfold cmpT
    rw [if_neg (by simpa using hr)]
    simpa [fcmp] using this
  · have := cmp_serial 4 n f s a ks.length c k' n' f' s' a' ks'.length c' w
    unfold cmpT
    rw [if_neg (by simpa using hr)]
    simpa [fcmp] using this
  · have := cmp_function 5 n f s a ks.length c k' n' f' s' a' ks'.length c' w _ hC
    unfold cmpT
    rw [if_neg (by simpa using hr)]
    simpa [fcmp] using this
  · have := cmp_serial 6 n f s a ks.length c k' n' f' s' a' ks'.length c' w
    unfold cmpT
    rw [if_neg (by simpa using hr)]
    simpa [fcmp] using this
  · have := cmp_tuple 7 n f s a ks.length c k' n' f' s' a' ks'.length c' w _ hC
    unfold cmpT
    rw [if_neg (by simpa using hr)]
    simpa [fcmp] using this
  · have := cmp_list 8 n f s a ks.length c k' n' f' s' a' ks'.length c' w _ hC
    unfold cmpT
    rw [if_neg (by simpa using hr)]
    simpa [fcmp] using this
end Go.Proofs.YtajadhkpadkikaaGreatDoor


/- term.compare of any two right terms. -/
namespace Go.Proofs.YtajadhkpadkikaaGreatDoor
open Go.RowKit Go.Lib Go.Deep
attribute [local go_sem] store_float f64bits
attribute [local go_sem ↓] Go.wp_at_zero Go.wp_at_succ

theorem fit_f {k n : Int} {f : Nat} {s : ByteArray} {a : Option Addr} {c : Nat} {ks : List Tr} {w : World} (h : (Tr.mk k n f s a c ks).In w 0) : f < 18446744073709551616 := by
  unfold Tr.In at h
  have := h.1.2.2.1
  simpa [Lit.wf] using this
theorem all_self {k n : Int} {f : Nat} {s : ByteArray} {a : Option Addr} {c : Nat} {ks : List Tr} {g : Tr → Bool} (h : allT g (.mk k n f s a c ks) = true) : g (.mk k n f s a c ks) = true ∧ ∀ t, t ∈ ks → allT g t = true := by
  unfold allT at h
  simp only [Bool.and_eq_true] at h
  refine ⟨h.1, ?_⟩
  have hall : ∀ l : List Tr, allAll g l = true → ∀ t, t ∈ l → allT g t = true := by
    intro l
    induction l with
    | nil => intro _ t ht; cases ht
    | cons u r ih =>
      intro h t ht
      unfold allAll at h
      simp only [Bool.and_eq_true] at h
      rcases List.mem_cons.1 ht with rfl | ht
      · exact h.1
      · exact ih h.2 t ht
  exact hall ks h.2

set_option maxHeartbeats 8000000 in
set_option maxRecDepth 100000 in
theorem compare_any : ∀ t : Tr, allT goodT t = true → CmpOk t := by
  refine Tr.ind fun k n f s a c ks hk => ?_
  intro hg0
  obtain ⟨hg, hgk⟩ := all_self hg0
  rintro ⟨k', n', f', s', a', c', ks'⟩ hg1 w hin hin'
  obtain ⟨hg', hgk'⟩ := all_self hg1
  have FC : Hid (cmpI (rk k) (rk k') = 0 → ∀ W, Below w.heap.size w W → Calls Tryz.prog (fcmp k) #[.agg #[], .agg #[.int .i64 k, .int .i64 n, .float .f64 f, .string s, .slice a ks.length c], .agg #[.int .i64 k', .int .i64 n', .float .f64 f', .string s', .slice a' ks'.length c']] W fun e w' => e = .returned (.int .i64 (cmpT (.mk k n f s a c ks) (.mk k' n' f' s' a' c' ks'))) ∧ Below W.heap.size W w') := hidb (fun hr W hW => fcmp_ok k n f s a c ks k' n' f' s' a' c' ks' W (fit_f hin) (fit_f hin') hg hg' hr (fun W2 hW2 => cmpFunc_any ks ks' (fun t ht => hk t ht (hgk t ht)) hgk' k n f s a c k' n' f' s' a' c' W2 (in_below (hW.trans (hW2.mono hW.size)) hin) (in_below (hW.trans (hW2.mono hW.size)) hin')))
  have HN : Hid (cmpI (rk k) (rk k') ≠ 0 → cmpT (.mk k n f s a c ks) (.mk k' n' f' s' a' c' ks') = cmpI (rk k) (rk k')) := hidb (fun h => by unfold cmpT; rw [if_pos h])
  obtain ⟨R, hR⟩ : ∃ R, cmpT (.mk k n f s a c ks) (.mk k' n' f' s' a' c' ks') = R := ⟨_, rfl⟩
  rw [hR] at FC HN ⊢
  simp only [Tr.val, Tr.cells]
  clear hk hg0 hg1 hg hg' hgk hgk' hin hin' hR
  obtain ⟨l, hl⟩ : ∃ l, ks.length = l := ⟨_, rfl⟩
  obtain ⟨l', hl'⟩ : ∃ l', ks'.length = l' := ⟨_, rfl⟩
  rw [hl, hl'] at FC
  rw [hl, hl']
  clear hl hl'
  have K1 := hidb (kindOf_any k n f s a l c)
  have K2 := hidb (kindOf_any k' n' f' s' a' l' c')
  have e1 := method_rank k
  have e2 := method_rank k'
  have e3 := method_compare k
  have e4 := call_rank k
  have e5 := call_rank k'
  have e6 := call_compare k
  have RK1 := hidb (rank_any k)
  have RK2 := hidb (rank_any k')
  obtain ⟨V, hV⟩ : ∃ V, (w.alloc (.cells #[.int .i64 k, .int .i64 n, .float .f64 f, .string s, .slice a l c] 25)).alloc (.cells #[.int .i64 k', .int .i64 n', .float .f64 f', .string s', .slice a' l' c'] 25) = V := ⟨_, rfl⟩
  have HBV : Hid (Below w.heap.size w V) := hidb (by rw [← hV]; exact (below_new w _).alloc (by simp) _)
  have HB1 : Hid (Box V w.heap.size (.int .i64 k) (.int .i64 n) (.float .f64 f) (.string s) (.slice a l c)) := hidb (by rw [← hV]; exact (Box.new w _ _ _ _ _ _).keep (below_new _ _))
  have HB2 : Hid (Box V (w.heap.size + 1) (.int .i64 k') (.int .i64 n') (.float .f64 f') (.string s') (.slice a' l' c')) := hidb (by
    rw [← hV]
    have := Box.new (w.alloc (.cells #[.int .i64 k, .int .i64 n, .float .f64 f, .string s, .slice a l c] 25)) 25 (.int .i64 k') (.int .i64 n') (.float .f64 f') (.string s') (.slice a' l' c')
    simpa using this)
  have HV := hidb hV
  clear hV
  have HS : Hid (∀ W, Below V.heap.size V W → W.cell? ⟨w.heap.size, 0, none⟩ = some (.int .i64 k) ∧ W.cell? ⟨w.heap.size, 1, none⟩ = some (.int .i64 n) ∧ W.cell? ⟨w.heap.size, 2, none⟩ = some (.float .f64 f) ∧ W.cell? ⟨w.heap.size, 3, none⟩ = some (.string s) ∧ W.cell? ⟨w.heap.size, 4, none⟩ = some (.slice a l c) ∧ W.cell? ⟨w.heap.size + 1, 0, none⟩ = some (.int .i64 k') ∧ W.cell? ⟨w.heap.size + 1, 1, none⟩ = some (.int .i64 n') ∧ W.cell? ⟨w.heap.size + 1, 2, none⟩ = some (.float .f64 f') ∧ W.cell? ⟨w.heap.size + 1, 3, none⟩ = some (.string s') ∧ W.cell? ⟨w.heap.size + 1, 4, none⟩ = some (.slice a' l' c')) := hidb (fun W hb => ⟨(HB1.out.keep hb).c0, (HB1.out.keep hb).c1, (HB1.out.keep hb).c2, (HB1.out.keep hb).c3, (HB1.out.keep hb).c4, (HB2.out.keep hb).c0, (HB2.out.keep hb).c1, (HB2.out.keep hb).c2, (HB2.out.keep hb).c3, (HB2.out.keep hb).c4⟩)
  have HS0 := hidb (HS.out V.drew (Below.refl _ _).drew)
  have C1 : Hid (Calls Tryz.prog 31 #[.agg #[.int .i64 k, .int .i64 n, .float .f64 f, .string s, .slice a l c]] V.drew fun e w1 => e = .returned (.iface (kt k) (.agg #[])) ∧ Hid (w1.cell? ⟨w.heap.size, 0, none⟩ = some (.int .i64 k) ∧ w1.cell? ⟨w.heap.size, 1, none⟩ = some (.int .i64 n) ∧ w1.cell? ⟨w.heap.size, 2, none⟩ = some (.float .f64 f) ∧ w1.cell? ⟨w.heap.size, 3, none⟩ = some (.string s) ∧ w1.cell? ⟨w.heap.size, 4, none⟩ = some (.slice a l c) ∧ w1.cell? ⟨w.heap.size + 1, 0, none⟩ = some (.int .i64 k') ∧ w1.cell? ⟨w.heap.size + 1, 1, none⟩ = some (.int .i64 n') ∧ w1.cell? ⟨w.heap.size + 1, 2, none⟩ = some (.float .f64 f') ∧ w1.cell? ⟨w.heap.size + 1, 3, none⟩ = some (.string s') ∧ w1.cell? ⟨w.heap.size + 1, 4, none⟩ = some (.slice a' l' c')) ∧ Hid (Calls Tryz.prog 31 #[.agg #[.int .i64 k', .int .i64 n', .float .f64 f', .string s', .slice a' l' c']] w1 fun e w2 => e = .returned (.iface (kt k') (.agg #[])) ∧ Hid (w2.cell? ⟨w.heap.size, 0, none⟩ = some (.int .i64 k) ∧ w2.cell? ⟨w.heap.size, 1, none⟩ = some (.int .i64 n) ∧ w2.cell? ⟨w.heap.size, 2, none⟩ = some (.float .f64 f) ∧ w2.cell? ⟨w.heap.size, 3, none⟩ = some (.string s) ∧ w2.cell? ⟨w.heap.size, 4, none⟩ = some (.slice a l c) ∧ w2.cell? ⟨w.heap.size + 1, 0, none⟩ = some (.int .i64 k') ∧ w2.cell? ⟨w.heap.size + 1, 1, none⟩ = some (.int .i64 n') ∧ w2.cell? ⟨w.heap.size + 1, 2, none⟩ = some (.float .f64 f') ∧ w2.cell? ⟨w.heap.size + 1, 3, none⟩ = some (.string s') ∧ w2.cell? ⟨w.heap.size + 1, 4, none⟩ = some (.slice a' l' c')) ∧ Hid (Below V.heap.size V w2))) := hidb (by
    refine (K1.out _).mono ?_
    rintro e w1 ⟨rfl, hb1⟩
    have q1 := undrew hb1
    refine ⟨rfl, hidb (HS.out w1 q1), hidb ((K2.out _).mono ?_)⟩
    rintro e w2 ⟨rfl, hb2⟩
    have q2 := q1.trans (hb2.mono q1.size)
    exact ⟨rfl, hidb (HS.out w2 q2), hidb q2⟩)
  clear K1 K2
  go_enter Tryz.func24, Tryz.ntmps24
  go_wp2_with fail
  rw [HV.out]
  go_region_held3 (fun w' => w'.cell? ⟨w.heap.size, 0, none⟩ = some (.int .i64 k) ∧ w'.cell? ⟨w.heap.size, 1, none⟩ = some (.int .i64 n) ∧ w'.cell? ⟨w.heap.size, 2, none⟩ = some (.float .f64 f) ∧ w'.cell? ⟨w.heap.size, 3, none⟩ = some (.string s) ∧ w'.cell? ⟨w.heap.size, 4, none⟩ = some (.slice a l c) ∧ w'.cell? ⟨w.heap.size + 1, 0, none⟩ = some (.int .i64 k') ∧ w'.cell? ⟨w.heap.size + 1, 1, none⟩ = some (.int .i64 n') ∧ w'.cell? ⟨w.heap.size + 1, 2, none⟩ = some (.float .f64 f') ∧ w'.cell? ⟨w.heap.size + 1, 3, none⟩ = some (.string s') ∧ w'.cell? ⟨w.heap.size + 1, 4, none⟩ = some (.slice a' l' c')) (first | with_reducible exact HS0.out | with_reducible exact HS1.out | with_reducible exact HS2.out) (first
    | (go_at_call 31; refine C1.out.mono ?_; clear C1; rintro e w1 ⟨rfl, HS1, C2⟩)
    | (go_at_call 31; refine C2.out.mono ?_; clear C2; rintro e w2 ⟨rfl, HS2, HB⟩))
  go_wp2_with fail
  refine (RK1.out _).mono ?_
  rintro e w3 ⟨rfl, hb3⟩
  have HB3 := hidb (HB.out.trans (hb3.mono HB.out.size))
  clear hb3
  go_wp2_with fail
  refine (RK2.out _).mono ?_
  rintro e w4 ⟨rfl, hb4⟩
  have HB4 := hidb (HB3.out.trans (hb4.mono HB3.out.size))
  clear hb4
  go_wp2_with fail
  refine (compCi (rk k) (rk k') _).mono ?_
  rintro e w5 ⟨rfl, rfl⟩
  have HB5 := hidb (HBV.out.trans (HB4.out.mono HBV.out.size))
  obtain ⟨z0, z1, z2, z3, z4, z5, z6, z7, z8, z9⟩ := HS.out _ HB4.out
  by_cases h0 : cmpI (rk k) (rk k') = 0
  · have hb0 : (cmpI (rk k) (rk k') != 0) = false := by simp [h0]
    have FC2 := hidb (FC.out h0)
    clear h0 HN FC
    generalize cmpI (rk k) (rk k') = C0 at *
    go_wp2_with fail
    refine (FC2.out _ HB5.out).mono ?_
    rintro e w6 ⟨rfl, hb6⟩
    have HB6 := hidb (HB5.out.trans (hb6.mono HB5.out.size))
    clear hb6
    go_wp2_with fail
    go_ret
    exact ⟨rfl, HB6.out⟩
  · have hb0 : (cmpI (rk k) (rk k') != 0) = true := by simp [h0]
    have HQ := hidb (HN.out h0)
    clear h0 HN FC
    generalize cmpI (rk k) (rk k') = C0 at *
    go_wp2_with fail
    go_ret
    exact ⟨by rw [HQ.out]; rfl, HB5.out⟩
end Go.Proofs.YtajadhkpadkikaaGreatDoor


