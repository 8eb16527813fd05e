import Derived.Test.YtliebilpddmhkaaG30
import Derived.Test.YtliebilpddmhkaaG31
import Derived.Test.YtliebilpddmhkaaG28
import Derived.WalkLawsBesides
import Derived.OpenShut
import Derived.ChangeAt
import Derived.ChangeSame
/- ExitsKills, whole. -/
namespace Go.Proofs.Ytliebilpddmhkaa
open Go.RowKit Go.Lib Go.Deep
attribute [local go_sem] store_float f64bits
attribute [local go_sem ↓] Go.wp_at_zero Go.wp_at_succ

set_option maxRecDepth 100000 in
set_option maxHeartbeats 8000000 in
theorem exitsKills_of (x0 x1 : Int) (tk tn : Int) (tf : Nat) (ts : ByteArray) (ta : Option Addr) (tc : Nat) (kids : List Tr) (lk : Bool) (w : World) (hin : (Tr.mk tk tn tf ts ta tc kids).In w 0) : Calls Try.prog 5 #[.int .i64 x0, .int .i64 x1, .agg #[.int .i64 tk, .int .i64 tn, .float .f64 tf, .string ts, .slice ta kids.length tc], .bool lk] w fun e w' => e = .returned (.bool true) ∧ Below w.heap.size w w' := by
  by_cases hfw : decide (0 ≤ fewT (.mk tk tn tf ts ta tc kids) 100000 1000) = true
  · obtain ⟨hsm, hcn⟩ := few_ok (of_decide_eq_true hfw)
    by_cases hE : errS x0 x1 5 0 0 lk ⟨#[]⟩ (.mk tk tn tf ts ta tc kids) = 0
    · cases lk with
      | false =>
        by_cases e3 : tk = 3
        · by_cases e4 : ts = ⟨#[107, 105, 108, 108]⟩
          · exact kills_k x0 x1 tk tn tf ts ta tc kids w hin hsm hcn hE hfw e3 e4
          · by_cases e5 : ts = ⟨#[110, 111, 114, 109, 97, 108]⟩
            · by_cases e6 : x0 = x1
              · exact kills_c1 x0 x1 tk tn tf ts ta tc kids w hin hsm hcn hE hfw e3 e5 e6
              · exact kills_n1 x0 x1 tk tn tf ts ta tc kids w hin hsm hcn hE hfw e3 e5 e6
            · exact kills_c2 x0 x1 tk tn tf ts ta tc kids w hin hsm hcn hE hfw e3 e4 e5
        · exact kills_c3 x0 x1 tk tn tf ts ta tc kids w hin hsm hcn hE hfw e3
      | true =>
        by_cases e3 : tk = 3
        · by_cases e5 : ts = ⟨#[110, 111, 114, 109, 97, 108]⟩
          · exact kills_n2 x0 x1 tk tn tf ts ta tc kids w hin hsm hcn hE hfw e3 e5
          · exact kills_c4 x0 x1 tk tn tf ts ta tc kids w hin hsm hcn hE hfw e3 e5
        · exact kills_c5 x0 x1 tk tn tf ts ta tc kids w hin hsm hcn hE hfw e3
    · have KN := hidb known16_any
      have FW := hidb (fun (w' : World) (hb : Below w.heap.size w w') => few16_any (.mk tk tn tf ts ta tc kids) w' (in_below hb hin))
      rw [hfw] at FW
      simp only [Tr.val, Tr.cells] at FW
      have CK := hidb (fun (w' : World) (hb : Below w.heap.size w w') => check_any x0 x1 5 0 0 lk ⟨#[]⟩ (.mk tk tn tf ts ta tc kids) w' (in_below hb hin) hsm)
      simp only [Tr.cells] at CK
      generalize errS x0 x1 5 0 0 lk ⟨#[]⟩ (.mk tk tn tf ts ta tc kids) = E at *
      have h1 : (E != 0) = true := by simpa using hE
      clear hin hsm hcn hE hfw
      generalize kids.length = tl at *
      have HQ : Hid ((w.alloc (.cells #[.int .i64 tk, .int .i64 tn, .float .f64 tf, .string ts, .slice ta tl tc] 25)).heap[w.heap.size]? = some (.cells #[.int .i64 tk, .int .i64 tn, .float .f64 tf, .string ts, .slice ta tl tc] 25)) := hidb (at_new w _)
      have HB : Hid (Below w.heap.size w (w.alloc (.cells #[.int .i64 tk, .int .i64 tn, .float .f64 tf, .string ts, .slice ta tl tc] 25))) := hidb (below_new w _)
      go_enter Try.func5, Try.ntmps5
      go_wp2_with (first
        | (go_at_call 6; refine (KN.out _).mono ?_; rintro e w1 ⟨rfl, hb1⟩; have HQ := hidb (at_keep HQ.out hb1); have HB := hidb (HB.out.trans (hb1.mono HB.out.size)); have hq1 : w.heap.size < w1.heap.size := (Array.getElem?_eq_some_iff.1 HQ.out).1; have hqn1 : w.heap.size ≠ w1.heap.size := Nat.ne_of_lt hq1; obtain ⟨q0, q1, q2, q3, q4⟩ := box5 HQ.out; clear hb1)
        | (go_at_call 7; refine (FW.out _ (HB.out.alloc HB.out.size _)).mono ?_; rintro e w2 ⟨rfl, hb2⟩; have HSS := hidb (at_keep (at_new w1 (.cells #[.int .i64 x0, .int .i64 x1, .int .i64 5, .int .i64 0, .int .i64 0, .bool lk, .string ⟨#[]⟩, .int .i64 tk, .int .i64 tn, .float .f64 tf, .string ts, .slice ta tl tc] 27)) hb2); have HQ := hidb (at_keep (at_keep HQ.out (below_new w1 (.cells #[.int .i64 x0, .int .i64 x1, .int .i64 5, .int .i64 0, .int .i64 0, .bool lk, .string ⟨#[]⟩, .int .i64 tk, .int .i64 tn, .float .f64 tf, .string ts, .slice ta tl tc] 27))) hb2); have HB := hidb ((HB.out.alloc HB.out.size _).trans (hb2.mono (HB.out.alloc HB.out.size _).size)); obtain ⟨q0, q1, q2, q3, q4⟩ := box5 HQ.out; obtain ⟨s0, s1, s2, s3, s4, s5, s6, s7, s8, s9, s10, s11⟩ := box12 HSS.out; clear hb2)
        | (go_at_call 8; refine (CK.out _ HB.out).mono ?_; rintro e w3 ⟨rfl, hb3⟩; have HSS := hidb (at_keep HSS.out hb3); have HQ := hidb (at_keep HQ.out hb3); have HB := hidb (HB.out.trans (hb3.mono HB.out.size)); obtain ⟨q0, q1, q2, q3, q4⟩ := box5 HQ.out; obtain ⟨s0, s1, s2, s3, s4, s5, s6, s7, s8, s9, s10, s11⟩ := box12 HSS.out; clear hb3))
      go_ret
      exact ⟨rfl, HB.out⟩
  · have KN := hidb known16_any
    have FW := hidb (fun (w' : World) (hb : Below w.heap.size w w') => few16_any (.mk tk tn tf ts ta tc kids) w' (in_below hb hin))
    rw [show decide (0 ≤ fewT (.mk tk tn tf ts ta tc kids) 100000 1000) = false by simpa using hfw] at FW
    simp only [Tr.val, Tr.cells] at FW
    clear hin hfw
    generalize kids.length = tl at *
    have HQ : Hid ((w.alloc (.cells #[.int .i64 tk, .int .i64 tn, .float .f64 tf, .string ts, .slice ta tl tc] 25)).heap[w.heap.size]? = some (.cells #[.int .i64 tk, .int .i64 tn, .float .f64 tf, .string ts, .slice ta tl tc] 25)) := hidb (at_new w _)
    have HB : Hid (Below w.heap.size w (w.alloc (.cells #[.int .i64 tk, .int .i64 tn, .float .f64 tf, .string ts, .slice ta tl tc] 25))) := hidb (below_new w _)
    go_enter Try.func5, Try.ntmps5
    go_wp2_with (first
      | (go_at_call 6; refine (KN.out _).mono ?_; rintro e w1 ⟨rfl, hb1⟩; have HQ := hidb (at_keep HQ.out hb1); have HB := hidb (HB.out.trans (hb1.mono HB.out.size)); have hq1 : w.heap.size < w1.heap.size := (Array.getElem?_eq_some_iff.1 HQ.out).1; have hqn1 : w.heap.size ≠ w1.heap.size := Nat.ne_of_lt hq1; obtain ⟨q0, q1, q2, q3, q4⟩ := box5 HQ.out; clear hb1)
      | (go_at_call 7; refine (FW.out _ (HB.out.alloc HB.out.size _)).mono ?_; rintro e w2 ⟨rfl, hb2⟩; have HSS := hidb (at_keep (at_new w1 (.cells #[.int .i64 x0, .int .i64 x1, .int .i64 5, .int .i64 0, .int .i64 0, .bool lk, .string ⟨#[]⟩, .int .i64 tk, .int .i64 tn, .float .f64 tf, .string ts, .slice ta tl tc] 27)) hb2); have HQ := hidb (at_keep (at_keep HQ.out (below_new w1 (.cells #[.int .i64 x0, .int .i64 x1, .int .i64 5, .int .i64 0, .int .i64 0, .bool lk, .string ⟨#[]⟩, .int .i64 tk, .int .i64 tn, .float .f64 tf, .string ts, .slice ta tl tc] 27))) hb2); have HB := hidb ((HB.out.alloc HB.out.size _).trans (hb2.mono (HB.out.alloc HB.out.size _).size)); obtain ⟨q0, q1, q2, q3, q4⟩ := box5 HQ.out; obtain ⟨s0, s1, s2, s3, s4, s5, s6, s7, s8, s9, s10, s11⟩ := box12 HSS.out; clear hb2))
    go_ret
    exact ⟨rfl, HB.out⟩
end Go.Proofs.Ytliebilpddmhkaa


/- A signal that is handed in, opened. -/
namespace Go.Proofs.Ytliebilpddmhkaa
open Go.ChangeShapes Go.WideShapes Go.ChangeAt Go.WideMaps Go.WideElems Go.RowKit

set_option maxRecDepth 100000
theorem laidOut : laidOutB Try.prog = true := by kernel_rfl
theorem termCells : Try.prog.cellTypes Try.prog.depth 25 = some [3, 2, 22, 9, 23] := by kernel_rfl
theorem termSize : Try.prog.cellsOf 25 = 5 := by kernel_rfl
theorem sigCells : Try.prog.cellTypes Try.prog.depth 27 = some [3, 3, 3, 3, 3, 4, 9, 3, 2, 22, 9, 23] := by kernel_rfl
theorem sigSize : Try.prog.cellsOf 27 = 12 := by kernel_rfl

theorem value_of_cell {P : Program} {W : World} {r : Reach} {base : Nat} {t : TypeId} {d : TypeDesc} {v : Value} (hd : P.underlying t = some d) (h1 : ∀ fs, d ≠ .struct fs) (h2 : ∀ n e, d ≠ .array n e) (h : Cell.okWide P W r base t v) : Value.okWide P W r base t v := by
  unfold Value.okWide
  rw [hd]
  cases d <;> first | exact h | exact absurd rfl (h1 _) | exact absurd rfl (h2 _ _)

theorem term_form {W : World} {base : Nat} {v : Value} (h : Value.okWide Try.prog W .any base 25 v) :
    ∃ (k n : Int) (f : Nat) (s : ByteArray) (a : Option Addr) (l c : Nat), v = .agg #[.int .i64 k, .int .i64 n, .float .f64 f, .string s, .slice a l c] := by
  simp only [Value.okWide, Try.underlying25] at h
  obtain ⟨cs, rfl, hsz, ts, hts, _, hc⟩ := h
  obtain rfl := Option.some.inj (termCells.symm.trans hts)
  rw [termSize] at hsz
  obtain ⟨l⟩ := cs
  match l, hsz with
  | [c0, c1, c2, c3, c4], _ =>
    obtain ⟨u0, e0, g0⟩ := hc 0 c0 rfl
    obtain ⟨u1, e1, g1⟩ := hc 1 c1 rfl
    obtain ⟨u2, e2, g2⟩ := hc 2 c2 rfl
    obtain ⟨u3, e3, g3⟩ := hc 3 c3 rfl
    obtain ⟨u4, e4, g4⟩ := hc 4 c4 rfl
    obtain rfl : 3 = u0 := Option.some.inj e0
    obtain rfl : 2 = u1 := Option.some.inj e1
    obtain rfl : 22 = u2 := Option.some.inj e2
    obtain rfl : 9 = u3 := Option.some.inj e3
    obtain rfl : 23 = u4 := Option.some.inj e4
    have v0 : Value.okWide Try.prog W .any base 3 c0 := value_of_cell Try.underlying3 (by simp) (by simp) g0
    have v1 : Value.okWide Try.prog W .any base 2 c1 := value_of_cell Try.underlying2 (by simp) (by simp) g1
    have v2 : Value.okWide Try.prog W .any base 22 c2 := value_of_cell Try.underlying22 (by simp) (by simp) g2
    have v3 : Value.okWide Try.prog W .any base 9 c3 := value_of_cell Try.underlying9 (by simp) (by simp) g3
    have v4 : Value.okWide Try.prog W .any base 23 c4 := value_of_cell Try.underlying23 (by simp) (by simp) g4
    obtain ⟨x0, rfl⟩ := okWide_int Try.underlying3 v0
    obtain ⟨x1, rfl⟩ := okWide_int Try.underlying2 v1
    obtain ⟨x2, rfl⟩ := okWide_float Try.underlying22 v2
    obtain ⟨x3, rfl⟩ := okWide_string Try.underlying9 v3
    obtain ⟨a, l, c, rfl⟩ := okWide_slice Try.underlying23 v4
    exact ⟨x0, x1, x2, x3, a, l, c, rfl⟩

theorem sig_form {W : World} {base : Nat} {v : Value} (h : Value.okWide Try.prog W .any base 27 v) :
    ∃ (x0 x1 k x3 x4 : Int) (lk : Bool) (nm : ByteArray) (tk tn : Int) (tf : Nat) (ts : ByteArray) (a : Option Addr) (l c : Nat), v = .agg #[.int .i64 x0, .int .i64 x1, .int .i64 k, .int .i64 x3, .int .i64 x4, .bool lk, .string nm, .int .i64 tk, .int .i64 tn, .float .f64 tf, .string ts, .slice a l c] := by
  simp only [Value.okWide, Try.underlying27] at h
  obtain ⟨cs, rfl, hsz, ts, hts, _, hc⟩ := h
  obtain rfl := Option.some.inj (sigCells.symm.trans hts)
  rw [sigSize] at hsz
  obtain ⟨l⟩ := cs
  match l, hsz with
  | [c0, c1, c2, c3, c4, c5, c6, c7, c8, c9, c10, c11], _ =>
    obtain ⟨u0, e0, g0⟩ := hc 0 c0 rfl
    obtain ⟨u1, e1, g1⟩ := hc 1 c1 rfl
    obtain ⟨u2, e2, g2⟩ := hc 2 c2 rfl
    obtain ⟨u3, e3, g3⟩ := hc 3 c3 rfl
    obtain ⟨u4, e4, g4⟩ := hc 4 c4 rfl
    obtain ⟨u5, e5, g5⟩ := hc 5 c5 rfl
    obtain ⟨u6, e6, g6⟩ := hc 6 c6 rfl
    obtain ⟨u7, e7, g7⟩ := hc 7 c7 rfl
    obtain ⟨u8, e8, g8⟩ := hc 8 c8 rfl
    obtain ⟨u9, e9, g9⟩ := hc 9 c9 rfl
    obtain ⟨u10, e10, g10⟩ := hc 10 c10 rfl
    obtain ⟨u11, e11, g11⟩ := hc 11 c11 rfl
    obtain rfl : 3 = u0 := Option.some.inj e0
    obtain rfl : 3 = u1 := Option.some.inj e1
    obtain rfl : 3 = u2 := Option.some.inj e2
    obtain rfl : 3 = u3 := Option.some.inj e3
    obtain rfl : 3 = u4 := Option.some.inj e4
    obtain rfl : 4 = u5 := Option.some.inj e5
    obtain rfl : 9 = u6 := Option.some.inj e6
    obtain rfl : 3 = u7 := Option.some.inj e7
    obtain rfl : 2 = u8 := Option.some.inj e8
    obtain rfl : 22 = u9 := Option.some.inj e9
    obtain rfl : 9 = u10 := Option.some.inj e10
    obtain rfl : 23 = u11 := Option.some.inj e11
    have v0 : Value.okWide Try.prog W .any base 3 c0 := value_of_cell Try.underlying3 (by simp) (by simp) g0
    have v1 : Value.okWide Try.prog W .any base 3 c1 := value_of_cell Try.underlying3 (by simp) (by simp) g1
    have v2 : Value.okWide Try.prog W .any base 3 c2 := value_of_cell Try.underlying3 (by simp) (by simp) g2
    have v3 : Value.okWide Try.prog W .any base 3 c3 := value_of_cell Try.underlying3 (by simp) (by simp) g3
    have v4 : Value.okWide Try.prog W .any base 3 c4 := value_of_cell Try.underlying3 (by simp) (by simp) g4
    have v5 : Value.okWide Try.prog W .any base 4 c5 := value_of_cell Try.underlying4 (by simp) (by simp) g5
    have v6 : Value.okWide Try.prog W .any base 9 c6 := value_of_cell Try.underlying9 (by simp) (by simp) g6
    have v7 : Value.okWide Try.prog W .any base 3 c7 := value_of_cell Try.underlying3 (by simp) (by simp) g7
    have v8 : Value.okWide Try.prog W .any base 2 c8 := value_of_cell Try.underlying2 (by simp) (by simp) g8
    have v9 : Value.okWide Try.prog W .any base 22 c9 := value_of_cell Try.underlying22 (by simp) (by simp) g9
    have v10 : Value.okWide Try.prog W .any base 9 c10 := value_of_cell Try.underlying9 (by simp) (by simp) g10
    have v11 : Value.okWide Try.prog W .any base 23 c11 := value_of_cell Try.underlying23 (by simp) (by simp) g11
    obtain ⟨x0, rfl⟩ := okWide_int Try.underlying3 v0
    obtain ⟨x1, rfl⟩ := okWide_int Try.underlying3 v1
    obtain ⟨x2, rfl⟩ := okWide_int Try.underlying3 v2
    obtain ⟨x3, rfl⟩ := okWide_int Try.underlying3 v3
    obtain ⟨x4, rfl⟩ := okWide_int Try.underlying3 v4
    obtain ⟨x5, rfl⟩ := okWide_bool Try.underlying4 v5
    obtain ⟨x6, rfl⟩ := okWide_string Try.underlying9 v6
    obtain ⟨x7, rfl⟩ := okWide_int Try.underlying3 v7
    obtain ⟨x8, rfl⟩ := okWide_int Try.underlying2 v8
    obtain ⟨x9, rfl⟩ := okWide_float Try.underlying22 v9
    obtain ⟨x10, rfl⟩ := okWide_string Try.underlying9 v10
    obtain ⟨a, l, c, rfl⟩ := okWide_slice Try.underlying23 v11
    exact ⟨x0, x1, x2, x3, x4, x5, x6, x7, x8, x9, x10, a, l, c, rfl⟩

theorem open_term0 {H : Type} {enc : TypeId × Value → H} {W : World} {base : Nat} {v : Value} {d : DataW H} {ps : List MemPlace} (hv : Value.okWide Try.prog W .any base 25 v) (h : DataW.Trod enc Try.prog W 0 (fun _ => true) true 25 v d ps) :
    ∃ (tk tn : Int) (tf : Nat) (ts : ByteArray) (ta : Option Addr) (tc : Nat) (kids : List Tr), v = .agg #[.int .i64 tk, .int .i64 tn, .float .f64 tf, .string ts, .slice ta kids.length tc] ∧ (Tr.mk tk tn tf ts ta tc kids).In W 0 := by
  obtain ⟨k, n, f, s, a, l, c, rfl⟩ := term_form hv
  obtain ⟨fuel, hf⟩ := h
  obtain ⟨⟨tk, tn, tf, ts, ta, tc, kids⟩, h1, h2⟩ := open_term termType fuel _ _ hf
  simp [Value.cells, Tr.cells] at h1
  obtain ⟨rfl, rfl, rfl, rfl, rfl, rfl, rfl⟩ := h1
  exact ⟨_, _, _, _, _, _, _, rfl, h2⟩

theorem open_sig {H : Type} {enc : TypeId × Value → H} {W : World} {base : Nat} {v : Value} {d : DataW H} {ps : List MemPlace} (hv : Value.okWide Try.prog W .any base 27 v) (h : DataW.Trod enc Try.prog W 0 (fun _ => true) true 27 v d ps) :
    ∃ (x0 x1 k x3 x4 : Int) (lk : Bool) (nm : ByteArray) (tk tn : Int) (tf : Nat) (ts : ByteArray) (ta : Option Addr) (tc : Nat) (kids : List Tr), v = .agg #[.int .i64 x0, .int .i64 x1, .int .i64 k, .int .i64 x3, .int .i64 x4, .bool lk, .string nm, .int .i64 tk, .int .i64 tn, .float .f64 tf, .string ts, .slice ta kids.length tc] ∧ (Tr.mk tk tn tf ts ta tc kids).In W 0 := by
  obtain ⟨x0, x1, k, x3, x4, lk, nm, tk, tn, tf, ts, a, l, c, rfl⟩ := sig_form hv
  obtain ⟨fuel, hf⟩ := h
  obtain ⟨xs, n, hn, hx, hlen, hxl, hff⟩ := DataW.trod_struct Try.underlying27 hf
  match xs, hxl with
  | [y0, y1, y2, y3, y4, y5, y6, y7], _ =>
    have g := hff 7 _ rfl
    simp [termSize, Value.cells] at g
    obtain ⟨⟨tk', tn', tf', ts', ta, tc, kids⟩, h1, h2⟩ := open_term termType n _ _ g
    simp [Tr.cells] at h1
    obtain ⟨rfl, rfl, rfl, rfl, rfl, rfl, rfl⟩ := h1
    exact ⟨x0, x1, k, x3, x4, lk, nm, _, _, _, _, _, _, _, rfl, h2⟩
end Go.Proofs.Ytliebilpddmhkaa


