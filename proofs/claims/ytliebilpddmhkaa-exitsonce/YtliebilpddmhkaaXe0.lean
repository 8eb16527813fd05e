/- What the dead answer: the program's and the document's, of any signal. -/
import Derived.Test.YtliebilpddmhkaaXd2
import Derived.Test.YtliebilpddmhkaaTwI
namespace Go.Proofs.Ytliebilpddmhkaa
open Go.RowKit Go.Lib
attribute [local go_sem] store_float f64bits
attribute [local go_sem ↓] Go.wp_at_zero Go.wp_at_succ

structure D8 where
  (a b c d e : Int) (f : Bool) (g : Int) (h : ByteArray) (l : Bool)
def deadP (x0 x1 k x3 x4 : Int) : D8 :=
  if x0 = 0 then ⟨0, 0, 0, 0, 0, false, 0, ⟨#[]⟩, false⟩ else if k = 2 then ⟨x1, x0, 5, 0, 0, true, 3, ⟨#[110, 111, 112, 114, 111, 99]⟩, true⟩ else if k = 3 then ⟨x1, x0, 4, x3, 0, false, 0, ⟨#[]⟩, true⟩ else if k = 6 then ⟨x1, x0, 8, 0, x4, false, 3, ⟨#[110, 111, 112, 114, 111, 99]⟩, true⟩ else ⟨0, 0, 0, 0, 0, false, 0, ⟨#[]⟩, false⟩

set_option maxHeartbeats 1000000 in
theorem Dead_zero (x1 k x3 x4 : Int) (lk : Bool) (nm : ByteArray) (tk tn : Int) (tf : Nat) (ts : ByteArray) (ta : Option Addr) (tl tc : Nat) (w : World) : Calls Try.prog 9 #[.agg #[.int .i64 0, .int .i64 x1, .int .i64 k, .int .i64 x3, .int .i64 x4, .bool lk, .string nm, .int .i64 tk, .int .i64 tn, .float .f64 tf, .string ts, .slice ta tl tc]] w fun e w' => e = .returned (.tuple #[.agg #[.int .i64 0, .int .i64 0, .int .i64 0, .int .i64 0, .int .i64 0, .bool false, .string ⟨#[]⟩, .int .i64 0, .int .i64 0, .float .f64 0, .string ⟨#[]⟩, .slice none 0 0], .bool false]) ∧ Below w.heap.size w w' := by
  go_enter Try.func9, Try.ntmps9
  go_wp2_with fail
  exact bodyPost_ret (v := .tuple #[.agg #[.int .i64 0, .int .i64 0, .int .i64 0, .int .i64 0, .int .i64 0, .bool false, .string ⟨#[]⟩, .int .i64 0, .int .i64 0, .float .f64 0, .string ⟨#[]⟩, .slice none 0 0], .bool false]) (by simp [results, Try.results9, go_sem]) rfl ⟨rfl, by (repeat (first | exact Below.refl _ _ | assumption | refine Below.drew ?_ | refine below_drewN ?_ _ | refine Below.setCell ?_ (by simp) _ | refine Below.alloc ?_ (by (first | exact Nat.le_refl _ | (simp; done) | (simp; omega) | omega)) _ | refine Below.trans ?_ (Below.mono (by assumption) (by first | exact Nat.le_refl _ | (simp; done) | (simp; omega) | omega))))⟩

set_option maxRecDepth 100000 in
set_option maxHeartbeats 4000000 in
theorem Dead_link (x0 x1 x3 x4 : Int) (lk : Bool) (nm : ByteArray) (tk tn : Int) (tf : Nat) (ts : ByteArray) (ta : Option Addr) (tl tc : Nat) (h0 : x0 ≠ 0) (w : World) : Calls Try.prog 9 #[.agg #[.int .i64 x0, .int .i64 x1, .int .i64 2, .int .i64 x3, .int .i64 x4, .bool lk, .string nm, .int .i64 tk, .int .i64 tn, .float .f64 tf, .string ts, .slice ta tl tc]] w fun e w' => e = .returned (.tuple #[.agg #[.int .i64 x1, .int .i64 x0, .int .i64 5, .int .i64 0, .int .i64 0, .bool true, .string ⟨#[]⟩, .int .i64 3, .int .i64 0, .float .f64 0, .string ⟨#[110, 111, 112, 114, 111, 99]⟩, .slice none 0 0], .bool true]) ∧ Below w.heap.size w w' := by
  have hz : (x0 == 0) = false := by simpa using h0
  have BK := hidb (fun w => byKind_link x0 x1 x3 x4 lk nm tk tn tf ts ta tl tc w)
  have DA := hidb (fun w => deadAnswer_link x0 x1 w)
  have HR : Hid (((w.alloc (.cells #[.int .i64 x0, .int .i64 x1, .int .i64 2, .int .i64 x3, .int .i64 x4, .bool lk, .string nm, .int .i64 tk, .int .i64 tn, .float .f64 tf, .string ts, .slice ta tl tc] ST)).alloc (.cells #[.int .i64 0, .int .i64 0, .int .i64 0, .int .i64 0, .int .i64 0, .bool false, .string ⟨#[]⟩, .int .i64 0, .int .i64 0, .float .f64 0, .string ⟨#[]⟩, .slice none 0 0] ST)).heap[w.heap.size + 1]? = some (.cells #[.int .i64 0, .int .i64 0, .int .i64 0, .int .i64 0, .int .i64 0, .bool false, .string ⟨#[]⟩, .int .i64 0, .int .i64 0, .float .f64 0, .string ⟨#[]⟩, .slice none 0 0] ST)) := hidb (by have := at_new (w.alloc (.cells #[.int .i64 x0, .int .i64 x1, .int .i64 2, .int .i64 x3, .int .i64 x4, .bool lk, .string nm, .int .i64 tk, .int .i64 tn, .float .f64 tf, .string ts, .slice ta tl tc] ST)) (.cells #[.int .i64 0, .int .i64 0, .int .i64 0, .int .i64 0, .int .i64 0, .bool false, .string ⟨#[]⟩, .int .i64 0, .int .i64 0, .float .f64 0, .string ⟨#[]⟩, .slice none 0 0] ST); simpa using this)
  have HB : Hid (Below w.heap.size w ((w.alloc (.cells #[.int .i64 x0, .int .i64 x1, .int .i64 2, .int .i64 x3, .int .i64 x4, .bool lk, .string nm, .int .i64 tk, .int .i64 tn, .float .f64 tf, .string ts, .slice ta tl tc] ST)).alloc (.cells #[.int .i64 0, .int .i64 0, .int .i64 0, .int .i64 0, .int .i64 0, .bool false, .string ⟨#[]⟩, .int .i64 0, .int .i64 0, .float .f64 0, .string ⟨#[]⟩, .slice none 0 0] ST))) := hidb ((below_new w _).alloc (by simp) _)
  clear h0
  go_enter Try.func9, Try.ntmps9
  go_wp2_with (first
    | (go_at_call 22; refine (BK.out _).mono ?_; rintro e w1 ⟨rfl, hb1⟩; have HR1 := hidb (at_keep HR.out hb1); have HB1 := hidb (HB.out.trans (hb1.mono HB.out.size)); clear hb1)
    | (go_at_call 21; refine (DA.out _).mono ?_; rintro e w2 ⟨rfl, hb2⟩; have HB2 := hidb (HB1.out.trans (hb2.mono HB1.out.size)); obtain ⟨r0, r1, r2, r3, r4, r5, r6, r7, r8, r9, r10, r11⟩ := box12 (at_keep HR1.out hb2); obtain ⟨g0, g1, g2, g3, g4, g5, g6, g7, g8, g9, g10, g11⟩ := fro12 (at_keep HR1.out hb2); clear hb2))
  exact bodyPost_ret (v := .tuple #[.agg #[.int .i64 x1, .int .i64 x0, .int .i64 5, .int .i64 0, .int .i64 0, .bool true, .string ⟨#[]⟩, .int .i64 3, .int .i64 0, .float .f64 0, .string ⟨#[110, 111, 112, 114, 111, 99]⟩, .slice none 0 0], .bool true]) (by simp [results, Try.results9, go_sem, r0, r1, r2, r3, r4, r5, r6, r7, r8, r9, r10, r11]) rfl ⟨rfl, by (repeat (refine Below.setCell ?_ (by simp) _)); exact HB2.out⟩

set_option maxRecDepth 100000 in
set_option maxHeartbeats 4000000 in
theorem Dead_unlink (x0 x1 x3 x4 : Int) (lk : Bool) (nm : ByteArray) (tk tn : Int) (tf : Nat) (ts : ByteArray) (ta : Option Addr) (tl tc : Nat) (h0 : x0 ≠ 0) (w : World) : Calls Try.prog 9 #[.agg #[.int .i64 x0, .int .i64 x1, .int .i64 3, .int .i64 x3, .int .i64 x4, .bool lk, .string nm, .int .i64 tk, .int .i64 tn, .float .f64 tf, .string ts, .slice ta tl tc]] w fun e w' => e = .returned (.tuple #[.agg #[.int .i64 x1, .int .i64 x0, .int .i64 4, .int .i64 x3, .int .i64 0, .bool false, .string ⟨#[]⟩, .int .i64 0, .int .i64 0, .float .f64 0, .string ⟨#[]⟩, .slice none 0 0], .bool true]) ∧ Below w.heap.size w w' := by
  have hz : (x0 == 0) = false := by simpa using h0
  have BK := hidb (fun w => byKind_unlink x0 x1 x3 x4 lk nm tk tn tf ts ta tl tc w)
  have DA := hidb (fun w => deadAnswer_unlink x0 x1 x3 w)
  have HR : Hid (((w.alloc (.cells #[.int .i64 x0, .int .i64 x1, .int .i64 3, .int .i64 x3, .int .i64 x4, .bool lk, .string nm, .int .i64 tk, .int .i64 tn, .float .f64 tf, .string ts, .slice ta tl tc] ST)).alloc (.cells #[.int .i64 0, .int .i64 0, .int .i64 0, .int .i64 0, .int .i64 0, .bool false, .string ⟨#[]⟩, .int .i64 0, .int .i64 0, .float .f64 0, .string ⟨#[]⟩, .slice none 0 0] ST)).heap[w.heap.size + 1]? = some (.cells #[.int .i64 0, .int .i64 0, .int .i64 0, .int .i64 0, .int .i64 0, .bool false, .string ⟨#[]⟩, .int .i64 0, .int .i64 0, .float .f64 0, .string ⟨#[]⟩, .slice none 0 0] ST)) := hidb (by have := at_new (w.alloc (.cells #[.int .i64 x0, .int .i64 x1, .int .i64 3, .int .i64 x3, .int .i64 x4, .bool lk, .string nm, .int .i64 tk, .int .i64 tn, .float .f64 tf, .string ts, .slice ta tl tc] ST)) (.cells #[.int .i64 0, .int .i64 0, .int .i64 0, .int .i64 0, .int .i64 0, .bool false, .string ⟨#[]⟩, .int .i64 0, .int .i64 0, .float .f64 0, .string ⟨#[]⟩, .slice none 0 0] ST); simpa using this)
  have HB : Hid (Below w.heap.size w ((w.alloc (.cells #[.int .i64 x0, .int .i64 x1, .int .i64 3, .int .i64 x3, .int .i64 x4, .bool lk, .string nm, .int .i64 tk, .int .i64 tn, .float .f64 tf, .string ts, .slice ta tl tc] ST)).alloc (.cells #[.int .i64 0, .int .i64 0, .int .i64 0, .int .i64 0, .int .i64 0, .bool false, .string ⟨#[]⟩, .int .i64 0, .int .i64 0, .float .f64 0, .string ⟨#[]⟩, .slice none 0 0] ST))) := hidb ((below_new w _).alloc (by simp) _)
  clear h0
  go_enter Try.func9, Try.ntmps9
  go_wp2_with (first
    | (go_at_call 22; refine (BK.out _).mono ?_; rintro e w1 ⟨rfl, hb1⟩; have HR1 := hidb (at_keep HR.out hb1); have HB1 := hidb (HB.out.trans (hb1.mono HB.out.size)); clear hb1)
    | (go_at_call 21; refine (DA.out _).mono ?_; rintro e w2 ⟨rfl, hb2⟩; have HB2 := hidb (HB1.out.trans (hb2.mono HB1.out.size)); obtain ⟨r0, r1, r2, r3, r4, r5, r6, r7, r8, r9, r10, r11⟩ := box12 (at_keep HR1.out hb2); obtain ⟨g0, g1, g2, g3, g4, g5, g6, g7, g8, g9, g10, g11⟩ := fro12 (at_keep HR1.out hb2); clear hb2))
  exact bodyPost_ret (v := .tuple #[.agg #[.int .i64 x1, .int .i64 x0, .int .i64 4, .int .i64 x3, .int .i64 0, .bool false, .string ⟨#[]⟩, .int .i64 0, .int .i64 0, .float .f64 0, .string ⟨#[]⟩, .slice none 0 0], .bool true]) (by simp [results, Try.results9, go_sem, r0, r1, r2, r3, r4, r5, r6, r7, r8, r9, r10, r11]) rfl ⟨rfl, by (repeat (refine Below.setCell ?_ (by simp) _)); exact HB2.out⟩

set_option maxRecDepth 100000 in
set_option maxHeartbeats 4000000 in
theorem Dead_monitor (x0 x1 x3 x4 : Int) (lk : Bool) (nm : ByteArray) (tk tn : Int) (tf : Nat) (ts : ByteArray) (ta : Option Addr) (tl tc : Nat) (h0 : x0 ≠ 0) (w : World) : Calls Try.prog 9 #[.agg #[.int .i64 x0, .int .i64 x1, .int .i64 6, .int .i64 x3, .int .i64 x4, .bool lk, .string nm, .int .i64 tk, .int .i64 tn, .float .f64 tf, .string ts, .slice ta tl tc]] w fun e w' => e = .returned (.tuple #[.agg #[.int .i64 x1, .int .i64 x0, .int .i64 8, .int .i64 0, .int .i64 x4, .bool false, .string ⟨#[]⟩, .int .i64 3, .int .i64 0, .float .f64 0, .string ⟨#[110, 111, 112, 114, 111, 99]⟩, .slice none 0 0], .bool true]) ∧ Below w.heap.size w w' := by
  have hz : (x0 == 0) = false := by simpa using h0
  have BK := hidb (fun w => byKind_monitor x0 x1 x3 x4 lk nm tk tn tf ts ta tl tc w)
  have DA := hidb (fun w => deadAnswer_monitor x0 x1 x4 w)
  have HR : Hid (((w.alloc (.cells #[.int .i64 x0, .int .i64 x1, .int .i64 6, .int .i64 x3, .int .i64 x4, .bool lk, .string nm, .int .i64 tk, .int .i64 tn, .float .f64 tf, .string ts, .slice ta tl tc] ST)).alloc (.cells #[.int .i64 0, .int .i64 0, .int .i64 0, .int .i64 0, .int .i64 0, .bool false, .string ⟨#[]⟩, .int .i64 0, .int .i64 0, .float .f64 0, .string ⟨#[]⟩, .slice none 0 0] ST)).heap[w.heap.size + 1]? = some (.cells #[.int .i64 0, .int .i64 0, .int .i64 0, .int .i64 0, .int .i64 0, .bool false, .string ⟨#[]⟩, .int .i64 0, .int .i64 0, .float .f64 0, .string ⟨#[]⟩, .slice none 0 0] ST)) := hidb (by have := at_new (w.alloc (.cells #[.int .i64 x0, .int .i64 x1, .int .i64 6, .int .i64 x3, .int .i64 x4, .bool lk, .string nm, .int .i64 tk, .int .i64 tn, .float .f64 tf, .string ts, .slice ta tl tc] ST)) (.cells #[.int .i64 0, .int .i64 0, .int .i64 0, .int .i64 0, .int .i64 0, .bool false, .string ⟨#[]⟩, .int .i64 0, .int .i64 0, .float .f64 0, .string ⟨#[]⟩, .slice none 0 0] ST); simpa using this)
  have HB : Hid (Below w.heap.size w ((w.alloc (.cells #[.int .i64 x0, .int .i64 x1, .int .i64 6, .int .i64 x3, .int .i64 x4, .bool lk, .string nm, .int .i64 tk, .int .i64 tn, .float .f64 tf, .string ts, .slice ta tl tc] ST)).alloc (.cells #[.int .i64 0, .int .i64 0, .int .i64 0, .int .i64 0, .int .i64 0, .bool false, .string ⟨#[]⟩, .int .i64 0, .int .i64 0, .float .f64 0, .string ⟨#[]⟩, .slice none 0 0] ST))) := hidb ((below_new w _).alloc (by simp) _)
  clear h0
  go_enter Try.func9, Try.ntmps9
  go_wp2_with (first
    | (go_at_call 22; refine (BK.out _).mono ?_; rintro e w1 ⟨rfl, hb1⟩; have HR1 := hidb (at_keep HR.out hb1); have HB1 := hidb (HB.out.trans (hb1.mono HB.out.size)); clear hb1)
    | (go_at_call 21; refine (DA.out _).mono ?_; rintro e w2 ⟨rfl, hb2⟩; have HB2 := hidb (HB1.out.trans (hb2.mono HB1.out.size)); obtain ⟨r0, r1, r2, r3, r4, r5, r6, r7, r8, r9, r10, r11⟩ := box12 (at_keep HR1.out hb2); obtain ⟨g0, g1, g2, g3, g4, g5, g6, g7, g8, g9, g10, g11⟩ := fro12 (at_keep HR1.out hb2); clear hb2))
  exact bodyPost_ret (v := .tuple #[.agg #[.int .i64 x1, .int .i64 x0, .int .i64 8, .int .i64 0, .int .i64 x4, .bool false, .string ⟨#[]⟩, .int .i64 3, .int .i64 0, .float .f64 0, .string ⟨#[110, 111, 112, 114, 111, 99]⟩, .slice none 0 0], .bool true]) (by simp [results, Try.results9, go_sem, r0, r1, r2, r3, r4, r5, r6, r7, r8, r9, r10, r11]) rfl ⟨rfl, by (repeat (refine Below.setCell ?_ (by simp) _)); exact HB2.out⟩

set_option maxRecDepth 100000 in
set_option maxHeartbeats 4000000 in
theorem Dead_exit (x0 x1 x3 x4 : Int) (lk : Bool) (nm : ByteArray) (tk tn : Int) (tf : Nat) (ts : ByteArray) (ta : Option Addr) (tl tc : Nat) (h0 : x0 ≠ 0) (w : World) : Calls Try.prog 9 #[.agg #[.int .i64 x0, .int .i64 x1, .int .i64 5, .int .i64 x3, .int .i64 x4, .bool lk, .string nm, .int .i64 tk, .int .i64 tn, .float .f64 tf, .string ts, .slice ta tl tc]] w fun e w' => e = .returned (.tuple #[.agg #[.int .i64 0, .int .i64 0, .int .i64 0, .int .i64 0, .int .i64 0, .bool false, .string ⟨#[]⟩, .int .i64 0, .int .i64 0, .float .f64 0, .string ⟨#[]⟩, .slice none 0 0], .bool false]) ∧ Below w.heap.size w w' := by
  have hz : (x0 == 0) = false := by simpa using h0
  have BK := hidb (fun w => byKind_exit x0 x1 x3 x4 lk nm tk tn tf ts ta tl tc w)
  have DA := hidb (fun w => deadAnswer_exit (.agg #[.int .i64 x0, .int .i64 x1, .bool lk, .int .i64 tk, .int .i64 tn, .float .f64 tf, .string ts, .slice ta tl tc]) w)
  have HR : Hid (((w.alloc (.cells #[.int .i64 x0, .int .i64 x1, .int .i64 5, .int .i64 x3, .int .i64 x4, .bool lk, .string nm, .int .i64 tk, .int .i64 tn, .float .f64 tf, .string ts, .slice ta tl tc] ST)).alloc (.cells #[.int .i64 0, .int .i64 0, .int .i64 0, .int .i64 0, .int .i64 0, .bool false, .string ⟨#[]⟩, .int .i64 0, .int .i64 0, .float .f64 0, .string ⟨#[]⟩, .slice none 0 0] ST)).heap[w.heap.size + 1]? = some (.cells #[.int .i64 0, .int .i64 0, .int .i64 0, .int .i64 0, .int .i64 0, .bool false, .string ⟨#[]⟩, .int .i64 0, .int .i64 0, .float .f64 0, .string ⟨#[]⟩, .slice none 0 0] ST)) := hidb (by have := at_new (w.alloc (.cells #[.int .i64 x0, .int .i64 x1, .int .i64 5, .int .i64 x3, .int .i64 x4, .bool lk, .string nm, .int .i64 tk, .int .i64 tn, .float .f64 tf, .string ts, .slice ta tl tc] ST)) (.cells #[.int .i64 0, .int .i64 0, .int .i64 0, .int .i64 0, .int .i64 0, .bool false, .string ⟨#[]⟩, .int .i64 0, .int .i64 0, .float .f64 0, .string ⟨#[]⟩, .slice none 0 0] ST); simpa using this)
  have HB : Hid (Below w.heap.size w ((w.alloc (.cells #[.int .i64 x0, .int .i64 x1, .int .i64 5, .int .i64 x3, .int .i64 x4, .bool lk, .string nm, .int .i64 tk, .int .i64 tn, .float .f64 tf, .string ts, .slice ta tl tc] ST)).alloc (.cells #[.int .i64 0, .int .i64 0, .int .i64 0, .int .i64 0, .int .i64 0, .bool false, .string ⟨#[]⟩, .int .i64 0, .int .i64 0, .float .f64 0, .string ⟨#[]⟩, .slice none 0 0] ST))) := hidb ((below_new w _).alloc (by simp) _)
  clear h0
  go_enter Try.func9, Try.ntmps9
  go_wp2_with (first
    | (go_at_call 22; refine (BK.out _).mono ?_; rintro e w1 ⟨rfl, hb1⟩; have HR1 := hidb (at_keep HR.out hb1); have HB1 := hidb (HB.out.trans (hb1.mono HB.out.size)); clear hb1)
    | (go_at_call 21; refine (DA.out _).mono ?_; rintro e w2 ⟨rfl, hb2⟩; have HB2 := hidb (HB1.out.trans (hb2.mono HB1.out.size)); obtain ⟨r0, r1, r2, r3, r4, r5, r6, r7, r8, r9, r10, r11⟩ := box12 (at_keep HR1.out hb2); obtain ⟨g0, g1, g2, g3, g4, g5, g6, g7, g8, g9, g10, g11⟩ := fro12 (at_keep HR1.out hb2); clear hb2))
  exact bodyPost_ret (v := .tuple #[.agg #[.int .i64 0, .int .i64 0, .int .i64 0, .int .i64 0, .int .i64 0, .bool false, .string ⟨#[]⟩, .int .i64 0, .int .i64 0, .float .f64 0, .string ⟨#[]⟩, .slice none 0 0], .bool false]) (by simp [results, Try.results9, go_sem, r0, r1, r2, r3, r4, r5, r6, r7, r8, r9, r10, r11]) rfl ⟨rfl, by (repeat (refine Below.setCell ?_ (by simp) _)); exact HB2.out⟩

set_option maxRecDepth 100000 in
set_option maxHeartbeats 4000000 in
theorem Dead_down (x0 x1 x3 x4 : Int) (lk : Bool) (nm : ByteArray) (tk tn : Int) (tf : Nat) (ts : ByteArray) (ta : Option Addr) (tl tc : Nat) (h0 : x0 ≠ 0) (w : World) : Calls Try.prog 9 #[.agg #[.int .i64 x0, .int .i64 x1, .int .i64 8, .int .i64 x3, .int .i64 x4, .bool lk, .string nm, .int .i64 tk, .int .i64 tn, .float .f64 tf, .string ts, .slice ta tl tc]] w fun e w' => e = .returned (.tuple #[.agg #[.int .i64 0, .int .i64 0, .int .i64 0, .int .i64 0, .int .i64 0, .bool false, .string ⟨#[]⟩, .int .i64 0, .int .i64 0, .float .f64 0, .string ⟨#[]⟩, .slice none 0 0], .bool false]) ∧ Below w.heap.size w w' := by
  have hz : (x0 == 0) = false := by simpa using h0
  have BK := hidb (fun w => byKind_down x0 x1 x3 x4 lk nm tk tn tf ts ta tl tc w)
  have DA := hidb (fun w => deadAnswer_down (.agg #[.int .i64 x0, .int .i64 x1, .int .i64 x4, .int .i64 tk, .int .i64 tn, .float .f64 tf, .string ts, .slice ta tl tc]) w)
  have HR : Hid (((w.alloc (.cells #[.int .i64 x0, .int .i64 x1, .int .i64 8, .int .i64 x3, .int .i64 x4, .bool lk, .string nm, .int .i64 tk, .int .i64 tn, .float .f64 tf, .string ts, .slice ta tl tc] ST)).alloc (.cells #[.int .i64 0, .int .i64 0, .int .i64 0, .int .i64 0, .int .i64 0, .bool false, .string ⟨#[]⟩, .int .i64 0, .int .i64 0, .float .f64 0, .string ⟨#[]⟩, .slice none 0 0] ST)).heap[w.heap.size + 1]? = some (.cells #[.int .i64 0, .int .i64 0, .int .i64 0, .int .i64 0, .int .i64 0, .bool false, .string ⟨#[]⟩, .int .i64 0, .int .i64 0, .float .f64 0, .string ⟨#[]⟩, .slice none 0 0] ST)) := hidb (by have := at_new (w.alloc (.cells #[.int .i64 x0, .int .i64 x1, .int .i64 8, .int .i64 x3, .int .i64 x4, .bool lk, .string nm, .int .i64 tk, .int .i64 tn, .float .f64 tf, .string ts, .slice ta tl tc] ST)) (.cells #[.int .i64 0, .int .i64 0, .int .i64 0, .int .i64 0, .int .i64 0, .bool false, .string ⟨#[]⟩, .int .i64 0, .int .i64 0, .float .f64 0, .string ⟨#[]⟩, .slice none 0 0] ST); simpa using this)
  have HB : Hid (Below w.heap.size w ((w.alloc (.cells #[.int .i64 x0, .int .i64 x1, .int .i64 8, .int .i64 x3, .int .i64 x4, .bool lk, .string nm, .int .i64 tk, .int .i64 tn, .float .f64 tf, .string ts, .slice ta tl tc] ST)).alloc (.cells #[.int .i64 0, .int .i64 0, .int .i64 0, .int .i64 0, .int .i64 0, .bool false, .string ⟨#[]⟩, .int .i64 0, .int .i64 0, .float .f64 0, .string ⟨#[]⟩, .slice none 0 0] ST))) := hidb ((below_new w _).alloc (by simp) _)
  clear h0
  go_enter Try.func9, Try.ntmps9
  go_wp2_with (first
    | (go_at_call 22; refine (BK.out _).mono ?_; rintro e w1 ⟨rfl, hb1⟩; have HR1 := hidb (at_keep HR.out hb1); have HB1 := hidb (HB.out.trans (hb1.mono HB.out.size)); clear hb1)
    | (go_at_call 21; refine (DA.out _).mono ?_; rintro e w2 ⟨rfl, hb2⟩; have HB2 := hidb (HB1.out.trans (hb2.mono HB1.out.size)); obtain ⟨r0, r1, r2, r3, r4, r5, r6, r7, r8, r9, r10, r11⟩ := box12 (at_keep HR1.out hb2); obtain ⟨g0, g1, g2, g3, g4, g5, g6, g7, g8, g9, g10, g11⟩ := fro12 (at_keep HR1.out hb2); clear hb2))
  exact bodyPost_ret (v := .tuple #[.agg #[.int .i64 0, .int .i64 0, .int .i64 0, .int .i64 0, .int .i64 0, .bool false, .string ⟨#[]⟩, .int .i64 0, .int .i64 0, .float .f64 0, .string ⟨#[]⟩, .slice none 0 0], .bool false]) (by simp [results, Try.results9, go_sem, r0, r1, r2, r3, r4, r5, r6, r7, r8, r9, r10, r11]) rfl ⟨rfl, by (repeat (refine Below.setCell ?_ (by simp) _)); exact HB2.out⟩

set_option maxRecDepth 100000 in
set_option maxHeartbeats 4000000 in
theorem Dead_none (x0 x1 k x3 x4 : Int) (lk : Bool) (nm : ByteArray) (tk tn : Int) (tf : Nat) (ts : ByteArray) (ta : Option Addr) (tl tc : Nat) (h0 : x0 ≠ 0) (h2 : k ≠ 2) (h3 : k ≠ 3) (h5 : k ≠ 5) (h6 : k ≠ 6) (h8 : k ≠ 8) (w : World) : Calls Try.prog 9 #[.agg #[.int .i64 x0, .int .i64 x1, .int .i64 k, .int .i64 x3, .int .i64 x4, .bool lk, .string nm, .int .i64 tk, .int .i64 tn, .float .f64 tf, .string ts, .slice ta tl tc]] w fun e w' => e = .returned (.tuple #[.agg #[.int .i64 0, .int .i64 0, .int .i64 0, .int .i64 0, .int .i64 0, .bool false, .string ⟨#[]⟩, .int .i64 0, .int .i64 0, .float .f64 0, .string ⟨#[]⟩, .slice none 0 0], .bool false]) ∧ Below w.heap.size w w' := by
  have hz : (x0 == 0) = false := by simpa using h0
  have BK := hidb (fun w => byKind_none x0 x1 k x3 x4 lk nm tk tn tf ts ta tl tc h2 h3 h5 h6 h8 w)
  have DA := hidb (fun w => deadAnswer_nil w)
  have HR : Hid (((w.alloc (.cells #[.int .i64 x0, .int .i64 x1, .int .i64 k, .int .i64 x3, .int .i64 x4, .bool lk, .string nm, .int .i64 tk, .int .i64 tn, .float .f64 tf, .string ts, .slice ta tl tc] ST)).alloc (.cells #[.int .i64 0, .int .i64 0, .int .i64 0, .int .i64 0, .int .i64 0, .bool false, .string ⟨#[]⟩, .int .i64 0, .int .i64 0, .float .f64 0, .string ⟨#[]⟩, .slice none 0 0] ST)).heap[w.heap.size + 1]? = some (.cells #[.int .i64 0, .int .i64 0, .int .i64 0, .int .i64 0, .int .i64 0, .bool false, .string ⟨#[]⟩, .int .i64 0, .int .i64 0, .float .f64 0, .string ⟨#[]⟩, .slice none 0 0] ST)) := hidb (by have := at_new (w.alloc (.cells #[.int .i64 x0, .int .i64 x1, .int .i64 k, .int .i64 x3, .int .i64 x4, .bool lk, .string nm, .int .i64 tk, .int .i64 tn, .float .f64 tf, .string ts, .slice ta tl tc] ST)) (.cells #[.int .i64 0, .int .i64 0, .int .i64 0, .int .i64 0, .int .i64 0, .bool false, .string ⟨#[]⟩, .int .i64 0, .int .i64 0, .float .f64 0, .string ⟨#[]⟩, .slice none 0 0] ST); simpa using this)
  have HB : Hid (Below w.heap.size w ((w.alloc (.cells #[.int .i64 x0, .int .i64 x1, .int .i64 k, .int .i64 x3, .int .i64 x4, .bool lk, .string nm, .int .i64 tk, .int .i64 tn, .float .f64 tf, .string ts, .slice ta tl tc] ST)).alloc (.cells #[.int .i64 0, .int .i64 0, .int .i64 0, .int .i64 0, .int .i64 0, .bool false, .string ⟨#[]⟩, .int .i64 0, .int .i64 0, .float .f64 0, .string ⟨#[]⟩, .slice none 0 0] ST))) := hidb ((below_new w _).alloc (by simp) _)
  clear h0 h2 h3 h5 h6 h8
  go_enter Try.func9, Try.ntmps9
  go_wp2_with (first
    | (go_at_call 22; refine (BK.out _).mono ?_; rintro e w1 ⟨rfl, hb1⟩; have HR1 := hidb (at_keep HR.out hb1); have HB1 := hidb (HB.out.trans (hb1.mono HB.out.size)); clear hb1)
    | (go_at_call 21; refine (DA.out _).mono ?_; rintro e w2 ⟨rfl, hb2⟩; have HB2 := hidb (HB1.out.trans (hb2.mono HB1.out.size)); obtain ⟨r0, r1, r2, r3, r4, r5, r6, r7, r8, r9, r10, r11⟩ := box12 (at_keep HR1.out hb2); obtain ⟨g0, g1, g2, g3, g4, g5, g6, g7, g8, g9, g10, g11⟩ := fro12 (at_keep HR1.out hb2); clear hb2))
  exact bodyPost_ret (v := .tuple #[.agg #[.int .i64 0, .int .i64 0, .int .i64 0, .int .i64 0, .int .i64 0, .bool false, .string ⟨#[]⟩, .int .i64 0, .int .i64 0, .float .f64 0, .string ⟨#[]⟩, .slice none 0 0], .bool false]) (by simp [results, Try.results9, go_sem, r0, r1, r2, r3, r4, r5, r6, r7, r8, r9, r10, r11]) rfl ⟨rfl, by (repeat (refine Below.setCell ?_ (by simp) _)); exact HB2.out⟩

theorem Dead_any (x0 x1 k x3 x4 : Int) (lk : Bool) (nm : ByteArray) (tk tn : Int) (tf : Nat) (ts : ByteArray) (ta : Option Addr) (tl tc : Nat) (w : World) : Calls Try.prog 9 #[.agg #[.int .i64 x0, .int .i64 x1, .int .i64 k, .int .i64 x3, .int .i64 x4, .bool lk, .string nm, .int .i64 tk, .int .i64 tn, .float .f64 tf, .string ts, .slice ta tl tc]] w fun e w' => e = .returned (.tuple #[.agg #[.int .i64 (deadP x0 x1 k x3 x4).a, .int .i64 (deadP x0 x1 k x3 x4).b, .int .i64 (deadP x0 x1 k x3 x4).c, .int .i64 (deadP x0 x1 k x3 x4).d, .int .i64 (deadP x0 x1 k x3 x4).e, .bool (deadP x0 x1 k x3 x4).f, .string ⟨#[]⟩, .int .i64 (deadP x0 x1 k x3 x4).g, .int .i64 0, .float .f64 0, .string (deadP x0 x1 k x3 x4).h, .slice none 0 0], .bool (deadP x0 x1 k x3 x4).l]) ∧ Below w.heap.size w w' := by
  by_cases h0 : x0 = 0
  · subst h0
    simp only [deadP, if_true]
    exact Dead_zero x1 k x3 x4 lk nm tk tn tf ts ta tl tc w
  by_cases h2 : k = 2
  · subst h2
    simp only [deadP, if_neg h0, if_true]
    exact Dead_link x0 x1 x3 x4 lk nm tk tn tf ts ta tl tc h0 w
  by_cases h3 : k = 3
  · subst h3
    simp only [deadP, if_neg h0, if_neg h2, if_true]
    exact Dead_unlink x0 x1 x3 x4 lk nm tk tn tf ts ta tl tc h0 w
  by_cases h6 : k = 6
  · subst h6
    simp only [deadP, if_neg h0, if_neg h2, if_neg h3, if_true]
    exact Dead_monitor x0 x1 x3 x4 lk nm tk tn tf ts ta tl tc h0 w
  simp only [deadP, if_neg h0, if_neg h2, if_neg h3, if_neg h6]
  by_cases h5 : k = 5
  · subst h5
    exact Dead_exit x0 x1 x3 x4 lk nm tk tn tf ts ta tl tc h0 w
  by_cases h8 : k = 8
  · subst h8
    exact Dead_down x0 x1 x3 x4 lk nm tk tn tf ts ta tl tc h0 w
  exact Dead_none x0 x1 k x3 x4 lk nm tk tn tf ts ta tl tc h0 h2 h3 h5 h6 h8 w
end Go.Proofs.Ytliebilpddmhkaa
