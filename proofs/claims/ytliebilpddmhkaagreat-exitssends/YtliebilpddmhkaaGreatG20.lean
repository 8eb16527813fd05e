import Derived.Test.YtliebilpddmhkaaGreatG19
import Derived.Deep.LoopGhost
/- The outcome of an exit signal, but for messages. -/
namespace Go.Proofs.YtliebilpddmhkaaGreat
open Go.RowKit Go.Lib
attribute [local go_sem] store_float f64bits
attribute [local go_sem ↓] Go.wp_at_zero Go.wp_at_succ

set_option maxRecDepth 100000 in
set_option maxHeartbeats 4000000 in
theorem outcome_kill (x0 x1 : Int) (tk tn : Int) (tf : Nat) (ts : ByteArray) (ta : Option Addr) (tc : Nat) (kids : List Tr) (trap : Bool) (hK : isA (.mk tk tn tf ts ta tc kids) ⟨#[107, 105, 108, 108]⟩ = true) (w : World) : Calls Tryz.prog 53 #[.agg #[.int .i64 x0, .int .i64 x1, .bool false, .int .i64 tk, .int .i64 tn, .float .f64 tf, .string ts, .slice ta kids.length tc], .bool trap] w fun e w' => e = .returned (.agg #[.int .i64 2, .int .i64 3, .int .i64 0, .float .f64 0, .string ⟨#[107, 105, 108, 108, 101, 100]⟩, .slice none 0 0]) ∧ Below w.heap.size w w' := by
  have IA : Hid (∀ (s : ByteArray) (w : World), Calls Tryz.prog 63 #[.agg #[.int .i64 tk, .int .i64 tn, .float .f64 tf, .string ts, .slice ta kids.length tc], .string s] w fun e w' => e = .returned (.bool (isA (.mk tk tn tf ts ta tc kids) s)) ∧ Below w.heap.size w w') := hidb (fun s w => isAtom_cells tk tn tf ts ta kids.length tc s w)
  have AT := hidb (fun w => atom_val ⟨#[107, 105, 108, 108, 101, 100]⟩ w)
  generalize hTT : Tr.mk tk tn tf ts ta tc kids = TT0 at *
  generalize kids.length = tl at *
  have HS : Hid (((w.alloc (.cells #[.int .i64 x0, .int .i64 x1, .bool false, .int .i64 tk, .int .i64 tn, .float .f64 tf, .string ts, .slice ta tl tc] 90)).alloc (.cells #[.int .i64 0, .int .i64 0, .int .i64 0, .float .f64 0, .string ⟨#[]⟩, .slice none 0 0] 31)).heap[w.heap.size]? = some (.cells #[.int .i64 x0, .int .i64 x1, .bool false, .int .i64 tk, .int .i64 tn, .float .f64 tf, .string ts, .slice ta tl tc] 90)) := hidb (at_keep (at_new w _) (below_new _ _))
  have HR : Hid (((w.alloc (.cells #[.int .i64 x0, .int .i64 x1, .bool false, .int .i64 tk, .int .i64 tn, .float .f64 tf, .string ts, .slice ta tl tc] 90)).alloc (.cells #[.int .i64 0, .int .i64 0, .int .i64 0, .float .f64 0, .string ⟨#[]⟩, .slice none 0 0] 31)).heap[w.heap.size + 1]? = some (.cells #[.int .i64 0, .int .i64 0, .int .i64 0, .float .f64 0, .string ⟨#[]⟩, .slice none 0 0] 31)) := hidb (by have := at_new (w.alloc (.cells #[.int .i64 x0, .int .i64 x1, .bool false, .int .i64 tk, .int .i64 tn, .float .f64 tf, .string ts, .slice ta tl tc] 90)) (.cells #[.int .i64 0, .int .i64 0, .int .i64 0, .float .f64 0, .string ⟨#[]⟩, .slice none 0 0] 31); simpa using this)
  have HB : Hid (Below w.heap.size w ((w.alloc (.cells #[.int .i64 x0, .int .i64 x1, .bool false, .int .i64 tk, .int .i64 tn, .float .f64 tf, .string ts, .slice ta tl tc] 90)).alloc (.cells #[.int .i64 0, .int .i64 0, .int .i64 0, .float .f64 0, .string ⟨#[]⟩, .slice none 0 0] 31))) := hidb ((below_new w _).alloc (by simp) _)
  go_enter Tryz.func53, Tryz.ntmps53
  go_wp2_with (first
    | (go_at_call 63; refine (IA.out _ _).mono ?_; (first | rw [hK] | rw [hN]); rintro e w1 ⟨rfl, hb1⟩; have HB := hidb (HB.out.trans (hb1.mono HB.out.size)); have HS := hidb (at_keep HS.out hb1); have HR := hidb (at_keep HR.out hb1); obtain ⟨s0, s1, s2, s3, s4, s5, s6, s7⟩ := box8 HS.out; clear hb1)
    | (go_at_call 41; refine (AT.out _).mono ?_; rintro e w2 ⟨rfl, hb2⟩; have HB := hidb (HB.out.trans (hb2.mono HB.out.size)); obtain ⟨r0, r1, r2, r3, r4, r5⟩ := box6 (at_keep HR.out hb2); obtain ⟨g0, g1, g2, g3, g4, g5⟩ := fro6 (at_keep HR.out hb2); clear hb2)
    | (go_at_call 39; refine (CP.out _ HB.out).mono ?_; rintro e w2 ⟨⟨k2, n2, f2, s2', a2, c2, kids2⟩, rfl, hs2, hi2, hb2⟩; have HSM := hidb hs2; have HI := hidb (in_base HB.out.size _ hi2); have HLT := hidb ((show w.heap.size + 1 < _ from (Array.getElem?_eq_some_iff.1 HR.out).1)); have HIN := hidb hi2; have HB := hidb (HB.out.trans (hb2.mono HB.out.size)); obtain ⟨r0, r1, r2, r3, r4, r5⟩ := box6 (at_keep HR.out hb2); obtain ⟨g0, g1, g2, g3, g4, g5⟩ := fro6 (at_keep HR.out hb2); clear hb2 hs2 hi2))
  exact bodyPost_ret (v := .agg #[.int .i64 2, .int .i64 3, .int .i64 0, .float .f64 0, .string ⟨#[107, 105, 108, 108, 101, 100]⟩, .slice none 0 0]) (by simp [results, Tryz.results53, go_sem, r0, r1, r2, r3, r4, r5]) rfl ⟨rfl, by (repeat (refine Below.setCell ?_ (by first | (simp; done) | (simp; omega)) _)); exact HB.out⟩

set_option maxRecDepth 100000 in
set_option maxHeartbeats 4000000 in
theorem outcome_none1 (x0 x1 : Int) (tk tn : Int) (tf : Nat) (ts : ByteArray) (ta : Option Addr) (tc : Nat) (kids : List Tr)  (hN : isA (.mk tk tn tf ts ta tc kids) ⟨#[110, 111, 114, 109, 97, 108]⟩ = true) (w : World) : Calls Tryz.prog 53 #[.agg #[.int .i64 x0, .int .i64 x1, .bool true, .int .i64 tk, .int .i64 tn, .float .f64 tf, .string ts, .slice ta kids.length tc], .bool false] w fun e w' => e = .returned (.agg #[.int .i64 0, .int .i64 0, .int .i64 0, .float .f64 0, .string ⟨#[]⟩, .slice none 0 0]) ∧ Below w.heap.size w w' := by
  have IA : Hid (∀ (s : ByteArray) (w : World), Calls Tryz.prog 63 #[.agg #[.int .i64 tk, .int .i64 tn, .float .f64 tf, .string ts, .slice ta kids.length tc], .string s] w fun e w' => e = .returned (.bool (isA (.mk tk tn tf ts ta tc kids) s)) ∧ Below w.heap.size w w') := hidb (fun s w => isAtom_cells tk tn tf ts ta kids.length tc s w)
  have AT := hidb (fun w => atom_val ⟨#[107, 105, 108, 108, 101, 100]⟩ w)
  skip
  skip
  generalize hTT : Tr.mk tk tn tf ts ta tc kids = TT0 at *
  generalize kids.length = tl at *
  have HS : Hid (((w.alloc (.cells #[.int .i64 x0, .int .i64 x1, .bool true, .int .i64 tk, .int .i64 tn, .float .f64 tf, .string ts, .slice ta tl tc] 90)).alloc (.cells #[.int .i64 0, .int .i64 0, .int .i64 0, .float .f64 0, .string ⟨#[]⟩, .slice none 0 0] 31)).heap[w.heap.size]? = some (.cells #[.int .i64 x0, .int .i64 x1, .bool true, .int .i64 tk, .int .i64 tn, .float .f64 tf, .string ts, .slice ta tl tc] 90)) := hidb (at_keep (at_new w _) (below_new _ _))
  have HR : Hid (((w.alloc (.cells #[.int .i64 x0, .int .i64 x1, .bool true, .int .i64 tk, .int .i64 tn, .float .f64 tf, .string ts, .slice ta tl tc] 90)).alloc (.cells #[.int .i64 0, .int .i64 0, .int .i64 0, .float .f64 0, .string ⟨#[]⟩, .slice none 0 0] 31)).heap[w.heap.size + 1]? = some (.cells #[.int .i64 0, .int .i64 0, .int .i64 0, .float .f64 0, .string ⟨#[]⟩, .slice none 0 0] 31)) := hidb (by have := at_new (w.alloc (.cells #[.int .i64 x0, .int .i64 x1, .bool true, .int .i64 tk, .int .i64 tn, .float .f64 tf, .string ts, .slice ta tl tc] 90)) (.cells #[.int .i64 0, .int .i64 0, .int .i64 0, .float .f64 0, .string ⟨#[]⟩, .slice none 0 0] 31); simpa using this)
  have HB : Hid (Below w.heap.size w ((w.alloc (.cells #[.int .i64 x0, .int .i64 x1, .bool true, .int .i64 tk, .int .i64 tn, .float .f64 tf, .string ts, .slice ta tl tc] 90)).alloc (.cells #[.int .i64 0, .int .i64 0, .int .i64 0, .float .f64 0, .string ⟨#[]⟩, .slice none 0 0] 31))) := hidb ((below_new w _).alloc (by simp) _)
  skip
  skip
  go_enter Tryz.func53, Tryz.ntmps53
  go_wp2_with (first
    | (go_at_call 63; refine (IA.out _ _).mono ?_; rw [hN]; rintro e w1 ⟨rfl, hb1⟩; have HB := hidb (HB.out.trans (hb1.mono HB.out.size)); have HS := hidb (at_keep HS.out hb1); have HR := hidb (at_keep HR.out hb1); obtain ⟨s0, s1, s2, s3, s4, s5, s6, s7⟩ := box8 HS.out; obtain ⟨r0, r1, r2, r3, r4, r5⟩ := box6 HR.out; obtain ⟨g0, g1, g2, g3, g4, g5⟩ := fro6 HR.out; clear hb1)
    | (go_at_call 41; refine (AT.out _).mono ?_; rintro e w2 ⟨rfl, hb2⟩; have HB := hidb (HB.out.trans (hb2.mono HB.out.size)); obtain ⟨r0, r1, r2, r3, r4, r5⟩ := box6 (at_keep HR.out hb2); obtain ⟨g0, g1, g2, g3, g4, g5⟩ := fro6 (at_keep HR.out hb2); clear hb2)
    | (go_at_call 39; refine (CP.out _ HB.out).mono ?_; rintro e w2 ⟨⟨k2, n2, f2, s2', a2, c2, kids2⟩, rfl, hs2, hi2, hb2⟩; have HSM := hidb hs2; have HI := hidb (in_base HB.out.size _ hi2); have HLT := hidb ((show w.heap.size + 1 < _ from (Array.getElem?_eq_some_iff.1 HR.out).1)); have HIN := hidb hi2; have HB := hidb (HB.out.trans (hb2.mono HB.out.size)); obtain ⟨r0, r1, r2, r3, r4, r5⟩ := box6 (at_keep HR.out hb2); obtain ⟨g0, g1, g2, g3, g4, g5⟩ := fro6 (at_keep HR.out hb2); clear hb2 hs2 hi2))
  exact bodyPost_ret (v := .agg #[.int .i64 0, .int .i64 0, .int .i64 0, .float .f64 0, .string ⟨#[]⟩, .slice none 0 0]) (by simp [results, Tryz.results53, go_sem, r0, r1, r2, r3, r4, r5]) rfl ⟨rfl, by (repeat (refine Below.setCell ?_ (by first | (simp; done) | (simp; omega)) _)); exact HB.out⟩

set_option maxRecDepth 100000 in
set_option maxHeartbeats 4000000 in
theorem outcome_none2 (x0 x1 : Int) (tk tn : Int) (tf : Nat) (ts : ByteArray) (ta : Option Addr) (tc : Nat) (kids : List Tr) (hK : isA (.mk tk tn tf ts ta tc kids) ⟨#[107, 105, 108, 108]⟩ = false) (hd : x0 ≠ x1) (hN : isA (.mk tk tn tf ts ta tc kids) ⟨#[110, 111, 114, 109, 97, 108]⟩ = true) (w : World) : Calls Tryz.prog 53 #[.agg #[.int .i64 x0, .int .i64 x1, .bool false, .int .i64 tk, .int .i64 tn, .float .f64 tf, .string ts, .slice ta kids.length tc], .bool false] w fun e w' => e = .returned (.agg #[.int .i64 0, .int .i64 0, .int .i64 0, .float .f64 0, .string ⟨#[]⟩, .slice none 0 0]) ∧ Below w.heap.size w w' := by
  have IA : Hid (∀ (s : ByteArray) (w : World), Calls Tryz.prog 63 #[.agg #[.int .i64 tk, .int .i64 tn, .float .f64 tf, .string ts, .slice ta kids.length tc], .string s] w fun e w' => e = .returned (.bool (isA (.mk tk tn tf ts ta tc kids) s)) ∧ Below w.heap.size w w') := hidb (fun s w => isAtom_cells tk tn tf ts ta kids.length tc s w)
  have AT := hidb (fun w => atom_val ⟨#[107, 105, 108, 108, 101, 100]⟩ w)
  skip
  skip
  generalize hTT : Tr.mk tk tn tf ts ta tc kids = TT0 at *
  generalize kids.length = tl at *
  have HS : Hid (((w.alloc (.cells #[.int .i64 x0, .int .i64 x1, .bool false, .int .i64 tk, .int .i64 tn, .float .f64 tf, .string ts, .slice ta tl tc] 90)).alloc (.cells #[.int .i64 0, .int .i64 0, .int .i64 0, .float .f64 0, .string ⟨#[]⟩, .slice none 0 0] 31)).heap[w.heap.size]? = some (.cells #[.int .i64 x0, .int .i64 x1, .bool false, .int .i64 tk, .int .i64 tn, .float .f64 tf, .string ts, .slice ta tl tc] 90)) := hidb (at_keep (at_new w _) (below_new _ _))
  have HR : Hid (((w.alloc (.cells #[.int .i64 x0, .int .i64 x1, .bool false, .int .i64 tk, .int .i64 tn, .float .f64 tf, .string ts, .slice ta tl tc] 90)).alloc (.cells #[.int .i64 0, .int .i64 0, .int .i64 0, .float .f64 0, .string ⟨#[]⟩, .slice none 0 0] 31)).heap[w.heap.size + 1]? = some (.cells #[.int .i64 0, .int .i64 0, .int .i64 0, .float .f64 0, .string ⟨#[]⟩, .slice none 0 0] 31)) := hidb (by have := at_new (w.alloc (.cells #[.int .i64 x0, .int .i64 x1, .bool false, .int .i64 tk, .int .i64 tn, .float .f64 tf, .string ts, .slice ta tl tc] 90)) (.cells #[.int .i64 0, .int .i64 0, .int .i64 0, .float .f64 0, .string ⟨#[]⟩, .slice none 0 0] 31); simpa using this)
  have HB : Hid (Below w.heap.size w ((w.alloc (.cells #[.int .i64 x0, .int .i64 x1, .bool false, .int .i64 tk, .int .i64 tn, .float .f64 tf, .string ts, .slice ta tl tc] 90)).alloc (.cells #[.int .i64 0, .int .i64 0, .int .i64 0, .float .f64 0, .string ⟨#[]⟩, .slice none 0 0] 31))) := hidb ((below_new w _).alloc (by simp) _)
  have hd2 : (x0 != x1) = true := by simpa using hd
  skip
  go_enter Tryz.func53, Tryz.ntmps53
  go_wp2_with (first
    | (go_at_call 63; refine (IA.out _ _).mono ?_; (first | rw [hK] | rw [hN]); rintro e w1 ⟨rfl, hb1⟩; have HB := hidb (HB.out.trans (hb1.mono HB.out.size)); have HS := hidb (at_keep HS.out hb1); have HR := hidb (at_keep HR.out hb1); obtain ⟨s0, s1, s2, s3, s4, s5, s6, s7⟩ := box8 HS.out; obtain ⟨r0, r1, r2, r3, r4, r5⟩ := box6 HR.out; obtain ⟨g0, g1, g2, g3, g4, g5⟩ := fro6 HR.out; clear hb1)
    | (go_at_call 41; refine (AT.out _).mono ?_; rintro e w2 ⟨rfl, hb2⟩; have HB := hidb (HB.out.trans (hb2.mono HB.out.size)); obtain ⟨r0, r1, r2, r3, r4, r5⟩ := box6 (at_keep HR.out hb2); obtain ⟨g0, g1, g2, g3, g4, g5⟩ := fro6 (at_keep HR.out hb2); clear hb2)
    | (go_at_call 39; refine (CP.out _ HB.out).mono ?_; rintro e w2 ⟨⟨k2, n2, f2, s2', a2, c2, kids2⟩, rfl, hs2, hi2, hb2⟩; have HSM := hidb hs2; have HI := hidb (in_base HB.out.size _ hi2); have HLT := hidb ((show w.heap.size + 1 < _ from (Array.getElem?_eq_some_iff.1 HR.out).1)); have HIN := hidb hi2; have HB := hidb (HB.out.trans (hb2.mono HB.out.size)); obtain ⟨r0, r1, r2, r3, r4, r5⟩ := box6 (at_keep HR.out hb2); obtain ⟨g0, g1, g2, g3, g4, g5⟩ := fro6 (at_keep HR.out hb2); clear hb2 hs2 hi2))
  exact bodyPost_ret (v := .agg #[.int .i64 0, .int .i64 0, .int .i64 0, .float .f64 0, .string ⟨#[]⟩, .slice none 0 0]) (by simp [results, Tryz.results53, go_sem, r0, r1, r2, r3, r4, r5]) rfl ⟨rfl, by (repeat (refine Below.setCell ?_ (by first | (simp; done) | (simp; omega)) _)); exact HB.out⟩

set_option maxRecDepth 100000 in
set_option maxHeartbeats 4000000 in
theorem outcome_copy1 (x0 x1 : Int) (tk tn : Int) (tf : Nat) (ts : ByteArray) (ta : Option Addr) (tc : Nat) (kids : List Tr) (hN : isA (.mk tk tn tf ts ta tc kids) ⟨#[110, 111, 114, 109, 97, 108]⟩ = false) (w : World) (hin : (Tr.mk tk tn tf ts ta tc kids).In w 0) (hsm : Small (.mk tk tn tf ts ta tc kids)) (hcn : cnT (.mk tk tn tf ts ta tc kids) ≤ 1000000000) : Calls Tryz.prog 53 #[.agg #[.int .i64 x0, .int .i64 x1, .bool true, .int .i64 tk, .int .i64 tn, .float .f64 tf, .string ts, .slice ta kids.length tc], .bool false] w fun e w' => ∃ u : Tr, e = .returned (.agg (#[.int .i64 2] ++ u.cells.toArray)) ∧ Sm (.mk tk tn tf ts ta tc kids) u ∧ u.In w' w.heap.size ∧ Below w.heap.size w w' := by
  have IA : Hid (∀ (s : ByteArray) (w : World), Calls Tryz.prog 63 #[.agg #[.int .i64 tk, .int .i64 tn, .float .f64 tf, .string ts, .slice ta kids.length tc], .string s] w fun e w' => e = .returned (.bool (isA (.mk tk tn tf ts ta tc kids) s)) ∧ Below w.heap.size w w') := hidb (fun s w => isAtom_cells tk tn tf ts ta kids.length tc s w)
  have AT := hidb (fun w => atom_val ⟨#[107, 105, 108, 108, 101, 100]⟩ w)
  have CP := hidb (fun (w' : World) (hb : Below w.heap.size w w') => copy_any (.mk tk tn tf ts ta tc kids) w' (in_below hb hin) hsm hcn)
  simp only [Tr.val, Tr.cells] at CP
  have HIA := IA
  generalize kids.length = tl at *
  have HS : Hid (((w.alloc (.cells #[.int .i64 x0, .int .i64 x1, .bool true, .int .i64 tk, .int .i64 tn, .float .f64 tf, .string ts, .slice ta tl tc] 90)).alloc (.cells #[.int .i64 0, .int .i64 0, .int .i64 0, .float .f64 0, .string ⟨#[]⟩, .slice none 0 0] 31)).heap[w.heap.size]? = some (.cells #[.int .i64 x0, .int .i64 x1, .bool true, .int .i64 tk, .int .i64 tn, .float .f64 tf, .string ts, .slice ta tl tc] 90)) := hidb (at_keep (at_new w _) (below_new _ _))
  have HR : Hid (((w.alloc (.cells #[.int .i64 x0, .int .i64 x1, .bool true, .int .i64 tk, .int .i64 tn, .float .f64 tf, .string ts, .slice ta tl tc] 90)).alloc (.cells #[.int .i64 0, .int .i64 0, .int .i64 0, .float .f64 0, .string ⟨#[]⟩, .slice none 0 0] 31)).heap[w.heap.size + 1]? = some (.cells #[.int .i64 0, .int .i64 0, .int .i64 0, .float .f64 0, .string ⟨#[]⟩, .slice none 0 0] 31)) := hidb (by have := at_new (w.alloc (.cells #[.int .i64 x0, .int .i64 x1, .bool true, .int .i64 tk, .int .i64 tn, .float .f64 tf, .string ts, .slice ta tl tc] 90)) (.cells #[.int .i64 0, .int .i64 0, .int .i64 0, .float .f64 0, .string ⟨#[]⟩, .slice none 0 0] 31); simpa using this)
  have HB : Hid (Below w.heap.size w ((w.alloc (.cells #[.int .i64 x0, .int .i64 x1, .bool true, .int .i64 tk, .int .i64 tn, .float .f64 tf, .string ts, .slice ta tl tc] 90)).alloc (.cells #[.int .i64 0, .int .i64 0, .int .i64 0, .float .f64 0, .string ⟨#[]⟩, .slice none 0 0] 31))) := hidb ((below_new w _).alloc (by simp) _)
  skip
  clear hin hsm hcn
  go_enter Tryz.func53, Tryz.ntmps53
  go_wp2_with (first
    | (go_at_call 63; refine (IA.out _ _).mono ?_; rw [hN]; rintro e w1 ⟨rfl, hb1⟩; have HB := hidb (HB.out.trans (hb1.mono HB.out.size)); have HS := hidb (at_keep HS.out hb1); have HR := hidb (at_keep HR.out hb1); obtain ⟨s0, s1, s2, s3, s4, s5, s6, s7⟩ := box8 HS.out; clear hb1)
    | (go_at_call 41; refine (AT.out _).mono ?_; rintro e w2 ⟨rfl, hb2⟩; have HB := hidb (HB.out.trans (hb2.mono HB.out.size)); obtain ⟨r0, r1, r2, r3, r4, r5⟩ := box6 (at_keep HR.out hb2); obtain ⟨g0, g1, g2, g3, g4, g5⟩ := fro6 (at_keep HR.out hb2); clear hb2)
    | (go_at_call 39; refine (CP.out _ HB.out).mono ?_; rintro e w2 ⟨⟨k2, n2, f2, s2', a2, c2, kids2⟩, rfl, hs2, hi2, hb2⟩; have HSM := hidb hs2; have HI := hidb (in_base HB.out.size _ hi2); have HLT := hidb ((show w.heap.size + 1 < _ from (Array.getElem?_eq_some_iff.1 HR.out).1)); have HIN := hidb hi2; have HB := hidb (HB.out.trans (hb2.mono HB.out.size)); obtain ⟨r0, r1, r2, r3, r4, r5⟩ := box6 (at_keep HR.out hb2); obtain ⟨g0, g1, g2, g3, g4, g5⟩ := fro6 (at_keep HR.out hb2); clear hb2 hs2 hi2))
  exact bodyPost_ret (v := .agg #[.int .i64 2, .int .i64 k2, .int .i64 n2, .float .f64 f2, .string s2', .slice a2 kids2.length c2]) (by simp [results, Tryz.results53, go_sem, r0, r1, r2, r3, r4, r5]) rfl ⟨.mk k2 n2 f2 s2' a2 c2 kids2, rfl, HSM.out, in_base (by have := HLT.out; omega) _ (in_set (in_set (in_set (in_set (in_set (in_set HIN.out HLT.out _) HLT.out _) HLT.out _) HLT.out _) HLT.out _) HLT.out _), by (repeat (refine Below.setCell ?_ (by first | (simp; done) | (simp; omega)) _)); exact HB.out⟩

set_option maxRecDepth 100000 in
set_option maxHeartbeats 4000000 in
theorem outcome_copy2 (x0 x1 : Int) (tk tn : Int) (tf : Nat) (ts : ByteArray) (ta : Option Addr) (tc : Nat) (kids : List Tr) (hK : isA (.mk tk tn tf ts ta tc kids) ⟨#[107, 105, 108, 108]⟩ = false) (hN : isA (.mk tk tn tf ts ta tc kids) ⟨#[110, 111, 114, 109, 97, 108]⟩ = false) (w : World) (hin : (Tr.mk tk tn tf ts ta tc kids).In w 0) (hsm : Small (.mk tk tn tf ts ta tc kids)) (hcn : cnT (.mk tk tn tf ts ta tc kids) ≤ 1000000000) : Calls Tryz.prog 53 #[.agg #[.int .i64 x0, .int .i64 x1, .bool false, .int .i64 tk, .int .i64 tn, .float .f64 tf, .string ts, .slice ta kids.length tc], .bool false] w fun e w' => ∃ u : Tr, e = .returned (.agg (#[.int .i64 2] ++ u.cells.toArray)) ∧ Sm (.mk tk tn tf ts ta tc kids) u ∧ u.In w' w.heap.size ∧ Below w.heap.size w w' := by
  have IA : Hid (∀ (s : ByteArray) (w : World), Calls Tryz.prog 63 #[.agg #[.int .i64 tk, .int .i64 tn, .float .f64 tf, .string ts, .slice ta kids.length tc], .string s] w fun e w' => e = .returned (.bool (isA (.mk tk tn tf ts ta tc kids) s)) ∧ Below w.heap.size w w') := hidb (fun s w => isAtom_cells tk tn tf ts ta kids.length tc s w)
  have AT := hidb (fun w => atom_val ⟨#[107, 105, 108, 108, 101, 100]⟩ w)
  have CP := hidb (fun (w' : World) (hb : Below w.heap.size w w') => copy_any (.mk tk tn tf ts ta tc kids) w' (in_below hb hin) hsm hcn)
  simp only [Tr.val, Tr.cells] at CP
  have HIA := IA
  generalize kids.length = tl at *
  have HS : Hid (((w.alloc (.cells #[.int .i64 x0, .int .i64 x1, .bool false, .int .i64 tk, .int .i64 tn, .float .f64 tf, .string ts, .slice ta tl tc] 90)).alloc (.cells #[.int .i64 0, .int .i64 0, .int .i64 0, .float .f64 0, .string ⟨#[]⟩, .slice none 0 0] 31)).heap[w.heap.size]? = some (.cells #[.int .i64 x0, .int .i64 x1, .bool false, .int .i64 tk, .int .i64 tn, .float .f64 tf, .string ts, .slice ta tl tc] 90)) := hidb (at_keep (at_new w _) (below_new _ _))
  have HR : Hid (((w.alloc (.cells #[.int .i64 x0, .int .i64 x1, .bool false, .int .i64 tk, .int .i64 tn, .float .f64 tf, .string ts, .slice ta tl tc] 90)).alloc (.cells #[.int .i64 0, .int .i64 0, .int .i64 0, .float .f64 0, .string ⟨#[]⟩, .slice none 0 0] 31)).heap[w.heap.size + 1]? = some (.cells #[.int .i64 0, .int .i64 0, .int .i64 0, .float .f64 0, .string ⟨#[]⟩, .slice none 0 0] 31)) := hidb (by have := at_new (w.alloc (.cells #[.int .i64 x0, .int .i64 x1, .bool false, .int .i64 tk, .int .i64 tn, .float .f64 tf, .string ts, .slice ta tl tc] 90)) (.cells #[.int .i64 0, .int .i64 0, .int .i64 0, .float .f64 0, .string ⟨#[]⟩, .slice none 0 0] 31); simpa using this)
  have HB : Hid (Below w.heap.size w ((w.alloc (.cells #[.int .i64 x0, .int .i64 x1, .bool false, .int .i64 tk, .int .i64 tn, .float .f64 tf, .string ts, .slice ta tl tc] 90)).alloc (.cells #[.int .i64 0, .int .i64 0, .int .i64 0, .float .f64 0, .string ⟨#[]⟩, .slice none 0 0] 31))) := hidb ((below_new w _).alloc (by simp) _)
  skip
  clear hin hsm hcn
  go_enter Tryz.func53, Tryz.ntmps53
  go_wp2_with (first
    | (go_at_call 63; refine (IA.out _ _).mono ?_; (first | rw [hK] | rw [hN]); rintro e w1 ⟨rfl, hb1⟩; have HB := hidb (HB.out.trans (hb1.mono HB.out.size)); have HS := hidb (at_keep HS.out hb1); have HR := hidb (at_keep HR.out hb1); obtain ⟨s0, s1, s2, s3, s4, s5, s6, s7⟩ := box8 HS.out; clear hb1)
    | (go_at_call 41; refine (AT.out _).mono ?_; rintro e w2 ⟨rfl, hb2⟩; have HB := hidb (HB.out.trans (hb2.mono HB.out.size)); obtain ⟨r0, r1, r2, r3, r4, r5⟩ := box6 (at_keep HR.out hb2); obtain ⟨g0, g1, g2, g3, g4, g5⟩ := fro6 (at_keep HR.out hb2); clear hb2)
    | (go_at_call 39; refine (CP.out _ HB.out).mono ?_; rintro e w2 ⟨⟨k2, n2, f2, s2', a2, c2, kids2⟩, rfl, hs2, hi2, hb2⟩; have HSM := hidb hs2; have HI := hidb (in_base HB.out.size _ hi2); have HLT := hidb ((show w.heap.size + 1 < _ from (Array.getElem?_eq_some_iff.1 HR.out).1)); have HIN := hidb hi2; have HB := hidb (HB.out.trans (hb2.mono HB.out.size)); obtain ⟨r0, r1, r2, r3, r4, r5⟩ := box6 (at_keep HR.out hb2); obtain ⟨g0, g1, g2, g3, g4, g5⟩ := fro6 (at_keep HR.out hb2); clear hb2 hs2 hi2))
  exact bodyPost_ret (v := .agg #[.int .i64 2, .int .i64 k2, .int .i64 n2, .float .f64 f2, .string s2', .slice a2 kids2.length c2]) (by simp [results, Tryz.results53, go_sem, r0, r1, r2, r3, r4, r5]) rfl ⟨.mk k2 n2 f2 s2' a2 c2 kids2, rfl, HSM.out, in_base (by have := HLT.out; omega) _ (in_set (in_set (in_set (in_set (in_set (in_set HIN.out HLT.out _) HLT.out _) HLT.out _) HLT.out _) HLT.out _) HLT.out _), by (repeat (refine Below.setCell ?_ (by first | (simp; done) | (simp; omega)) _)); exact HB.out⟩

set_option maxRecDepth 100000 in
set_option maxHeartbeats 4000000 in
theorem outcome_copy3 (x0 x1 : Int) (tk tn : Int) (tf : Nat) (ts : ByteArray) (ta : Option Addr) (tc : Nat) (kids : List Tr) (hK : isA (.mk tk tn tf ts ta tc kids) ⟨#[107, 105, 108, 108]⟩ = false) (hN : isA (.mk tk tn tf ts ta tc kids) ⟨#[110, 111, 114, 109, 97, 108]⟩ = true) (hd : x0 = x1) (w : World) (hin : (Tr.mk tk tn tf ts ta tc kids).In w 0) (hsm : Small (.mk tk tn tf ts ta tc kids)) (hcn : cnT (.mk tk tn tf ts ta tc kids) ≤ 1000000000) : Calls Tryz.prog 53 #[.agg #[.int .i64 x0, .int .i64 x1, .bool false, .int .i64 tk, .int .i64 tn, .float .f64 tf, .string ts, .slice ta kids.length tc], .bool false] w fun e w' => ∃ u : Tr, e = .returned (.agg (#[.int .i64 2] ++ u.cells.toArray)) ∧ Sm (.mk tk tn tf ts ta tc kids) u ∧ u.In w' w.heap.size ∧ Below w.heap.size w w' := by
  have IA : Hid (∀ (s : ByteArray) (w : World), Calls Tryz.prog 63 #[.agg #[.int .i64 tk, .int .i64 tn, .float .f64 tf, .string ts, .slice ta kids.length tc], .string s] w fun e w' => e = .returned (.bool (isA (.mk tk tn tf ts ta tc kids) s)) ∧ Below w.heap.size w w') := hidb (fun s w => isAtom_cells tk tn tf ts ta kids.length tc s w)
  have AT := hidb (fun w => atom_val ⟨#[107, 105, 108, 108, 101, 100]⟩ w)
  have CP := hidb (fun (w' : World) (hb : Below w.heap.size w w') => copy_any (.mk tk tn tf ts ta tc kids) w' (in_below hb hin) hsm hcn)
  simp only [Tr.val, Tr.cells] at CP
  have HIA := IA
  generalize kids.length = tl at *
  have HS : Hid (((w.alloc (.cells #[.int .i64 x0, .int .i64 x1, .bool false, .int .i64 tk, .int .i64 tn, .float .f64 tf, .string ts, .slice ta tl tc] 90)).alloc (.cells #[.int .i64 0, .int .i64 0, .int .i64 0, .float .f64 0, .string ⟨#[]⟩, .slice none 0 0] 31)).heap[w.heap.size]? = some (.cells #[.int .i64 x0, .int .i64 x1, .bool false, .int .i64 tk, .int .i64 tn, .float .f64 tf, .string ts, .slice ta tl tc] 90)) := hidb (at_keep (at_new w _) (below_new _ _))
  have HR : Hid (((w.alloc (.cells #[.int .i64 x0, .int .i64 x1, .bool false, .int .i64 tk, .int .i64 tn, .float .f64 tf, .string ts, .slice ta tl tc] 90)).alloc (.cells #[.int .i64 0, .int .i64 0, .int .i64 0, .float .f64 0, .string ⟨#[]⟩, .slice none 0 0] 31)).heap[w.heap.size + 1]? = some (.cells #[.int .i64 0, .int .i64 0, .int .i64 0, .float .f64 0, .string ⟨#[]⟩, .slice none 0 0] 31)) := hidb (by have := at_new (w.alloc (.cells #[.int .i64 x0, .int .i64 x1, .bool false, .int .i64 tk, .int .i64 tn, .float .f64 tf, .string ts, .slice ta tl tc] 90)) (.cells #[.int .i64 0, .int .i64 0, .int .i64 0, .float .f64 0, .string ⟨#[]⟩, .slice none 0 0] 31); simpa using this)
  have HB : Hid (Below w.heap.size w ((w.alloc (.cells #[.int .i64 x0, .int .i64 x1, .bool false, .int .i64 tk, .int .i64 tn, .float .f64 tf, .string ts, .slice ta tl tc] 90)).alloc (.cells #[.int .i64 0, .int .i64 0, .int .i64 0, .float .f64 0, .string ⟨#[]⟩, .slice none 0 0] 31))) := hidb ((below_new w _).alloc (by simp) _)
  subst hd; have hd2 : (x0 != x0) = false := by simp
  clear hin hsm hcn
  go_enter Tryz.func53, Tryz.ntmps53
  go_wp2_with (first
    | (go_at_call 63; refine (IA.out _ _).mono ?_; (first | rw [hK] | rw [hN]); rintro e w1 ⟨rfl, hb1⟩; have HB := hidb (HB.out.trans (hb1.mono HB.out.size)); have HS := hidb (at_keep HS.out hb1); have HR := hidb (at_keep HR.out hb1); obtain ⟨s0, s1, s2, s3, s4, s5, s6, s7⟩ := box8 HS.out; clear hb1)
    | (go_at_call 41; refine (AT.out _).mono ?_; rintro e w2 ⟨rfl, hb2⟩; have HB := hidb (HB.out.trans (hb2.mono HB.out.size)); obtain ⟨r0, r1, r2, r3, r4, r5⟩ := box6 (at_keep HR.out hb2); obtain ⟨g0, g1, g2, g3, g4, g5⟩ := fro6 (at_keep HR.out hb2); clear hb2)
    | (go_at_call 39; refine (CP.out _ HB.out).mono ?_; rintro e w2 ⟨⟨k2, n2, f2, s2', a2, c2, kids2⟩, rfl, hs2, hi2, hb2⟩; have HSM := hidb hs2; have HI := hidb (in_base HB.out.size _ hi2); have HLT := hidb ((show w.heap.size + 1 < _ from (Array.getElem?_eq_some_iff.1 HR.out).1)); have HIN := hidb hi2; have HB := hidb (HB.out.trans (hb2.mono HB.out.size)); obtain ⟨r0, r1, r2, r3, r4, r5⟩ := box6 (at_keep HR.out hb2); obtain ⟨g0, g1, g2, g3, g4, g5⟩ := fro6 (at_keep HR.out hb2); clear hb2 hs2 hi2))
  exact bodyPost_ret (v := .agg #[.int .i64 2, .int .i64 k2, .int .i64 n2, .float .f64 f2, .string s2', .slice a2 kids2.length c2]) (by simp [results, Tryz.results53, go_sem, r0, r1, r2, r3, r4, r5]) rfl ⟨.mk k2 n2 f2 s2' a2 c2 kids2, rfl, HSM.out, in_base (by have := HLT.out; omega) _ (in_set (in_set (in_set (in_set (in_set (in_set HIN.out HLT.out _) HLT.out _) HLT.out _) HLT.out _) HLT.out _) HLT.out _), by (repeat (refine Below.setCell ?_ (by first | (simp; done) | (simp; omega)) _)); exact HB.out⟩
end Go.Proofs.YtliebilpddmhkaaGreat


/- term.Tuple of right terms. -/
namespace Go.Proofs.YtliebilpddmhkaaGreat
open Go.RowKit Go.Lib Go.Deep
attribute [local go_sem] store_float f64bits
attribute [local go_sem ↓] Go.wp_at_zero Go.wp_at_succ

theorem fro5 {w : World} {b : Nat} {t : TypeId} {v0 v1 v2 v3 v4 : Value} (h : w.heap[b]? = some (.cells #[v0, v1, v2, v3, v4] t)) : w.frozen? ⟨b, 0, none⟩ = false ∧ w.frozen? ⟨b, 1, none⟩ = false ∧ w.frozen? ⟨b, 2, none⟩ = false ∧ w.frozen? ⟨b, 3, none⟩ = false ∧ w.frozen? ⟨b, 4, none⟩ = false :=
  ⟨frozen_of_row w b _ _ _ h, frozen_of_row w b _ _ _ h, frozen_of_row w b _ _ _ h, frozen_of_row w b _ _ _ h, frozen_of_row w b _ _ _ h⟩

set_option maxHeartbeats 2000000 in
theorem checkAll_ok (k n : Int) (f : Nat) (s : ByteArray) (a : Option Addr) (c : Nat) (kids : List Tr) (w : World) (hin : (Tr.mk k n f s a c kids).In w 0) (hsm : Small (.mk k n f s a c kids)) (hok : ∀ t, t ∈ kids → errT t = 0) : Calls Tryz.prog 70 #[.slice a kids.length c] w fun e w' => e = .returned (.int .i64 0) ∧ Below w.heap.size w w' := by
  have hlen := len_small hin
  have HIN := hidb hin
  have HSM := hidb hsm
  have HOK := hidb hok
  obtain ⟨M, hM⟩ : ∃ M, kids.length = M := ⟨_, rfl⟩
  have HM := hidb hM
  rw [hM] at hlen ⊢
  clear hin hsm hok hM
  go_enter Tryz.func70, Tryz.ntmps70
  go_wp2_with fail
  go_loopw [8] (fun iv wr => ∃ (m : Nat), m ≤ M ∧ iv = .int .i64 m ∧ Below w.heap.size w wr) (fun iv _ => M - (RowKit.intOf iv).toNat)
  case atStart => exact ⟨0, by omega, rfl, Below.refl _ _⟩
  case round =>
  obtain ⟨m, hm, rfl, hby⟩ := hrel
  have HBY := hidb hby
  by_cases hml : m < M
  · have hmb : (m : Int) < (M : Int) := by omega
    have hmz : (0 : Int) ≤ (m : Int) := by omega
    obtain ⟨b, o, rfl, hat⟩ := kid_at (in_below hby HIN.out) (by have := HM.out; omega)
    obtain ⟨k', n', f', s', a', c', kids', hu, hin', c0, c1, c2, c3, c4⟩ := hat m (by have := HM.out; omega)
    have hmem := List.mem_of_getElem? hu
    have CK := hidb (fun (w' : World) (hb : Below wr.heap.size wr w') => check_t (.mk k' n' f' s' a' c' kids') w' (in_below hb hin') (smallAll_get (by have := HSM.out; unfold Small at this; exact this.2) hmem))
    rw [HOK.out _ hmem] at CK
    simp only [Tr.val, Tr.cells] at CK
    generalize kids'.length = tl' at *
    clear hat hu hin' hby hmem
    go_wp2_with (go_at_call 38; refine (CK.out _ (below_new wr _)).mono ?_; rintro e w1 ⟨rfl, hb1⟩; have HB1 := hidb (HBY.out.trans (((below_new wr _).mono HBY.out.size).trans (hb1.mono (Nat.le_trans HBY.out.size (below_new wr _).size)))); clear hb1)
    go_roundw
    case rel => exact ⟨m + 1, by omega, by go_num, HB1.out⟩
    case measure => simp [RowKit.intOf]; omega
  · have hmn : ¬ (m : Int) < (M : Int) := by omega
    clear hby
    go_wp2_with fail
    go_ret
    exact ⟨rfl, HBY.out⟩

theorem err_room (k n : Int) (f : Nat) (s : ByteArray) (a a' : Option Addr) (c c' : Nat) (kids : List Tr) : errT (.mk k n f s a c kids) = errT (.mk k n f s a' c' kids) := by
  unfold errT meas allT goodT
  rfl

/-- term.Tuple of right terms: the tuple, or a limit. -/
def TupR (t : Tr) (w0 : World) (e : Ending) (w' : World) : Prop :=
  Below w0.heap.size w0 w' ∧ ((errT t = 0 ∧ ∃ u : Tr, e = .returned (.tuple #[u.val, .int .i64 0]) ∧ Sm t u ∧ u.In w' w0.heap.size) ∨ (¬ errT t = 0 ∧ e = .returned (.tuple #[.agg #[.int .i64 0, .int .i64 0, .float .f64 0, .string ⟨#[]⟩, .slice none 0 0], .int .i64 12])))

theorem TupR.ok {t : Tr} {w0 w' : World} (hb : Below w0.heap.size w0 w') (h : errT t = 0) (u : Tr) (hs : Sm t u) (hi : u.In w' w0.heap.size) : TupR t w0 (.returned (.tuple #[u.val, .int .i64 0])) w' := ⟨hb, .inl ⟨h, u, rfl, hs, hi⟩⟩
theorem TupR.bad {t : Tr} {w0 w' : World} (hb : Below w0.heap.size w0 w') (h : ¬ errT t = 0) : TupR t w0 (.returned (.tuple #[.agg #[.int .i64 0, .int .i64 0, .float .f64 0, .string ⟨#[]⟩, .slice none 0 0], .int .i64 12])) w' := ⟨hb, .inr ⟨h, rfl⟩⟩

set_option maxRecDepth 100000 in
set_option maxHeartbeats 4000000 in
theorem build_any (a : Option Addr) (c : Nat) (kids : List Tr) (w : World) (hin : (Tr.mk 7 0 0 ⟨#[]⟩ a c kids).In w 0) (hsm : Small (.mk 7 0 0 ⟨#[]⟩ a c kids)) (hcn : cnT (.mk 7 0 0 ⟨#[]⟩ a c kids) ≤ 1000000000) (hok : ∀ t, t ∈ kids → errT t = 0) : Calls Tryz.prog 57 #[.int .i64 7, .slice a kids.length c] w (TupR (.mk 7 0 0 ⟨#[]⟩ a c kids) w) := by
  have CA := hidb (fun (w' : World) (hb : Below w.heap.size w w') => checkAll_ok 7 0 0 ⟨#[]⟩ a c kids w' (in_below hb hin) hsm hok)
  have CK := hidb (fun (w' : World) (hb : Below w.heap.size w w') => check_t (.mk 7 0 0 ⟨#[]⟩ a c kids) w' (in_below hb hin) hsm)
  have CP := hidb (fun (w' : World) (hb : Below w.heap.size w w') => copy_any (.mk 7 0 0 ⟨#[]⟩ a c kids) w' (in_below hb hin) hsm hcn)
  simp only [Tr.val, Tr.cells] at CK CP
  have HR : Hid ((w.alloc (.cells #[.int .i64 0, .int .i64 0, .float .f64 0, .string ⟨#[]⟩, .slice none 0 0] 25)).heap[w.heap.size]? = some (.cells #[.int .i64 0, .int .i64 0, .float .f64 0, .string ⟨#[]⟩, .slice none 0 0] 25)) := hidb (at_new w _)
  have HB : Hid (Below w.heap.size w (w.alloc (.cells #[.int .i64 0, .int .i64 0, .float .f64 0, .string ⟨#[]⟩, .slice none 0 0] 25))) := hidb (below_new w _)
  obtain ⟨E, hE⟩ : ∃ E, errT (.mk 7 0 0 ⟨#[]⟩ a c kids) = E := ⟨_, rfl⟩
  rw [hE] at CK
  have HE := hidb hE
  clear hin hsm hcn hok hE
  by_cases h0 : E = 0
  · subst h0
    obtain ⟨tl, htl⟩ : ∃ tl, kids.length = tl := ⟨_, rfl⟩
    rw [htl] at CA CK CP ⊢
    clear htl
    go_enter Tryz.func57, Tryz.ntmps57
    go_wp2_with (first
      | (go_at_call 70; refine (CA.out _ HB.out).mono ?_; rintro e w1 ⟨rfl, hb1⟩; have HR := hidb (at_keep HR.out hb1); have HB := hidb (HB.out.trans (hb1.mono HB.out.size)); have hlt : w.heap.size < w1.heap.size := (Array.getElem?_eq_some_iff.1 HR.out).1; clear hb1)
      | (go_at_call 38; refine (CK.out _ (HB.out.alloc HB.out.size _)).mono ?_; rintro e w2 ⟨rfl, hb2⟩; have HR := hidb (at_keep (at_keep HR.out (below_new _ _)) hb2); have HT := hidb (at_keep (at_new w1 (.cells #[.int .i64 7, .int .i64 0, .float .f64 0, .string ⟨#[]⟩, .slice a tl c] 25)) hb2); have HB := hidb ((HB.out.alloc HB.out.size _).trans (hb2.mono (HB.out.alloc HB.out.size _).size)); obtain ⟨u0, u1, u2, u3, u4⟩ := box5 HT.out; clear hb2)
      | (go_at_call 39; refine (CP.out _ HB.out).mono ?_; rintro e w3 ⟨⟨k2, n2, f2, s2, a2, c2, kids2⟩, rfl, hs2, hi2, hb3⟩; have HSM := hidb hs2; have HIN := hidb hi2; have HLT := hidb ((show w.heap.size < _ from (Array.getElem?_eq_some_iff.1 HR.out).1)); have HB := hidb (HB.out.trans (hb3.mono HB.out.size)); obtain ⟨r0, r1, r2, r3, r4⟩ := box5 (at_keep HR.out hb3); obtain ⟨g0, g1, g2, g3, g4⟩ := fro5 (at_keep HR.out hb3); clear hb3 hs2 hi2))
    exact bodyPost_ret (v := .tuple #[.agg #[.int .i64 k2, .int .i64 n2, .float .f64 f2, .string s2, .slice a2 kids2.length c2], .int .i64 0]) (by simp [results, Tryz.results57, go_sem, r0, r1, r2, r3, r4]) rfl (TupR.ok (by (repeat (refine Below.setCell ?_ (by first | (simp; done) | (simp; omega)) _)); exact HB.out) HE.out (.mk k2 n2 f2 s2 a2 c2 kids2) HSM.out (in_base (Nat.le_of_lt HLT.out) _ (in_set (in_set (in_set (in_set (in_set HIN.out HLT.out _) HLT.out _) HLT.out _) HLT.out _) HLT.out _)))
  · have h1 : (E != 0) = true := by simpa using h0
    have H0 := hidb (fun e => h0 (HE.out.symm.trans e))
    obtain ⟨tl, htl⟩ : ∃ tl, kids.length = tl := ⟨_, rfl⟩
    rw [htl] at CA CK CP ⊢
    clear htl h0
    go_enter Tryz.func57, Tryz.ntmps57
    go_wp2_with (first
      | (go_at_call 70; refine (CA.out _ HB.out).mono ?_; rintro e w1 ⟨rfl, hb1⟩; have HR := hidb (at_keep HR.out hb1); have HB := hidb (HB.out.trans (hb1.mono HB.out.size)); have hlt : w.heap.size < w1.heap.size := (Array.getElem?_eq_some_iff.1 HR.out).1; clear hb1)
      | (go_at_call 38; refine (CK.out _ (HB.out.alloc HB.out.size _)).mono ?_; rintro e w2 ⟨rfl, hb2⟩; have HR := hidb (at_keep (at_keep HR.out (below_new _ _)) hb2); have HB := hidb ((HB.out.alloc HB.out.size _).trans (hb2.mono (HB.out.alloc HB.out.size _).size)); obtain ⟨r0, r1, r2, r3, r4⟩ := box5 HR.out; obtain ⟨g0, g1, g2, g3, g4⟩ := fro5 HR.out; clear hb2))
    exact bodyPost_ret (v := .tuple #[.agg #[.int .i64 0, .int .i64 0, .float .f64 0, .string ⟨#[]⟩, .slice none 0 0], .int .i64 12]) (by simp [results, Tryz.results57, go_sem, r0, r1, r2, r3, r4]) rfl (TupR.bad (by (repeat (refine Below.setCell ?_ (by first | (simp; done) | (simp; omega)) _)); exact HB.out) H0.out)

set_option maxRecDepth 100000 in
set_option maxHeartbeats 4000000 in
theorem Tuple_any (a : Option Addr) (c : Nat) (kids : List Tr) (w : World) (hin : (Tr.mk 7 0 0 ⟨#[]⟩ a c kids).In w 0) (hsm : Small (.mk 7 0 0 ⟨#[]⟩ a c kids)) (hcn : cnT (.mk 7 0 0 ⟨#[]⟩ a c kids) ≤ 1000000000) (hok : ∀ t, t ∈ kids → errT t = 0) : Calls Tryz.prog 40 #[.slice a kids.length c] w (TupR (.mk 7 0 0 ⟨#[]⟩ a c kids) w) := by
  have BD := hidb (fun (w' : World) (hb : Below w.heap.size w w') => build_any a c kids w' (in_below hb hin) hsm hcn hok)
  have HR : Hid ((w.alloc (.cells #[.int .i64 0, .int .i64 0, .float .f64 0, .string ⟨#[]⟩, .slice none 0 0] 25)).heap[w.heap.size]? = some (.cells #[.int .i64 0, .int .i64 0, .float .f64 0, .string ⟨#[]⟩, .slice none 0 0] 25)) := hidb (at_new w _)
  have HB : Hid (Below w.heap.size w (w.alloc (.cells #[.int .i64 0, .int .i64 0, .float .f64 0, .string ⟨#[]⟩, .slice none 0 0] 25))) := hidb (below_new w _)
  generalize Tr.mk 7 0 0 ⟨#[]⟩ a c kids = T0 at *
  generalize kids.length = tl at *
  clear hin hsm hcn hok
  by_cases h0 : errT T0 = 0
  · have BE : Hid (∀ (w' : World), Below w.heap.size w w' → Calls Tryz.prog 57 #[.int .i64 7, .slice a tl c] w' fun e w1 => ∃ k2 n2 f2 s2 a2 c2 kids2, e = .returned (.tuple #[.agg #[.int .i64 k2, .int .i64 n2, .float .f64 f2, .string s2, .slice a2 (List.length kids2) c2], .int .i64 0]) ∧ Sm T0 (.mk k2 n2 f2 s2 a2 c2 kids2) ∧ (Tr.mk k2 n2 f2 s2 a2 c2 kids2).In w1 w'.heap.size ∧ Below w'.heap.size w' w1) := hidb (fun w' hb => (BD.out w' hb).mono (by
      rintro e w1 ⟨hb1, ⟨-, ⟨k2, n2, f2, s2, a2, c2, kids2⟩, rfl, hs, hi⟩ | ⟨h, -⟩⟩
      · exact ⟨k2, n2, f2, s2, a2, c2, kids2, rfl, hs, hi, hb1⟩
      · exact absurd h0 h))
    have H0 := hidb h0
    clear BD h0
    go_enter Tryz.func40, Tryz.ntmps40
    go_wp2_with (go_at_call 57; refine (BE.out _ HB.out).mono ?_; rintro e w1 ⟨k2, n2, f2, s2, a2, c2, kids2, rfl, hs2, hi2, hb1⟩; have HSM := hidb hs2; have HIN := hidb hi2; have HLT := hidb ((show w.heap.size < _ from (Array.getElem?_eq_some_iff.1 HR.out).1)); have HB := hidb (HB.out.trans (hb1.mono HB.out.size)); obtain ⟨r0, r1, r2, r3, r4⟩ := box5 (at_keep HR.out hb1); obtain ⟨g0, g1, g2, g3, g4⟩ := fro5 (at_keep HR.out hb1); clear hb1 hs2 hi2)
    exact bodyPost_ret (v := .tuple #[.agg #[.int .i64 k2, .int .i64 n2, .float .f64 f2, .string s2, .slice a2 kids2.length c2], .int .i64 0]) (by simp [results, Tryz.results40, go_sem, r0, r1, r2, r3, r4]) rfl (TupR.ok (by (repeat (refine Below.setCell ?_ (by first | (simp; done) | (simp; omega)) _)); exact HB.out) H0.out (.mk k2 n2 f2 s2 a2 c2 kids2) HSM.out (in_base (Nat.le_of_lt HLT.out) _ (in_set (in_set (in_set (in_set (in_set HIN.out HLT.out _) HLT.out _) HLT.out _) HLT.out _) HLT.out _)))
  · have BE : Hid (∀ (w' : World), Below w.heap.size w w' → Calls Tryz.prog 57 #[.int .i64 7, .slice a tl c] w' fun e w1 => e = .returned (.tuple #[.agg #[.int .i64 0, .int .i64 0, .float .f64 0, .string ⟨#[]⟩, .slice none 0 0], .int .i64 12]) ∧ Below w'.heap.size w' w1) := hidb (fun w' hb => (BD.out w' hb).mono (by
      rintro e w1 ⟨hb1, ⟨h, -⟩ | ⟨-, rfl⟩⟩
      · exact absurd h h0
      · exact ⟨rfl, hb1⟩))
    have H0 := hidb h0
    clear BD h0
    go_enter Tryz.func40, Tryz.ntmps40
    go_wp2_with (go_at_call 57; refine (BE.out _ HB.out).mono ?_; rintro e w1 ⟨rfl, hb1⟩; have HB := hidb (HB.out.trans (hb1.mono HB.out.size)); obtain ⟨r0, r1, r2, r3, r4⟩ := box5 (at_keep HR.out hb1); obtain ⟨g0, g1, g2, g3, g4⟩ := fro5 (at_keep HR.out hb1); clear hb1)
    exact bodyPost_ret (v := .tuple #[.agg #[.int .i64 0, .int .i64 0, .float .f64 0, .string ⟨#[]⟩, .slice none 0 0], .int .i64 12]) (by simp [results, Tryz.results40, go_sem, r0, r1, r2, r3, r4]) rfl (TupR.bad (by (repeat (refine Below.setCell ?_ (by first | (simp; done) | (simp; omega)) _)); exact HB.out) H0.out)
end Go.Proofs.YtliebilpddmhkaaGreat


