import Derived.Test.YtliebilpddmhkaaGreatG23
import Derived.Deep.RegionHeld3
import Derived.Deep.RegionWith
/- The outcome of an exit signal that is trapped. -/
namespace Go.Proofs.YtliebilpddmhkaaGreat
open Go.RowKit Go.Lib Go.Deep
attribute [local go_sem] store_float f64bits
attribute [local go_sem ↓] Go.wp_at_zero Go.wp_at_succ

theorem wf_i64 {x : Int} (h0 : -9223372036854775808 ≤ x) (h1 : x ≤ 9223372036854775807) : (Lit.int .i64 x).wf = true := by
  have e0 : IntKind.i64.min = -9223372036854775808 := by decide
  have e1 : IntKind.i64.max = 9223372036854775807 := by decide
  simp [Lit.wf, e0, e1]
  omega
theorem ne_down (n : Nat) : n + 1 ≠ n := by omega
theorem msg_in {x0 : Int} {t : Tr} {w : World} (ht : t.In w 0) (hs : Small t) (hc : cnT t ≤ 800000000) (h0 : errT t = 0) (hl : 0 ≤ x0) (hh : x0 ≤ 1099511627776) (w4 : World) (hb : Below w.heap.size w w4) : MsgIn x0 t ⟨w4.heap.size, 0, none⟩ (w4.alloc (.cells #[.int .i64 3, .int .i64 0, .float .f64 0, .string ⟨#[69, 88, 73, 84]⟩, .slice none 0 0, .int .i64 6, .int .i64 x0, .float .f64 0, .string ⟨#[]⟩, .slice none 0 0] 25)) where
  fr := by
    have h1 := at_new w4 (.cells #[.int .i64 3, .int .i64 0, .float .f64 0, .string ⟨#[69, 88, 73, 84]⟩, .slice none 0 0, .int .i64 6, .int .i64 x0, .float .f64 0, .string ⟨#[]⟩, .slice none 0 0] 25)
    refine inAll_of fun j u hj => ⟨fun i hi => ?_, ?_⟩
    · have e : ((⟨w4.heap.size, 0, none⟩ : Addr).add (j * 5)).add i = ⟨w4.heap.size, j * 5 + i, none⟩ := by
        rw [add_add]
        unfold Addr.add
        split
        · rename_i h0; rw [h0]
        · simp
      rw [e, cell_of_row _ _ _ _ _ _ h1]
      match j, hj with
      | 0, hj =>
        obtain rfl : aTr ⟨#[69, 88, 73, 84]⟩ = u := by simpa using hj
        match i, hi with
        | 0, _ => rfl
        | 1, _ => rfl
        | 2, _ => rfl
        | 3, _ => rfl
        | 4, _ => rfl
      | 1, hj =>
        obtain rfl : pTr x0 = u := by simpa using hj
        match i, hi with
        | 0, _ => rfl
        | 1, _ => rfl
        | 2, _ => rfl
        | 3, _ => rfl
        | 4, _ => rfl
    · match j, hj with
      | 0, hj =>
        obtain rfl : aTr ⟨#[69, 88, 73, 84]⟩ = u := by simpa using hj
        unfold aTr Tr.In
        exact ⟨⟨by decide, by decide, by decide, by decide, Nat.le_refl _, Nat.zero_le _, fun _ => rfl⟩, fun ad h => by simp at h⟩
      | 1, hj =>
        obtain rfl : pTr x0 = u := by simpa using hj
        unfold pTr Tr.In
        exact ⟨⟨by decide, wf_i64 (by omega) (by omega), by decide, by decide, Nat.le_refl _, Nat.zero_le _, fun _ => rfl⟩, fun ad h => by simp at h⟩
  tin := in_below (hb.alloc hb.size _) ht
  sm := hs
  cn := hc
  ok := h0
  lo := hl
  hi := hh

set_option maxRecDepth 100000 in
set_option maxHeartbeats 4000000 in
theorem outcome_trap1 (x0 x1 : Int) (tk tn : Int) (tf : Nat) (ts : ByteArray) (ta : Option Addr) (tc : Nat) (kids : List Tr)  (w : World) (hin : (Tr.mk tk tn tf ts ta tc kids).In w 0) (hsm : Small (.mk tk tn tf ts ta tc kids)) (hcn : cnT (.mk tk tn tf ts ta tc kids) ≤ 800000000) (h0 : errT (.mk tk tn tf ts ta tc kids) = 0) (hl : 0 ≤ x0) (hh : x0 ≤ 1099511627776) : Calls Tryz.prog 53 #[.agg #[.int .i64 x0, .int .i64 x1, .bool true, .int .i64 tk, .int .i64 tn, .float .f64 tf, .string ts, .slice ta kids.length tc], .bool true] w (MsgP x0 (.mk tk tn tf ts ta tc kids) w) := by
  have IA : Hid (∀ (s : ByteArray) (w : World), Calls Tryz.prog 63 #[.agg #[.int .i64 tk, .int .i64 tn, .float .f64 tf, .string ts, .slice ta kids.length tc], .string s] w fun e w' => e = .returned (.bool (isA (.mk tk tn tf ts ta tc kids) s)) ∧ Below w.heap.size w w') := hidb (fun s w => isAtom_cells tk tn tf ts ta kids.length tc s w)
  have AT := hidb (fun w => atom_val ⟨#[69, 88, 73, 84]⟩ w)
  have SE := hidb (fun w => serial_val 6 x0 w)
  obtain ⟨M0, hM0⟩ : ∃ M0, (if errT (msgOf x0 (.mk tk tn tf ts ta tc kids)) = 0 then msgOf x0 (.mk tk tn tf ts ta tc kids) else msgOf x0 sysT) = M0 := ⟨_, rfl⟩
  have HM0 := hidb hM0
  have ME : Hid (∀ w4, Below w.heap.size w w4 → Calls Tryz.prog 64 #[.agg #[.int .i64 tk, .int .i64 tn, .float .f64 tf, .string ts, .slice ta kids.length tc], .slice (some ⟨w4.heap.size, 0, none⟩) 2 2] (w4.alloc (.cells #[.int .i64 3, .int .i64 0, .float .f64 0, .string ⟨#[69, 88, 73, 84]⟩, .slice none 0 0, .int .i64 6, .int .i64 x0, .float .f64 0, .string ⟨#[]⟩, .slice none 0 0] 25)) (fun e w5 => ∃ (k2 n2 : Int) (f2 : Nat) (s2 : ByteArray) (a2 : Option Addr) (c2 : Nat) (kids2 : List Tr), e = .returned (.agg #[.int .i64 1, .int .i64 k2, .int .i64 n2, .float .f64 f2, .string s2, .slice a2 kids2.length c2]) ∧ Sm M0 (.mk k2 n2 f2 s2 a2 c2 kids2) ∧ (Tr.mk k2 n2 f2 s2 a2 c2 kids2).In w5 (w4.alloc (.cells #[.int .i64 3, .int .i64 0, .float .f64 0, .string ⟨#[69, 88, 73, 84]⟩, .slice none 0 0, .int .i64 6, .int .i64 x0, .float .f64 0, .string ⟨#[]⟩, .slice none 0 0] 25)).heap.size ∧ Below (w4.alloc (.cells #[.int .i64 3, .int .i64 0, .float .f64 0, .string ⟨#[69, 88, 73, 84]⟩, .slice none 0 0, .int .i64 6, .int .i64 x0, .float .f64 0, .string ⟨#[]⟩, .slice none 0 0] 25)).heap.size (w4.alloc (.cells #[.int .i64 3, .int .i64 0, .float .f64 0, .string ⟨#[69, 88, 73, 84]⟩, .slice none 0 0, .int .i64 6, .int .i64 x0, .float .f64 0, .string ⟨#[]⟩, .slice none 0 0] 25)) w5)) := hidb (fun w4 hb => (message_any x0 _ tk tn tf ts ta tc kids _ (msg_in hin hsm hcn h0 hl hh w4 hb)).mono (fun e w5 hm => by
    unfold MsgP at hm
    rw [hM0] at hm
    exact hm))
  clear hM0
  clear hin hsm hcn h0 hl hh
  generalize hTT : Tr.mk tk tn tf ts ta tc kids = T0 at *
  clear hTT
  generalize kids.length = tl at *
  have HS : Hid (((w.alloc (.cells #[.int .i64 x0, .int .i64 x1, .bool true, .int .i64 tk, .int .i64 tn, .float .f64 tf, .string ts, .slice ta tl tc] 90)).alloc (.cells #[.int .i64 0, .int .i64 0, .int .i64 0, .float .f64 0, .string ⟨#[]⟩, .slice none 0 0] 31)).heap[w.heap.size]? = some (.cells #[.int .i64 x0, .int .i64 x1, .bool true, .int .i64 tk, .int .i64 tn, .float .f64 tf, .string ts, .slice ta tl tc] 90)) := hidb (at_keep (at_new w _) (below_new _ _))
  have HR : Hid (((w.alloc (.cells #[.int .i64 x0, .int .i64 x1, .bool true, .int .i64 tk, .int .i64 tn, .float .f64 tf, .string ts, .slice ta tl tc] 90)).alloc (.cells #[.int .i64 0, .int .i64 0, .int .i64 0, .float .f64 0, .string ⟨#[]⟩, .slice none 0 0] 31)).heap[w.heap.size + 1]? = some (.cells #[.int .i64 0, .int .i64 0, .int .i64 0, .float .f64 0, .string ⟨#[]⟩, .slice none 0 0] 31)) := hidb (by have := at_new (w.alloc (.cells #[.int .i64 x0, .int .i64 x1, .bool true, .int .i64 tk, .int .i64 tn, .float .f64 tf, .string ts, .slice ta tl tc] 90)) (.cells #[.int .i64 0, .int .i64 0, .int .i64 0, .float .f64 0, .string ⟨#[]⟩, .slice none 0 0] 31); simpa using this)
  have HB : Hid (Below w.heap.size w ((w.alloc (.cells #[.int .i64 x0, .int .i64 x1, .bool true, .int .i64 tk, .int .i64 tn, .float .f64 tf, .string ts, .slice ta tl tc] 90)).alloc (.cells #[.int .i64 0, .int .i64 0, .int .i64 0, .float .f64 0, .string ⟨#[]⟩, .slice none 0 0] 31))) := hidb ((below_new w _).alloc (by simp) _)
  go_enter Tryz.func53, Tryz.ntmps53
  go_wp2_with fail
  generalize ((w.alloc (.cells #[.int .i64 x0, .int .i64 x1, .bool true, .int .i64 tk, .int .i64 tn, .float .f64 tf, .string ts, .slice ta tl tc] 90)).alloc (.cells #[.int .i64 0, .int .i64 0, .int .i64 0, .float .f64 0, .string ⟨#[]⟩, .slice none 0 0] 31)) = w1 at *
  obtain ⟨s0, s1, s2, s3, s4, s5, s6, s7⟩ := box8 HS.out
  have HSC : Hid (w1.drew.cell? ⟨w.heap.size, 0, none⟩ = some (.int .i64 x0) ∧ w1.drew.cell? ⟨w.heap.size, 3, none⟩ = some (.int .i64 tk) ∧ w1.drew.cell? ⟨w.heap.size, 4, none⟩ = some (.int .i64 tn) ∧ w1.drew.cell? ⟨w.heap.size, 5, none⟩ = some (.float .f64 tf) ∧ w1.drew.cell? ⟨w.heap.size, 6, none⟩ = some (.string ts) ∧ w1.drew.cell? ⟨w.heap.size, 7, none⟩ = some (.slice ta tl tc)) := hidb ⟨s0, s3, s4, s5, s6, s7⟩
  have HLT : Hid (w.heap.size + 1 < w1.drew.heap.size) := hidb ((Array.getElem?_eq_some_iff.1 HR.out).1)
  have HRC : Hid (w1.drew.heap[w.heap.size + 1]? = some (.cells #[.int .i64 0, .int .i64 0, .int .i64 0, .float .f64 0, .string ⟨#[]⟩, .slice none 0 0] 31)) := HR
  have HBC : Hid (Below w.heap.size w w1.drew) := hidb HB.out.drew
  clear s0 s1 s2 s3 s4 s5 s6 s7 HS HR HB
  go_region_held3 (fun w' => w'.cell? ⟨w.heap.size, 0, none⟩ = some (.int .i64 x0) ∧ w'.cell? ⟨w.heap.size, 3, none⟩ = some (.int .i64 tk) ∧ w'.cell? ⟨w.heap.size, 4, none⟩ = some (.int .i64 tn) ∧ w'.cell? ⟨w.heap.size, 5, none⟩ = some (.float .f64 tf) ∧ w'.cell? ⟨w.heap.size, 6, none⟩ = some (.string ts) ∧ w'.cell? ⟨w.heap.size, 7, none⟩ = some (.slice ta tl tc)) (first | with_reducible exact HSC.out | (simp only [cell_past (ne_down _)]; with_reducible exact HSC.out) | (simp only [cell_old HLS.out]; with_reducible exact HSC.out)) (first
    | (go_at_call 41; refine (AT.out _).mono ?_; rintro e w2 ⟨rfl, hb2⟩; have HSC : Hid (w2.cell? ⟨w.heap.size, 0, none⟩ = some (.int .i64 x0) ∧ w2.cell? ⟨w.heap.size, 3, none⟩ = some (.int .i64 tk) ∧ w2.cell? ⟨w.heap.size, 4, none⟩ = some (.int .i64 tn) ∧ w2.cell? ⟨w.heap.size, 5, none⟩ = some (.float .f64 tf) ∧ w2.cell? ⟨w.heap.size, 6, none⟩ = some (.string ts) ∧ w2.cell? ⟨w.heap.size, 7, none⟩ = some (.slice ta tl tc)) := hidb ⟨(hb2.cell (p := ⟨w.heap.size, 0, none⟩) (Nat.lt_of_succ_lt HLT.out)).trans HSC.out.1, (hb2.cell (p := ⟨w.heap.size, 3, none⟩) (Nat.lt_of_succ_lt HLT.out)).trans HSC.out.2.1, (hb2.cell (p := ⟨w.heap.size, 4, none⟩) (Nat.lt_of_succ_lt HLT.out)).trans HSC.out.2.2.1, (hb2.cell (p := ⟨w.heap.size, 5, none⟩) (Nat.lt_of_succ_lt HLT.out)).trans HSC.out.2.2.2.1, (hb2.cell (p := ⟨w.heap.size, 6, none⟩) (Nat.lt_of_succ_lt HLT.out)).trans HSC.out.2.2.2.2.1, (hb2.cell (p := ⟨w.heap.size, 7, none⟩) (Nat.lt_of_succ_lt HLT.out)).trans HSC.out.2.2.2.2.2⟩; have HLT := hidb (Nat.lt_of_lt_of_le HLT.out hb2.size); have HLS := hidb (Nat.lt_of_succ_lt HLT.out); have HRC := hidb (at_keep HRC.out hb2); have HBC := hidb (HBC.out.trans (hb2.mono HBC.out.size)); clear hb2)
    | (go_at_call 65; refine (SE.out _).mono ?_; rintro e w2 ⟨rfl, hb2⟩; have HSC : Hid (w2.cell? ⟨w.heap.size, 0, none⟩ = some (.int .i64 x0) ∧ w2.cell? ⟨w.heap.size, 3, none⟩ = some (.int .i64 tk) ∧ w2.cell? ⟨w.heap.size, 4, none⟩ = some (.int .i64 tn) ∧ w2.cell? ⟨w.heap.size, 5, none⟩ = some (.float .f64 tf) ∧ w2.cell? ⟨w.heap.size, 6, none⟩ = some (.string ts) ∧ w2.cell? ⟨w.heap.size, 7, none⟩ = some (.slice ta tl tc)) := hidb ⟨(hb2.cell (p := ⟨w.heap.size, 0, none⟩) (Nat.lt_of_succ_lt HLT.out)).trans HSC.out.1, (hb2.cell (p := ⟨w.heap.size, 3, none⟩) (Nat.lt_of_succ_lt HLT.out)).trans HSC.out.2.1, (hb2.cell (p := ⟨w.heap.size, 4, none⟩) (Nat.lt_of_succ_lt HLT.out)).trans HSC.out.2.2.1, (hb2.cell (p := ⟨w.heap.size, 5, none⟩) (Nat.lt_of_succ_lt HLT.out)).trans HSC.out.2.2.2.1, (hb2.cell (p := ⟨w.heap.size, 6, none⟩) (Nat.lt_of_succ_lt HLT.out)).trans HSC.out.2.2.2.2.1, (hb2.cell (p := ⟨w.heap.size, 7, none⟩) (Nat.lt_of_succ_lt HLT.out)).trans HSC.out.2.2.2.2.2⟩; have HLT := hidb (Nat.lt_of_lt_of_le HLT.out hb2.size); have HLS := hidb (Nat.lt_of_succ_lt HLT.out); have HRC := hidb (at_keep HRC.out hb2); have HBC := hidb (HBC.out.trans (hb2.mono HBC.out.size)); clear hb2)
    | (go_at_call 64; refine (ME.out _ HBC.out).mono ?_; rintro e w3 ⟨k2, n2, f2, s2, a2, c2, kids2, rfl, hs3, hi3, hb3⟩; have hb3' := (HBC.out.alloc HBC.out.size _).trans (hb3.mono (HBC.out.alloc HBC.out.size _).size); have HSC : Hid (w3.cell? ⟨w.heap.size, 0, none⟩ = some (.int .i64 x0) ∧ w3.cell? ⟨w.heap.size, 3, none⟩ = some (.int .i64 tk) ∧ w3.cell? ⟨w.heap.size, 4, none⟩ = some (.int .i64 tn) ∧ w3.cell? ⟨w.heap.size, 5, none⟩ = some (.float .f64 tf) ∧ w3.cell? ⟨w.heap.size, 6, none⟩ = some (.string ts) ∧ w3.cell? ⟨w.heap.size, 7, none⟩ = some (.slice ta tl tc)) := hidb (by have hbn := (below_new _ (.cells #[.int .i64 3, .int .i64 0, .float .f64 0, .string ⟨#[69, 88, 73, 84]⟩, .slice none 0 0, .int .i64 6, .int .i64 x0, .float .f64 0, .string ⟨#[]⟩, .slice none 0 0] 25)).trans (hb3.mono (below_new _ _).size); exact ⟨(hbn.cell (p := ⟨w.heap.size, 0, none⟩) HLS.out).trans HSC.out.1, (hbn.cell (p := ⟨w.heap.size, 3, none⟩) HLS.out).trans HSC.out.2.1, (hbn.cell (p := ⟨w.heap.size, 4, none⟩) HLS.out).trans HSC.out.2.2.1, (hbn.cell (p := ⟨w.heap.size, 5, none⟩) HLS.out).trans HSC.out.2.2.2.1, (hbn.cell (p := ⟨w.heap.size, 6, none⟩) HLS.out).trans HSC.out.2.2.2.2.1, (hbn.cell (p := ⟨w.heap.size, 7, none⟩) HLS.out).trans HSC.out.2.2.2.2.2⟩); have HRC := hidb (at_keep (at_keep HRC.out (below_new _ _)) hb3); have HSM := hidb hs3; have HL3 := hidb (Nat.lt_of_lt_of_le HLT.out (below_new _ (.cells #[.int .i64 3, .int .i64 0, .float .f64 0, .string ⟨#[69, 88, 73, 84]⟩, .slice none 0 0, .int .i64 6, .int .i64 x0, .float .f64 0, .string ⟨#[]⟩, .slice none 0 0] 25)).size); have HIN := hidb hi3; have HBC := hidb hb3'; obtain ⟨r0, r1, r2, r3, r4, r5⟩ := box6 HRC.out; obtain ⟨g0, g1, g2, g3, g4, g5⟩ := fro6 HRC.out; clear hb3 hb3' hs3 hi3))
  go_wp2_with fail
  refine bodyPost_ret (v := .agg #[.int .i64 1, .int .i64 k2, .int .i64 n2, .float .f64 f2, .string s2, .slice a2 kids2.length c2]) ?_ rfl (MsgP.mk HM0.out HSM.out ?_ ?_)
  · simp [results, Tryz.results53, go_sem, r0, r1, r2, r3, r4, r5]
  · exact in_base (Nat.le_of_lt (Nat.lt_of_succ_lt HL3.out)) _ (in_set (in_set (in_set (in_set (in_set (in_set HIN.out HL3.out _) HL3.out _) HL3.out _) HL3.out _) HL3.out _) HL3.out _)
  · exact (((((HBC.out.setCell (by simp) _).setCell (by simp) _).setCell (by simp) _).setCell (by simp) _).setCell (by simp) _).setCell (by simp) _

set_option maxRecDepth 100000 in
set_option maxHeartbeats 4000000 in
theorem outcome_trap2 (x0 x1 : Int) (tk tn : Int) (tf : Nat) (ts : ByteArray) (ta : Option Addr) (tc : Nat) (kids : List Tr) (hK : isA (.mk tk tn tf ts ta tc kids) ⟨#[107, 105, 108, 108]⟩ = false) (w : World) (hin : (Tr.mk tk tn tf ts ta tc kids).In w 0) (hsm : Small (.mk tk tn tf ts ta tc kids)) (hcn : cnT (.mk tk tn tf ts ta tc kids) ≤ 800000000) (h0 : errT (.mk tk tn tf ts ta tc kids) = 0) (hl : 0 ≤ x0) (hh : x0 ≤ 1099511627776) : Calls Tryz.prog 53 #[.agg #[.int .i64 x0, .int .i64 x1, .bool false, .int .i64 tk, .int .i64 tn, .float .f64 tf, .string ts, .slice ta kids.length tc], .bool true] w (MsgP x0 (.mk tk tn tf ts ta tc kids) w) := by
  have IA : Hid (∀ (s : ByteArray) (w : World), Calls Tryz.prog 63 #[.agg #[.int .i64 tk, .int .i64 tn, .float .f64 tf, .string ts, .slice ta kids.length tc], .string s] w fun e w' => e = .returned (.bool (isA (.mk tk tn tf ts ta tc kids) s)) ∧ Below w.heap.size w w') := hidb (fun s w => isAtom_cells tk tn tf ts ta kids.length tc s w)
  have AT := hidb (fun w => atom_val ⟨#[69, 88, 73, 84]⟩ w)
  have SE := hidb (fun w => serial_val 6 x0 w)
  obtain ⟨M0, hM0⟩ : ∃ M0, (if errT (msgOf x0 (.mk tk tn tf ts ta tc kids)) = 0 then msgOf x0 (.mk tk tn tf ts ta tc kids) else msgOf x0 sysT) = M0 := ⟨_, rfl⟩
  have HM0 := hidb hM0
  have ME : Hid (∀ w4, Below w.heap.size w w4 → Calls Tryz.prog 64 #[.agg #[.int .i64 tk, .int .i64 tn, .float .f64 tf, .string ts, .slice ta kids.length tc], .slice (some ⟨w4.heap.size, 0, none⟩) 2 2] (w4.alloc (.cells #[.int .i64 3, .int .i64 0, .float .f64 0, .string ⟨#[69, 88, 73, 84]⟩, .slice none 0 0, .int .i64 6, .int .i64 x0, .float .f64 0, .string ⟨#[]⟩, .slice none 0 0] 25)) (fun e w5 => ∃ (k2 n2 : Int) (f2 : Nat) (s2 : ByteArray) (a2 : Option Addr) (c2 : Nat) (kids2 : List Tr), e = .returned (.agg #[.int .i64 1, .int .i64 k2, .int .i64 n2, .float .f64 f2, .string s2, .slice a2 kids2.length c2]) ∧ Sm M0 (.mk k2 n2 f2 s2 a2 c2 kids2) ∧ (Tr.mk k2 n2 f2 s2 a2 c2 kids2).In w5 (w4.alloc (.cells #[.int .i64 3, .int .i64 0, .float .f64 0, .string ⟨#[69, 88, 73, 84]⟩, .slice none 0 0, .int .i64 6, .int .i64 x0, .float .f64 0, .string ⟨#[]⟩, .slice none 0 0] 25)).heap.size ∧ Below (w4.alloc (.cells #[.int .i64 3, .int .i64 0, .float .f64 0, .string ⟨#[69, 88, 73, 84]⟩, .slice none 0 0, .int .i64 6, .int .i64 x0, .float .f64 0, .string ⟨#[]⟩, .slice none 0 0] 25)).heap.size (w4.alloc (.cells #[.int .i64 3, .int .i64 0, .float .f64 0, .string ⟨#[69, 88, 73, 84]⟩, .slice none 0 0, .int .i64 6, .int .i64 x0, .float .f64 0, .string ⟨#[]⟩, .slice none 0 0] 25)) w5)) := hidb (fun w4 hb => (message_any x0 _ tk tn tf ts ta tc kids _ (msg_in hin hsm hcn h0 hl hh w4 hb)).mono (fun e w5 hm => by
    unfold MsgP at hm
    rw [hM0] at hm
    exact hm))
  clear hM0
  clear hin hsm hcn h0 hl hh
  generalize hTT : Tr.mk tk tn tf ts ta tc kids = T0 at *
  clear hTT
  generalize kids.length = tl at *
  have HS : Hid (((w.alloc (.cells #[.int .i64 x0, .int .i64 x1, .bool false, .int .i64 tk, .int .i64 tn, .float .f64 tf, .string ts, .slice ta tl tc] 90)).alloc (.cells #[.int .i64 0, .int .i64 0, .int .i64 0, .float .f64 0, .string ⟨#[]⟩, .slice none 0 0] 31)).heap[w.heap.size]? = some (.cells #[.int .i64 x0, .int .i64 x1, .bool false, .int .i64 tk, .int .i64 tn, .float .f64 tf, .string ts, .slice ta tl tc] 90)) := hidb (at_keep (at_new w _) (below_new _ _))
  have HR : Hid (((w.alloc (.cells #[.int .i64 x0, .int .i64 x1, .bool false, .int .i64 tk, .int .i64 tn, .float .f64 tf, .string ts, .slice ta tl tc] 90)).alloc (.cells #[.int .i64 0, .int .i64 0, .int .i64 0, .float .f64 0, .string ⟨#[]⟩, .slice none 0 0] 31)).heap[w.heap.size + 1]? = some (.cells #[.int .i64 0, .int .i64 0, .int .i64 0, .float .f64 0, .string ⟨#[]⟩, .slice none 0 0] 31)) := hidb (by have := at_new (w.alloc (.cells #[.int .i64 x0, .int .i64 x1, .bool false, .int .i64 tk, .int .i64 tn, .float .f64 tf, .string ts, .slice ta tl tc] 90)) (.cells #[.int .i64 0, .int .i64 0, .int .i64 0, .float .f64 0, .string ⟨#[]⟩, .slice none 0 0] 31); simpa using this)
  have HB : Hid (Below w.heap.size w ((w.alloc (.cells #[.int .i64 x0, .int .i64 x1, .bool false, .int .i64 tk, .int .i64 tn, .float .f64 tf, .string ts, .slice ta tl tc] 90)).alloc (.cells #[.int .i64 0, .int .i64 0, .int .i64 0, .float .f64 0, .string ⟨#[]⟩, .slice none 0 0] 31))) := hidb ((below_new w _).alloc (by simp) _)
  go_enter Tryz.func53, Tryz.ntmps53
  go_wp2_with (go_at_call 63; refine (IA.out _ _).mono ?_; rw [hK]; rintro e w1 ⟨rfl, hb1⟩; have HB := hidb (HB.out.trans (hb1.mono HB.out.size)); have HS := hidb (at_keep HS.out hb1); have HR := hidb (at_keep HR.out hb1); clear hb1)
  
  obtain ⟨s0, s1, s2, s3, s4, s5, s6, s7⟩ := box8 HS.out
  have HSC : Hid (w1.drew.cell? ⟨w.heap.size, 0, none⟩ = some (.int .i64 x0) ∧ w1.drew.cell? ⟨w.heap.size, 3, none⟩ = some (.int .i64 tk) ∧ w1.drew.cell? ⟨w.heap.size, 4, none⟩ = some (.int .i64 tn) ∧ w1.drew.cell? ⟨w.heap.size, 5, none⟩ = some (.float .f64 tf) ∧ w1.drew.cell? ⟨w.heap.size, 6, none⟩ = some (.string ts) ∧ w1.drew.cell? ⟨w.heap.size, 7, none⟩ = some (.slice ta tl tc)) := hidb ⟨s0, s3, s4, s5, s6, s7⟩
  have HLT : Hid (w.heap.size + 1 < w1.drew.heap.size) := hidb ((Array.getElem?_eq_some_iff.1 HR.out).1)
  have HRC : Hid (w1.drew.heap[w.heap.size + 1]? = some (.cells #[.int .i64 0, .int .i64 0, .int .i64 0, .float .f64 0, .string ⟨#[]⟩, .slice none 0 0] 31)) := HR
  have HBC : Hid (Below w.heap.size w w1.drew) := hidb HB.out.drew
  clear s0 s1 s2 s3 s4 s5 s6 s7 HS HR HB
  go_region_held3 (fun w' => w'.cell? ⟨w.heap.size, 0, none⟩ = some (.int .i64 x0) ∧ w'.cell? ⟨w.heap.size, 3, none⟩ = some (.int .i64 tk) ∧ w'.cell? ⟨w.heap.size, 4, none⟩ = some (.int .i64 tn) ∧ w'.cell? ⟨w.heap.size, 5, none⟩ = some (.float .f64 tf) ∧ w'.cell? ⟨w.heap.size, 6, none⟩ = some (.string ts) ∧ w'.cell? ⟨w.heap.size, 7, none⟩ = some (.slice ta tl tc)) (first | with_reducible exact HSC.out | (simp only [cell_past (ne_down _)]; with_reducible exact HSC.out) | (simp only [cell_old HLS.out]; with_reducible exact HSC.out)) (first
    | (go_at_call 41; refine (AT.out _).mono ?_; rintro e w2 ⟨rfl, hb2⟩; have HSC : Hid (w2.cell? ⟨w.heap.size, 0, none⟩ = some (.int .i64 x0) ∧ w2.cell? ⟨w.heap.size, 3, none⟩ = some (.int .i64 tk) ∧ w2.cell? ⟨w.heap.size, 4, none⟩ = some (.int .i64 tn) ∧ w2.cell? ⟨w.heap.size, 5, none⟩ = some (.float .f64 tf) ∧ w2.cell? ⟨w.heap.size, 6, none⟩ = some (.string ts) ∧ w2.cell? ⟨w.heap.size, 7, none⟩ = some (.slice ta tl tc)) := hidb ⟨(hb2.cell (p := ⟨w.heap.size, 0, none⟩) (Nat.lt_of_succ_lt HLT.out)).trans HSC.out.1, (hb2.cell (p := ⟨w.heap.size, 3, none⟩) (Nat.lt_of_succ_lt HLT.out)).trans HSC.out.2.1, (hb2.cell (p := ⟨w.heap.size, 4, none⟩) (Nat.lt_of_succ_lt HLT.out)).trans HSC.out.2.2.1, (hb2.cell (p := ⟨w.heap.size, 5, none⟩) (Nat.lt_of_succ_lt HLT.out)).trans HSC.out.2.2.2.1, (hb2.cell (p := ⟨w.heap.size, 6, none⟩) (Nat.lt_of_succ_lt HLT.out)).trans HSC.out.2.2.2.2.1, (hb2.cell (p := ⟨w.heap.size, 7, none⟩) (Nat.lt_of_succ_lt HLT.out)).trans HSC.out.2.2.2.2.2⟩; have HLT := hidb (Nat.lt_of_lt_of_le HLT.out hb2.size); have HLS := hidb (Nat.lt_of_succ_lt HLT.out); have HRC := hidb (at_keep HRC.out hb2); have HBC := hidb (HBC.out.trans (hb2.mono HBC.out.size)); clear hb2)
    | (go_at_call 65; refine (SE.out _).mono ?_; rintro e w2 ⟨rfl, hb2⟩; have HSC : Hid (w2.cell? ⟨w.heap.size, 0, none⟩ = some (.int .i64 x0) ∧ w2.cell? ⟨w.heap.size, 3, none⟩ = some (.int .i64 tk) ∧ w2.cell? ⟨w.heap.size, 4, none⟩ = some (.int .i64 tn) ∧ w2.cell? ⟨w.heap.size, 5, none⟩ = some (.float .f64 tf) ∧ w2.cell? ⟨w.heap.size, 6, none⟩ = some (.string ts) ∧ w2.cell? ⟨w.heap.size, 7, none⟩ = some (.slice ta tl tc)) := hidb ⟨(hb2.cell (p := ⟨w.heap.size, 0, none⟩) (Nat.lt_of_succ_lt HLT.out)).trans HSC.out.1, (hb2.cell (p := ⟨w.heap.size, 3, none⟩) (Nat.lt_of_succ_lt HLT.out)).trans HSC.out.2.1, (hb2.cell (p := ⟨w.heap.size, 4, none⟩) (Nat.lt_of_succ_lt HLT.out)).trans HSC.out.2.2.1, (hb2.cell (p := ⟨w.heap.size, 5, none⟩) (Nat.lt_of_succ_lt HLT.out)).trans HSC.out.2.2.2.1, (hb2.cell (p := ⟨w.heap.size, 6, none⟩) (Nat.lt_of_succ_lt HLT.out)).trans HSC.out.2.2.2.2.1, (hb2.cell (p := ⟨w.heap.size, 7, none⟩) (Nat.lt_of_succ_lt HLT.out)).trans HSC.out.2.2.2.2.2⟩; have HLT := hidb (Nat.lt_of_lt_of_le HLT.out hb2.size); have HLS := hidb (Nat.lt_of_succ_lt HLT.out); have HRC := hidb (at_keep HRC.out hb2); have HBC := hidb (HBC.out.trans (hb2.mono HBC.out.size)); clear hb2)
    | (go_at_call 64; refine (ME.out _ HBC.out).mono ?_; rintro e w3 ⟨k2, n2, f2, s2, a2, c2, kids2, rfl, hs3, hi3, hb3⟩; have hb3' := (HBC.out.alloc HBC.out.size _).trans (hb3.mono (HBC.out.alloc HBC.out.size _).size); have HSC : Hid (w3.cell? ⟨w.heap.size, 0, none⟩ = some (.int .i64 x0) ∧ w3.cell? ⟨w.heap.size, 3, none⟩ = some (.int .i64 tk) ∧ w3.cell? ⟨w.heap.size, 4, none⟩ = some (.int .i64 tn) ∧ w3.cell? ⟨w.heap.size, 5, none⟩ = some (.float .f64 tf) ∧ w3.cell? ⟨w.heap.size, 6, none⟩ = some (.string ts) ∧ w3.cell? ⟨w.heap.size, 7, none⟩ = some (.slice ta tl tc)) := hidb (by have hbn := (below_new _ (.cells #[.int .i64 3, .int .i64 0, .float .f64 0, .string ⟨#[69, 88, 73, 84]⟩, .slice none 0 0, .int .i64 6, .int .i64 x0, .float .f64 0, .string ⟨#[]⟩, .slice none 0 0] 25)).trans (hb3.mono (below_new _ _).size); exact ⟨(hbn.cell (p := ⟨w.heap.size, 0, none⟩) HLS.out).trans HSC.out.1, (hbn.cell (p := ⟨w.heap.size, 3, none⟩) HLS.out).trans HSC.out.2.1, (hbn.cell (p := ⟨w.heap.size, 4, none⟩) HLS.out).trans HSC.out.2.2.1, (hbn.cell (p := ⟨w.heap.size, 5, none⟩) HLS.out).trans HSC.out.2.2.2.1, (hbn.cell (p := ⟨w.heap.size, 6, none⟩) HLS.out).trans HSC.out.2.2.2.2.1, (hbn.cell (p := ⟨w.heap.size, 7, none⟩) HLS.out).trans HSC.out.2.2.2.2.2⟩); have HRC := hidb (at_keep (at_keep HRC.out (below_new _ _)) hb3); have HSM := hidb hs3; have HL3 := hidb (Nat.lt_of_lt_of_le HLT.out (below_new _ (.cells #[.int .i64 3, .int .i64 0, .float .f64 0, .string ⟨#[69, 88, 73, 84]⟩, .slice none 0 0, .int .i64 6, .int .i64 x0, .float .f64 0, .string ⟨#[]⟩, .slice none 0 0] 25)).size); have HIN := hidb hi3; have HBC := hidb hb3'; obtain ⟨r0, r1, r2, r3, r4, r5⟩ := box6 HRC.out; obtain ⟨g0, g1, g2, g3, g4, g5⟩ := fro6 HRC.out; clear hb3 hb3' hs3 hi3))
  go_wp2_with fail
  refine bodyPost_ret (v := .agg #[.int .i64 1, .int .i64 k2, .int .i64 n2, .float .f64 f2, .string s2, .slice a2 kids2.length c2]) ?_ rfl (MsgP.mk HM0.out HSM.out ?_ ?_)
  · simp [results, Tryz.results53, go_sem, r0, r1, r2, r3, r4, r5]
  · exact in_base (Nat.le_of_lt (Nat.lt_of_succ_lt HL3.out)) _ (in_set (in_set (in_set (in_set (in_set (in_set HIN.out HL3.out _) HL3.out _) HL3.out _) HL3.out _) HL3.out _) HL3.out _)
  · exact (((((HBC.out.setCell (by simp) _).setCell (by simp) _).setCell (by simp) _).setCell (by simp) _).setCell (by simp) _).setCell (by simp) _
end Go.Proofs.YtliebilpddmhkaaGreat


/- The outcome of an exit signal; exits.Act. -/
namespace Go.Proofs.YtliebilpddmhkaaGreat
open Go.RowKit Go.Lib Go.Deep
attribute [local go_sem] store_float f64bits
attribute [local go_sem ↓] Go.wp_at_zero Go.wp_at_succ
attribute [local go_sem] ta_exit_exit

theorem leaf0 (k n : Int) (s : ByteArray) (hk : (Lit.int .i64 k).wf = true) (hn : (Lit.int .i64 n).wf = true) (hs : s.size ≤ maxLen) (w : World) (B : Nat) : (Tr.mk k n 0 s none 0 []).In w B := by
  unfold Tr.In
  exact ⟨⟨hk, hn, by decide, hs, Nat.le_refl _, Nat.zero_le _, fun _ => rfl⟩, fun ad h => by simp at h⟩
theorem MsgP.opened {x0 : Int} {t : Tr} {w w' : World} {e : Ending} (h : MsgP x0 t w e w') : ∃ M, (if errT (msgOf x0 t) = 0 then msgOf x0 t else msgOf x0 sysT) = M ∧ ∃ (k2 n2 : Int) (f2 : Nat) (s2 : ByteArray) (a2 : Option Addr) (c2 : Nat) (kids2 : List Tr), e = .returned (.agg #[.int .i64 1, .int .i64 k2, .int .i64 n2, .float .f64 f2, .string s2, .slice a2 kids2.length c2]) ∧ Sm M (.mk k2 n2 f2 s2 a2 c2 kids2) ∧ (Tr.mk k2 n2 f2 s2 a2 c2 kids2).In w' w.heap.size ∧ Below w.heap.size w w' := by
  unfold MsgP at h
  generalize (if errT (msgOf x0 t) = 0 then msgOf x0 t else msgOf x0 sysT) = M at h
  exact ⟨M, rfl, h⟩
theorem OcR.trap {x0 x1 : Int} {lk : Bool} {t M u : Tr} (hk : ¬ (!lk && isA t ⟨#[107, 105, 108, 108]⟩) = true) (hM : (if errT (msgOf x0 t) = 0 then msgOf x0 t else msgOf x0 sysT) = M) (hs : Sm M u) : OcR x0 x1 lk true t 1 u := by
  unfold OcR
  rw [hM, if_neg hk, if_pos (show true = true from rfl)]
  exact ⟨rfl, hs⟩
theorem outcome_any (x0 x1 : Int) (lk trap : Bool) (tk tn : Int) (tf : Nat) (ts : ByteArray) (ta : Option Addr) (tc : Nat) (kids : List Tr) (w : World) (hin : (Tr.mk tk tn tf ts ta tc kids).In w 0) (hsm : Small (.mk tk tn tf ts ta tc kids)) (hcn : cnT (.mk tk tn tf ts ta tc kids) ≤ 800000000) (h0 : errT (.mk tk tn tf ts ta tc kids) = 0) (hl : 0 ≤ x0) (hh : x0 ≤ 1099511627776) : Calls Tryz.prog 53 #[.agg #[.int .i64 x0, .int .i64 x1, .bool lk, .int .i64 tk, .int .i64 tn, .float .f64 tf, .string ts, .slice ta kids.length tc], .bool trap] w (fun e w' => ∃ (k0 : Int) (k2 n2 : Int) (f2 : Nat) (s2 : ByteArray) (a2 : Option Addr) (c2 : Nat) (kids2 : List Tr), e = .returned (.agg #[.int .i64 k0, .int .i64 k2, .int .i64 n2, .float .f64 f2, .string s2, .slice a2 kids2.length c2]) ∧ OcR x0 x1 lk trap (.mk tk tn tf ts ta tc kids) k0 (.mk k2 n2 f2 s2 a2 c2 kids2) ∧ (Tr.mk k2 n2 f2 s2 a2 c2 kids2).In w' w.heap.size ∧ Below w.heap.size w w') := by
  by_cases hk : (!lk && isA (.mk tk tn tf ts ta tc kids) ⟨#[107, 105, 108, 108]⟩) = true
  · have h1 : lk = false := by cases lk <;> simp_all
    subst h1
    have h2 : isA (.mk tk tn tf ts ta tc kids) ⟨#[107, 105, 108, 108]⟩ = true := by simpa using hk
    refine (outcome_kill x0 x1 tk tn tf ts ta tc kids trap h2 w).mono ?_
    rintro e w' ⟨rfl, hb⟩
    refine ⟨2, 3, 0, 0, ⟨#[107, 105, 108, 108, 101, 100]⟩, none, 0, [], rfl, ?_, leaf0 3 0 _ (by decide) (by decide) (by decide) _ _, hb⟩
    unfold OcR
    rw [if_pos hk]
    exact ⟨rfl, rfl⟩
  have hk' : lk = true ∨ isA (.mk tk tn tf ts ta tc kids) ⟨#[107, 105, 108, 108]⟩ = false := by cases lk <;> simp_all
  by_cases ht : trap = true
  · subst ht
    have hm : Calls Tryz.prog 53 #[.agg #[.int .i64 x0, .int .i64 x1, .bool lk, .int .i64 tk, .int .i64 tn, .float .f64 tf, .string ts, .slice ta kids.length tc], .bool true] w (MsgP x0 (.mk tk tn tf ts ta tc kids) w) := by
      cases lk with
      | true => exact outcome_trap1 x0 x1 tk tn tf ts ta tc kids w hin hsm hcn h0 hl hh
      | false => exact outcome_trap2 x0 x1 tk tn tf ts ta tc kids (by simpa using hk') w hin hsm hcn h0 hl hh
    refine hm.mono ?_
    intro e w' hm
    obtain ⟨M, hM, k2, n2, f2, s2, a2, c2, kids2, rfl, hs, hi, hb⟩ := MsgP.opened hm
    exact ⟨1, k2, n2, f2, s2, a2, c2, kids2, rfl, OcR.trap hk hM hs, hi, hb⟩
  have ht' : trap = false := by simpa using ht
  subst ht'
  by_cases hn : (isA (.mk tk tn tf ts ta tc kids) ⟨#[110, 111, 114, 109, 97, 108]⟩ && (lk || decide (x0 ≠ x1))) = true
  · have hm : Calls Tryz.prog 53 #[.agg #[.int .i64 x0, .int .i64 x1, .bool lk, .int .i64 tk, .int .i64 tn, .float .f64 tf, .string ts, .slice ta kids.length tc], .bool false] w (fun e w' => e = .returned (.agg #[.int .i64 0, .int .i64 0, .int .i64 0, .float .f64 0, .string ⟨#[]⟩, .slice none 0 0]) ∧ Below w.heap.size w w') := by
      cases lk with
      | true => exact outcome_none1 x0 x1 tk tn tf ts ta tc kids (by simpa using hn) w
      | false => exact outcome_none2 x0 x1 tk tn tf ts ta tc kids (by simpa using hk') (by simp at hn; exact hn.2) (by simp at hn; exact hn.1) w
    refine hm.mono ?_
    rintro e w' ⟨rfl, hb⟩
    refine ⟨0, 0, 0, 0, ⟨#[]⟩, none, 0, [], rfl, ?_, leaf0 0 0 _ (by decide) (by decide) (by decide) _ _, hb⟩
    unfold OcR
    rw [if_neg hk, if_neg (show ¬ false = true by simp), if_pos hn]
    exact ⟨rfl, rfl⟩
  · have hm : Calls Tryz.prog 53 #[.agg #[.int .i64 x0, .int .i64 x1, .bool lk, .int .i64 tk, .int .i64 tn, .float .f64 tf, .string ts, .slice ta kids.length tc], .bool false] w (fun e w' => ∃ u : Tr, e = .returned (.agg (#[.int .i64 2] ++ u.cells.toArray)) ∧ Sm (.mk tk tn tf ts ta tc kids) u ∧ u.In w' w.heap.size ∧ Below w.heap.size w w') := by
      cases lk with
      | true => exact outcome_copy1 x0 x1 tk tn tf ts ta tc kids (by simpa using hn) w hin hsm (by omega)
      | false =>
        by_cases hnn : isA (.mk tk tn tf ts ta tc kids) ⟨#[110, 111, 114, 109, 97, 108]⟩ = true
        · exact outcome_copy3 x0 x1 tk tn tf ts ta tc kids (by simpa using hk') hnn (by rw [hnn] at hn; simpa using hn) w hin hsm (by omega)
        · exact outcome_copy2 x0 x1 tk tn tf ts ta tc kids (by simpa using hk') (by simpa using hnn) w hin hsm (by omega)
    refine hm.mono ?_
    rintro e w' ⟨⟨k2, n2, f2, s2, a2, c2, kids2⟩, rfl, hs, hi, hb⟩
    refine ⟨2, k2, n2, f2, s2, a2, c2, kids2, rfl, ?_, hi, hb⟩
    unfold OcR
    rw [if_neg hk, if_neg (show ¬ false = true by simp), if_neg hn]
    exact ⟨rfl, hs⟩

set_option maxRecDepth 100000 in
set_option maxHeartbeats 4000000 in
theorem exitOutcome_any (x0 x1 : Int) (lk trap : Bool) (tk tn : Int) (tf : Nat) (ts : ByteArray) (ta : Option Addr) (tc : Nat) (kids : List Tr) (w : World) (hin : (Tr.mk tk tn tf ts ta tc kids).In w 0) (hsm : Small (.mk tk tn tf ts ta tc kids)) (hcn : cnT (.mk tk tn tf ts ta tc kids) ≤ 800000000) (h0 : errT (.mk tk tn tf ts ta tc kids) = 0) (hl : 0 ≤ x0) (hh : x0 ≤ 1099511627776) : Calls Tryz.prog 28 #[.iface 90 (.agg #[.int .i64 x0, .int .i64 x1, .bool lk, .int .i64 tk, .int .i64 tn, .float .f64 tf, .string ts, .slice ta kids.length tc]), .bool trap] w (fun e w' => ∃ (k0 : Int) (k2 n2 : Int) (f2 : Nat) (s2 : ByteArray) (a2 : Option Addr) (c2 : Nat) (kids2 : List Tr), e = .returned (.tuple #[.agg #[.int .i64 k0, .int .i64 k2, .int .i64 n2, .float .f64 f2, .string s2, .slice a2 kids2.length c2], .int .i64 0]) ∧ OcR x0 x1 lk trap (.mk tk tn tf ts ta tc kids) k0 (.mk k2 n2 f2 s2 a2 c2 kids2) ∧ (Tr.mk k2 n2 f2 s2 a2 c2 kids2).In w' w.heap.size ∧ Below w.heap.size w w') := by
  have OC := hidb (fun (w4 : World) (hb : Below w.heap.size w w4) => outcome_any x0 x1 lk trap tk tn tf ts ta tc kids w4 (in_below hb hin) hsm hcn h0 hl hh)
  clear hin hsm hcn h0 hl hh
  generalize Tr.mk tk tn tf ts ta tc kids = T0 at *
  generalize hO : OcR x0 x1 lk trap T0 = OO at *
  clear hO
  generalize kids.length = tl at *
  have HR : Hid (((w.alloc (.cells #[.int .i64 0, .int .i64 0, .int .i64 0, .float .f64 0, .string ⟨#[]⟩, .slice none 0 0] 31)).alloc (.cells #[.int .i64 x0, .int .i64 x1, .bool lk, .int .i64 tk, .int .i64 tn, .float .f64 tf, .string ts, .slice ta tl tc] 90)).heap[w.heap.size]? = some (.cells #[.int .i64 0, .int .i64 0, .int .i64 0, .float .f64 0, .string ⟨#[]⟩, .slice none 0 0] 31)) := hidb (at_keep (at_new w _) (below_new _ _))
  have HB : Hid (Below w.heap.size w ((w.alloc (.cells #[.int .i64 0, .int .i64 0, .int .i64 0, .float .f64 0, .string ⟨#[]⟩, .slice none 0 0] 31)).alloc (.cells #[.int .i64 x0, .int .i64 x1, .bool lk, .int .i64 tk, .int .i64 tn, .float .f64 tf, .string ts, .slice ta tl tc] 90))) := hidb ((below_new w _).alloc (by simp) _)
  go_enter Tryz.func28, Tryz.ntmps28
  go_wp2_with (go_at_call 53; refine (OC.out _ HB.out).mono ?_; rintro e w1 ⟨k0, k2, n2, f2, s2, a2, c2, kids2, rfl, ho, hi1, hb1⟩; have HO := hidb ho; have HIN := hidb hi1; have HLT := hidb ((show w.heap.size < _ from (Array.getElem?_eq_some_iff.1 HR.out).1)); have HB := hidb (HB.out.trans (hb1.mono HB.out.size)); obtain ⟨r0, r1, r2, r3, r4, r5⟩ := box6 (at_keep HR.out hb1); obtain ⟨g0, g1, g2, g3, g4, g5⟩ := fro6 (at_keep HR.out hb1); clear hb1 ho hi1)
  refine bodyPost_ret (v := .tuple #[.agg #[.int .i64 k0, .int .i64 k2, .int .i64 n2, .float .f64 f2, .string s2, .slice a2 kids2.length c2], .int .i64 0]) ?_ rfl ⟨k0, k2, n2, f2, s2, a2, c2, kids2, rfl, HO.out, ?_, ?_⟩
  · simp [results, Tryz.results28, go_sem, r0, r1, r2, r3, r4, r5]
  · exact in_base (Nat.le_of_lt HLT.out) _ (in_set (in_set (in_set (in_set (in_set (in_set HIN.out HLT.out _) HLT.out _) HLT.out _) HLT.out _) HLT.out _) HLT.out _)
  · exact (((((HB.out.setCell (by simp) _).setCell (by simp) _).setCell (by simp) _).setCell (by simp) _).setCell (by simp) _).setCell (by simp) _

set_option maxRecDepth 100000 in
set_option maxHeartbeats 4000000 in
theorem Act_any (x3 x4 : Int) (nm : ByteArray) (x0 x1 : Int) (lk trap : Bool) (tk tn : Int) (tf : Nat) (ts : ByteArray) (ta : Option Addr) (tc : Nat) (kids : List Tr) (w : World) (hin : (Tr.mk tk tn tf ts ta tc kids).In w 0) (hsm : Small (.mk tk tn tf ts ta tc kids)) (hcn : cnT (.mk tk tn tf ts ta tc kids) ≤ 800000000) (hE : errS x0 x1 5 x3 x4 lk nm (.mk tk tn tf ts ta tc kids) = 0) (h0 : errT (.mk tk tn tf ts ta tc kids) = 0) (hl : 0 ≤ x0) (hh : x0 ≤ 1099511627776) : Calls Tryz.prog 8 #[.agg #[.int .i64 x0, .int .i64 x1, .int .i64 5, .int .i64 x3, .int .i64 x4, .bool lk, .string nm, .int .i64 tk, .int .i64 tn, .float .f64 tf, .string ts, .slice ta kids.length tc], .bool trap] w (fun e w' => ∃ (k0 : Int) (k2 n2 : Int) (f2 : Nat) (s2 : ByteArray) (a2 : Option Addr) (c2 : Nat) (kids2 : List Tr), e = .returned (.tuple #[.agg #[.int .i64 k0, .int .i64 k2, .int .i64 n2, .float .f64 f2, .string s2, .slice a2 kids2.length c2], .int .i64 0]) ∧ OcR x0 x1 lk trap (.mk tk tn tf ts ta tc kids) k0 (.mk k2 n2 f2 s2 a2 c2 kids2) ∧ (Tr.mk k2 n2 f2 s2 a2 c2 kids2).In w' w.heap.size ∧ Below w.heap.size w w') := by
  have CK := hidb (fun (w4 : World) (hb : Below w.heap.size w w4) => check_any x0 x1 5 x3 x4 lk nm (.mk tk tn tf ts ta tc kids) w4 (in_below hb hin) hsm)
  rw [hE] at CK
  simp only [Tr.cells] at CK
  have BK := hidb (fun w => byKind_exit x0 x1 x3 x4 lk nm tk tn tf ts ta kids.length tc w)
  have OC := hidb (fun (w4 : World) (hb : Below w.heap.size w w4) => exitOutcome_any x0 x1 lk trap tk tn tf ts ta tc kids w4 (in_below hb hin) hsm hcn h0 hl hh)
  clear hin hsm hcn h0 hl hh hE
  generalize Tr.mk tk tn tf ts ta tc kids = T0 at *
  generalize hO : OcR x0 x1 lk trap T0 = OO at *
  clear hO
  generalize kids.length = tl at *
  have HS : Hid (((w.alloc (.cells #[.int .i64 x0, .int .i64 x1, .int .i64 5, .int .i64 x3, .int .i64 x4, .bool lk, .string nm, .int .i64 tk, .int .i64 tn, .float .f64 tf, .string ts, .slice ta tl tc] 27)).alloc (.cells #[.int .i64 0, .int .i64 0, .int .i64 0, .float .f64 0, .string ⟨#[]⟩, .slice none 0 0] 31)).heap[w.heap.size]? = some (.cells #[.int .i64 x0, .int .i64 x1, .int .i64 5, .int .i64 x3, .int .i64 x4, .bool lk, .string nm, .int .i64 tk, .int .i64 tn, .float .f64 tf, .string ts, .slice ta tl tc] 27)) := hidb (at_keep (at_new w _) (below_new _ _))
  have HR : Hid (((w.alloc (.cells #[.int .i64 x0, .int .i64 x1, .int .i64 5, .int .i64 x3, .int .i64 x4, .bool lk, .string nm, .int .i64 tk, .int .i64 tn, .float .f64 tf, .string ts, .slice ta tl tc] 27)).alloc (.cells #[.int .i64 0, .int .i64 0, .int .i64 0, .float .f64 0, .string ⟨#[]⟩, .slice none 0 0] 31)).heap[w.heap.size + 1]? = some (.cells #[.int .i64 0, .int .i64 0, .int .i64 0, .float .f64 0, .string ⟨#[]⟩, .slice none 0 0] 31)) := hidb (by have := at_new (w.alloc (.cells #[.int .i64 x0, .int .i64 x1, .int .i64 5, .int .i64 x3, .int .i64 x4, .bool lk, .string nm, .int .i64 tk, .int .i64 tn, .float .f64 tf, .string ts, .slice ta tl tc] 27)) (.cells #[.int .i64 0, .int .i64 0, .int .i64 0, .float .f64 0, .string ⟨#[]⟩, .slice none 0 0] 31); simpa using this)
  have HB : Hid (Below w.heap.size w ((w.alloc (.cells #[.int .i64 x0, .int .i64 x1, .int .i64 5, .int .i64 x3, .int .i64 x4, .bool lk, .string nm, .int .i64 tk, .int .i64 tn, .float .f64 tf, .string ts, .slice ta tl tc] 27)).alloc (.cells #[.int .i64 0, .int .i64 0, .int .i64 0, .float .f64 0, .string ⟨#[]⟩, .slice none 0 0] 31))) := hidb ((below_new w _).alloc (by simp) _)
  go_enter Tryz.func8, Tryz.ntmps8
  go_wp2_with (first
    | (go_at_call 27; refine (CK.out _ HB.out).mono ?_; rintro e w1 ⟨rfl, hb1⟩; have HS := hidb (at_keep HS.out hb1); have HR := hidb (at_keep HR.out hb1); have HB := hidb (HB.out.trans (hb1.mono HB.out.size)); obtain ⟨s0, s1, s2, s3, s4, s5, s6, s7, s8, s9, s10, s11⟩ := box12 HS.out; clear hb1)
    | (go_at_call 29; refine (BK.out _).mono ?_; rintro e w2 ⟨rfl, hb2⟩; have HR := hidb (at_keep HR.out hb2); have HB := hidb (HB.out.trans (hb2.mono HB.out.size)); clear hb2)
    | (go_at_call 28; refine (OC.out _ HB.out).mono ?_; rintro e w3 ⟨k0, k2, n2, f2, s2', a2, c2, kids2, rfl, ho, hi1, hb1⟩; have HO := hidb ho; have HIN := hidb hi1; have HLT := hidb ((show w.heap.size + 1 < _ from (Array.getElem?_eq_some_iff.1 HR.out).1)); have HB := hidb (HB.out.trans (hb1.mono HB.out.size)); obtain ⟨r0, r1, r2, r3, r4, r5⟩ := box6 (at_keep HR.out hb1); obtain ⟨g0, g1, g2, g3, g4, g5⟩ := fro6 (at_keep HR.out hb1); clear hb1 ho hi1))
  refine bodyPost_ret (v := .tuple #[.agg #[.int .i64 k0, .int .i64 k2, .int .i64 n2, .float .f64 f2, .string s2', .slice a2 kids2.length c2], .int .i64 0]) ?_ rfl ⟨k0, k2, n2, f2, s2', a2, c2, kids2, rfl, HO.out, ?_, ?_⟩
  · simp [results, Tryz.results8, go_sem, r0, r1, r2, r3, r4, r5]
  · exact in_base (Nat.le_of_lt (Nat.lt_of_succ_lt HLT.out)) _ (in_set (in_set (in_set (in_set (in_set (in_set HIN.out HLT.out _) HLT.out _) HLT.out _) HLT.out _) HLT.out _) HLT.out _)
  · exact (((((HB.out.setCell (by simp) _).setCell (by simp) _).setCell (by simp) _).setCell (by simp) _).setCell (by simp) _).setCell (by simp) _
end Go.Proofs.YtliebilpddmhkaaGreat


