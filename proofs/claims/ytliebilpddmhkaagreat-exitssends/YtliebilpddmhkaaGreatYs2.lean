import Derived.Test.YtliebilpddmhkaaGreatG29
import Derived.Deep.RegionHeld3
/- Reasons: the program's and the document's. -/
namespace Go.Proofs.YtliebilpddmhkaaGreat
open Go.RowKit Go.Lib Go.Deep
attribute [local go_sem] store_float f64bits
attribute [local go_sem ↓] Go.wp_at_zero Go.wp_at_succ

def ncOf (t : Tr) : Tr := .mk 7 0 0 ⟨#[]⟩ none 0 [aTr ⟨#[110, 111, 99, 97, 116, 99, 104]⟩, t]
theorem err_nc : errT (aTr ⟨#[110, 111, 99, 97, 116, 99, 104]⟩) = 0 := by decide
theorem pair_in (tk tn : Int) (tf : Nat) (ts : ByteArray) (ta : Option Addr) (tc : Nat) (kids : List Tr) (w4 : World) (ht : (Tr.mk tk tn tf ts ta tc kids).In w4 0) : (Tr.mk 7 0 0 ⟨#[]⟩ (some ⟨w4.heap.size, 0, none⟩) 2 [aTr ⟨#[110, 111, 99, 97, 116, 99, 104]⟩, (.mk tk tn tf ts ta tc kids)]).In (w4.alloc (.cells #[.int .i64 3, .int .i64 0, .float .f64 0, .string ⟨#[110, 111, 99, 97, 116, 99, 104]⟩, .slice none 0 0, .int .i64 tk, .int .i64 tn, .float .f64 tf, .string ts, .slice ta kids.length tc] 25)) 0 := by
  have h1 := at_new w4 (.cells #[.int .i64 3, .int .i64 0, .float .f64 0, .string ⟨#[110, 111, 99, 97, 116, 99, 104]⟩, .slice none 0 0, .int .i64 tk, .int .i64 tn, .float .f64 tf, .string ts, .slice ta kids.length tc] 25)
  unfold Tr.In
  refine ⟨⟨by decide, by decide, by decide, by decide, by simp, by decide, fun h => by simp at h⟩, fun ad had => ?_⟩
  obtain rfl : (⟨w4.heap.size, 0, none⟩ : Addr) = ad := by simpa using had
  refine ⟨Nat.zero_le _, inAll_of fun j u hj => ⟨fun i hi => ?_, ?_⟩⟩
  · have e : ((⟨w4.heap.size, 0, none⟩ : Addr).add (j * 5)).add i = ⟨w4.heap.size, j * 5 + i, none⟩ := by
      rw [add_add]
      unfold Addr.add
      split
      · rename_i h0; rw [h0]
      · simp
    rw [e, cell_of_row _ _ _ _ _ _ h1]
    match j, hj with
    | 0, hj =>
      obtain rfl : aTr ⟨#[110, 111, 99, 97, 116, 99, 104]⟩ = u := by simpa using hj
      match i, hi with
      | 0, _ => rfl
      | 1, _ => rfl
      | 2, _ => rfl
      | 3, _ => rfl
      | 4, _ => rfl
    | 1, hj =>
      obtain rfl : (.mk tk tn tf ts ta tc kids) = u := by simpa using hj
      match i, hi with
      | 0, _ => rfl
      | 1, _ => rfl
      | 2, _ => rfl
      | 3, _ => rfl
      | 4, _ => rfl
  · match j, hj with
    | 0, hj =>
      obtain rfl : aTr ⟨#[110, 111, 99, 97, 116, 99, 104]⟩ = u := by simpa using hj
      exact leaf0 3 0 _ (by decide) (by decide) (by decide) _ _
    | 1, hj =>
      obtain rfl : (.mk tk tn tf ts ta tc kids) = u := by simpa using hj
      exact in_alloc ht _
theorem pair_small {a : Option Addr} {c : Nat} {t : Tr} (h : Small t) : Small (.mk 7 0 0 ⟨#[]⟩ a c [aTr ⟨#[110, 111, 99, 97, 116, 99, 104]⟩, t]) := by
  unfold Small SmallAll SmallAll SmallAll
  exact ⟨by simp, leaf_small _ _ _ _ _ _, h, trivial⟩
theorem pair_ok {t : Tr} (h : errT t = 0) : ∀ u, u ∈ [aTr ⟨#[110, 111, 99, 97, 116, 99, 104]⟩, t] → errT u = 0 := by
  intro u hu
  simp at hu
  rcases hu with rfl | rfl
  · exact err_nc
  · exact h
theorem TupB.room {ds : List Tr} {a : Option Addr} {c : Nat} {w0 w' : World} {e : Ending} (h : TupB (.mk 7 0 0 ⟨#[]⟩ a c ds) w0 e w') : TupB (.mk 7 0 0 ⟨#[]⟩ none 0 ds) w0 e w' := by
  have he := err_room 7 0 0 ⟨#[]⟩ a none c 0 ds
  obtain ⟨hb, ⟨h0, k2, n2, f2, s2, a2, c2, kids2, rfl, hs, hi⟩ | ⟨h0, rfl⟩⟩ := h
  · refine ⟨hb, .inl ⟨he.symm.trans h0, k2, n2, f2, s2, a2, c2, kids2, rfl, ?_, hi⟩⟩
    unfold Sm at hs ⊢
    exact hs
  · exact ⟨hb, .inr ⟨fun q => h0 (he.trans q), rfl⟩⟩
theorem tup_pair (tk tn : Int) (tf : Nat) (ts : ByteArray) (ta : Option Addr) (tc : Nat) (kids : List Tr) (w : World) (hin : (Tr.mk tk tn tf ts ta tc kids).In w 0) (hsm : Small (.mk tk tn tf ts ta tc kids)) (hcn : cnT (.mk tk tn tf ts ta tc kids) ≤ 100000) (h0 : errT (.mk tk tn tf ts ta tc kids) = 0) (w4 W : World) (hb : Below w.heap.size w w4) (hW : Below (w4.alloc (.cells #[.int .i64 3, .int .i64 0, .float .f64 0, .string ⟨#[110, 111, 99, 97, 116, 99, 104]⟩, .slice none 0 0, .int .i64 tk, .int .i64 tn, .float .f64 tf, .string ts, .slice ta kids.length tc] 25)).heap.size (w4.alloc (.cells #[.int .i64 3, .int .i64 0, .float .f64 0, .string ⟨#[110, 111, 99, 97, 116, 99, 104]⟩, .slice none 0 0, .int .i64 tk, .int .i64 tn, .float .f64 tf, .string ts, .slice ta kids.length tc] 25)) W) : Calls Tryz.prog 40 #[.slice (some ⟨w4.heap.size, 0, none⟩) 2 2] W (TupR (ncOf (.mk tk tn tf ts ta tc kids)) W) :=
  (Tuple_any (some ⟨w4.heap.size, 0, none⟩) 2 [aTr ⟨#[110, 111, 99, 97, 116, 99, 104]⟩, (.mk tk tn tf ts ta tc kids)] W (in_below hW (pair_in tk tn tf ts ta tc kids w4 (in_below hb hin))) (pair_small hsm) (by simp [cnT, cnA, aTr]; simp [cnT] at hcn; omega) (pair_ok h0)).mono fun _ _ h => h.room
theorem rtup_pair (tk tn : Int) (tf : Nat) (ts : ByteArray) (ta : Option Addr) (tc : Nat) (kids : List Tr) (w : World) (hin : (Tr.mk tk tn tf ts ta tc kids).In w 0) (hsm : Small (.mk tk tn tf ts ta tc kids)) (h0 : errT (.mk tk tn tf ts ta tc kids) = 0) (w4 W : World) (hb : Below w.heap.size w w4) (hW : Below (w4.alloc (.cells #[.int .i64 3, .int .i64 0, .float .f64 0, .string ⟨#[110, 111, 99, 97, 116, 99, 104]⟩, .slice none 0 0, .int .i64 tk, .int .i64 tn, .float .f64 tf, .string ts, .slice ta kids.length tc] 25)).heap.size (w4.alloc (.cells #[.int .i64 3, .int .i64 0, .float .f64 0, .string ⟨#[110, 111, 99, 97, 116, 99, 104]⟩, .slice none 0 0, .int .i64 tk, .int .i64 tn, .float .f64 tf, .string ts, .slice ta kids.length tc] 25)) W) : Calls Tryz.prog 43 #[.slice (some ⟨w4.heap.size, 0, none⟩) 2 2] W (TupB (ncOf (.mk tk tn tf ts ta tc kids)) W) :=
  (rtuple_any (some ⟨w4.heap.size, 0, none⟩) 2 [aTr ⟨#[110, 111, 99, 97, 116, 99, 104]⟩, (.mk tk tn tf ts ta tc kids)] W (in_below hW (pair_in tk tn tf ts ta tc kids w4 (in_below hb hin))) (pair_small hsm) (pair_ok h0)).mono fun _ _ h => h.room
theorem TupB.yes {t : Tr} {w4 w5 : World} {e : Ending} (h0 : errT t = 0) (h : TupB t w4 e w5) : ∃ (k2 n2 : Int) (f2 : Nat) (s2 : ByteArray) (a2 : Option Addr) (c2 : Nat) (kids2 : List Tr), e = .returned (.tuple #[.agg #[.int .i64 k2, .int .i64 n2, .float .f64 f2, .string s2, .slice a2 kids2.length c2], .bool true]) ∧ Sm t (.mk k2 n2 f2 s2 a2 c2 kids2) ∧ (Tr.mk k2 n2 f2 s2 a2 c2 kids2).In w5 w4.heap.size ∧ Below w4.heap.size w4 w5 := by
  obtain ⟨hb, ⟨-, k2, n2, f2, s2, a2, c2, kids2, rfl, hs, hi⟩ | ⟨h1, -⟩⟩ := h
  · exact ⟨k2, n2, f2, s2, a2, c2, kids2, rfl, hs, hi, hb⟩
  · exact absurd h0 h1
theorem TupB.no {t : Tr} {w4 w5 : World} {e : Ending} (h0 : ¬ errT t = 0) (h : TupB t w4 e w5) : e = .returned (.tuple #[.agg #[.int .i64 0, .int .i64 0, .float .f64 0, .string ⟨#[]⟩, .slice none 0 0], .bool false]) ∧ Below w4.heap.size w4 w5 := by
  obtain ⟨hb, ⟨h1, -⟩ | ⟨-, rfl⟩⟩ := h
  · exact absurd h1 h0
  · exact ⟨rfl, hb⟩

set_option maxRecDepth 100000 in
set_option maxHeartbeats 4000000 in
theorem reason_bad (cl : Int) (tk tn : Int) (tf : Nat) (ts : ByteArray) (ta : Option Addr) (tc : Nat) (kids : List Tr) (w : World) (h1 : cl ≠ 1) (h2 : cl ≠ 2) (h3 : cl ≠ 3) : Calls Tryz.prog 13 #[.int .i64 cl, .agg #[.int .i64 tk, .int .i64 tn, .float .f64 tf, .string ts, .slice ta kids.length tc]] w (fun e w' => ∃ (k2 n2 : Int) (f2 : Nat) (s2 : ByteArray) (a2 : Option Addr) (c2 : Nat) (kids2 : List Tr), e = .returned (.tuple #[.agg #[.int .i64 k2, .int .i64 n2, .float .f64 f2, .string s2, .slice a2 kids2.length c2], .int .i64 1]) ∧ Sm zTr (.mk k2 n2 f2 s2 a2 c2 kids2) ∧ (Tr.mk k2 n2 f2 s2 a2 c2 kids2).In w' w.heap.size ∧ Below w.heap.size w w') := by
  have e1 : (cl != 1) = true := by simpa using h1
  have e2 : (cl != 2) = true := by simpa using h2
  have e3 : (cl != 3) = true := by simpa using h3
  clear h1 h2 h3
  generalize kids.length = tl at *
  have HT : Hid (((w.alloc (.cells #[.int .i64 tk, .int .i64 tn, .float .f64 tf, .string ts, .slice ta tl tc] 25)).alloc (.cells #[.int .i64 0, .int .i64 0, .float .f64 0, .string ⟨#[]⟩, .slice none 0 0] 25)).heap[w.heap.size]? = some (.cells #[.int .i64 tk, .int .i64 tn, .float .f64 tf, .string ts, .slice ta tl tc] 25)) := hidb (at_keep (at_new w _) (below_new _ _))
  have HR : Hid (((w.alloc (.cells #[.int .i64 tk, .int .i64 tn, .float .f64 tf, .string ts, .slice ta tl tc] 25)).alloc (.cells #[.int .i64 0, .int .i64 0, .float .f64 0, .string ⟨#[]⟩, .slice none 0 0] 25)).heap[w.heap.size + 1]? = some (.cells #[.int .i64 0, .int .i64 0, .float .f64 0, .string ⟨#[]⟩, .slice none 0 0] 25)) := hidb (by have := at_new (w.alloc (.cells #[.int .i64 tk, .int .i64 tn, .float .f64 tf, .string ts, .slice ta tl tc] 25)) (.cells #[.int .i64 0, .int .i64 0, .float .f64 0, .string ⟨#[]⟩, .slice none 0 0] 25); simpa using this)
  have HB : Hid (Below w.heap.size w ((w.alloc (.cells #[.int .i64 tk, .int .i64 tn, .float .f64 tf, .string ts, .slice ta tl tc] 25)).alloc (.cells #[.int .i64 0, .int .i64 0, .float .f64 0, .string ⟨#[]⟩, .slice none 0 0] 25))) := hidb ((below_new w _).alloc (by simp) _)
  obtain ⟨r0, r1, r2, r3, r4⟩ := box5 HR.out; obtain ⟨g0, g1, g2, g3, g4⟩ := fro5 HR.out
  go_enter Tryz.func13, Tryz.ntmps13
  go_wp2_with fail
  refine bodyPost_ret (v := .tuple #[.agg #[.int .i64 0, .int .i64 0, .float .f64 0, .string ⟨#[]⟩, .slice none 0 0], .int .i64 1]) ?_ rfl ⟨0, 0, 0, ⟨#[]⟩, none, 0, [], rfl, (by unfold zTr Sm SmA; exact ⟨rfl, rfl, rfl, rfl, trivial⟩), leaf0 0 0 _ (by decide) (by decide) (by decide) _ _, ?_⟩
  · simp [results, Tryz.results13, go_sem, r0, r1, r2, r3, r4]
  · (repeat (refine Below.setCell ?_ (by first | (simp; done) | (simp; omega)) _)); exact HB.out

set_option maxRecDepth 100000 in
set_option maxHeartbeats 4000000 in
theorem rreason_lo (cl : Int) (tk tn : Int) (tf : Nat) (ts : ByteArray) (ta : Option Addr) (tc : Nat) (kids : List Tr) (w : World) (h1 : cl < 1) : Calls Tryz.prog 14 #[.int .i64 cl, .agg #[.int .i64 tk, .int .i64 tn, .float .f64 tf, .string ts, .slice ta kids.length tc]] w (fun e w' => ∃ (k2 n2 : Int) (f2 : Nat) (s2 : ByteArray) (a2 : Option Addr) (c2 : Nat) (kids2 : List Tr), e = .returned (.tuple #[.agg #[.int .i64 k2, .int .i64 n2, .float .f64 f2, .string s2, .slice a2 kids2.length c2], .int .i64 1]) ∧ Sm zTr (.mk k2 n2 f2 s2 a2 c2 kids2) ∧ (Tr.mk k2 n2 f2 s2 a2 c2 kids2).In w' w.heap.size ∧ Below w.heap.size w w') := by
  generalize kids.length = tl at *
  have HT : Hid (((w.alloc (.cells #[.int .i64 tk, .int .i64 tn, .float .f64 tf, .string ts, .slice ta tl tc] 25)).alloc (.cells #[.int .i64 0, .int .i64 0, .float .f64 0, .string ⟨#[]⟩, .slice none 0 0] 25)).heap[w.heap.size]? = some (.cells #[.int .i64 tk, .int .i64 tn, .float .f64 tf, .string ts, .slice ta tl tc] 25)) := hidb (at_keep (at_new w _) (below_new _ _))
  have HR : Hid (((w.alloc (.cells #[.int .i64 tk, .int .i64 tn, .float .f64 tf, .string ts, .slice ta tl tc] 25)).alloc (.cells #[.int .i64 0, .int .i64 0, .float .f64 0, .string ⟨#[]⟩, .slice none 0 0] 25)).heap[w.heap.size + 1]? = some (.cells #[.int .i64 0, .int .i64 0, .float .f64 0, .string ⟨#[]⟩, .slice none 0 0] 25)) := hidb (by have := at_new (w.alloc (.cells #[.int .i64 tk, .int .i64 tn, .float .f64 tf, .string ts, .slice ta tl tc] 25)) (.cells #[.int .i64 0, .int .i64 0, .float .f64 0, .string ⟨#[]⟩, .slice none 0 0] 25); simpa using this)
  have HB : Hid (Below w.heap.size w ((w.alloc (.cells #[.int .i64 tk, .int .i64 tn, .float .f64 tf, .string ts, .slice ta tl tc] 25)).alloc (.cells #[.int .i64 0, .int .i64 0, .float .f64 0, .string ⟨#[]⟩, .slice none 0 0] 25))) := hidb ((below_new w _).alloc (by simp) _)
  obtain ⟨r0, r1, r2, r3, r4⟩ := box5 HR.out; obtain ⟨g0, g1, g2, g3, g4⟩ := fro5 HR.out
  go_enter Tryz.func14, Tryz.ntmps14
  go_wp2_with fail
  refine bodyPost_ret (v := .tuple #[.agg #[.int .i64 0, .int .i64 0, .float .f64 0, .string ⟨#[]⟩, .slice none 0 0], .int .i64 1]) ?_ rfl ⟨0, 0, 0, ⟨#[]⟩, none, 0, [], rfl, (by unfold zTr Sm SmA; exact ⟨rfl, rfl, rfl, rfl, trivial⟩), leaf0 0 0 _ (by decide) (by decide) (by decide) _ _, ?_⟩
  · simp [results, Tryz.results14, go_sem, r0, r1, r2, r3, r4]
  · (repeat (refine Below.setCell ?_ (by first | (simp; done) | (simp; omega)) _)); exact HB.out

set_option maxRecDepth 100000 in
set_option maxHeartbeats 4000000 in
theorem rreason_hi (cl : Int) (tk tn : Int) (tf : Nat) (ts : ByteArray) (ta : Option Addr) (tc : Nat) (kids : List Tr) (w : World) (h1 : 3 < cl) : Calls Tryz.prog 14 #[.int .i64 cl, .agg #[.int .i64 tk, .int .i64 tn, .float .f64 tf, .string ts, .slice ta kids.length tc]] w (fun e w' => ∃ (k2 n2 : Int) (f2 : Nat) (s2 : ByteArray) (a2 : Option Addr) (c2 : Nat) (kids2 : List Tr), e = .returned (.tuple #[.agg #[.int .i64 k2, .int .i64 n2, .float .f64 f2, .string s2, .slice a2 kids2.length c2], .int .i64 1]) ∧ Sm zTr (.mk k2 n2 f2 s2 a2 c2 kids2) ∧ (Tr.mk k2 n2 f2 s2 a2 c2 kids2).In w' w.heap.size ∧ Below w.heap.size w w') := by
  have e1 : ¬ cl < 1 := by omega
  generalize kids.length = tl at *
  have HT : Hid (((w.alloc (.cells #[.int .i64 tk, .int .i64 tn, .float .f64 tf, .string ts, .slice ta tl tc] 25)).alloc (.cells #[.int .i64 0, .int .i64 0, .float .f64 0, .string ⟨#[]⟩, .slice none 0 0] 25)).heap[w.heap.size]? = some (.cells #[.int .i64 tk, .int .i64 tn, .float .f64 tf, .string ts, .slice ta tl tc] 25)) := hidb (at_keep (at_new w _) (below_new _ _))
  have HR : Hid (((w.alloc (.cells #[.int .i64 tk, .int .i64 tn, .float .f64 tf, .string ts, .slice ta tl tc] 25)).alloc (.cells #[.int .i64 0, .int .i64 0, .float .f64 0, .string ⟨#[]⟩, .slice none 0 0] 25)).heap[w.heap.size + 1]? = some (.cells #[.int .i64 0, .int .i64 0, .float .f64 0, .string ⟨#[]⟩, .slice none 0 0] 25)) := hidb (by have := at_new (w.alloc (.cells #[.int .i64 tk, .int .i64 tn, .float .f64 tf, .string ts, .slice ta tl tc] 25)) (.cells #[.int .i64 0, .int .i64 0, .float .f64 0, .string ⟨#[]⟩, .slice none 0 0] 25); simpa using this)
  have HB : Hid (Below w.heap.size w ((w.alloc (.cells #[.int .i64 tk, .int .i64 tn, .float .f64 tf, .string ts, .slice ta tl tc] 25)).alloc (.cells #[.int .i64 0, .int .i64 0, .float .f64 0, .string ⟨#[]⟩, .slice none 0 0] 25))) := hidb ((below_new w _).alloc (by simp) _)
  obtain ⟨r0, r1, r2, r3, r4⟩ := box5 HR.out; obtain ⟨g0, g1, g2, g3, g4⟩ := fro5 HR.out
  go_enter Tryz.func14, Tryz.ntmps14
  go_wp2_with fail
  refine bodyPost_ret (v := .tuple #[.agg #[.int .i64 0, .int .i64 0, .float .f64 0, .string ⟨#[]⟩, .slice none 0 0], .int .i64 1]) ?_ rfl ⟨0, 0, 0, ⟨#[]⟩, none, 0, [], rfl, (by unfold zTr Sm SmA; exact ⟨rfl, rfl, rfl, rfl, trivial⟩), leaf0 0 0 _ (by decide) (by decide) (by decide) _ _, ?_⟩
  · simp [results, Tryz.results14, go_sem, r0, r1, r2, r3, r4]
  · (repeat (refine Below.setCell ?_ (by first | (simp; done) | (simp; omega)) _)); exact HB.out

set_option maxRecDepth 100000 in
set_option maxHeartbeats 4000000 in
theorem reason_ref1 (tk tn : Int) (tf : Nat) (ts : ByteArray) (ta : Option Addr) (tc : Nat) (kids : List Tr) (w : World) (hin : (Tr.mk tk tn tf ts ta tc kids).In w 0) (hsm : Small (.mk tk tn tf ts ta tc kids)) (h0 : ¬ errT (.mk tk tn tf ts ta tc kids) = 0) : Calls Tryz.prog 13 #[.int .i64 1, .agg #[.int .i64 tk, .int .i64 tn, .float .f64 tf, .string ts, .slice ta kids.length tc]] w (fun e w' => ∃ (k2 n2 : Int) (f2 : Nat) (s2 : ByteArray) (a2 : Option Addr) (c2 : Nat) (kids2 : List Tr), e = .returned (.tuple #[.agg #[.int .i64 k2, .int .i64 n2, .float .f64 f2, .string s2, .slice a2 kids2.length c2], .int .i64 4]) ∧ Sm zTr (.mk k2 n2 f2 s2 a2 c2 kids2) ∧ (Tr.mk k2 n2 f2 s2 a2 c2 kids2).In w' w.heap.size ∧ Below w.heap.size w w') := by
  have CK := hidb (fun (w' : World) (hb : Below w.heap.size w w') => check_t (.mk tk tn tf ts ta tc kids) w' (in_below hb hin) hsm)
  simp only [Tr.val, Tr.cells] at CK
  generalize errT (.mk tk tn tf ts ta tc kids) = E at *
  have h1 : (E != 0) = true := by simpa using h0
  have h2 : (E == 0) = false := by simpa using h0
  
  clear hin hsm h0
  generalize kids.length = tl at *
  have HT : Hid (((w.alloc (.cells #[.int .i64 tk, .int .i64 tn, .float .f64 tf, .string ts, .slice ta tl tc] 25)).alloc (.cells #[.int .i64 0, .int .i64 0, .float .f64 0, .string ⟨#[]⟩, .slice none 0 0] 25)).heap[w.heap.size]? = some (.cells #[.int .i64 tk, .int .i64 tn, .float .f64 tf, .string ts, .slice ta tl tc] 25)) := hidb (at_keep (at_new w _) (below_new _ _))
  have HR : Hid (((w.alloc (.cells #[.int .i64 tk, .int .i64 tn, .float .f64 tf, .string ts, .slice ta tl tc] 25)).alloc (.cells #[.int .i64 0, .int .i64 0, .float .f64 0, .string ⟨#[]⟩, .slice none 0 0] 25)).heap[w.heap.size + 1]? = some (.cells #[.int .i64 0, .int .i64 0, .float .f64 0, .string ⟨#[]⟩, .slice none 0 0] 25)) := hidb (by have := at_new (w.alloc (.cells #[.int .i64 tk, .int .i64 tn, .float .f64 tf, .string ts, .slice ta tl tc] 25)) (.cells #[.int .i64 0, .int .i64 0, .float .f64 0, .string ⟨#[]⟩, .slice none 0 0] 25); simpa using this)
  have HB : Hid (Below w.heap.size w ((w.alloc (.cells #[.int .i64 tk, .int .i64 tn, .float .f64 tf, .string ts, .slice ta tl tc] 25)).alloc (.cells #[.int .i64 0, .int .i64 0, .float .f64 0, .string ⟨#[]⟩, .slice none 0 0] 25))) := hidb ((below_new w _).alloc (by simp) _)
  go_enter Tryz.func13, Tryz.ntmps13
  go_wp2_with (go_at_call 38; refine (CK.out _ HB.out).mono ?_; rintro e w1 ⟨rfl, hb1⟩; have HT := hidb (at_keep HT.out hb1); have HR := hidb (at_keep HR.out hb1); have HB := hidb (HB.out.trans (hb1.mono HB.out.size)); obtain ⟨t0, t1, t2, t3, t4⟩ := box5 HT.out; obtain ⟨r0, r1, r2, r3, r4⟩ := box5 HR.out; obtain ⟨g0, g1, g2, g3, g4⟩ := fro5 HR.out; clear hb1)
  refine bodyPost_ret (v := .tuple #[.agg #[.int .i64 0, .int .i64 0, .float .f64 0, .string ⟨#[]⟩, .slice none 0 0], .int .i64 4]) ?_ rfl ⟨0, 0, 0, ⟨#[]⟩, none, 0, [], rfl, (by unfold zTr Sm SmA; exact ⟨rfl, rfl, rfl, rfl, trivial⟩), leaf0 0 0 _ (by decide) (by decide) (by decide) _ _, ?_⟩
  · simp [results, Tryz.results13, go_sem, r0, r1, r2, r3, r4]
  · (repeat (refine Below.setCell ?_ (by first | (simp; done) | (simp; omega)) _)); exact HB.out

set_option maxRecDepth 100000 in
set_option maxHeartbeats 4000000 in
theorem rreason_ref1 (tk tn : Int) (tf : Nat) (ts : ByteArray) (ta : Option Addr) (tc : Nat) (kids : List Tr) (w : World) (hin : (Tr.mk tk tn tf ts ta tc kids).In w 0) (hsm : Small (.mk tk tn tf ts ta tc kids)) (h0 : ¬ errT (.mk tk tn tf ts ta tc kids) = 0) : Calls Tryz.prog 14 #[.int .i64 1, .agg #[.int .i64 tk, .int .i64 tn, .float .f64 tf, .string ts, .slice ta kids.length tc]] w (fun e w' => ∃ (k2 n2 : Int) (f2 : Nat) (s2 : ByteArray) (a2 : Option Addr) (c2 : Nat) (kids2 : List Tr), e = .returned (.tuple #[.agg #[.int .i64 k2, .int .i64 n2, .float .f64 f2, .string s2, .slice a2 kids2.length c2], .int .i64 4]) ∧ Sm zTr (.mk k2 n2 f2 s2 a2 c2 kids2) ∧ (Tr.mk k2 n2 f2 s2 a2 c2 kids2).In w' w.heap.size ∧ Below w.heap.size w w') := by
  have CK := hidb (fun (w' : World) (hb : Below w.heap.size w w') => rright_t (.mk tk tn tf ts ta tc kids) w' (in_below hb hin) (small_w _ hsm))
  simp only [Tr.val, Tr.cells] at CK
  generalize errT (.mk tk tn tf ts ta tc kids) = E at *
  have h1 : (E != 0) = true := by simpa using h0
  have h2 : (E == 0) = false := by simpa using h0
  rw [h2] at CK
  clear hin hsm h0
  generalize kids.length = tl at *
  have HT : Hid (((w.alloc (.cells #[.int .i64 tk, .int .i64 tn, .float .f64 tf, .string ts, .slice ta tl tc] 25)).alloc (.cells #[.int .i64 0, .int .i64 0, .float .f64 0, .string ⟨#[]⟩, .slice none 0 0] 25)).heap[w.heap.size]? = some (.cells #[.int .i64 tk, .int .i64 tn, .float .f64 tf, .string ts, .slice ta tl tc] 25)) := hidb (at_keep (at_new w _) (below_new _ _))
  have HR : Hid (((w.alloc (.cells #[.int .i64 tk, .int .i64 tn, .float .f64 tf, .string ts, .slice ta tl tc] 25)).alloc (.cells #[.int .i64 0, .int .i64 0, .float .f64 0, .string ⟨#[]⟩, .slice none 0 0] 25)).heap[w.heap.size + 1]? = some (.cells #[.int .i64 0, .int .i64 0, .float .f64 0, .string ⟨#[]⟩, .slice none 0 0] 25)) := hidb (by have := at_new (w.alloc (.cells #[.int .i64 tk, .int .i64 tn, .float .f64 tf, .string ts, .slice ta tl tc] 25)) (.cells #[.int .i64 0, .int .i64 0, .float .f64 0, .string ⟨#[]⟩, .slice none 0 0] 25); simpa using this)
  have HB : Hid (Below w.heap.size w ((w.alloc (.cells #[.int .i64 tk, .int .i64 tn, .float .f64 tf, .string ts, .slice ta tl tc] 25)).alloc (.cells #[.int .i64 0, .int .i64 0, .float .f64 0, .string ⟨#[]⟩, .slice none 0 0] 25))) := hidb ((below_new w _).alloc (by simp) _)
  go_enter Tryz.func14, Tryz.ntmps14
  go_wp2_with (go_at_call 16; refine (CK.out _ HB.out).mono ?_; rintro e w1 ⟨rfl, hb1⟩; have HT := hidb (at_keep HT.out hb1); have HR := hidb (at_keep HR.out hb1); have HB := hidb (HB.out.trans (hb1.mono HB.out.size)); obtain ⟨t0, t1, t2, t3, t4⟩ := box5 HT.out; obtain ⟨r0, r1, r2, r3, r4⟩ := box5 HR.out; obtain ⟨g0, g1, g2, g3, g4⟩ := fro5 HR.out; clear hb1)
  refine bodyPost_ret (v := .tuple #[.agg #[.int .i64 0, .int .i64 0, .float .f64 0, .string ⟨#[]⟩, .slice none 0 0], .int .i64 4]) ?_ rfl ⟨0, 0, 0, ⟨#[]⟩, none, 0, [], rfl, (by unfold zTr Sm SmA; exact ⟨rfl, rfl, rfl, rfl, trivial⟩), leaf0 0 0 _ (by decide) (by decide) (by decide) _ _, ?_⟩
  · simp [results, Tryz.results14, go_sem, r0, r1, r2, r3, r4]
  · (repeat (refine Below.setCell ?_ (by first | (simp; done) | (simp; omega)) _)); exact HB.out

set_option maxRecDepth 100000 in
set_option maxHeartbeats 4000000 in
theorem reason_ref2 (tk tn : Int) (tf : Nat) (ts : ByteArray) (ta : Option Addr) (tc : Nat) (kids : List Tr) (w : World) (hin : (Tr.mk tk tn tf ts ta tc kids).In w 0) (hsm : Small (.mk tk tn tf ts ta tc kids)) (h0 : ¬ errT (.mk tk tn tf ts ta tc kids) = 0) : Calls Tryz.prog 13 #[.int .i64 2, .agg #[.int .i64 tk, .int .i64 tn, .float .f64 tf, .string ts, .slice ta kids.length tc]] w (fun e w' => ∃ (k2 n2 : Int) (f2 : Nat) (s2 : ByteArray) (a2 : Option Addr) (c2 : Nat) (kids2 : List Tr), e = .returned (.tuple #[.agg #[.int .i64 k2, .int .i64 n2, .float .f64 f2, .string s2, .slice a2 kids2.length c2], .int .i64 4]) ∧ Sm zTr (.mk k2 n2 f2 s2 a2 c2 kids2) ∧ (Tr.mk k2 n2 f2 s2 a2 c2 kids2).In w' w.heap.size ∧ Below w.heap.size w w') := by
  have CK := hidb (fun (w' : World) (hb : Below w.heap.size w w') => check_t (.mk tk tn tf ts ta tc kids) w' (in_below hb hin) hsm)
  simp only [Tr.val, Tr.cells] at CK
  generalize errT (.mk tk tn tf ts ta tc kids) = E at *
  have h1 : (E != 0) = true := by simpa using h0
  have h2 : (E == 0) = false := by simpa using h0
  
  clear hin hsm h0
  generalize kids.length = tl at *
  have HT : Hid (((w.alloc (.cells #[.int .i64 tk, .int .i64 tn, .float .f64 tf, .string ts, .slice ta tl tc] 25)).alloc (.cells #[.int .i64 0, .int .i64 0, .float .f64 0, .string ⟨#[]⟩, .slice none 0 0] 25)).heap[w.heap.size]? = some (.cells #[.int .i64 tk, .int .i64 tn, .float .f64 tf, .string ts, .slice ta tl tc] 25)) := hidb (at_keep (at_new w _) (below_new _ _))
  have HR : Hid (((w.alloc (.cells #[.int .i64 tk, .int .i64 tn, .float .f64 tf, .string ts, .slice ta tl tc] 25)).alloc (.cells #[.int .i64 0, .int .i64 0, .float .f64 0, .string ⟨#[]⟩, .slice none 0 0] 25)).heap[w.heap.size + 1]? = some (.cells #[.int .i64 0, .int .i64 0, .float .f64 0, .string ⟨#[]⟩, .slice none 0 0] 25)) := hidb (by have := at_new (w.alloc (.cells #[.int .i64 tk, .int .i64 tn, .float .f64 tf, .string ts, .slice ta tl tc] 25)) (.cells #[.int .i64 0, .int .i64 0, .float .f64 0, .string ⟨#[]⟩, .slice none 0 0] 25); simpa using this)
  have HB : Hid (Below w.heap.size w ((w.alloc (.cells #[.int .i64 tk, .int .i64 tn, .float .f64 tf, .string ts, .slice ta tl tc] 25)).alloc (.cells #[.int .i64 0, .int .i64 0, .float .f64 0, .string ⟨#[]⟩, .slice none 0 0] 25))) := hidb ((below_new w _).alloc (by simp) _)
  go_enter Tryz.func13, Tryz.ntmps13
  go_wp2_with (go_at_call 38; refine (CK.out _ HB.out).mono ?_; rintro e w1 ⟨rfl, hb1⟩; have HT := hidb (at_keep HT.out hb1); have HR := hidb (at_keep HR.out hb1); have HB := hidb (HB.out.trans (hb1.mono HB.out.size)); obtain ⟨t0, t1, t2, t3, t4⟩ := box5 HT.out; obtain ⟨r0, r1, r2, r3, r4⟩ := box5 HR.out; obtain ⟨g0, g1, g2, g3, g4⟩ := fro5 HR.out; clear hb1)
  refine bodyPost_ret (v := .tuple #[.agg #[.int .i64 0, .int .i64 0, .float .f64 0, .string ⟨#[]⟩, .slice none 0 0], .int .i64 4]) ?_ rfl ⟨0, 0, 0, ⟨#[]⟩, none, 0, [], rfl, (by unfold zTr Sm SmA; exact ⟨rfl, rfl, rfl, rfl, trivial⟩), leaf0 0 0 _ (by decide) (by decide) (by decide) _ _, ?_⟩
  · simp [results, Tryz.results13, go_sem, r0, r1, r2, r3, r4]
  · (repeat (refine Below.setCell ?_ (by first | (simp; done) | (simp; omega)) _)); exact HB.out

set_option maxRecDepth 100000 in
set_option maxHeartbeats 4000000 in
theorem rreason_ref2 (tk tn : Int) (tf : Nat) (ts : ByteArray) (ta : Option Addr) (tc : Nat) (kids : List Tr) (w : World) (hin : (Tr.mk tk tn tf ts ta tc kids).In w 0) (hsm : Small (.mk tk tn tf ts ta tc kids)) (h0 : ¬ errT (.mk tk tn tf ts ta tc kids) = 0) : Calls Tryz.prog 14 #[.int .i64 2, .agg #[.int .i64 tk, .int .i64 tn, .float .f64 tf, .string ts, .slice ta kids.length tc]] w (fun e w' => ∃ (k2 n2 : Int) (f2 : Nat) (s2 : ByteArray) (a2 : Option Addr) (c2 : Nat) (kids2 : List Tr), e = .returned (.tuple #[.agg #[.int .i64 k2, .int .i64 n2, .float .f64 f2, .string s2, .slice a2 kids2.length c2], .int .i64 4]) ∧ Sm zTr (.mk k2 n2 f2 s2 a2 c2 kids2) ∧ (Tr.mk k2 n2 f2 s2 a2 c2 kids2).In w' w.heap.size ∧ Below w.heap.size w w') := by
  have CK := hidb (fun (w' : World) (hb : Below w.heap.size w w') => rright_t (.mk tk tn tf ts ta tc kids) w' (in_below hb hin) (small_w _ hsm))
  simp only [Tr.val, Tr.cells] at CK
  generalize errT (.mk tk tn tf ts ta tc kids) = E at *
  have h1 : (E != 0) = true := by simpa using h0
  have h2 : (E == 0) = false := by simpa using h0
  rw [h2] at CK
  clear hin hsm h0
  generalize kids.length = tl at *
  have HT : Hid (((w.alloc (.cells #[.int .i64 tk, .int .i64 tn, .float .f64 tf, .string ts, .slice ta tl tc] 25)).alloc (.cells #[.int .i64 0, .int .i64 0, .float .f64 0, .string ⟨#[]⟩, .slice none 0 0] 25)).heap[w.heap.size]? = some (.cells #[.int .i64 tk, .int .i64 tn, .float .f64 tf, .string ts, .slice ta tl tc] 25)) := hidb (at_keep (at_new w _) (below_new _ _))
  have HR : Hid (((w.alloc (.cells #[.int .i64 tk, .int .i64 tn, .float .f64 tf, .string ts, .slice ta tl tc] 25)).alloc (.cells #[.int .i64 0, .int .i64 0, .float .f64 0, .string ⟨#[]⟩, .slice none 0 0] 25)).heap[w.heap.size + 1]? = some (.cells #[.int .i64 0, .int .i64 0, .float .f64 0, .string ⟨#[]⟩, .slice none 0 0] 25)) := hidb (by have := at_new (w.alloc (.cells #[.int .i64 tk, .int .i64 tn, .float .f64 tf, .string ts, .slice ta tl tc] 25)) (.cells #[.int .i64 0, .int .i64 0, .float .f64 0, .string ⟨#[]⟩, .slice none 0 0] 25); simpa using this)
  have HB : Hid (Below w.heap.size w ((w.alloc (.cells #[.int .i64 tk, .int .i64 tn, .float .f64 tf, .string ts, .slice ta tl tc] 25)).alloc (.cells #[.int .i64 0, .int .i64 0, .float .f64 0, .string ⟨#[]⟩, .slice none 0 0] 25))) := hidb ((below_new w _).alloc (by simp) _)
  go_enter Tryz.func14, Tryz.ntmps14
  go_wp2_with (go_at_call 16; refine (CK.out _ HB.out).mono ?_; rintro e w1 ⟨rfl, hb1⟩; have HT := hidb (at_keep HT.out hb1); have HR := hidb (at_keep HR.out hb1); have HB := hidb (HB.out.trans (hb1.mono HB.out.size)); obtain ⟨t0, t1, t2, t3, t4⟩ := box5 HT.out; obtain ⟨r0, r1, r2, r3, r4⟩ := box5 HR.out; obtain ⟨g0, g1, g2, g3, g4⟩ := fro5 HR.out; clear hb1)
  refine bodyPost_ret (v := .tuple #[.agg #[.int .i64 0, .int .i64 0, .float .f64 0, .string ⟨#[]⟩, .slice none 0 0], .int .i64 4]) ?_ rfl ⟨0, 0, 0, ⟨#[]⟩, none, 0, [], rfl, (by unfold zTr Sm SmA; exact ⟨rfl, rfl, rfl, rfl, trivial⟩), leaf0 0 0 _ (by decide) (by decide) (by decide) _ _, ?_⟩
  · simp [results, Tryz.results14, go_sem, r0, r1, r2, r3, r4]
  · (repeat (refine Below.setCell ?_ (by first | (simp; done) | (simp; omega)) _)); exact HB.out

set_option maxRecDepth 100000 in
set_option maxHeartbeats 4000000 in
theorem reason_ref3 (tk tn : Int) (tf : Nat) (ts : ByteArray) (ta : Option Addr) (tc : Nat) (kids : List Tr) (w : World) (hin : (Tr.mk tk tn tf ts ta tc kids).In w 0) (hsm : Small (.mk tk tn tf ts ta tc kids)) (h0 : ¬ errT (.mk tk tn tf ts ta tc kids) = 0) : Calls Tryz.prog 13 #[.int .i64 3, .agg #[.int .i64 tk, .int .i64 tn, .float .f64 tf, .string ts, .slice ta kids.length tc]] w (fun e w' => ∃ (k2 n2 : Int) (f2 : Nat) (s2 : ByteArray) (a2 : Option Addr) (c2 : Nat) (kids2 : List Tr), e = .returned (.tuple #[.agg #[.int .i64 k2, .int .i64 n2, .float .f64 f2, .string s2, .slice a2 kids2.length c2], .int .i64 4]) ∧ Sm zTr (.mk k2 n2 f2 s2 a2 c2 kids2) ∧ (Tr.mk k2 n2 f2 s2 a2 c2 kids2).In w' w.heap.size ∧ Below w.heap.size w w') := by
  have CK := hidb (fun (w' : World) (hb : Below w.heap.size w w') => check_t (.mk tk tn tf ts ta tc kids) w' (in_below hb hin) hsm)
  simp only [Tr.val, Tr.cells] at CK
  generalize errT (.mk tk tn tf ts ta tc kids) = E at *
  have h1 : (E != 0) = true := by simpa using h0
  have h2 : (E == 0) = false := by simpa using h0
  
  clear hin hsm h0
  generalize kids.length = tl at *
  have HT : Hid (((w.alloc (.cells #[.int .i64 tk, .int .i64 tn, .float .f64 tf, .string ts, .slice ta tl tc] 25)).alloc (.cells #[.int .i64 0, .int .i64 0, .float .f64 0, .string ⟨#[]⟩, .slice none 0 0] 25)).heap[w.heap.size]? = some (.cells #[.int .i64 tk, .int .i64 tn, .float .f64 tf, .string ts, .slice ta tl tc] 25)) := hidb (at_keep (at_new w _) (below_new _ _))
  have HR : Hid (((w.alloc (.cells #[.int .i64 tk, .int .i64 tn, .float .f64 tf, .string ts, .slice ta tl tc] 25)).alloc (.cells #[.int .i64 0, .int .i64 0, .float .f64 0, .string ⟨#[]⟩, .slice none 0 0] 25)).heap[w.heap.size + 1]? = some (.cells #[.int .i64 0, .int .i64 0, .float .f64 0, .string ⟨#[]⟩, .slice none 0 0] 25)) := hidb (by have := at_new (w.alloc (.cells #[.int .i64 tk, .int .i64 tn, .float .f64 tf, .string ts, .slice ta tl tc] 25)) (.cells #[.int .i64 0, .int .i64 0, .float .f64 0, .string ⟨#[]⟩, .slice none 0 0] 25); simpa using this)
  have HB : Hid (Below w.heap.size w ((w.alloc (.cells #[.int .i64 tk, .int .i64 tn, .float .f64 tf, .string ts, .slice ta tl tc] 25)).alloc (.cells #[.int .i64 0, .int .i64 0, .float .f64 0, .string ⟨#[]⟩, .slice none 0 0] 25))) := hidb ((below_new w _).alloc (by simp) _)
  go_enter Tryz.func13, Tryz.ntmps13
  go_wp2_with (go_at_call 38; refine (CK.out _ HB.out).mono ?_; rintro e w1 ⟨rfl, hb1⟩; have HT := hidb (at_keep HT.out hb1); have HR := hidb (at_keep HR.out hb1); have HB := hidb (HB.out.trans (hb1.mono HB.out.size)); obtain ⟨t0, t1, t2, t3, t4⟩ := box5 HT.out; obtain ⟨r0, r1, r2, r3, r4⟩ := box5 HR.out; obtain ⟨g0, g1, g2, g3, g4⟩ := fro5 HR.out; clear hb1)
  refine bodyPost_ret (v := .tuple #[.agg #[.int .i64 0, .int .i64 0, .float .f64 0, .string ⟨#[]⟩, .slice none 0 0], .int .i64 4]) ?_ rfl ⟨0, 0, 0, ⟨#[]⟩, none, 0, [], rfl, (by unfold zTr Sm SmA; exact ⟨rfl, rfl, rfl, rfl, trivial⟩), leaf0 0 0 _ (by decide) (by decide) (by decide) _ _, ?_⟩
  · simp [results, Tryz.results13, go_sem, r0, r1, r2, r3, r4]
  · (repeat (refine Below.setCell ?_ (by first | (simp; done) | (simp; omega)) _)); exact HB.out

set_option maxRecDepth 100000 in
set_option maxHeartbeats 4000000 in
theorem rreason_ref3 (tk tn : Int) (tf : Nat) (ts : ByteArray) (ta : Option Addr) (tc : Nat) (kids : List Tr) (w : World) (hin : (Tr.mk tk tn tf ts ta tc kids).In w 0) (hsm : Small (.mk tk tn tf ts ta tc kids)) (h0 : ¬ errT (.mk tk tn tf ts ta tc kids) = 0) : Calls Tryz.prog 14 #[.int .i64 3, .agg #[.int .i64 tk, .int .i64 tn, .float .f64 tf, .string ts, .slice ta kids.length tc]] w (fun e w' => ∃ (k2 n2 : Int) (f2 : Nat) (s2 : ByteArray) (a2 : Option Addr) (c2 : Nat) (kids2 : List Tr), e = .returned (.tuple #[.agg #[.int .i64 k2, .int .i64 n2, .float .f64 f2, .string s2, .slice a2 kids2.length c2], .int .i64 4]) ∧ Sm zTr (.mk k2 n2 f2 s2 a2 c2 kids2) ∧ (Tr.mk k2 n2 f2 s2 a2 c2 kids2).In w' w.heap.size ∧ Below w.heap.size w w') := by
  have CK := hidb (fun (w' : World) (hb : Below w.heap.size w w') => rright_t (.mk tk tn tf ts ta tc kids) w' (in_below hb hin) (small_w _ hsm))
  simp only [Tr.val, Tr.cells] at CK
  generalize errT (.mk tk tn tf ts ta tc kids) = E at *
  have h1 : (E != 0) = true := by simpa using h0
  have h2 : (E == 0) = false := by simpa using h0
  rw [h2] at CK
  clear hin hsm h0
  generalize kids.length = tl at *
  have HT : Hid (((w.alloc (.cells #[.int .i64 tk, .int .i64 tn, .float .f64 tf, .string ts, .slice ta tl tc] 25)).alloc (.cells #[.int .i64 0, .int .i64 0, .float .f64 0, .string ⟨#[]⟩, .slice none 0 0] 25)).heap[w.heap.size]? = some (.cells #[.int .i64 tk, .int .i64 tn, .float .f64 tf, .string ts, .slice ta tl tc] 25)) := hidb (at_keep (at_new w _) (below_new _ _))
  have HR : Hid (((w.alloc (.cells #[.int .i64 tk, .int .i64 tn, .float .f64 tf, .string ts, .slice ta tl tc] 25)).alloc (.cells #[.int .i64 0, .int .i64 0, .float .f64 0, .string ⟨#[]⟩, .slice none 0 0] 25)).heap[w.heap.size + 1]? = some (.cells #[.int .i64 0, .int .i64 0, .float .f64 0, .string ⟨#[]⟩, .slice none 0 0] 25)) := hidb (by have := at_new (w.alloc (.cells #[.int .i64 tk, .int .i64 tn, .float .f64 tf, .string ts, .slice ta tl tc] 25)) (.cells #[.int .i64 0, .int .i64 0, .float .f64 0, .string ⟨#[]⟩, .slice none 0 0] 25); simpa using this)
  have HB : Hid (Below w.heap.size w ((w.alloc (.cells #[.int .i64 tk, .int .i64 tn, .float .f64 tf, .string ts, .slice ta tl tc] 25)).alloc (.cells #[.int .i64 0, .int .i64 0, .float .f64 0, .string ⟨#[]⟩, .slice none 0 0] 25))) := hidb ((below_new w _).alloc (by simp) _)
  go_enter Tryz.func14, Tryz.ntmps14
  go_wp2_with (go_at_call 16; refine (CK.out _ HB.out).mono ?_; rintro e w1 ⟨rfl, hb1⟩; have HT := hidb (at_keep HT.out hb1); have HR := hidb (at_keep HR.out hb1); have HB := hidb (HB.out.trans (hb1.mono HB.out.size)); obtain ⟨t0, t1, t2, t3, t4⟩ := box5 HT.out; obtain ⟨r0, r1, r2, r3, r4⟩ := box5 HR.out; obtain ⟨g0, g1, g2, g3, g4⟩ := fro5 HR.out; clear hb1)
  refine bodyPost_ret (v := .tuple #[.agg #[.int .i64 0, .int .i64 0, .float .f64 0, .string ⟨#[]⟩, .slice none 0 0], .int .i64 4]) ?_ rfl ⟨0, 0, 0, ⟨#[]⟩, none, 0, [], rfl, (by unfold zTr Sm SmA; exact ⟨rfl, rfl, rfl, rfl, trivial⟩), leaf0 0 0 _ (by decide) (by decide) (by decide) _ _, ?_⟩
  · simp [results, Tryz.results14, go_sem, r0, r1, r2, r3, r4]
  · (repeat (refine Below.setCell ?_ (by first | (simp; done) | (simp; omega)) _)); exact HB.out

set_option maxRecDepth 100000 in
set_option maxHeartbeats 4000000 in
theorem reason_cp1 (tk tn : Int) (tf : Nat) (ts : ByteArray) (ta : Option Addr) (tc : Nat) (kids : List Tr) (w : World) (hin : (Tr.mk tk tn tf ts ta tc kids).In w 0) (hsm : Small (.mk tk tn tf ts ta tc kids)) (hcn : cnT (.mk tk tn tf ts ta tc kids) ≤ 100000) (h0 : errT (.mk tk tn tf ts ta tc kids) = 0) : Calls Tryz.prog 13 #[.int .i64 1, .agg #[.int .i64 tk, .int .i64 tn, .float .f64 tf, .string ts, .slice ta kids.length tc]] w (fun e w' => ∃ (k2 n2 : Int) (f2 : Nat) (s2 : ByteArray) (a2 : Option Addr) (c2 : Nat) (kids2 : List Tr), e = .returned (.tuple #[.agg #[.int .i64 k2, .int .i64 n2, .float .f64 f2, .string s2, .slice a2 kids2.length c2], .int .i64 0]) ∧ Sm (.mk tk tn tf ts ta tc kids) (.mk k2 n2 f2 s2 a2 c2 kids2) ∧ (Tr.mk k2 n2 f2 s2 a2 c2 kids2).In w' w.heap.size ∧ Below w.heap.size w w') := by
  have CK := hidb (fun (w' : World) (hb : Below w.heap.size w w') => check_t (.mk tk tn tf ts ta tc kids) w' (in_below hb hin) hsm)
  rw [h0] at CK
  have CP := hidb (fun (w' : World) (hb : Below w.heap.size w w') => copy_any (.mk tk tn tf ts ta tc kids) w' (in_below hb hin) hsm (by omega))
  simp only [Tr.val, Tr.cells] at CK CP
  clear hin hsm h0
  generalize Tr.mk tk tn tf ts ta tc kids = T0 at *
  generalize kids.length = tl at *
  have HT : Hid (((w.alloc (.cells #[.int .i64 tk, .int .i64 tn, .float .f64 tf, .string ts, .slice ta tl tc] 25)).alloc (.cells #[.int .i64 0, .int .i64 0, .float .f64 0, .string ⟨#[]⟩, .slice none 0 0] 25)).heap[w.heap.size]? = some (.cells #[.int .i64 tk, .int .i64 tn, .float .f64 tf, .string ts, .slice ta tl tc] 25)) := hidb (at_keep (at_new w _) (below_new _ _))
  have HR : Hid (((w.alloc (.cells #[.int .i64 tk, .int .i64 tn, .float .f64 tf, .string ts, .slice ta tl tc] 25)).alloc (.cells #[.int .i64 0, .int .i64 0, .float .f64 0, .string ⟨#[]⟩, .slice none 0 0] 25)).heap[w.heap.size + 1]? = some (.cells #[.int .i64 0, .int .i64 0, .float .f64 0, .string ⟨#[]⟩, .slice none 0 0] 25)) := hidb (by have := at_new (w.alloc (.cells #[.int .i64 tk, .int .i64 tn, .float .f64 tf, .string ts, .slice ta tl tc] 25)) (.cells #[.int .i64 0, .int .i64 0, .float .f64 0, .string ⟨#[]⟩, .slice none 0 0] 25); simpa using this)
  have HB : Hid (Below w.heap.size w ((w.alloc (.cells #[.int .i64 tk, .int .i64 tn, .float .f64 tf, .string ts, .slice ta tl tc] 25)).alloc (.cells #[.int .i64 0, .int .i64 0, .float .f64 0, .string ⟨#[]⟩, .slice none 0 0] 25))) := hidb ((below_new w _).alloc (by simp) _)
  go_enter Tryz.func13, Tryz.ntmps13
  go_wp2_with (first
    | (go_at_call 38; refine (CK.out _ HB.out).mono ?_; rintro e w1 ⟨rfl, hb1⟩; have HT := hidb (at_keep HT.out hb1); have HR := hidb (at_keep HR.out hb1); have HB := hidb (HB.out.trans (hb1.mono HB.out.size)); obtain ⟨t0, t1, t2, t3, t4⟩ := box5 HT.out; obtain ⟨r0, r1, r2, r3, r4⟩ := box5 HR.out; obtain ⟨g0, g1, g2, g3, g4⟩ := fro5 HR.out; clear hb1)
    | (go_at_call 39; refine (CP.out _ HB.out).mono ?_; rintro e w2 ⟨⟨k2, n2, f2, s2, a2, c2, kids2⟩, rfl, hs2, hi2, hb2⟩; have HSM := hidb hs2; have HIN := hidb hi2; have HLT := hidb ((show w.heap.size + 1 < _ from (Array.getElem?_eq_some_iff.1 HR.out).1)); have HB := hidb (HB.out.trans (hb2.mono HB.out.size)); have HR := hidb (at_keep HR.out hb2); obtain ⟨r0, r1, r2, r3, r4⟩ := box5 HR.out; obtain ⟨g0, g1, g2, g3, g4⟩ := fro5 HR.out; clear hb2 hs2 hi2))
  refine bodyPost_ret (v := .tuple #[.agg #[.int .i64 k2, .int .i64 n2, .float .f64 f2, .string s2, .slice a2 kids2.length c2], .int .i64 0]) ?_ rfl ⟨k2, n2, f2, s2, a2, c2, kids2, rfl, HSM.out, ?_, ?_⟩
  · simp [results, Tryz.results13, go_sem, r0, r1, r2, r3, r4]
  · exact in_base (by have := HLT.out; omega) _ (in_set (in_set (in_set (in_set (in_set HIN.out HLT.out _) HLT.out _) HLT.out _) HLT.out _) HLT.out _)
  · (repeat (refine Below.setCell ?_ (by first | (simp; done) | (simp; omega)) _)); exact HB.out

set_option maxRecDepth 100000 in
set_option maxHeartbeats 4000000 in
theorem rreason_cp1 (tk tn : Int) (tf : Nat) (ts : ByteArray) (ta : Option Addr) (tc : Nat) (kids : List Tr) (w : World) (hin : (Tr.mk tk tn tf ts ta tc kids).In w 0) (hsm : Small (.mk tk tn tf ts ta tc kids)) (_hcn : cnT (.mk tk tn tf ts ta tc kids) ≤ 100000) (h0 : errT (.mk tk tn tf ts ta tc kids) = 0) : Calls Tryz.prog 14 #[.int .i64 1, .agg #[.int .i64 tk, .int .i64 tn, .float .f64 tf, .string ts, .slice ta kids.length tc]] w (fun e w' => ∃ (k2 n2 : Int) (f2 : Nat) (s2 : ByteArray) (a2 : Option Addr) (c2 : Nat) (kids2 : List Tr), e = .returned (.tuple #[.agg #[.int .i64 k2, .int .i64 n2, .float .f64 f2, .string s2, .slice a2 kids2.length c2], .int .i64 0]) ∧ Sm (.mk tk tn tf ts ta tc kids) (.mk k2 n2 f2 s2 a2 c2 kids2) ∧ (Tr.mk k2 n2 f2 s2 a2 c2 kids2).In w' w.heap.size ∧ Below w.heap.size w w') := by
  have CK := hidb (fun (w' : World) (hb : Below w.heap.size w w') => rright_t (.mk tk tn tf ts ta tc kids) w' (in_below hb hin) (small_w _ hsm))
  rw [h0] at CK
  have CP := hidb (fun (w' : World) (hb : Below w.heap.size w w') => rcopy_any (.mk tk tn tf ts ta tc kids) w' (in_below hb hin) hsm)
  simp only [Tr.val, Tr.cells] at CK CP
  clear hin hsm h0
  generalize Tr.mk tk tn tf ts ta tc kids = T0 at *
  generalize kids.length = tl at *
  have HT : Hid (((w.alloc (.cells #[.int .i64 tk, .int .i64 tn, .float .f64 tf, .string ts, .slice ta tl tc] 25)).alloc (.cells #[.int .i64 0, .int .i64 0, .float .f64 0, .string ⟨#[]⟩, .slice none 0 0] 25)).heap[w.heap.size]? = some (.cells #[.int .i64 tk, .int .i64 tn, .float .f64 tf, .string ts, .slice ta tl tc] 25)) := hidb (at_keep (at_new w _) (below_new _ _))
  have HR : Hid (((w.alloc (.cells #[.int .i64 tk, .int .i64 tn, .float .f64 tf, .string ts, .slice ta tl tc] 25)).alloc (.cells #[.int .i64 0, .int .i64 0, .float .f64 0, .string ⟨#[]⟩, .slice none 0 0] 25)).heap[w.heap.size + 1]? = some (.cells #[.int .i64 0, .int .i64 0, .float .f64 0, .string ⟨#[]⟩, .slice none 0 0] 25)) := hidb (by have := at_new (w.alloc (.cells #[.int .i64 tk, .int .i64 tn, .float .f64 tf, .string ts, .slice ta tl tc] 25)) (.cells #[.int .i64 0, .int .i64 0, .float .f64 0, .string ⟨#[]⟩, .slice none 0 0] 25); simpa using this)
  have HB : Hid (Below w.heap.size w ((w.alloc (.cells #[.int .i64 tk, .int .i64 tn, .float .f64 tf, .string ts, .slice ta tl tc] 25)).alloc (.cells #[.int .i64 0, .int .i64 0, .float .f64 0, .string ⟨#[]⟩, .slice none 0 0] 25))) := hidb ((below_new w _).alloc (by simp) _)
  go_enter Tryz.func14, Tryz.ntmps14
  go_wp2_with (first
    | (go_at_call 16; refine (CK.out _ HB.out).mono ?_; rintro e w1 ⟨rfl, hb1⟩; have HT := hidb (at_keep HT.out hb1); have HR := hidb (at_keep HR.out hb1); have HB := hidb (HB.out.trans (hb1.mono HB.out.size)); obtain ⟨t0, t1, t2, t3, t4⟩ := box5 HT.out; obtain ⟨r0, r1, r2, r3, r4⟩ := box5 HR.out; obtain ⟨g0, g1, g2, g3, g4⟩ := fro5 HR.out; clear hb1)
    | (go_at_call 35; refine (CP.out _ HB.out).mono ?_; rintro e w2 ⟨⟨k2, n2, f2, s2, a2, c2, kids2⟩, rfl, hs2, hi2, hb2⟩; have HSM := hidb hs2; have HIN := hidb hi2; have HLT := hidb ((show w.heap.size + 1 < _ from (Array.getElem?_eq_some_iff.1 HR.out).1)); have HB := hidb (HB.out.trans (hb2.mono HB.out.size)); have HR := hidb (at_keep HR.out hb2); obtain ⟨r0, r1, r2, r3, r4⟩ := box5 HR.out; obtain ⟨g0, g1, g2, g3, g4⟩ := fro5 HR.out; clear hb2 hs2 hi2))
  refine bodyPost_ret (v := .tuple #[.agg #[.int .i64 k2, .int .i64 n2, .float .f64 f2, .string s2, .slice a2 kids2.length c2], .int .i64 0]) ?_ rfl ⟨k2, n2, f2, s2, a2, c2, kids2, rfl, HSM.out, ?_, ?_⟩
  · simp [results, Tryz.results14, go_sem, r0, r1, r2, r3, r4]
  · exact in_base (by have := HLT.out; omega) _ (in_set (in_set (in_set (in_set (in_set HIN.out HLT.out _) HLT.out _) HLT.out _) HLT.out _) HLT.out _)
  · (repeat (refine Below.setCell ?_ (by first | (simp; done) | (simp; omega)) _)); exact HB.out

set_option maxRecDepth 100000 in
set_option maxHeartbeats 4000000 in
theorem reason_cp2 (tk tn : Int) (tf : Nat) (ts : ByteArray) (ta : Option Addr) (tc : Nat) (kids : List Tr) (w : World) (hin : (Tr.mk tk tn tf ts ta tc kids).In w 0) (hsm : Small (.mk tk tn tf ts ta tc kids)) (hcn : cnT (.mk tk tn tf ts ta tc kids) ≤ 100000) (h0 : errT (.mk tk tn tf ts ta tc kids) = 0) : Calls Tryz.prog 13 #[.int .i64 2, .agg #[.int .i64 tk, .int .i64 tn, .float .f64 tf, .string ts, .slice ta kids.length tc]] w (fun e w' => ∃ (k2 n2 : Int) (f2 : Nat) (s2 : ByteArray) (a2 : Option Addr) (c2 : Nat) (kids2 : List Tr), e = .returned (.tuple #[.agg #[.int .i64 k2, .int .i64 n2, .float .f64 f2, .string s2, .slice a2 kids2.length c2], .int .i64 0]) ∧ Sm (.mk tk tn tf ts ta tc kids) (.mk k2 n2 f2 s2 a2 c2 kids2) ∧ (Tr.mk k2 n2 f2 s2 a2 c2 kids2).In w' w.heap.size ∧ Below w.heap.size w w') := by
  have CK := hidb (fun (w' : World) (hb : Below w.heap.size w w') => check_t (.mk tk tn tf ts ta tc kids) w' (in_below hb hin) hsm)
  rw [h0] at CK
  have CP := hidb (fun (w' : World) (hb : Below w.heap.size w w') => copy_any (.mk tk tn tf ts ta tc kids) w' (in_below hb hin) hsm (by omega))
  simp only [Tr.val, Tr.cells] at CK CP
  clear hin hsm h0
  generalize Tr.mk tk tn tf ts ta tc kids = T0 at *
  generalize kids.length = tl at *
  have HT : Hid (((w.alloc (.cells #[.int .i64 tk, .int .i64 tn, .float .f64 tf, .string ts, .slice ta tl tc] 25)).alloc (.cells #[.int .i64 0, .int .i64 0, .float .f64 0, .string ⟨#[]⟩, .slice none 0 0] 25)).heap[w.heap.size]? = some (.cells #[.int .i64 tk, .int .i64 tn, .float .f64 tf, .string ts, .slice ta tl tc] 25)) := hidb (at_keep (at_new w _) (below_new _ _))
  have HR : Hid (((w.alloc (.cells #[.int .i64 tk, .int .i64 tn, .float .f64 tf, .string ts, .slice ta tl tc] 25)).alloc (.cells #[.int .i64 0, .int .i64 0, .float .f64 0, .string ⟨#[]⟩, .slice none 0 0] 25)).heap[w.heap.size + 1]? = some (.cells #[.int .i64 0, .int .i64 0, .float .f64 0, .string ⟨#[]⟩, .slice none 0 0] 25)) := hidb (by have := at_new (w.alloc (.cells #[.int .i64 tk, .int .i64 tn, .float .f64 tf, .string ts, .slice ta tl tc] 25)) (.cells #[.int .i64 0, .int .i64 0, .float .f64 0, .string ⟨#[]⟩, .slice none 0 0] 25); simpa using this)
  have HB : Hid (Below w.heap.size w ((w.alloc (.cells #[.int .i64 tk, .int .i64 tn, .float .f64 tf, .string ts, .slice ta tl tc] 25)).alloc (.cells #[.int .i64 0, .int .i64 0, .float .f64 0, .string ⟨#[]⟩, .slice none 0 0] 25))) := hidb ((below_new w _).alloc (by simp) _)
  go_enter Tryz.func13, Tryz.ntmps13
  go_wp2_with (first
    | (go_at_call 38; refine (CK.out _ HB.out).mono ?_; rintro e w1 ⟨rfl, hb1⟩; have HT := hidb (at_keep HT.out hb1); have HR := hidb (at_keep HR.out hb1); have HB := hidb (HB.out.trans (hb1.mono HB.out.size)); obtain ⟨t0, t1, t2, t3, t4⟩ := box5 HT.out; obtain ⟨r0, r1, r2, r3, r4⟩ := box5 HR.out; obtain ⟨g0, g1, g2, g3, g4⟩ := fro5 HR.out; clear hb1)
    | (go_at_call 39; refine (CP.out _ HB.out).mono ?_; rintro e w2 ⟨⟨k2, n2, f2, s2, a2, c2, kids2⟩, rfl, hs2, hi2, hb2⟩; have HSM := hidb hs2; have HIN := hidb hi2; have HLT := hidb ((show w.heap.size + 1 < _ from (Array.getElem?_eq_some_iff.1 HR.out).1)); have HB := hidb (HB.out.trans (hb2.mono HB.out.size)); have HR := hidb (at_keep HR.out hb2); obtain ⟨r0, r1, r2, r3, r4⟩ := box5 HR.out; obtain ⟨g0, g1, g2, g3, g4⟩ := fro5 HR.out; clear hb2 hs2 hi2))
  refine bodyPost_ret (v := .tuple #[.agg #[.int .i64 k2, .int .i64 n2, .float .f64 f2, .string s2, .slice a2 kids2.length c2], .int .i64 0]) ?_ rfl ⟨k2, n2, f2, s2, a2, c2, kids2, rfl, HSM.out, ?_, ?_⟩
  · simp [results, Tryz.results13, go_sem, r0, r1, r2, r3, r4]
  · exact in_base (by have := HLT.out; omega) _ (in_set (in_set (in_set (in_set (in_set HIN.out HLT.out _) HLT.out _) HLT.out _) HLT.out _) HLT.out _)
  · (repeat (refine Below.setCell ?_ (by first | (simp; done) | (simp; omega)) _)); exact HB.out

set_option maxRecDepth 100000 in
set_option maxHeartbeats 4000000 in
theorem rreason_cp2 (tk tn : Int) (tf : Nat) (ts : ByteArray) (ta : Option Addr) (tc : Nat) (kids : List Tr) (w : World) (hin : (Tr.mk tk tn tf ts ta tc kids).In w 0) (hsm : Small (.mk tk tn tf ts ta tc kids)) (_hcn : cnT (.mk tk tn tf ts ta tc kids) ≤ 100000) (h0 : errT (.mk tk tn tf ts ta tc kids) = 0) : Calls Tryz.prog 14 #[.int .i64 2, .agg #[.int .i64 tk, .int .i64 tn, .float .f64 tf, .string ts, .slice ta kids.length tc]] w (fun e w' => ∃ (k2 n2 : Int) (f2 : Nat) (s2 : ByteArray) (a2 : Option Addr) (c2 : Nat) (kids2 : List Tr), e = .returned (.tuple #[.agg #[.int .i64 k2, .int .i64 n2, .float .f64 f2, .string s2, .slice a2 kids2.length c2], .int .i64 0]) ∧ Sm (.mk tk tn tf ts ta tc kids) (.mk k2 n2 f2 s2 a2 c2 kids2) ∧ (Tr.mk k2 n2 f2 s2 a2 c2 kids2).In w' w.heap.size ∧ Below w.heap.size w w') := by
  have CK := hidb (fun (w' : World) (hb : Below w.heap.size w w') => rright_t (.mk tk tn tf ts ta tc kids) w' (in_below hb hin) (small_w _ hsm))
  rw [h0] at CK
  have CP := hidb (fun (w' : World) (hb : Below w.heap.size w w') => rcopy_any (.mk tk tn tf ts ta tc kids) w' (in_below hb hin) hsm)
  simp only [Tr.val, Tr.cells] at CK CP
  clear hin hsm h0
  generalize Tr.mk tk tn tf ts ta tc kids = T0 at *
  generalize kids.length = tl at *
  have HT : Hid (((w.alloc (.cells #[.int .i64 tk, .int .i64 tn, .float .f64 tf, .string ts, .slice ta tl tc] 25)).alloc (.cells #[.int .i64 0, .int .i64 0, .float .f64 0, .string ⟨#[]⟩, .slice none 0 0] 25)).heap[w.heap.size]? = some (.cells #[.int .i64 tk, .int .i64 tn, .float .f64 tf, .string ts, .slice ta tl tc] 25)) := hidb (at_keep (at_new w _) (below_new _ _))
  have HR : Hid (((w.alloc (.cells #[.int .i64 tk, .int .i64 tn, .float .f64 tf, .string ts, .slice ta tl tc] 25)).alloc (.cells #[.int .i64 0, .int .i64 0, .float .f64 0, .string ⟨#[]⟩, .slice none 0 0] 25)).heap[w.heap.size + 1]? = some (.cells #[.int .i64 0, .int .i64 0, .float .f64 0, .string ⟨#[]⟩, .slice none 0 0] 25)) := hidb (by have := at_new (w.alloc (.cells #[.int .i64 tk, .int .i64 tn, .float .f64 tf, .string ts, .slice ta tl tc] 25)) (.cells #[.int .i64 0, .int .i64 0, .float .f64 0, .string ⟨#[]⟩, .slice none 0 0] 25); simpa using this)
  have HB : Hid (Below w.heap.size w ((w.alloc (.cells #[.int .i64 tk, .int .i64 tn, .float .f64 tf, .string ts, .slice ta tl tc] 25)).alloc (.cells #[.int .i64 0, .int .i64 0, .float .f64 0, .string ⟨#[]⟩, .slice none 0 0] 25))) := hidb ((below_new w _).alloc (by simp) _)
  go_enter Tryz.func14, Tryz.ntmps14
  go_wp2_with (first
    | (go_at_call 16; refine (CK.out _ HB.out).mono ?_; rintro e w1 ⟨rfl, hb1⟩; have HT := hidb (at_keep HT.out hb1); have HR := hidb (at_keep HR.out hb1); have HB := hidb (HB.out.trans (hb1.mono HB.out.size)); obtain ⟨t0, t1, t2, t3, t4⟩ := box5 HT.out; obtain ⟨r0, r1, r2, r3, r4⟩ := box5 HR.out; obtain ⟨g0, g1, g2, g3, g4⟩ := fro5 HR.out; clear hb1)
    | (go_at_call 35; refine (CP.out _ HB.out).mono ?_; rintro e w2 ⟨⟨k2, n2, f2, s2, a2, c2, kids2⟩, rfl, hs2, hi2, hb2⟩; have HSM := hidb hs2; have HIN := hidb hi2; have HLT := hidb ((show w.heap.size + 1 < _ from (Array.getElem?_eq_some_iff.1 HR.out).1)); have HB := hidb (HB.out.trans (hb2.mono HB.out.size)); have HR := hidb (at_keep HR.out hb2); obtain ⟨r0, r1, r2, r3, r4⟩ := box5 HR.out; obtain ⟨g0, g1, g2, g3, g4⟩ := fro5 HR.out; clear hb2 hs2 hi2))
  refine bodyPost_ret (v := .tuple #[.agg #[.int .i64 k2, .int .i64 n2, .float .f64 f2, .string s2, .slice a2 kids2.length c2], .int .i64 0]) ?_ rfl ⟨k2, n2, f2, s2, a2, c2, kids2, rfl, HSM.out, ?_, ?_⟩
  · simp [results, Tryz.results14, go_sem, r0, r1, r2, r3, r4]
  · exact in_base (by have := HLT.out; omega) _ (in_set (in_set (in_set (in_set (in_set HIN.out HLT.out _) HLT.out _) HLT.out _) HLT.out _) HLT.out _)
  · (repeat (refine Below.setCell ?_ (by first | (simp; done) | (simp; omega)) _)); exact HB.out
end Go.Proofs.YtliebilpddmhkaaGreat


