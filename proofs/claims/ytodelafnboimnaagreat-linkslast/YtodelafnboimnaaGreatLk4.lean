/- Half-links: what methods make of them, New, law14.known (as Ls1, without the document's). -/
import Derived.Test.YtodelafnboimnaaGreatLk2
namespace Go.Proofs.YtodelafnboimnaaGreat
open Go.RowKit Go.Lib
open HV (Hf hf0 getL insL delL Rise Wfk TB Nw Rst)
attribute [local go_sem] store_float f64bits
attribute [local go_sem ↓] Go.wp_at_zero Go.wp_at_succ

theorem getL_filter (q : Int) (f : Int → Bool) : ∀ l : List HV.KV, getL q (l.filter (fun x => f x.1)) = if f q then getL q l else none
  | [] => by simp [getL]
  | x :: r => by
    rw [List.filter_cons]
    by_cases e : x.1 = q
    · by_cases g : f x.1 = true
      · rw [if_pos g, ← e, if_pos g]; simp [getL]
      · rw [if_neg g, getL_filter q f r, ← e, if_neg g, if_neg g]
    · by_cases g : f x.1 = true
      · rw [if_pos g]; simp only [getL, e, if_false]; exact getL_filter q f r
      · rw [if_neg g]; simp only [getL, e, if_false]; exact getL_filter q f r
theorem getL_ins (q p : Int) (v : Hf) (l : List HV.KV) : getL q (insL p v l) = if p = q then some v else getL q l := by
  unfold insL
  rw [HV.getL_append, getL_filter q (fun a => decide (a < p))]
  simp only [getL]
  rw [getL_filter q (fun a => decide (p < a))]
  by_cases e : p = q
  · subst e; simp
  · rcases Int.lt_or_gt_of_ne e with h | h
    · simp [e, h, show ¬ q < p by omega]
    · simp [e, h, show ¬ p < q by omega]
theorem getL_del (q p : Int) (l : List HV.KV) : getL q (delL p l) = if p = q then none else getL q l := by
  unfold delL
  rw [getL_filter q (fun a => decide (a ≠ p))]
  by_cases e : p = q
  · subst e; simp
  · simp [e, show ¬ q = p from fun h => e h.symm]
theorem getL_tail {q : Int} {l : List HV.KV} (h : Rise l) : getL q l.tail = none ∨ getL q l.tail = getL q l := by
  cases l with
  | nil => exact .inl rfl
  | cons x r =>
    by_cases e : x.1 = q
    · left
      have := (List.pairwise_cons.1 h).1
      exact HV.getL_none (fun y hy e' => by have := this y hy; omega)
    · right; simp [getL, e]

theorem isLk_of {q : Int} {l l' : List HV.KV} (h : getL q l' = none ∨ getL q l' = getL q l) (hq : isLk q l = false) : isLk q l' = false := by
  rcases h with h | h
  · simp [isLk, stL, h]
  · simpa [isLk, stL, h] using hq
theorem isLk_ins {q p : Int} {v : Hf} {l : List HV.KV} (hq : isLk q l = false) (h : p = q → v.b = 2) : isLk q (insL p v l) = false := by
  by_cases e : p = q
  · simp [isLk, stL, getL_ins, e, h e]
  · exact isLk_of (.inr (by rw [getL_ins, if_neg e])) hq
theorem isLk_del {q p : Int} {l : List HV.KV} (hq : isLk q l = false) : isLk q (delL p l) = false := by
  refine isLk_of ?_ hq
  rw [getL_del]
  by_cases e : p = q
  · exact .inl (if_pos e)
  · exact .inr (if_neg e)

theorem ulk_deaf {p n : Int} {L : List HV.KV} : isLk p (ulkL p n L) = false := by
  unfold ulkL
  split
  · simp [isLk, stL, getL_ins]
  · rename_i h; simpa using h

theorem ins_len_le {p : Int} {v : Hf} {L : List HV.KV} (h : Rise L) : (insL p v L).length ≤ L.length + 1 := by rw [HV.ins_len h]; split <;> omega
theorem del_len_le {p : Int} {L : List HV.KV} : (delL p L).length ≤ L.length := List.length_filter_le _ _
theorem ulk_n {p n : Int} {L : List HV.KV} : n ≤ ulkN p n L ∧ ulkN p n L ≤ n + 1 := by
  unfold ulkN
  split <;> omega
theorem ulk_len {p n : Int} {L : List HV.KV} (h : Rise L) : (ulkL p n L).length ≤ L.length + 1 := by
  unfold ulkL
  split
  · exact ins_len_le h
  · omega

set_option maxHeartbeats 1000000 in
theorem lnew_any (w : World) : Calls Tryz.prog 14 #[] w fun e w' => e = .returned (.pointer (some ⟨w.heap.size, 0, none⟩)) ∧ LT w' w.heap.size (fun _ => False) [] 0 ∧ Below w.heap.size w w' ∧ w'.heap.size = w.heap.size + 1 := by
  go_enter Tryz.func14, Tryz.ntmps14
  go_wp2_with fail
  go_ret
  have P := Tri.new w 71 (.pointer none) (.int .i64 0) (.int .i64 0)
  exact ⟨rfl, ⟨⟨none, .leaf, ⟨P.c0, P.c1, P.f0, P.f1, P.lt⟩, rfl, trivial, List.Pairwise.nil, (fun _ h => by simp at h), rfl, id⟩, P.c2, P.f2, fun _ h => by simp at h⟩, below_new _ _, by simp⟩

/-- A table in new memory. -/
def KN (w0 w : World) (tb : Nat) (L : List HV.KV) (n : Int) : Prop := ∃ D, LT w tb D L n ∧ Below w0.heap.size w0 w ∧ w0.heap.size ≤ tb

theorem KN.of {w0 w w' : World} {tb : Nat} {D : Nat → Prop} {L : List HV.KV} {n : Int} (hu : LU w w' tb D L n) (hb : Below w0.heap.size w0 w) (ht : w0.heap.size ≤ tb) : KN w0 w' tb L n :=
  ⟨_, hu.lt, hb.trans (hu.bt.below hb.size (fun k e => by omega)), ht⟩

abbrev S1 : List HV.KV := [(2, ⟨2, 1, 0⟩)]
abbrev S2 : List HV.KV := [(2, ⟨2, 2, 1⟩)]
abbrev S3 : List HV.KV := [(2, ⟨2, 2, 2⟩)]

theorem KN.link {w0 w : World} {tb : Nat} {L L' : List HV.KV} {n : Int} {b : Bool} (h : KN w0 w tb L n) (hN : L.length < 100) (e1 : (!isLk 2 L) = b) (e2 : lnkL 2 L = L') :
    Calls Tryz.prog 15 #[.pointer (some ⟨tb, 0, none⟩), .int .i64 2] w fun e w' => e = .returned (.bool b) ∧ KN w0 w' tb L' n := by
  obtain ⟨D, h1, h2, h3⟩ := h
  refine (llink_any h1 (by omega) 2 (by omega)).mono ?_
  rintro e w' ⟨rfl, hu⟩
  rw [e2] at hu
  exact ⟨by rw [e1], KN.of hu h2 h3⟩
theorem KN.unlink {w0 w : World} {tb : Nat} {L L' : List HV.KV} {n n' i : Int} {b : Bool} (h : KN w0 w tb L n) (hN : L.length < 100) (hn : 0 ≤ n ∧ n < 100) (e1 : isLk 2 L = b) (e2 : ulkL 2 n L = L') (e3 : ulkN 2 n L = n') (e4 : ulkI 2 n L = i) :
    Calls Tryz.prog 16 #[.pointer (some ⟨tb, 0, none⟩), .int .i64 2] w fun e w' => e = .returned (.tuple #[.int .i64 i, .bool b]) ∧ KN w0 w' tb L' n' := by
  obtain ⟨D, h1, h2, h3⟩ := h
  refine (lunlink_any h1 (by omega) 2 (by omega) (by omega)).mono ?_
  rintro e w' ⟨rfl, hu⟩
  rw [e2, e3] at hu
  exact ⟨by rw [e1, e4], KN.of hu h2 h3⟩
theorem KN.ack {w0 w : World} {tb : Nat} {L L' : List HV.KV} {n : Int} {b : Bool} (h : KN w0 w tb L n) (id : Int) (hN : L.length < 100) (e1 : ackB 2 id L = b) (e2 : ackL 2 id L = L') :
    Calls Tryz.prog 17 #[.pointer (some ⟨tb, 0, none⟩), .int .i64 2, .int .i64 id] w fun e w' => e = .returned (.bool b) ∧ KN w0 w' tb L' n := by
  obtain ⟨D, h1, h2, h3⟩ := h
  refine (lonack_any h1 (by omega) 2 id).mono ?_
  rintro e w' ⟨rfl, hu⟩
  rw [e2] at hu
  exact ⟨by rw [e1], KN.of hu h2 h3⟩

set_option maxRecDepth 100000 in
set_option maxHeartbeats 4000000 in
theorem known14_any (w : World) : Calls Tryz.prog 5 #[] w fun e w' => e = .returned (.bool true) ∧ Below w.heap.size w w' := by
  have C0 : Hid (Calls Tryz.prog 14 #[] w fun e w1 => e = .returned (.pointer (some ⟨w.heap.size, 0, none⟩)) ∧ Hid (Calls Tryz.prog 15 #[.pointer (some ⟨w.heap.size, 0, none⟩), .int .i64 2] w1 fun e w2 => e = .returned (.bool true) ∧ Hid (Calls Tryz.prog 15 #[.pointer (some ⟨w.heap.size, 0, none⟩), .int .i64 2] w2 fun e w3 => e = .returned (.bool false) ∧ Hid (Calls Tryz.prog 16 #[.pointer (some ⟨w.heap.size, 0, none⟩), .int .i64 2] w3 fun e w4 => e = .returned (.tuple #[.int .i64 1, .bool true]) ∧ Hid (Calls Tryz.prog 16 #[.pointer (some ⟨w.heap.size, 0, none⟩), .int .i64 2] w4 fun e w5 => e = .returned (.tuple #[.int .i64 0, .bool false]) ∧ Hid (Calls Tryz.prog 15 #[.pointer (some ⟨w.heap.size, 0, none⟩), .int .i64 2] w5 fun e w6 => e = .returned (.bool true) ∧ Hid (Calls Tryz.prog 17 #[.pointer (some ⟨w.heap.size, 0, none⟩), .int .i64 2, .int .i64 1] w6 fun e w7 => e = .returned (.bool false) ∧ Hid (Calls Tryz.prog 16 #[.pointer (some ⟨w.heap.size, 0, none⟩), .int .i64 2] w7 fun e w8 => e = .returned (.tuple #[.int .i64 2, .bool true]) ∧ Hid (Calls Tryz.prog 17 #[.pointer (some ⟨w.heap.size, 0, none⟩), .int .i64 2, .int .i64 1] w8 fun e w9 => e = .returned (.bool false) ∧ Hid (Calls Tryz.prog 17 #[.pointer (some ⟨w.heap.size, 0, none⟩), .int .i64 2, .int .i64 2] w9 fun e w10 => e = .returned (.bool true) ∧ Hid (Below w.heap.size w w10))))))))))) := by
    refine hidb ((lnew_any w).mono ?_)
    rintro e w1 ⟨rfl, g1, g2, -⟩
    have h0 : KN w w1 w.heap.size [] 0 := ⟨_, g1, g2, Nat.le_refl _⟩
    refine ⟨rfl, ?_⟩
    refine hidb (Calls.mono (R := fun e w2 => e = .returned (.bool true) ∧ KN w w2 w.heap.size S1 0) (KN.link h0 (by decide) (by rfl) (by rfl)) ?_)
    rintro e w2 ⟨rfl, h1⟩
    refine ⟨rfl, hidb (Calls.mono (R := fun e w3 => e = .returned (.bool false) ∧ KN w w3 w.heap.size S1 0) (KN.link h1 (by decide) (by rfl) (by rfl)) ?_)⟩
    rintro e w3 ⟨rfl, h2⟩
    refine ⟨rfl, hidb (Calls.mono (R := fun e w4 => e = .returned (.tuple #[.int .i64 1, .bool true]) ∧ KN w w4 w.heap.size S2 1) (KN.unlink h2 (by decide) (by decide) (by rfl) (by rfl) (by rfl) (by rfl)) ?_)⟩
    rintro e w4 ⟨rfl, h3⟩
    refine ⟨rfl, hidb (Calls.mono (R := fun e w5 => e = .returned (.tuple #[.int .i64 0, .bool false]) ∧ KN w w5 w.heap.size S2 1) (KN.unlink h3 (by decide) (by decide) (by rfl) (by rfl) (by rfl) (by rfl)) ?_)⟩
    rintro e w5 ⟨rfl, h4⟩
    refine ⟨rfl, hidb (Calls.mono (R := fun e w6 => e = .returned (.bool true) ∧ KN w w6 w.heap.size S1 1) (KN.link h4 (by decide) (by rfl) (by rfl)) ?_)⟩
    rintro e w6 ⟨rfl, h5⟩
    refine ⟨rfl, hidb (Calls.mono (R := fun e w7 => e = .returned (.bool false) ∧ KN w w7 w.heap.size S1 1) (KN.ack h5 1 (by decide) (by rfl) (by rfl)) ?_)⟩
    rintro e w7 ⟨rfl, h6⟩
    refine ⟨rfl, hidb (Calls.mono (R := fun e w8 => e = .returned (.tuple #[.int .i64 2, .bool true]) ∧ KN w w8 w.heap.size S3 2) (KN.unlink h6 (by decide) (by decide) (by rfl) (by rfl) (by rfl) (by rfl)) ?_)⟩
    rintro e w8 ⟨rfl, h7⟩
    refine ⟨rfl, hidb (Calls.mono (R := fun e w9 => e = .returned (.bool false) ∧ KN w w9 w.heap.size S3 2) (KN.ack h7 1 (by decide) (by rfl) (by rfl)) ?_)⟩
    rintro e w9 ⟨rfl, h8⟩
    refine ⟨rfl, hidb (Calls.mono (R := fun e w10 => e = .returned (.bool true) ∧ KN w w10 w.heap.size ([] : List HV.KV) 2) (KN.ack h8 2 (by decide) (by rfl) (by rfl)) ?_)⟩
    rintro e w10 ⟨rfl, h9⟩
    exact ⟨rfl, hidb (by obtain ⟨_, _, hb, _⟩ := h9; exact hb)⟩
  go_enter Tryz.func5, Tryz.ntmps5
  go_wp2_with (first
    | (go_at_call 14; refine C0.out.mono ?_; clear C0; rintro e w1 ⟨rfl, C1⟩)
    | (go_at_call 15; refine C1.out.mono ?_; clear C1; rintro e w2 ⟨rfl, C2⟩)
    | (go_at_call 15; refine C2.out.mono ?_; clear C2; rintro e w3 ⟨rfl, C3⟩)
    | (go_at_call 16; refine C3.out.mono ?_; clear C3; rintro e w4 ⟨rfl, C4⟩)
    | (go_at_call 16; refine C4.out.mono ?_; clear C4; rintro e w5 ⟨rfl, C5⟩)
    | (go_at_call 15; refine C5.out.mono ?_; clear C5; rintro e w6 ⟨rfl, C6⟩)
    | (go_at_call 17; refine C6.out.mono ?_; clear C6; rintro e w7 ⟨rfl, C7⟩)
    | (go_at_call 16; refine C7.out.mono ?_; clear C7; rintro e w8 ⟨rfl, C8⟩)
    | (go_at_call 17; refine C8.out.mono ?_; clear C8; rintro e w9 ⟨rfl, C9⟩)
    | (go_at_call 17; refine C9.out.mono ?_; clear C9; rintro e w10 ⟨rfl, HB⟩))
  go_ret
  exact ⟨rfl, HB.out⟩

end Go.Proofs.YtodelafnboimnaaGreat
