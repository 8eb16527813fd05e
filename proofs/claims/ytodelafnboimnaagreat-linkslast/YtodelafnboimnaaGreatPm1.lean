/- Two processes' tables and the ether between: puts, takes, what tables do. -/
import Derived.Test.YtodelafnboimnaaGreatPm0
namespace Go.Proofs.YtodelafnboimnaaGreat
open Go.RowKit Go.Lib
open HV (Hf hf0 getL insL delL Rise Wfk TB Nw Rst)
open PR (Sd Sig)
attribute [local go_sem] store_float f64bits
attribute [local go_sem ↓] Go.wp_at_zero Go.wp_at_succ

theorem fields4 (w : World) : Calls Tryz.prog 48 #[.int .i64 4] w fun e w' => e = .returned (.tuple #[.agg #[.bool false, .bool true, .bool false, .bool false, .bool false], .bool true]) ∧ Below w.heap.size w w' := by
  go_enter Tryz.func48, Tryz.ntmps48
  go_wp2
  exact bodyPost_ret (v := .tuple #[.agg #[.bool false, .bool true, .bool false, .bool false, .bool false], .bool true]) (by simp [results, Tryz.results48, go_sem]) rfl ⟨rfl, by (repeat (first | exact Below.refl _ _ | assumption | refine Below.drew ?_ | refine below_drewN ?_ _ | refine Below.setCell ?_ (by simp) _ | refine Below.alloc ?_ (by (first | exact Nat.le_refl _ | (simp; done) | (simp; omega) | omega)) _))⟩

set_option maxHeartbeats 1000000 in
theorem check4 (x0 x1 x3 : Int) (w : World) (h0 : 0 ≤ x0) (h1 : x0 ≤ 1099511627776) (h2 : 1 ≤ x1) (h3 : x1 ≤ 1099511627776) (h4 : 1 ≤ x3) (h5 : x3 ≤ 9223372036854775807) : Calls Tryz.prog 32 #[.agg #[.int .i64 x0, .int .i64 x1, .int .i64 4, .int .i64 x3, .int .i64 0, .bool false, .string ⟨#[]⟩, .int .i64 0, .int .i64 0, .float .f64 0, .string ⟨#[]⟩, .slice none 0 0]] w fun e w' => e = .returned (.int .i64 0) ∧ Below w.heap.size w w' := by
  have FI := hidb fields4
  have FT := hidb (fitTerm_no true false false false x0 x1 4 x3 0 false ⟨#[]⟩)
  have FR := hidb (fitRest_any true x0 x1 4 x3 0 0 0 ⟨#[]⟩ none 0 0)
  rw [show (if true = true then decide (1 ≤ x3) && decide (x3 ≤ 9223372036854775807) else decide (x3 = 0)) = true by simp; omega] at FR
  have WI := hidb within_any
  have d0 : (decide (0 ≤ x0) && decide (x0 ≤ 1099511627776)) = true := by simp; omega
  have d1 : (decide (1 ≤ x1) && decide (x1 ≤ 1099511627776)) = true := by simp; omega
  have HS := hidb (at_new w (.cells #[.int .i64 x0, .int .i64 x1, .int .i64 4, .int .i64 x3, .int .i64 0, .bool false, .string ⟨#[]⟩, .int .i64 0, .int .i64 0, .float .f64 0, .string ⟨#[]⟩, .slice none 0 0] ST))
  have HB := hidb (below_new w (.cells #[.int .i64 x0, .int .i64 x1, .int .i64 4, .int .i64 x3, .int .i64 0, .bool false, .string ⟨#[]⟩, .int .i64 0, .int .i64 0, .float .f64 0, .string ⟨#[]⟩, .slice none 0 0] ST))
  clear h0 h1 h2 h3
  go_enter Tryz.func32, Tryz.ntmps32
  go_wp2_with (first
    | (go_at_call 48; refine (FI.out _).mono ?_; rintro e w1 ⟨rfl, hb1⟩; have HB1 := hidb (HB.out.trans (hb1.mono HB.out.size)); have HS1 := hidb (at_keep HS.out hb1); obtain ⟨s0, s1, s2, s3, s4, s5, s6, s7, s8, s9, s10, s11⟩ := box12 HS1.out; have hlt : w.heap.size < w1.heap.size := (Array.getElem?_eq_some_iff.1 HS1.out).1; clear hb1)
    | (go_at_call 49; refine (WI.out _ _ _ _).mono ?_; (first | rw [d0] | rw [d1]); rintro e w2 ⟨rfl, rfl⟩)
    | (go_at_call 50; refine (FT.out _).mono ?_; rintro e w3 ⟨rfl, hb3⟩; have HB3 := hidb ((HB1.out.alloc HB1.out.size _).trans (hb3.mono (Nat.le_trans HB1.out.size (by simp)))); have HS3 := hidb (at_keep (at_keep HS1.out (below_new w1 _)) hb3); obtain ⟨t0, t1, t2, t3, t4, t5, t6, t7, t8, t9, t10, t11⟩ := box12 HS3.out; obtain ⟨u0, u1, u2, u3, u4⟩ := box5 (at_keep (at_new w1 (.cells #[.bool false, .bool true, .bool false, .bool false, .bool false] 100)) hb3); clear hb3)
    | (go_at_call 51; refine (FR.out _).mono ?_; rintro e w4 ⟨rfl, hb4⟩; have HB4 := hidb (HB3.out.trans (hb4.mono HB3.out.size)); clear hb4))
  go_ret
  exact ⟨rfl, HB4.out⟩


variable {w0 w w' : World} {pb tA tB eb N : Nat} {v0 v1 : Value} {x y : Int} {A B A' : Sd} {p q : List Sig}

abbrev sgv (x y k i : Int) : Value := .agg #[.int .i64 x, .int .i64 y, .int .i64 k, .int .i64 i, .int .i64 0, .bool false, .string ⟨#[]⟩, .int .i64 0, .int .i64 0, .float .f64 0, .string ⟨#[]⟩, .slice none 0 0]

/-- Right signals are taken. -/
theorem check_wf {x y : Int} (hx : 1 ≤ x ∧ x ≤ 2) (hy : 1 ≤ y ∧ y ≤ 2) {s : Sig} (hs : PR.Wf s) (w : World) : Calls Tryz.prog 32 #[sgv x y s.1 s.2] w fun e w' => e = .returned (.int .i64 0) ∧ Below w.heap.size w w' := by
  obtain ⟨k, i⟩ := s
  rcases hs with ⟨e1, e2⟩ | ⟨e1 | e1, e2, e3⟩
  · simp only at e1 e2
    subst e1 e2
    exact check2 x y w (by omega) (by omega) (by omega) (by omega)
  · simp only at e1 e2 e3
    subst e1
    exact check3 x y i w (by omega) (by omega) (by omega) (by omega) (by omega) (by omega)
  · simp only at e1 e2 e3
    subst e1
    exact check4 x y i w (by omega) (by omega) (by omega) (by omega) (by omega) (by omega)

theorem wfi_small {x : Int} (hx : 1 ≤ x ∧ x ≤ 2) : wfi x := by
  have : x = 1 ∨ x = 2 := by omega
  rcases this with rfl | rfl <;> rfl

theorem PM.put (h : PM w0 w pb v0 v1 tA tB eb x y A B p q N) (hx : 1 ≤ x ∧ x ≤ 2) (hy : 1 ≤ y ∧ y ≤ 2) (hxy : x ≠ y) {s : Sig} (hs : PR.Wf s) (hN : N ≤ 90000) (hA : p.length + q.length ≤ 90000) :
    Calls Tryz.prog 19 #[.pointer (some ⟨eb, 0, none⟩), sgv x y s.1 s.2] w fun e w' => e = .returned (.int .i64 0) ∧ PM w0 w' pb v0 v1 tA tB eb x y A B (p ++ [s]) q (N + 2) := by
  obtain ⟨DA, DB, mv, f, h1, h2, h3, h4, h5, h6, h7, h8⟩ := h
  refine (put_ok (wfi_small hx) (wfi_small hy) h4 (by omega) (by omega) (fun w => check_wf hx hy hs w)).mono ?_
  rintro e w' ⟨rfl, mv', l, g1, g2, g3, g4, g5, g6⟩
  refine ⟨rfl, PM.air h1 h2 h3 h8 (S := putS mv f eb x y) (by rw [List.length_append, List.length_singleton, show p.length + 1 + q.length = p.length + q.length + 1 by omega]; exact g1) g4 ?_ ?_ ?_ (lane_other h6 (by omega)) ?_⟩
  · rintro k (e | e | ⟨l0, e1, e2⟩)
    · exact .inl e
    · exact .inr (.inl e)
    · exact .inr (.inr ⟨_, _, l0, e1, e2⟩)
  · rintro k (e | e | ⟨a, b, l0, e1, e2⟩)
    · exact .inl (.inl e)
    · exact (g5 k e).imp (fun e => .inr (.inl e)) id
    · by_cases hc : a = x ∧ b = y
      · obtain ⟨rfl, rfl⟩ := hc
        rw [updL_same] at e1
        obtain rfl : l = l0 := by simpa using e1
        exact (g6 k e2).imp (fun ⟨l0, e3, e4⟩ => .inr (.inr ⟨_, _, l0, e3, e4⟩)) id
      · rw [updL_other _ _ _ _ _ _ hc] at e1
        exact .inl (.inr (.inr ⟨a, b, l0, e1, e2⟩))
  · refine .inr ⟨by simp, l, updL_same _ _ _ _, ?_, ?_⟩
    · rw [g2, lq_snoc]
      congr 1
      unfold oldx
      rcases h5 with ⟨rfl, e⟩ | ⟨_, m, e, e2, _⟩
      · rw [e]; rfl
      · rw [e]; exact e2
    · rw [g3, List.length_append]
      unfold oldk
      rcases h5 with ⟨rfl, e⟩ | ⟨_, m, e, _, e2⟩
      · rw [e]; rfl
      · rw [e]; simp [e2]
  · intro a b e1 e2
    rw [updL_other _ _ _ _ _ _ e1]
    exact h7 a b e1 e2

/-- Nothing is there to be taken. -/
theorem PM.none_in (h : PM w0 w pb v0 v1 tA tB eb x y A B p [] N) (hx : 1 ≤ x ∧ x ≤ 2) (hy : 1 ≤ y ∧ y ≤ 2) :
    Calls Tryz.prog 20 #[.pointer (some ⟨eb, 0, none⟩), .int .i64 y, .int .i64 x] w fun e w' => e = .returned (.tuple #[zsig, .bool false]) ∧ PM w0 w' pb v0 v1 tA tB eb x y A B p [] N := by
  have hk := h
  obtain ⟨DA, DB, mv, f, h1, h2, h3, h4, h5, h6, h7, h8⟩ := h
  have hf : f y x = none := by
    rcases h6 with ⟨_, e⟩ | ⟨e, _⟩
    · exact e
    · exact absurd rfl e
  refine (take_none (wfi_small hy) (wfi_small hx) h4 hf).mono ?_
  rintro e w' ⟨rfl, hb⟩
  exact ⟨rfl, hk.keep hb⟩

theorem PM.take {s : Sig} (h : PM w0 w pb v0 v1 tA tB eb x y A B p (s :: q) N) (hx : 1 ≤ x ∧ x ≤ 2) (hy : 1 ≤ y ∧ y ≤ 2) (hxy : x ≠ y) (hN : N ≤ 90000) (hA : p.length + q.length ≤ 90000) :
    Calls Tryz.prog 20 #[.pointer (some ⟨eb, 0, none⟩), .int .i64 y, .int .i64 x] w fun e w' => e = .returned (.tuple #[sgv y x s.1 s.2, .bool true]) ∧ PM w0 w' pb v0 v1 tA tB eb x y A B p q N := by
  obtain ⟨DA, DB, mv, f, h1, h2, h3, h4, h5, h6, h7, h8⟩ := h
  obtain ⟨m, hm, hx2, hk2⟩ : ∃ m, f y x = some m ∧ m.xs = lq y x (s :: q) ∧ m.k = (s :: q).length := by
    rcases h6 with ⟨e, _⟩ | ⟨_, h⟩
    · cases e
    · exact h
  cases q with
  | nil =>
    refine (take_last popOk (wfi_small hy) (wfi_small hx) h4 hm (show m.xs = sgl y x s.1 s.2 ++ [] from hx2) hk2 (by simp) (by simp; omega) (by omega)).mono ?_
    rintro e w' ⟨rfl, g1, g2⟩
    refine ⟨rfl, PM.air h1 h2 h3 h8 (by simpa using g1) g2 ?_ ?_ (lane_other h5 (by omega)) (.inl ⟨rfl, updL_same _ _ _ _⟩) ?_⟩
    · rintro k (e | e | e)
      · exact .inl e
      · exact .inr (.inl e)
      · exact .inr (.inr ⟨_, _, m, hm, e⟩)
    · rintro k (e | e | ⟨a, b, l0, e1, e2⟩)
      · exact .inl (.inl e)
      · exact .inl (.inr (.inl e))
      · by_cases hc : a = y ∧ b = x
        · obtain ⟨rfl, rfl⟩ := hc
          rw [updL_same] at e1; cases e1
        · rw [updL_other _ _ _ _ _ _ hc] at e1
          exact .inl (.inr (.inr ⟨a, b, l0, e1, e2⟩))
    · intro a b e1 e2
      rw [updL_other _ _ _ _ _ _ e2]
      exact h7 a b e1 e2
  | cons s2 r =>
    refine (take_more popOk (wfi_small hy) (wfi_small hx) (l := m) (k := r.length) (rest := lq y x (s2 :: r)) h4 hm hx2 (by rw [hk2]; simp) (by simp; omega) (by simp at hA ⊢; omega) (by omega)).mono ?_
    rintro e w' ⟨rfl, ⟨V', g1, gs⟩, g2⟩
    refine ⟨rfl, PM.air h1 h2 h3 h8 (by have e3 : p.length + (s :: s2 :: r).length - 1 = p.length + (s2 :: r).length := (by simp); rw [e3] at g1; exact g1) g2 ?_ ?_ (lane_other h5 (by omega)) (.inr ⟨by simp, ⟨m.rb, V', lq y x (s2 :: r), r.length + 1⟩, updL_same _ _ _ _, rfl, by simp⟩) ?_⟩
    · rintro k (e | e)
      · exact .inl e
      · exact .inr (.inr ⟨_, _, m, hm, e⟩)
    · rintro k (e | e | ⟨a, b, l0, e1, e2⟩)
      · exact .inl (.inl e)
      · exact .inl (.inr (.inl e))
      · by_cases hc : a = y ∧ b = x
        · obtain ⟨rfl, rfl⟩ := hc
          rw [updL_same] at e1
          obtain rfl : (⟨m.rb, V', lq a b (s2 :: r), r.length + 1⟩ : Lane) = l0 := by simpa using e1
          rcases e2 with e2 | e2
          · exact .inl (.inr (.inr ⟨_, _, m, hm, .inl e2⟩))
          · rcases gs with gs | gs
            · exact .inl (.inr (.inr ⟨_, _, m, hm, .inr (gs ▸ e2)⟩))
            · exact .inr (gs k e2)
        · rw [updL_other _ _ _ _ _ _ hc] at e1
          exact .inl (.inr (.inr ⟨a, b, l0, e1, e2⟩))
    · intro a b e1 e2
      rw [updL_other _ _ _ _ _ _ e2]
      exact h7 a b e1 e2

theorem PM.count (h : PM w0 w pb v0 v1 tA tB eb x y A B p q N) : Calls Tryz.prog 10 #[.pointer (some ⟨eb, 0, none⟩)] w fun e w' => e = .returned (.int .i64 ((p.length + q.length : Nat) : Int)) ∧ w' = w := by
  obtain ⟨DA, DB, mv, f, h1, h2, h3, h4, -⟩ := h
  exact all_any h4

theorem lof_len (y : Int) (s : Sd) : (Lof y s).length < 10 := by unfold Lof; split <;> simp
theorem lof_get (y : Int) (s : Sd) : getL y (Lof y s) = if s.st = 0 then none else some ⟨y, s.st, s.id⟩ := by unfold Lof; split <;> simp [getL]
theorem lof_st {y : Int} {s : Sd} : (stL y (Lof y s)).b = s.st := by
  rw [stL, lof_get]
  split
  · rename_i h; simp [h]
  · rfl
theorem lof_lk (y : Int) (s : Sd) : isLk y (Lof y s) = (s.st == 1) := by rw [isLk, lof_st]
theorem ins_one (y : Int) (u v : Hf) : insL y v [(y, u)] = [(y, v)] := by simp [insL]
theorem del_one (y : Int) (u : Hf) : delL y [(y, u)] = [] := by simp [delL]
theorem lof_ins {y : Int} {s : Sd} {v : Hf} : insL y v (Lof y s) = [(y, v)] := by
  unfold Lof; split
  · rfl
  · exact ins_one _ _ _

theorem lnk_of {y : Int} {s : Sd} (h : s.st ≠ 1) : lnkL y (Lof y s) = Lof y ⟨1, 0, s.last⟩ := by
  rw [lnkL, lof_lk, if_neg (by simpa using h), lof_ins]; simp [Lof]
theorem ulk_of {y : Int} {s : Sd} (h : s.st = 1) : ulkL y s.last (Lof y s) = Lof y ⟨2, s.last + 1, s.last + 1⟩ := by
  rw [ulkL, lof_lk, if_pos (by simpa using h), lof_ins]; simp [Lof]
theorem onl_of {y : Int} {s : Sd} (i : Int) : onlL y (Lof y s) = Lof y (PR.rcv s (2, i)) := by
  rw [onlL, lof_get]
  unfold PR.rcv
  by_cases h : s.st = 0
  · simp [h, Lof, insL]
  · simp [h]
theorem dl_of {y : Int} {s : Sd} (i : Int) : dlL y (Lof y s) = Lof y (PR.rcv s (3, i)) := by
  rw [dlL, lof_lk]
  unfold PR.rcv
  by_cases h : s.st = 1
  · simp [h, Lof, del_one]
  · simp [h]
theorem ack_of {y : Int} {s : Sd} (i : Int) : ackL y i (Lof y s) = Lof y (PR.rcv s (4, i)) := by
  rw [ackL, ackB, lof_st]
  unfold PR.rcv
  by_cases h : s.st = 2
  · have e : (stL y (Lof y s)).c = s.id := by rw [stL, lof_get]; simp [h]
    rw [e]
    by_cases g : s.id = i
    · simp [h, g, Lof, del_one]
    · simp [h, g]
  · simp [h]

end Go.Proofs.YtodelafnboimnaaGreat
