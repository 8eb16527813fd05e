/- Two that link and unlink one another: what each step keeps. -/
import Derived.Test.YtodelafnboimnaaGreatPr0
namespace Go.Proofs.YtodelafnboimnaaGreat
namespace PR

theorem ackOf_ans (x : Sig) : ackOf (ans x) = [] := by unfold ans; split <;> simp [ackOf, ans]
theorem us_ans (x : Sig) : us (ans x) = [] := by unfold ans; split <;> simp [us]
theorem lst_ans (p : List Sig) (x : Sig) : lst (p ++ ans x) = lst p := by
  unfold ans; split
  · rw [lst_snoc]; simp
  · simp

theorem us_notin {b : Sd} {q p : List Sig} (h : Half1 b q p) {z : Int} (hz : z ∈ us q) : z ∉ acks p := fun ha => by
  have := (List.pairwise_append.1 h.srt).2.2 z ha z hz; omega

theorem rcv_two {s : Sd} {x : Sig} (h : (rcv s x).st = 2) : rcv s x = s := by
  unfold rcv at h ⊢
  repeat' split
  all_goals (first | rfl | (simp_all; done))

set_option maxHeartbeats 1000000 in
theorem Inv.take {a b : Sd} {p q : List Sig} {x : Sig} (h : Inv a b p (x :: q)) : Inv (rcv a x) b (p ++ ans x) q := by
  have hx := h.hb.wf x (by simp)
  have e1 : run (rcv a x) (q ++ ackOf (p ++ ans x)) = run a (x :: q ++ ackOf p) := by rw [ackOf_append, ackOf_ans, List.append_nil]; rfl
  have e2 : run b (p ++ ans x ++ ackOf q) = run b (p ++ ackOf (x :: q)) := by rw [List.append_assoc]; rfl
  refine ⟨⟨rcv_ok h.ha.ok x, ?_, ?_, ?_, ?_, ?_, by rw [rcv_last]; exact h.ha.last⟩, ⟨h.hb.ok, fun y hy => h.hb.wf y (by simp [hy]), ?_, ?_, ?_, ?_, h.hb.last⟩, by rw [e1, e2]; exact h.fin, by rw [e1]; exact h.fin2⟩
  · intro y hy
    rcases List.mem_append.1 hy with hy | hy
    · exact h.ha.wf y hy
    · unfold ans at hy
      split at hy
      · rename_i h3
        obtain rfl : y = (4, x.2) := by simpa using hy
        rcases hx with ⟨e, _⟩ | ⟨_, e⟩
        · omega
        · exact .inr ⟨.inr rfl, e⟩
      · simp at hy
  · rw [us_append, us_ans, List.append_nil]
    have := h.ha.srt
    simp only [acks] at this
    split at this
    · exact (List.pairwise_cons.1 this).2
    · exact this
  · rw [us_append, us_ans, List.append_nil, rcv_last]
    intro y hy
    refine h.ha.lim y ?_
    simp only [acks]
    split
    · exact List.mem_cons_of_mem _ hy
    · exact hy
  · rw [lst_ans]
    intro z hz hz0
    obtain ⟨h1, h2⟩ := h.ha.k1 z hz hz0
    have hzu := lst_us h.ha.wf hz hz0
    have hr : rcv a x = a := by
      unfold rcv
      split
      · rw [if_neg (by omega)]
      · split
        · rw [if_neg (by omega)]
        · rw [if_neg]
          rintro ⟨_, e⟩
          have h4 : x.1 = 4 := by rcases hx with hx | hx <;> omega
          have := us_notin h.ha hzu
          simp only [acks, h4, if_true] at this
          exact this (by simp; omega)
    rw [hr]
    exact ⟨h1, h2⟩
  · intro h2
    have hr := rcv_two h2
    rw [hr] at h2 ⊢
    obtain ⟨g1, g2⟩ := h.ha.k2 h2
    refine ⟨g1, ?_⟩
    rw [lst_ans]
    rcases g2 with g2 | ⟨g2, g3⟩
    · exact .inl g2
    · refine .inr ⟨g2, ?_⟩
      simp only [acks] at g3
      split at g3
      · rename_i h4
        rcases List.mem_cons.1 g3 with g4 | g4
        · exfalso
          have : (rcv a x).st = 0 := by unfold rcv; rw [h4]; simp [h2, g4]
          rw [hr] at this; omega
        · exact g4
      · exact g3
  · rw [acks_append]
    have := h.hb.srt
    simp only [us] at this
    unfold ans
    split at this
    · rename_i h3
      rw [if_pos h3]
      simpa [acks] using this
    · rename_i h3
      rw [if_neg h3]
      simpa [acks] using this
  · rw [acks_append]
    intro y hy
    refine h.hb.lim y ?_
    simp only [us]
    unfold ans at hy
    split
    · rename_i h3
      rw [if_pos h3] at hy
      simpa [acks] using hy
    · rename_i h3
      rw [if_neg h3] at hy
      simpa [acks] using hy
  · intro z hz hz0
    exact h.hb.k1 z (by simp only [lst, hz]) hz0
  · intro h2
    obtain ⟨g1, g2⟩ := h.hb.k2 h2
    refine ⟨g1, ?_⟩
    cases hq : lst q with
    | some z =>
      simp only [lst, hq] at g2
      rcases g2 with g2 | ⟨g2, _⟩
      · exact .inl g2
      · cases g2
    | none =>
      simp only [lst, hq] at g2
      refine .inr ⟨rfl, ?_⟩
      rw [acks_append, List.mem_append]
      rcases g2 with g2 | ⟨_, g2⟩
      · split at g2
        · simp at g2; omega
        · split at g2
          · rename_i h3
            right
            obtain e : x.2 = b.id := by simpa using g2
            simp [ans, h3, acks, e]
          · cases g2
      · exact .inl g2

/-- How many deliveries are left. -/
def cnt (p q : List Sig) : Nat := p.length + q.length + (us p).length + (us q).length
theorem us_le (l : List Sig) : (us l).length ≤ l.length := by
  induction l with
  | nil => simp [us]
  | cons x r ih => simp only [us]; split <;> simp <;> omega
theorem cnt_le (p q : List Sig) : cnt p q ≤ 2 * (p.length + q.length) := by have := us_le p; have := us_le q; unfold cnt; omega
theorem cnt_take (p q : List Sig) (x : Sig) : cnt (p ++ ans x) q + 1 = cnt p (x :: q) := by
  unfold cnt
  rw [us_append, us_ans]
  simp only [us, ans, List.length_append, List.length_nil]
  split <;> simp <;> omega
theorem cnt_swap (p q : List Sig) : cnt p q = cnt q p := by unfold cnt; omega

theorem rcv_link {s : Sd} (h : s.st = 0 ∨ s.st = 1) : (rcv s (2, 0)).st = 1 := by
  unfold rcv; rcases h with h | h <;> simp [h]
theorem rcv_unl {s : Sd} (h : s.st = 0 ∨ s.st = 1) (k : Int) : (rcv s (3, k)).st = 0 := by
  unfold rcv; rcases h with h | h <;> simp [h]
theorem rcv_wait {s : Sd} (h : s.st = 2) (x : Sig) (hx : x.1 = 2 ∨ x.1 = 3) : rcv s x = s := by
  unfold rcv; rcases hx with hx | hx <;> simp [hx, h]

/-- How the other one stands behind what is under way to it. -/
theorem Half1.then {b : Sd} {q p : List Sig} (h : Half1 b q p) (hp : ∀ x ∈ p, Wf x) : ((run b p).st = 0 ∨ (run b p).st = 1) ∧ (∀ z, lst q = some z → z = 0) ∨ (run b p = b ∧ b.st = 2 ∧ lst q = some b.id ∧ (4, b.id) ∈ ackOf q ∧ 1 ≤ b.id) := by
  by_cases e : b.st = 2
  · obtain ⟨g1, g2⟩ := h.k2 e
    rcases g2 with g2 | ⟨g2, g3⟩
    · have hu := lst_us h.wf g2 (by omega)
      exact .inr ⟨run_wait e p (us_notin h hu) hp, e, g2, ackOf_mem hu, g1⟩
    · exact .inl ⟨run_done e p g3 hp, fun z hz => by rw [g2] at hz; cases hz⟩
  · have e2 : b.st = 0 ∨ b.st = 1 := by rcases h.ok with h | h | h <;> omega
    refine .inl ⟨run_st e2 p, fun z hz => ?_⟩
    rcases Int.decEq z 0 with hz0 | hz0
    · exact absurd (h.k1 z hz hz0).1 e
    · exact hz0

theorem Inv.link {a b : Sd} {p q : List Sig} (h : Inv a b p q) : Inv ⟨1, 0, a.last⟩ b (p ++ [(2, 0)]) q := by
  have e3 : ackOf (p ++ [(2, 0)]) = ackOf p := by rw [ackOf_append]; simp [ackOf, ans]
  have hfin : (run ⟨1, 0, a.last⟩ (q ++ ackOf p)).st = (run b (p ++ [(2, 0)] ++ ackOf q)).st ∧ ((run ⟨1, 0, a.last⟩ (q ++ ackOf p)).st = 0 ∨ (run ⟨1, 0, a.last⟩ (q ++ ackOf p)).st = 1) := by
    have r1 : (run ⟨1, 0, a.last⟩ (q ++ ackOf p)).st = match lst q with | none => 1 | some z => if z = 0 then 1 else 0 := by
      rw [run_append, run_acks (run_st (.inr rfl) q) _ (ackOf_four p), run_linked (.inr rfl) q h.hb.wf]; cases lst q <;> rfl
    have r2 : run b (p ++ [(2, 0)] ++ ackOf q) = run (rcv (run b p) (2, 0)) (ackOf q) := by rw [run_append, run_append]; rfl
    rcases h.hb.then h.ha.wf with ⟨g1, g2⟩ | ⟨g1, g2, g3, g4, g5⟩
    · have s1 : (run ⟨1, 0, a.last⟩ (q ++ ackOf p)).st = 1 := by
        rw [r1]
        cases hq : lst q with
        | none => rfl
        | some z => simp [g2 z hq]
      have s2 : (run b (p ++ [(2, 0)] ++ ackOf q)).st = 1 := by
        rw [r2, run_acks (.inr (rcv_link g1)) _ (ackOf_four q)]
        exact rcv_link g1
      exact ⟨s1.trans s2.symm, .inr s1⟩
    · have s1 : (run ⟨1, 0, a.last⟩ (q ++ ackOf p)).st = 0 := by
        rw [r1, g3]
        simp; omega
      have s2 : (run b (p ++ [(2, 0)] ++ ackOf q)).st = 0 := by
        rw [r2, g1, rcv_wait g2 _ (.inl rfl)]
        exact run_end g2 _ g4 (ackOf_four q)
      exact ⟨s1.trans s2.symm, .inl s1⟩
  have hu : us (p ++ [(2, 0)]) = us p := by rw [us_append]; simp [us]
  have hk : acks (p ++ [(2, 0)]) = acks p := by rw [acks_append]; simp [acks]
  refine ⟨⟨.inr (.inl ⟨rfl, rfl⟩), ?_, by rw [hu]; exact h.ha.srt, by rw [hu]; exact h.ha.lim, ?_, ?_, h.ha.last⟩, ⟨h.hb.ok, h.hb.wf, by rw [hk]; exact h.hb.srt, by rw [hk]; exact h.hb.lim, h.hb.k1, by rw [hk]; exact h.hb.k2, h.hb.last⟩, by rw [e3]; exact hfin.1, by rw [e3]; exact hfin.2⟩
  · intro y hy
    rcases List.mem_append.1 hy with hy | hy
    · exact h.ha.wf y hy
    · obtain rfl : y = (2, 0) := by simpa using hy
      exact .inl ⟨rfl, rfl⟩
  · intro z hz hz0
    rw [lst_snoc] at hz
    simp at hz; omega
  · intro h2; cases h2

theorem Inv.unlink {a b : Sd} {p q : List Sig} (h : Inv a b p q) (hl : a.last < 1000000) : Inv ⟨2, a.last + 1, a.last + 1⟩ b (p ++ [(3, a.last + 1)]) q := by
  have e3 : ackOf (p ++ [(3, a.last + 1)]) = ackOf p ++ [(4, a.last + 1)] := by rw [ackOf_append]; simp [ackOf, ans]
  have hnl := h.ha.last
  have hni : a.last + 1 ∉ acks q := fun hm => by have := (h.ha.lim _ (List.mem_append_left _ hm)).2; omega
  have s1 : (run ⟨2, a.last + 1, a.last + 1⟩ (q ++ (ackOf p ++ [(4, a.last + 1)]))).st = 0 := by
    rw [run_append, run_wait rfl q hni h.hb.wf]
    exact run_end rfl _ (by simp) (fun x hx => by
      rcases List.mem_append.1 hx with hx | hx
      · exact ackOf_four p x hx
      · obtain rfl : x = (4, a.last + 1) := by simpa using hx
        rfl)
  have s2 : (run b (p ++ [(3, a.last + 1)] ++ ackOf q)).st = 0 := by
    have r2 : run b (p ++ [(3, a.last + 1)] ++ ackOf q) = run (rcv (run b p) (3, a.last + 1)) (ackOf q) := by rw [run_append, run_append]; rfl
    rw [r2]
    rcases h.hb.then h.ha.wf with ⟨g1, g2⟩ | ⟨g1, g2, g3, g4, g5⟩
    · rw [run_acks (.inl (rcv_unl g1 _)) _ (ackOf_four q)]
      exact rcv_unl g1 _
    · rw [g1, rcv_wait g2 _ (.inr rfl)]
      exact run_end g2 _ g4 (ackOf_four q)
  have hu : us (p ++ [(3, a.last + 1)]) = us p ++ [a.last + 1] := by rw [us_append]; simp [us]
  have hk : acks (p ++ [(3, a.last + 1)]) = acks p := by rw [acks_append]; simp [acks]
  refine ⟨⟨.inr (.inr rfl), ?_, ?_, ?_, ?_, ?_, by simp; omega⟩, ⟨h.hb.ok, h.hb.wf, by rw [hk]; exact h.hb.srt, by rw [hk]; exact h.hb.lim, h.hb.k1, by rw [hk]; exact h.hb.k2, h.hb.last⟩, by rw [e3]; exact s1.trans s2.symm, by rw [e3]; exact .inl s1⟩
  · intro y hy
    rcases List.mem_append.1 hy with hy | hy
    · exact h.ha.wf y hy
    · obtain rfl : y = (3, a.last + 1) := by simpa using hy
      exact .inr ⟨.inl rfl, by simp only; omega, by simp only; omega⟩
  · rw [hu, ← List.append_assoc]
    refine List.pairwise_append.2 ⟨h.ha.srt, by simp, fun x hx y hy => ?_⟩
    obtain rfl : y = a.last + 1 := by simpa using hy
    have := (h.ha.lim x hx).2
    omega
  · rw [hu, ← List.append_assoc]
    intro x hx
    rcases List.mem_append.1 hx with hx | hx
    · have := h.ha.lim x hx; simp only; omega
    · obtain rfl : x = a.last + 1 := by simpa using hx
      simp only; omega
  · intro z hz hz0
    rw [lst_snoc] at hz
    simp at hz
    exact ⟨rfl, hz⟩
  · intro _
    refine ⟨by simp only; omega, .inl ?_⟩
    rw [lst_snoc]; simp

/-- Linked, and no unlink under way to it: so it ends. -/
theorem Inv.lasts {a b : Sd} {p q : List Sig} (h : Inv a b p q) (ha : a.st = 1) (hq : us q = []) : (run a (q ++ ackOf p)).st = 1 := by
  rw [run_append, run_acks (run_st (.inr ha) q) _ (ackOf_four p), run_linked (.inr ha) q h.hb.wf]
  cases hl : lst q with
  | none => exact ha
  | some z =>
    simp only
    rcases Int.decEq z 0 with hz0 | hz0
    · have := lst_us h.hb.wf hl hz0
      rw [hq] at this; simp at this
    · simp [hz0]

/-- What it ends at is kept. -/
theorem take_fin {a : Sd} {p q : List Sig} {x : Sig} : run (rcv a x) (q ++ ackOf (p ++ ans x)) = run a (x :: q ++ ackOf p) := by rw [ackOf_append, ackOf_ans, List.append_nil]; rfl

end PR
end Go.Proofs.YtodelafnboimnaaGreat
