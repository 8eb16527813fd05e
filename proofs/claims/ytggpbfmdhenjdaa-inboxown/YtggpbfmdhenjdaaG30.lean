import Derived.Test.YtggpbfmdhenjdaaG21
import Derived.Test.YtggpbfmdhenjdaaG29
import Derived.Sort.LoopGhostIn
import Derived.Sort.QuietIn
import Derived.Deep.RegionHeld
/- The messages of a box, one by one. -/
namespace Go.Proofs.Ytggpbfmdhenjdaa
open Go.RowKit Go.Shelf Go.Sort

theorem ptr_neq0 (b : Nat) (w : World) : (binOp .neq 51 (.pointer (some ⟨b, 0, none⟩)) (.pointer none)).run Try.prog w = .ok (.bool true) w := by kernel_rfl
theorem ptr_neq1 (w : World) : (binOp .neq 51 (.pointer none) (.pointer none)).run Try.prog w = .ok (.bool false) w := by kernel_rfl

abbrev mpt (m : Msg) : Array Value := #[.pointer (some ⟨m.b, 0, none⟩)]
theorem At.c {w : World} {b : Nat} {vs : List Value} (h : At w b vs) {i : Nat} {v : Value} (hv : vs[i]? = some v) : w.cell? ⟨b, i, none⟩ = some v := (h.1 i v hv).1

set_option maxRecDepth 100000 in
set_option maxHeartbeats 4000000 in
theorem msgs_o {w : World} {bb place most puts : Nat} {N : Int} {ms : List Msg} {R : Nat → Prop} (h : BX w bb ms place most puts R) {p q : Nat} (hp : w.cell? ⟨p, 0, none⟩ = some (.pointer (some ⟨bb, 0, none⟩))) (hq : w.cell? ⟨q, 0, none⟩ = some (.int .i64 N)) (hnum : ∀ m : Msg, m ∈ ms → (m.num : Int) ≤ N)
    {M : Nat → Prop} (hMB : ∀ k, BS bb ms k → ¬ M k) (hMp : ¬ M p) (hMq : ¬ M q) :
    SeqO Try.prog 34 #[.pointer (some ⟨p, 0, none⟩), .pointer (some ⟨q, 0, none⟩)] mpt (fun m => m ∈ ms) M 0 (fun xs => xs = ms) (fun pre => pre <+: ms) ms.length w := by
  intro l J Jx W hW hJ hJx hY h0
  have hB := h.keep hW
  have zp := World.block_lt_of_cell? _ _ hp
  have zq := World.block_lt_of_cell? _ _ hq
  replace hp := (hW.cell zp).trans hp
  replace hq := (hW.cell zq).trans hq
  replace zp := World.block_lt_of_cell? _ _ hp
  replace zq := World.block_lt_of_cell? _ _ hq
  have b0 := hB.box.c (i := 0) rfl
  have HB := hidb hB
  have HMS := hidb (And.intro hMB (And.intro hMp (And.intro hMq (And.intro zp zq))))
  have HP := hidb hp
  have HQ := hidb hq
  have HNM := hidb hnum
  have HJ := hidb hJ
  have HY := hidb hY
  have H0 := hidb h0
  clear hB h hW hnum hMB hMp hMq zp zq hJ hY h0
  refine callsIn_of_wp Try.func34 rfl trivial ?_ rfl
  simp only [Try.ntmps34, List.size_toArray, List.length_cons, List.length_nil, Nat.reduceAdd, Nat.reduceSub, Array.replicate_succ, Array.replicate_zero, List.push_toArray, List.append_toArray, List.nil_append, List.cons_append]
  gi_wp2
  gi_loopg [4] (ms.length) (fun gk mv wr => ∃ i, i ≤ ms.length ∧ ms.length - i ≤ gk ∧ mv = pt ((ms[i]?).map Msg.b) ∧ But M W wr ∧ J (ms.take i) wr)
  case atStart => exact ⟨0, by omega, by omega, rfl, But.refl _ _, by simpa using H0.out⟩
  case round =>
  obtain ⟨i, hi, hgk, rfl, hbt, hj⟩ := hrel
  have HBT := hidb hbt
  have HJI := hidb hj
  have HG := hidb (And.intro hi hgk)
  clear hbt hj hi hgk
  have kq := (HBT.out.cell (p := ⟨q, 0, none⟩) HMS.out.2.2.2.2 HMS.out.2.2.1).trans HQ.out
  by_cases hil : i < ms.length
  · obtain ⟨m, hm⟩ : ∃ m, ms[i]? = some m := ⟨_, List.getElem?_eq_getElem hil⟩
    have hmem := List.mem_of_getElem? hm
    have hpt : pt ((ms[i]?).map Msg.b) = .pointer (some ⟨m.b, 0, none⟩) := by rw [hm]; rfl
    rw [hpt]
    have HAT : Hid (At wr m.b (m.cells (prv ms i) (nxt ms i) false)) := hidb ((HB.out.msg i m hm).but HBT.out (HMS.out.1 _ (.inr ⟨m, hmem, rfl⟩)))
    have k8 := HAT.out.c (i := 8) (v := .int .i64 (m.num : Int)) rfl
    have k9 := HAT.out.c (i := 9) (v := .bool false) rfl
    have hle := HNM.out m hmem
    have hne := ptr_neq0 m.b
    have HM := hidb (And.intro hm hmem)
    clear hpt hm hmem hil
    gi_wp2_with fail
    have d1 : decide ((m.num : Int) ≤ N) = true := by simpa using hle
    gi_big_quiet (fail)
    obtain ⟨W2, hW2⟩ : ∃ W2, wr.drewN nq = W2 := ⟨_, rfl⟩
    have hbw : Below wr.heap.size wr W2 := hW2 ▸ below_drewN (Below.refl _ _) _
    rw [hW2]
    have kk9 := (hbw.cell (p := ⟨m.b, 9, none⟩) HAT.out.2).trans k9
    have hj2 : J (ms.take i) W2 := HJ.out _ _ _ none HJI.out (by rw [← hW2]; exact ⟨rfl, rfl, rfl, Nat.le_refl _, fun _ _ _ => rfl⟩) (fun r e => by cases e)
    obtain ⟨fn, tmps, assign, body, hy, hR⟩ := HY.out (ms.take i) m W2 HM.out.2 hj2 (by rw [List.length_take]; have := (List.getElem?_eq_some_iff.1 HM.out.1).1; omega) (by have := HBT.out.size; have := hbw.size; omega)
    have HR := hidb hR
    have HBW := hidb hbw
    clear hW2 hj2 hR hbw
    gi_wp2
    refine ⟨rfl, HR.out.mono ?_⟩
    rintro e W3 ⟨hb3, ⟨rfl, hj3⟩ | ⟨rfl, hjx3⟩⟩
    · have hbm : But M wr W3 := (But.of_below HBW.out).trans (hb3.mono (fun k _ hk => hk.1))
      have HAT3 := HAT.out.but hbm (HMS.out.1 _ (.inr ⟨m, HM.out.2, rfl⟩))
      have k1 := HAT3.c (i := 1) (v := pt (nxt ms i)) rfl
      have HJ3 := hidb hj3
      have HB3 := hidb (HBT.out.trans hbm)
      clear HAT3 hbm hj3 hb3
      gi_wp2
      go_roundg (ms.length - (i + 1))
      case measure => have := HG.out; have := (List.getElem?_eq_some_iff.1 HM.out.1).1; omega
      case rel =>
        have hl := (List.getElem?_eq_some_iff.1 HM.out.1).1
        refine ⟨i + 1, by omega, by omega, rfl, HB3.out, ?_⟩
        rw [List.take_add_one, HM.out.1]
        exact HJ3.out
    · gi_wp2
      refine bodyPost_ret (results_none rfl _ _ _) rfl ?_
      refine ⟨⟨_, rfl⟩, .inr ⟨_, ?_, hjx3⟩⟩
      have : ms.take i ++ [m] = ms.take (i + 1) := by rw [List.take_add_one, HM.out.1]; rfl
      rw [this]
      exact List.take_prefix _ _
  · have hpt : pt ((ms[i]?).map Msg.b) = .pointer none := by rw [List.getElem?_eq_none (by omega)]; rfl
    rw [hpt]
    have hne := ptr_neq1
    have HIL := hidb hil
    clear hpt hil
    gi_wp2_with fail
    gi_big_quiet (fail)
    gi_wp2
    go_end0
    refine ⟨⟨_, rfl⟩, .inl ⟨ms, rfl, ?_⟩⟩
    have e : ms.take i = ms := List.take_of_length_le (by have := HIL.out; omega)
    have hj := HJI.out
    rw [e] at hj
    exact HJ.out _ _ _ none hj ⟨rfl, rfl, rfl, Nat.le_refl _, fun _ _ _ => rfl⟩ (fun r e => by cases e)
end Go.Proofs.Ytggpbfmdhenjdaa


/- A region that draws its order, where a condition on memory holds until its last operation, which waits for all others. -/
namespace Go.Proofs.Ytggpbfmdhenjdaa

section
variable {P : Program} {ops : Array Oper} {md : Region.Mode} {Q : Exit → Act → World → Prop} {S : World → Prop} {D : List Nat}

/-- Whatever order is picked from here on, and S holds behind every operation that is carried out and is not one of D. -/
def wpAnyD (P : Program) (md : Region.Mode) (ops : Array Oper) (Q : Exit → Act → World → Prop) (S : World → Prop) (D : List Nat) : Nat → Array Bool → Act → World → Prop
  | 0, listed, a, w => Region.ready md ops listed = [] ∧ Q .normal a w
  | fuel + 1, listed, a, w =>
    (Region.ready md ops listed = [] → Q .normal a w) ∧
    ∀ i ∈ Region.ready md ops listed, wpOp P ops Q i (fun a' w' => (i ∉ D → S w') ∧ wpAnyD P md ops Q S D fuel (listed.setIfInBounds i true) a' w') a w

theorem wpAny_of_D : ∀ (fuel : Nat) (listed : Array Bool) (a : Act) (w : World), wpAnyD P md ops Q S D fuel listed a w → wpAny P md ops Q fuel listed a w
  | 0, _, _, _, h => h
  | fuel + 1, _, _, _, h => ⟨h.1, fun i hi => wpOp_mono (fun a' w' h' => wpAny_of_D fuel _ a' w' h'.2) (h.2 i hi)⟩

/-- Does operation d wait for i? -/
def waitsB (md : Region.Mode) (ops : Array Oper) (i d : Nat) : Bool := ((ops[d]?).map fun o => o.after.any fun e => Region.binds md e && e.on == i).getD false

theorem waitsB_ready {i d : Nat} {listed : Array Bool} (h : waitsB md ops i d = true) (hr : d ∈ Region.ready md ops listed) : listed.getD i false = true := by
  obtain ⟨_, o, ho, hall⟩ := mem_ready.1 hr
  unfold waitsB at h
  rw [ho] at h
  simp only [Option.map_some, Option.getD_some] at h
  obtain ⟨e, he, hb⟩ := Array.any_eq_true'.1 h
  simp only [Bool.and_eq_true, beq_iff_eq] at hb
  have := hall e he hb.1
  rwa [hb.2] at this

theorem wpAnyD_first {i : Nat} {oi : Oper} {v : Value} (hi : ops[i]? = some oi) (hsel : ∀ (j : Nat) (o : Oper) cs b, ops[j]? = some o → o.op ≠ .select cs b)
    (hQ : ∀ c a w, Q (.panic c) (a.put oi.dst v) w → Q (.panic c) a w) (hD : ∀ d, d ∈ D → waitsB md ops i d = true) :
    ∀ (fuel : Nat) (listed : Array Bool) (a : Act) (w : World),
      (∀ j oj, ops[j]? = some oj → j ≠ i → listed.getD j true = false → (∀ e ∈ oj.after, Region.binds md e = true → e.on ≠ i) → oi.apart ops oj = true) →
      i ∈ Region.ready md ops listed → YieldsIf P ops S oi v a → S w →
      wpAnyD P md ops Q S D fuel (listed.setIfInBounds i true) (a.put oi.dst v) w → wpAnyD P md ops Q S D (fuel + 1) listed a w := by
  intro fuel
  induction fuel with
  | zero =>
    intro listed a w _ hr hy hS H
    refine ⟨fun h => (by rw [h] at hr; cases hr), fun j hj => ?_⟩
    by_cases hji : j = i
    · subst hji; exact hy.wpOp hi hS ⟨fun _ => hS, H⟩
    · have := ready_mono hj hji
      rw [H.1] at this
      cases this
  | succ fuel ih =>
    intro listed a w hfree hr hy hS H
    refine ⟨fun h => (by rw [h] at hr; cases hr), fun j hj => ?_⟩
    by_cases hji : j = i
    · subst hji; exact hy.wpOp hi hS ⟨fun _ => hS, H⟩
    · have h1 := H.2 j (ready_mono hj hji)
      obtain ⟨hjun, oj, hoj, hall⟩ := mem_ready.1 hj
      have hun : ∀ (x : Bool), listed.getD i x = false := fun x => by
        have h0 := (mem_ready.1 hr).1
        rcases Nat.lt_or_ge i listed.size with h' | h'
        · simp [h'] at h0 ⊢; exact h0
        · simp [Array.getElem?_eq_none h'] at h0
      have hjD : j ∉ D := fun hd => by
        have := waitsB_ready (hD j hd) hj
        rw [hun] at this
        cases this
      have hnot : ∀ e ∈ oj.after, Region.binds md e = true → e.on ≠ i := fun e he hb heq => by
        have h1 := hall e he hb
        rw [heq, hun] at h1
        cases h1
      have h2 := wpOp_putIf hoj (hfree j oj hoj hji hjun hnot) (fun cs b => hsel i oi cs b hi) (fun cs b => hsel j oj cs b hoj) hQ hy h1
      have hfree' : ∀ k ok, ops[k]? = some ok → k ≠ i → (listed.setIfInBounds j true).getD k true = false →
          (∀ e ∈ ok.after, Region.binds md e = true → e.on ≠ i) → oi.apart ops ok = true := fun k ok hk hki hun hno => by
        refine hfree k ok hk hki ?_ hno
        by_cases hjk : j = k
        · subst hjk; exact hjun
        · rw [getD_set_ne true hjk] at hun; exact hun
      refine wpOp_mono (fun a' w' h3 => ⟨h3.2.1, ih (listed.setIfInBounds j true) a' w' hfree' (ready_mono hr (Ne.symm hji)) h3.1 (h3.2.1 hjD) ?_⟩) h2
      rw [Array.setIfInBounds_comm _ _ hji]
      exact h3.2.2

/-- Operation i is taken first: it yields v wherever S holds. -/
theorem wpAnyD_take {i : Nat} {oi : Oper} {v : Value} {fuel : Nat} {listed : Array Bool} {a : Act} {w : World} (hi : ops[i]? = some oi)
    (hs : Region.noSelect ops = true) (hf : Region.free md ops listed i = true) (hr : (Region.ready md ops listed).contains i = true) (hD : D.all (waitsB md ops i) = true)
    (hQ : ∀ c a w, Q (.panic c) (a.put oi.dst v) w → Q (.panic c) a w) (hS : S w) (hy : YieldsIf P ops S oi v a)
    (h : wpAnyD P md ops Q S D fuel (listed.setIfInBounds i true) (a.put oi.dst v) w) : wpAnyD P md ops Q S D (fuel + 1) listed a w :=
  wpAnyD_first hi (Region.noSelect_spec hs) hQ (fun d hd => List.all_eq_true.1 hD d hd) fuel listed a w (Region.free_spec hi hf) (by simpa using hr) hy hS h

/-- Operation i alone may come up. -/
theorem wpAnyD_step {i : Nat} {oi : Oper} {fuel : Nat} {listed : Array Bool} {a : Act} {w : World} (hr : Region.ready md ops listed = [i]) (hi : ops[i]? = some oi)
    (h : if Region.wanted oi (yielded ops a.tmps) = true then Oper.wp P oi a w (fun a' w' => (i ∉ D → S w') ∧ wpAnyD P md ops Q S D fuel (listed.setIfInBounds i true) a' w') Q else (i ∉ D → S w) ∧ wpAnyD P md ops Q S D fuel (listed.setIfInBounds i true) (a.put oi.dst undef) w) : wpAnyD P md ops Q S D (fuel + 1) listed a w := by
  refine ⟨fun h0 => (by rw [hr] at h0; cases h0), fun j hj => ?_⟩
  rw [hr] at hj
  obtain rfl : j = i := by simpa using hj
  unfold wpOp
  simp only [hi]
  split
  · rename_i hw; rw [if_pos hw] at h; exact .inl h
  · rename_i hw; rw [if_neg hw] at h; exact h

theorem wpAnyD_done {listed : Array Bool} {a : Act} {w : World} (hr : Region.ready md ops listed = []) (h : Q .normal a w) :
    ∀ fuel, wpAnyD P md ops Q S D fuel listed a w
  | 0 => ⟨hr, h⟩
  | _ + 1 => ⟨fun _ => h, by rw [hr]; simp⟩

/-- The same, over a list. -/
theorem wpAnyD_takeL {l : List Oper} {i : Nat} {oi : Oper} {v : Value} {fuel : Nat} {listed : Array Bool} {a : Act} {w : World} (hi : l[i]? = some oi)
    (hs : Region.noSelect l.toArray = true) (hf : Region.free md l.toArray listed i = true) (hr : (Region.ready md l.toArray listed).contains i = true) (hD : D.all (waitsB md l.toArray i) = true)
    (hQ : ∀ c a w, Q (.panic c) (a.put oi.dst v) w → Q (.panic c) a w) (hS : S w) (hg : oi.guard = none) (hy : ∀ w, S w → (execOp a.eval oi).run P w = .ok (.value v) w)
    (h : wpAnyD P md l.toArray Q S D fuel (listed.setIfInBounds i true) (a.put oi.dst v) w) : wpAnyD P md l.toArray Q S D (fuel + 1) listed a w :=
  wpAnyD_take (by simpa using hi) hs hf hr hD hQ hS (.inl ⟨by simp [Region.wanted, hg], hy⟩) h
theorem wpAnyD_stepL {l : List Oper} {i : Nat} {oi : Oper} {fuel : Nat} {listed : Array Bool} {a : Act} {w : World} (hr : Region.ready md l.toArray listed = [i]) (hi : l[i]? = some oi)
    (h : ∀ K : Act → World → Prop, (∀ a' w', (i ∉ D → S w') → wpAnyD P md l.toArray Q S D fuel (listed.setIfInBounds i true) a' w' → K a' w') → if Region.wanted oi (yielded l.toArray a.tmps) = true then Oper.wp P oi a w K Q else K (a.put oi.dst undef) w) : wpAnyD P md l.toArray Q S D (fuel + 1) listed a w := by
  refine wpAnyD_step hr (by simpa using hi) ?_
  have := h (fun a' w' => (i ∉ D → S w') ∧ wpAnyD P md l.toArray Q S D fuel (listed.setIfInBounds i true) a' w') (fun a' w' h1 h2 => ⟨h1, h2⟩)
  exact this

theorem wp_region_D {id : Nat} {a : Act} {w : World} (S : World → Prop) (D : List Nat) (hm : P.follows .mixedOrders = true)
    (h : wpAnyD P .any ops Q S D ops.size (Array.replicate ops.size false) a w.drew) : (Code.region id ops true).wp P Q a w :=
  wp_region_any hm (wpAny_of_D _ _ _ _ h)
end
end Go.Proofs.Ytggpbfmdhenjdaa


