import Derived.Test.YtogahhbckfnllaaG34
import Derived.Test.YtogahhbckfnllaaG29
import Derived.Test.YtogahhbckfnllaaG30
import Derived.Sort.LoopGhostIn
import Derived.Sort.QuietIn
/- The document's Drop of a message. -/
namespace Go.Proofs.Ytogahhbckfnllaa
open Go.RowKit Go.Lib Go.Deep
attribute [local go_sem] store_float f64bits
attribute [local go_sem ↓] Go.wp_at_zero Go.wp_at_succ
variable {w w' : World} {rb place words most : Nat} {lv : Value} {ds : List Tr} {T : Nat → Prop}

set_option maxHeartbeats 1000000 in
set_option maxRecDepth 100000 in
theorem ry_drop {q : Option Addr} {c0 : Nat} {bs : List Bool} (h : RY w rb lv ds place words most T) (hbs : BRow w q bs) (hlen : bs.length = ds.length) {i wd : Nat} (hyes : bs[i]? = some true) (hno : ∀ j, j < i → bs[j]? = some false) {k n : Int} {f : Nat} {s : ByteArray} {a : Option Addr} {c : Nat} {kids : List Tr} (hi : ds[i]? = some (.mk k n f s a c kids)) (hsw : SmallW (.mk k n f s a c kids)) (hwt : wordsT (.mk k n f s a c kids) + 2 = (wd : Int)) (hwd : wd ≤ words) (hmost : words ≤ 1000000000) (hl : ds.length ≤ 1000000) (hpl : place ≤ ds.length) :
    Calls Try.prog 26 #[.pointer (some ⟨rb, 0, none⟩), .slice q bs.length c0] w fun e w' => e = .returned (.tuple #[.agg #[.int .i64 k, .int .i64 n, .float .f64 f, .string s, .slice a kids.length c], .bool true]) ∧ ∃ lv', RY w' rb lv' (ds.eraseIdx i) (rmP place i) (words - wd) most T ∧ (∀ q, lv'.ownBlock = some q → w.heap.size ≤ q) ∧ But (fun q => q = rb) w w' := by
  have hil := (List.getElem?_eq_some_iff.1 hi).1
  have HNO := hidb hno
  have HYS := hidb hyes
  have HLN := hidb hlen
  have HBN := hidb (below_new w zT)
  obtain ⟨ga, gc, rfl⟩ := own_sl h.row
  have hbl := h.box.2
  obtain ⟨WZ, hWZ⟩ : ∃ WZ, w.alloc zT = WZ := ⟨_, rfl⟩
  have hRZ := h.keep (below_new w zT)
  have hAZ := At.new w [.int .i64 0, .int .i64 0, .float .f64 0, .string ⟨#[]⟩, .slice none 0 0] 36
  have hBZ := hbs.keep (below_new w zT)
  have HH := hidb h
  rw [hWZ] at hRZ hBZ
  rw [show w.alloc (.cells [.int .i64 0, .int .i64 0, .float .f64 0, .string ⟨#[]⟩, .slice none 0 0].toArray 36) = WZ from hWZ] at hAZ
  have hsz : w.heap.size + 1 = WZ.heap.size := by rw [← hWZ]; simp
  have HWZ := hidb hWZ
  have HRZ := hidb hRZ
  have HAZ := hidb hAZ
  have HBZ := hidb hBZ
  have HI := hidb (And.intro hi (And.intro hsw hwt))
  obtain ⟨e0, -⟩ := hRZ.box.1 0 _ rfl
  obtain ⟨e1, j1⟩ := hRZ.box.1 1 _ rfl
  clear h hbs hno hlen hyes hWZ hRZ hAZ hBZ hi hsw hwt
  go_enter Try.func26, Try.ntmps26
  go_wp2_with fail
  rw [HWZ.out]
  go_loopw [6] (fun iv wr => ∃ (m : Nat), m ≤ i ∧ iv = .int .i64 m ∧ wr = WZ) (fun iv _ => ds.length - (RowKit.intOf iv).toNat)
  case atStart => exact ⟨0, by omega, rfl, rfl⟩
  case round =>
  obtain ⟨m, hm, rfl, rfl⟩ := hrel
  have hmw : IntKind.i64.wrap ((m : Int) + 1) = (m : Int) + 1 := by rw [IntKind.wrap_i64]; omega
  have hll := HLN.out
  have hmb : (m : Int) < (ds.length : Int) := by omega
  have hmb2 : (m : Int) < (bs.length : Int) := by omega
  have hmz : (0 : Int) ≤ (m : Int) := by omega
  by_cases hml : m < i
  · obtain ⟨g, rfl, hc⟩ := HBZ.out m _ (HNO.out m hml)
    clear hll
    go_wp2_with fail
    go_roundw
    case rel => exact ⟨m + 1, by omega, by go_num, by first | rfl | trivial⟩
    case measure => simp [RowKit.intOf]; omega
  · obtain rfl : m = i := by omega
    obtain ⟨g, rfl, hc⟩ := HBZ.out m _ HYS.out
    clear hll
    by_cases hmp : m < place
    · have hcm : (m : Int) < (place : Int) := by omega
      have hpw : IntKind.i64.wrap ((place : Int) - 1) = ((place - 1 : Nat) : Int) := by rw [IntKind.wrap_i64]; omega
      have hP := HRZ.out.placed (place - 1)
      obtain ⟨W1, hW1⟩ : ∃ W1, wr.setCell ⟨rb, 1, none⟩ (.int .i64 ((place - 1 : Nat) : Int)) = W1 := ⟨_, rfl⟩
      rw [hW1] at hP
      have HP1 : Hid (RY W1 rb (.slice ga ds.length gc) ds (rmP place m) words most T) := hidb (by unfold rmP; rw [if_pos hmp]; exact hP)
      have HA1 : Hid (At W1 w.heap.size [.int .i64 0, .int .i64 0, .float .f64 0, .string ⟨#[]⟩, .slice none 0 0]) := hidb (by rw [← hW1]; exact HAZ.out.other (p := ⟨rb, 1, none⟩) (by show rb ≠ w.heap.size; omega) _)
      have HB1 : Hid (But (fun q => q = rb) w W1) := hidb (by rw [← hW1, ← HWZ.out]; exact (But.of_below (S := fun q => q = rb) HBN.out).setCell (p := ⟨rb, 1, none⟩) (fun _ => rfl) _)
      have HW1 := hidb hW1
      clear hP hW1
      go_wp2_with fail
      rw [HW1.out]
      refine (ry_out HP1.out HI.out.1 HI.out.2.1 HI.out.2.2 hwd hmost hl).mono ?_
      rintro e w2 ⟨rfl, lv', hr2, hf2, hb2⟩
      have HR2 := hidb hr2
      have HF2 := hidb hf2
      have HB2 := hidb (HB1.out.trans hb2)
      have hA2 := HA1.out.but hb2 (by show ¬ w.heap.size = rb; omega)
      have HA2 := hidb hA2
      obtain ⟨t0, g0⟩ := hA2.1 0 _ rfl
      obtain ⟨t1, g1⟩ := hA2.1 1 _ rfl
      obtain ⟨t2, g2⟩ := hA2.1 2 _ rfl
      obtain ⟨t3, g3⟩ := hA2.1 3 _ rfl
      obtain ⟨t4, g4⟩ := hA2.1 4 _ rfl
      clear hr2 hf2 hb2 hA2
      go_wp2_with fail
      have hwz : ∀ q, (RS rb lv' q ∨ T q) → q ≠ w.heap.size := fun q hq e => by
        subst e
        rcases hq with (e | e) | e
        · omega
        · have := HF2.out _ e; have := HB1.out.size; have := HA1.out.2; omega
        · have := (HH.out.far _ e).1; omega
      have AF := at_five HA2.out (.int .i64 k) (.int .i64 n) (.float .f64 f) (.string s) (.slice a kids.length c)
      have HFIN : RY _ rb lv' (ds.eraseIdx m) (rmP place m) (words - wd) most T ∧ But (fun q => q = rb) w _ := ⟨HR2.out.but (five_but _ w.heap.size (.int .i64 k) (.int .i64 n) (.float .f64 f) (.string s) (.slice a kids.length c)) (fun q hq => hwz q (.inl hq)) (fun q hq => hwz q (.inr hq)), HB2.out.new (five_but _ w.heap.size (.int .i64 k) (.int .i64 n) (.float .f64 f) (.string s) (.slice a kids.length c)) (fun q e => .inr (by omega))⟩
      generalize ((((w2.setCell ⟨w.heap.size, 0, none⟩ (.int .i64 k)).setCell ⟨w.heap.size, 1, none⟩ (.int .i64 n)).setCell ⟨w.heap.size, 2, none⟩ (.float .f64 f)).setCell ⟨w.heap.size, 3, none⟩ (.string s)).setCell ⟨w.heap.size, 4, none⟩ (.slice a kids.length c) = WF at AF HFIN ⊢
      obtain ⟨q0, q1, q2, q3, q4⟩ := at_results AF
      exact bodyPost_ret (v := .tuple #[.agg #[.int .i64 k, .int .i64 n, .float .f64 f, .string s, .slice a kids.length c], .bool true]) (by simp [results, Try.results26, go_sem, q0, q1, q2, q3, q4]) rfl ⟨rfl, lv', HFIN.1, fun q hq => by have := HF2.out q hq; have := HB1.out.size; omega, HFIN.2⟩
    · have hcm : ¬ (m : Int) < (place : Int) := by omega
      have HP1 : Hid (RY wr rb (.slice ga ds.length gc) ds (rmP place m) words most T) := hidb (by unfold rmP; rw [if_neg hmp]; exact HRZ.out)
      have HA1 := HAZ
      have HB1 : Hid (But (fun q => q = rb) w wr) := hidb (by rw [← HWZ.out]; exact But.of_below (S := fun q => q = rb) HBN.out)
      go_wp2_with fail
      refine (ry_out HP1.out HI.out.1 HI.out.2.1 HI.out.2.2 hwd hmost hl).mono ?_
      rintro e w2 ⟨rfl, lv', hr2, hf2, hb2⟩
      have HR2 := hidb hr2
      have HF2 := hidb hf2
      have HB2 := hidb (HB1.out.trans hb2)
      have hA2 := HA1.out.but hb2 (by show ¬ w.heap.size = rb; omega)
      have HA2 := hidb hA2
      obtain ⟨t0, g0⟩ := hA2.1 0 _ rfl
      obtain ⟨t1, g1⟩ := hA2.1 1 _ rfl
      obtain ⟨t2, g2⟩ := hA2.1 2 _ rfl
      obtain ⟨t3, g3⟩ := hA2.1 3 _ rfl
      obtain ⟨t4, g4⟩ := hA2.1 4 _ rfl
      clear hr2 hf2 hb2 hA2
      go_wp2_with fail
      have hwz : ∀ q, (RS rb lv' q ∨ T q) → q ≠ w.heap.size := fun q hq e => by
        subst e
        rcases hq with (e | e) | e
        · omega
        · have := HF2.out _ e; have := HB1.out.size; have := HA1.out.2; omega
        · have := (HH.out.far _ e).1; omega
      have AF := at_five HA2.out (.int .i64 k) (.int .i64 n) (.float .f64 f) (.string s) (.slice a kids.length c)
      have HFIN : RY _ rb lv' (ds.eraseIdx m) (rmP place m) (words - wd) most T ∧ But (fun q => q = rb) w _ := ⟨HR2.out.but (five_but _ w.heap.size (.int .i64 k) (.int .i64 n) (.float .f64 f) (.string s) (.slice a kids.length c)) (fun q hq => hwz q (.inl hq)) (fun q hq => hwz q (.inr hq)), HB2.out.new (five_but _ w.heap.size (.int .i64 k) (.int .i64 n) (.float .f64 f) (.string s) (.slice a kids.length c)) (fun q e => .inr (by omega))⟩
      generalize ((((w2.setCell ⟨w.heap.size, 0, none⟩ (.int .i64 k)).setCell ⟨w.heap.size, 1, none⟩ (.int .i64 n)).setCell ⟨w.heap.size, 2, none⟩ (.float .f64 f)).setCell ⟨w.heap.size, 3, none⟩ (.string s)).setCell ⟨w.heap.size, 4, none⟩ (.slice a kids.length c) = WF at AF HFIN ⊢
      obtain ⟨q0, q1, q2, q3, q4⟩ := at_results AF
      exact bodyPost_ret (v := .tuple #[.agg #[.int .i64 k, .int .i64 n, .float .f64 f, .string s, .slice a kids.length c], .bool true]) (by simp [results, Try.results26, go_sem, q0, q1, q2, q3, q4]) rfl ⟨rfl, lv', HFIN.1, fun q hq => by have := HF2.out q hq; have := HB1.out.size; omega, HFIN.2⟩
end Go.Proofs.Ytogahhbckfnllaa


/- A loop over an iterator whose last round may write more than the others. -/
namespace Go.Proofs.Ytogahhbckfnllaa
open Go.RowKit Go.Shelf Go.Sort

/-- An iterator: whatever body keeps all but blocks of M, and the c blocks that the iterator lays at its beginning, may be handed to it. -/
def SeqX {α : Type} (P : Program) (g : Nat) (lb : Array Value) (encs : α → Array Value) (Ok : List α → α → Prop) (M Mx : Nat → Prop) (c : Nat) (S Sp : List α → Prop) (N : Nat) (w : World) : Prop :=
  ∀ (l : Nat) (J Jx : List α → World → Prop) (W : World), Below w.heap.size w W → OwnFrom W.heap.size J → OwnFrom W.heap.size Jx →
    (∀ pre x W1, Ok pre x → J pre W1 → pre.length < N → W.heap.size + c ≤ W1.heap.size → YieldAt Fence.wide 0 P l (encs x) W1 fun e W' =>
      ((e = .returned (.bool true) ∧ But (fun k => M k ∧ (k < W.heap.size ∨ W.heap.size + c ≤ k)) W1 W' ∧ J (pre ++ [x]) W') ∨ (e = .returned (.bool false) ∧ But (fun k => Mx k ∧ (k < W.heap.size ∨ W.heap.size + c ≤ k)) W1 W' ∧ Jx (pre ++ [x]) W'))) →
    J [] W →
    CallsIn Fence.wide 0 P g (#[.func (.yield l) #[] #[]] ++ lb) W fun e W' => (∃ v, e = .returned v) ∧ ((∃ xs, S xs ∧ J xs W') ∨ (∃ pre, Sp pre ∧ Jx pre W'))

/-- How the body of a round may be left. -/
def postX {α : Type} (M Mx : Nat → Prop) (c B : Nat) (I : List α → World → Prop) (Ix : Code → List α → World → Prop) (xs : List α) (W : World) : Exit → Act → World → Prop
  | .normal, _, W' => But (fun k => M k ∧ (k < B ∨ B + 2 + c ≤ k)) W W' ∧ I xs W'
  | .ret, _, W' => But (fun k => Mx k ∧ (k < B ∨ B + 2 + c ≤ k)) W W' ∧ Ix .ret xs W'
  | .exit id, _, W' => But (fun k => Mx k ∧ (k < B ∨ B + 2 + c ≤ k)) W W' ∧ Ix (.exit id) xs W'
  | .goto t, _, W' => But (fun k => Mx k ∧ (k < B ∨ B + 2 + c ≤ k)) W W' ∧ Ix (.goto t) xs W'
  | .panic _, _, _ => False
  | .outgrown, _, _ => False

set_option maxHeartbeats 1000000 in
theorem range_x {α : Type} {P : Program} {g : Operand} {ps : Array Tmp} {assign body : Code} {Q : Exit → Act → World → Prop} {a : Act} {w : World}
    {gf : Nat} {lb : Array Value} (hg : a.eval g = .func (.func gf) #[] lb) (eg : ∀ args w, (callFunc gf args).run P w = .ok (.enter gf args) w)
    {encs : α → Array Value} {Ok : List α → α → Prop} {M Mx : Nat → Prop} {c : Nat} {S Sp : List α → Prop} {N : Nat} {w0 : World} (hseq : SeqX P gf lb encs Ok M Mx c S Sp N w0) (hM : ∀ k, w.heap.size ≤ k → M k) (hMx : ∀ k, w.heap.size ≤ k → Mx k) (hb0 : Below w0.heap.size w0 w) (hps : ∀ x, (encs x).size = ps.size)
    (I : List α → World → Prop) (Ix : Code → List α → World → Prop) (hI : OwnFrom w.heap.size I) (hIx : ∀ c, OwnFrom w.heap.size (Ix c)) (h0 : I [] w)
    (hround : ∀ (l : Nat) (pre : List α) (x : α) (W : World), Ok pre x → pre.length < N →
      assign.wpIn (Fence.wide.inRound l) 0 P (Exit.then (fun a' W' => W' = W ∧ ∀ W1, I pre W1 → w.heap.size + 2 + c ≤ W1.heap.size → body.wpIn (Fence.wide.inRound l) 0 P (postX M Mx c w.heap.size I Ix (pre ++ [x]) W1) a' W1) (fun _ _ _ => False)) { tmps := (ps.zip (encs x)).foldl (fun t (p, v) => t.setIfInBounds p v) a.tmps, defers := [] } W)
    (hdone : ∀ (D : Nat) (xs : List α) (W : World), w.heap.size ≤ D → S xs → I xs W → W.heap[D]? = some (.deferred (some [])) → Q .normal { a with defers := { target := .collected D, args := #[] } :: a.defers } W)
    (hstop : ∀ (D : Nat) (c : Code) (pre : List α) (W : World), w.heap.size ≤ D → Sp pre → Ix c pre W → W.heap[D]? = some (.deferred (some [])) → c.wp P Q { a with defers := { target := .collected D, args := #[] } :: a.defers } W) :
    (Code.rangeFunc g ps assign body).wp P Q a w := by
  refine (wpIn_wide (n := 0)).1 (wpIn_rangeFunc ?_)
  intro fn hfn
  rw [Fence.wide_round]
  obtain ⟨rec, hrec⟩ : ∃ rec : LoopState → Option Code → Loop, rec = fun st pe => { state := st, pending := pe, fn, tmps := a.tmps, params := ps, assign, body, defers := w.heap.size } := ⟨_, rfl⟩
  obtain ⟨W1, hW1⟩ : ∃ W1, (w.alloc (.deferred (some []))).alloc (.loop (rec .ready none)) = W1 := ⟨_, rfl⟩
  have hsz : W1.heap.size = w.heap.size + 2 := by rw [← hW1]; simp
  have hL1 : W1.heap[w.heap.size + 1]? = some (.loop (rec .ready none)) := by
    rw [← hW1]; have := World.alloc_heap_new (w.alloc (.deferred (some []))) (.loop (rec .ready none)); rwa [World.size_alloc] at this
  have hK1 : W1.heap[w.heap.size]? = some (.deferred (some [])) := by
    rw [← hW1]; exact (Below.heap_alloc _ _ _ (by simp)).trans (World.alloc_heap_new w _)
  have hI1 : I [] W1 := by rw [← hW1]; exact hI.alloc _ (hI.alloc _ h0)
  have hb1 : Below w0.heap.size w0 W1 := by
    rw [← hW1]; exact hb0.trans ((((Below.refl _ w).alloc (Nat.le_refl _) _).alloc (by simp) _).mono hb0.size)
  refine ⟨w.heap.size + 1, [{ target := .collected w.heap.size, args := #[] }], W1, { target := .fn (.func gf) lb, args := #[.func (.yield (w.heap.size + 1)) #[] #[]] }, W1, gf,
    #[.func (.yield (w.heap.size + 1)) #[] #[]] ++ lb, W1, ?_, ?_, ?_, ?_, (fun h => by cases h), ?_⟩
  · rw [← hW1, hrec]; exact run_enterLoop_outer _ _ _ _ _
  · simp only [resolve, hg]
    simp [go_sem]
  · intro f' hf'; trivial
  · simp [invoke, go_sem, eg]
  · have keep : ∀ {A B : World} {row : Option Nat} {k : Nat} {o : Obj}, A.grownBy B row → (∀ r, row = some r → W1.heap.size ≤ r ∧ ∃ o : Obj, A.heap[r]? = some o ∧ o.isCells = false) → k < w.heap.size + 2 → A.heap[k]? = some o → B.heap[k]? = some o := fun hg' hr hk h =>
      (hg'.block _ (Array.getElem?_eq_some_iff.1 h).1 (fun e => by have := (hr _ e.symm).1; omega)).trans h
    have hnw : ∀ {A : World} {row : Option Nat}, (∀ r, row = some r → W1.heap.size ≤ r ∧ ∃ o : Obj, A.heap[r]? = some o ∧ o.isCells = false) → (∀ r, row = some r → w.heap.size ≤ r ∧ ∃ o : Obj, A.heap[r]? = some o ∧ o.isCells = false) :=
      fun hr r e => ⟨by have := (hr r e).1; omega, (hr r e).2⟩
    refine (hseq (w.heap.size + 1)
      (fun pre W => I pre W ∧ W.heap[w.heap.size + 1]? = some (.loop (rec .ready none)) ∧ W.heap[w.heap.size]? = some (.deferred (some [])))
      (fun pre W => ∃ c, Ix c pre W ∧ W.heap[w.heap.size + 1]? = some (.loop (rec .done (some c))) ∧ W.heap[w.heap.size]? = some (.deferred (some [])))
      W1 hb1
      (fun s A B row hs hg' hr => ⟨hI s A B row hs.1 hg' (hnw hr), keep hg' hr (by omega) hs.2.1, keep hg' hr (by omega) hs.2.2⟩)
      (fun s A B row hs hg' hr => by
        obtain ⟨c, hc, hl, hk⟩ := hs
        exact ⟨c, hIx c s A B row hc hg' (hnw hr), keep hg' hr (by omega) hl, keep hg' hr (by omega) hk⟩)
      ?_ ⟨hI1, hL1, hK1⟩).mono ?_
    · -- one round
      rintro pre x W hok ⟨hi, hl, hk⟩ hlen hszW
      have hlt : w.heap.size + 1 < W.heap.size := (Array.getElem?_eq_some_iff.1 hl).1
      have hy := run_yield (P := P) (args := encs x) hl (by rw [hrec]; exact hps x)
      rw [hrec] at hy
      refine ⟨fn, _, assign, body, hy, roundIn_of_wpIn hfn (wpIn_mono (hround _ pre x W hok hlen) ?_)⟩
      rintro e0 a₁ W₀ hx0
      cases e0 with
      | ret => exact hx0.elim
      | exit id => exact hx0.elim
      | goto t => exact hx0.elim
      | panic _ => exact hx0.elim
      | outgrown => exact hx0.elim
      | normal =>
      have hbody := hx0.2
      rw [show W₀ = W from hx0.1]
      refine ⟨_, run_beginRound hl (by rw [hrec]), ?_⟩
      have hl2 : (W.putObj (w.heap.size + 1) (.loop { rec .ready none with state := .busy })).heap[w.heap.size + 1]? = some (.loop { rec .ready none with state := .busy }) := World.putObj_heap_same hlt
      have hk2 : (W.putObj (w.heap.size + 1) (.loop { rec .ready none with state := .busy })).heap[w.heap.size]? = some (.deferred (some [])) := (World.putObj_heap_other (by omega)).trans hk
      have hw2 : ∀ Mz : Nat → Prop, (∀ k, w.heap.size ≤ k → Mz k) → But (fun k => Mz k ∧ (k < W1.heap.size ∨ W1.heap.size + c ≤ k)) W (W.putObj (w.heap.size + 1) (.loop { rec .ready none with state := .busy })) := fun Mz hMz => But.putObj _ _ _ (fun _ => ⟨hMz _ (by omega), by omega⟩)
      refine wpIn_mono (hbody _ (hI.putObj _ hi (by omega) hl rfl) (Nat.le_trans (by omega) (grownBy_putObj' W _ _).size)) ?_
      have fin : ∀ (Mz : Nat → Prop) (hMz : ∀ k, w.heap.size ≤ k → Mz k) (jump : Option Code) (W3 : World), But (fun k => Mz k ∧ (k < w.heap.size ∨ w.heap.size + 2 + c ≤ k)) (W.putObj (w.heap.size + 1) (.loop { rec .ready none with state := .busy })) W3 →
          (Instr.endRound (w.heap.size + 1) jump).run P W3 = .ok (.bool jump.isNone) (W3.putObj (w.heap.size + 1) (.loop (rec (if jump.isNone then .ready else .done) jump))) ∧
          W3.heap[w.heap.size + 1]? = some (.loop { rec .ready none with state := .busy }) ∧
          (W3.putObj (w.heap.size + 1) (.loop (rec (if jump.isNone then .ready else .done) jump))).heap[w.heap.size + 1]? = some (.loop (rec (if jump.isNone then .ready else .done) jump)) ∧
          (W3.putObj (w.heap.size + 1) (.loop (rec (if jump.isNone then .ready else .done) jump))).heap[w.heap.size]? = some (.deferred (some [])) ∧
          But (fun k => Mz k ∧ (k < W1.heap.size ∨ W1.heap.size + c ≤ k)) W (W3.putObj (w.heap.size + 1) (.loop (rec (if jump.isNone then .ready else .done) jump))) := fun Mz hMz jump W3 hk3 => by
        have hw2 := hw2 Mz hMz
        have hl3 := (hk3.block _ (Array.getElem?_eq_some_iff.1 hl2).1 (by omega)).trans hl2
        have hd3 := (hk3.block _ (Array.getElem?_eq_some_iff.1 hk2).1 (by omega)).trans hk2
        have := run_endRound (P := P) jump hl3
        rw [hrec] at this ⊢
        exact ⟨this, by rw [hrec] at hl3; exact hl3, World.putObj_heap_same (Array.getElem?_eq_some_iff.1 hl3).1, (World.putObj_heap_other (by omega)).trans hd3, by rw [hrec] at hw2 hk3; exact (hw2.trans (hk3.mono (fun k _ h => ⟨h.1, by have := h.2; omega⟩))).trans (But.putObj _ _ _ (fun _ => ⟨hMz _ (by omega), by omega⟩))⟩
      rintro e a3 W3 hp
      cases e with
      | normal =>
        obtain ⟨hk3, hi3⟩ := hp
        obtain ⟨hr, hl3, hl4, hk4, hb4⟩ := fin M hM none W3 hk3
        exact ⟨_, _, hr, .inl ⟨rfl, hb4, hI.putObj _ hi3 (by omega) hl3 rfl, hl4, hk4⟩⟩
      | ret =>
        obtain ⟨hk3, hi3⟩ := hp
        obtain ⟨hr, hl3, hl4, hk4, hb4⟩ := fin Mx hMx (some .ret) W3 hk3
        exact ⟨_, _, hr, .inr ⟨rfl, hb4, .ret, (hIx _).putObj _ hi3 (by omega) hl3 rfl, hl4, hk4⟩⟩
      | exit id =>
        obtain ⟨hk3, hi3⟩ := hp
        obtain ⟨hr, hl3, hl4, hk4, hb4⟩ := fin Mx hMx (some (.exit id)) W3 hk3
        exact ⟨_, _, hr, .inr ⟨rfl, hb4, .exit id, (hIx _).putObj _ hi3 (by omega) hl3 rfl, hl4, hk4⟩⟩
      | goto t =>
        obtain ⟨hk3, hi3⟩ := hp
        obtain ⟨hr, hl3, hl4, hk4, hb4⟩ := fin Mx hMx (some (.goto t)) W3 hk3
        exact ⟨_, _, hr, .inr ⟨rfl, hb4, .goto t, (hIx _).putObj _ hi3 (by omega) hl3 rfl, hl4, hk4⟩⟩
      | panic ch => exact hp.elim
      | outgrown => exact hp.elim
    · -- behind the iterator
      rintro e W2 ⟨⟨v, rfl⟩, (⟨xs, hS, hi, hl, hk⟩ | ⟨pre, hSp, c, hi, hl, hk⟩)⟩
      · exact ⟨none, _, by have := run_endLoop (P := P) hl (by rw [hrec]; simp); rw [hrec] at this; exact this, hdone _ xs _ (Nat.le_refl _) hS (hI.putObj _ hi (by omega) hl rfl) ((World.putObj_heap_other (by omega)).trans hk)⟩
      · exact ⟨some c, _, by have := run_endLoop (P := P) hl (by rw [hrec]; simp); rw [hrec] at this; exact this, wpIn_wide.2 (hstop _ c pre _ (Nat.le_refl _) hSp ((hIx c).putObj _ hi (by omega) hl rfl) ((World.putObj_heap_other (by omega)).trans hk))⟩

set_option maxRecDepth 100000 in
set_option maxHeartbeats 4000000 in
theorem msgs_x {w : World} {bb place most puts : Nat} {N : Int} {ms : List Msg} {R : Nat → Prop} (h : BX w bb ms place most puts R) {p q : Nat} (hp : w.cell? ⟨p, 0, none⟩ = some (.pointer (some ⟨bb, 0, none⟩))) (hq : w.cell? ⟨q, 0, none⟩ = some (.int .i64 N)) (hnum : ∀ m : Msg, m ∈ ms → (m.num : Int) ≤ N)
    {M Mx : Nat → Prop} (hMB : ∀ k, BS bb ms k → ¬ M k) (hMp : ¬ M p) (hMq : ¬ M q) :
    SeqX Try.prog 39 #[.pointer (some ⟨p, 0, none⟩), .pointer (some ⟨q, 0, none⟩)] mpt (fun pre m => pre = ms.take pre.length ∧ ms[pre.length]? = some m) M Mx 0 (fun xs => xs = ms) (fun pre => pre <+: ms) ms.length w := by
  intro l J Jx W hW hJ hJx hY h0
  have hB := h.keep hW
  have zp := World.block_lt_of_cell? _ _ hp
  have zq := World.block_lt_of_cell? _ _ hq
  replace hp := (hW.cell zp).trans hp
  replace hq := (hW.cell zq).trans hq
  replace zp := World.block_lt_of_cell? _ _ hp
  replace zq := World.block_lt_of_cell? _ _ hq
  have b0 := hB.box.c (i := 0) rfl
  have HB := hidb hB
  have HMS := hidb (And.intro hMB (And.intro hMp (And.intro hMq (And.intro zp zq))))
  have HP := hidb hp
  have HQ := hidb hq
  have HNM := hidb hnum
  have HJ := hidb hJ
  have HY := hidb hY
  have H0 := hidb h0
  clear hB h hW hnum hMB hMp hMq zp zq hJ hY h0
  refine callsIn_of_wp Try.func39 rfl trivial ?_ rfl
  simp only [Try.ntmps39, List.size_toArray, List.length_cons, List.length_nil, Nat.reduceAdd, Nat.reduceSub, Array.replicate_succ, Array.replicate_zero, List.push_toArray, List.append_toArray, List.nil_append, List.cons_append]
  gi_wp2
  gi_loopg [4] (ms.length) (fun gk mv wr => ∃ i, i ≤ ms.length ∧ ms.length - i ≤ gk ∧ mv = pt ((ms[i]?).map Msg.b) ∧ But M W wr ∧ J (ms.take i) wr)
  case atStart => exact ⟨0, by omega, by omega, rfl, But.refl _ _, by simpa using H0.out⟩
  case round =>
  obtain ⟨i, hi, hgk, rfl, hbt, hj⟩ := hrel
  have HBT := hidb hbt
  have HJI := hidb hj
  have HG := hidb (And.intro hi hgk)
  clear hbt hj hi hgk
  have kq := (HBT.out.cell (p := ⟨q, 0, none⟩) HMS.out.2.2.2.2 HMS.out.2.2.1).trans HQ.out
  by_cases hil : i < ms.length
  · obtain ⟨m, hm⟩ : ∃ m, ms[i]? = some m := ⟨_, List.getElem?_eq_getElem hil⟩
    have hmem := List.mem_of_getElem? hm
    have hpt : pt ((ms[i]?).map Msg.b) = .pointer (some ⟨m.b, 0, none⟩) := by rw [hm]; rfl
    rw [hpt]
    have HAT : Hid (At wr m.b (m.cells (prv ms i) (nxt ms i) false)) := hidb ((HB.out.msg i m hm).but HBT.out (HMS.out.1 _ (.inr ⟨m, hmem, rfl⟩)))
    have k8 := HAT.out.c (i := 8) (v := .int .i64 (m.num : Int)) rfl
    have k9 := HAT.out.c (i := 9) (v := .bool false) rfl
    have hle := HNM.out m hmem
    have hne := ptr_neq0 m.b
    have HM := hidb (And.intro hm hmem)
    clear hpt hm hmem hil
    gi_wp2_with fail
    have d1 : decide ((m.num : Int) ≤ N) = true := by simpa using hle
    gi_big_quiet (fail)
    obtain ⟨W2, hW2⟩ : ∃ W2, wr.drewN nq = W2 := ⟨_, rfl⟩
    have hbw : Below wr.heap.size wr W2 := hW2 ▸ below_drewN (Below.refl _ _) _
    rw [hW2]
    have kk9 := (hbw.cell (p := ⟨m.b, 9, none⟩) HAT.out.2).trans k9
    have hj2 : J (ms.take i) W2 := HJ.out _ _ _ none HJI.out (by rw [← hW2]; exact ⟨rfl, rfl, rfl, Nat.le_refl _, fun _ _ _ => rfl⟩) (fun r e => by cases e)
    obtain ⟨fn, tmps, assign, body, hy, hR⟩ := HY.out (ms.take i) m W2 (by have hl := (List.getElem?_eq_some_iff.1 HM.out.1).1; rw [List.length_take, Nat.min_eq_left (Nat.le_of_lt hl)]; exact ⟨rfl, HM.out.1⟩) hj2 (by rw [List.length_take]; have := (List.getElem?_eq_some_iff.1 HM.out.1).1; omega) (by have := HBT.out.size; have := hbw.size; omega)
    have HR := hidb hR
    have HBW := hidb hbw
    clear hW2 hj2 hR hbw
    gi_wp2
    refine ⟨rfl, HR.out.mono ?_⟩
    rintro e W3 (⟨rfl, hb3, hj3⟩ | ⟨rfl, -, hjx3⟩)
    · have hbm : But M wr W3 := (But.of_below HBW.out).trans (hb3.mono (fun k _ hk => hk.1))
      have HAT3 := HAT.out.but hbm (HMS.out.1 _ (.inr ⟨m, HM.out.2, rfl⟩))
      have k1 := HAT3.c (i := 1) (v := pt (nxt ms i)) rfl
      have HJ3 := hidb hj3
      have HB3 := hidb (HBT.out.trans hbm)
      clear HAT3 hbm hj3 hb3
      gi_wp2
      go_roundg (ms.length - (i + 1))
      case measure => have := HG.out; have := (List.getElem?_eq_some_iff.1 HM.out.1).1; omega
      case rel =>
        have hl := (List.getElem?_eq_some_iff.1 HM.out.1).1
        refine ⟨i + 1, by omega, by omega, rfl, HB3.out, ?_⟩
        rw [List.take_add_one, HM.out.1]
        exact HJ3.out
    · gi_wp2
      refine bodyPost_ret (results_none rfl _ _ _) rfl ?_
      refine ⟨⟨_, rfl⟩, .inr ⟨_, ?_, hjx3⟩⟩
      have : ms.take i ++ [m] = ms.take (i + 1) := by rw [List.take_add_one, HM.out.1]; rfl
      rw [this]
      exact List.take_prefix _ _
  · have hpt : pt ((ms[i]?).map Msg.b) = .pointer none := by rw [List.getElem?_eq_none (by omega)]; rfl
    rw [hpt]
    have hne := ptr_neq1
    have HIL := hidb hil
    clear hpt hil
    gi_wp2_with fail
    gi_big_quiet (fail)
    gi_wp2
    go_end0
    refine ⟨⟨_, rfl⟩, .inl ⟨ms, rfl, ?_⟩⟩
    have e : ms.take i = ms := List.take_of_length_le (by have := HIL.out; omega)
    have hj := HJI.out
    rw [e] at hj
    exact HJ.out _ _ _ none hj ⟨rfl, rfl, rfl, Nat.le_refl _, fun _ _ _ => rfl⟩ (fun r e => by cases e)
end Go.Proofs.Ytogahhbckfnllaa


