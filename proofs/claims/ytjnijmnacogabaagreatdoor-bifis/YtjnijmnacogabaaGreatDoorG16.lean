import Derived.Test.YtjnijmnacogabaaGreatDoorG15
import Derived.Deep.AppendLies
import Derived.Deep.RegionLaw
import Derived.BigQuiet
/- Twin, of terms that are the same. -/
namespace Go.Proofs.YtjnijmnacogabaaGreatDoor
open Go.RowKit Go.Deep
attribute [local go_sem] store_float f64bits f64frombits
attribute [local go_sem ↓] Go.wp_at_zero Go.wp_at_succ

abbrev Ent (f : Nat) : Prop := ∀ args w, (callFunc f args).run Tryz.prog w = .ok (.enter f args) w

theorem run_call {f : Nat} (ent : Ent f) {o : Oper} {a : Act} {w : World} (xs : Array Operand) (ts : Array TypeId) (hop : o.op = Op.call { callee := .value (.func f), args := xs, argTypes := ts }) (vs : Array Value) (hx' : xs.toList.map a.eval = vs.toList) :
    (execOp a.eval o).run Tryz.prog w = .ok (.enter f vs) w := by
  have hx : xs.map a.eval = vs := by apply Array.ext'; simpa using hx'
  unfold execOp
  rw [hop]
  have hf : a.eval (.func f) = ({ tmps := #[], defers := [] } : Act).eval (.func f) := rfl
  have ent2 := ent vs w
  simp only [resolve, hx, hf]
  go_simp

theorem step_call {f : Nat} {vs : Array Value} {ops : Array Oper} {o : Oper} {a : Act} {w : World} {K : Act → World → Prop} {Q : Exit → Act → World → Prop} {E : Prop} (hg : o.guard = none) (hrun : (execOp a.eval o).run Tryz.prog w = .ok (.enter f vs) w)
    {Post : Ending → World → Prop} (hc : Calls Tryz.prog f vs w Post) (h : ∀ e w', Post e w' → match e with | .returned v => K (a.put o.dst v) w' | .panicked c => Q (.panic c) a w' | .outgrown => LetsOut Q) :
    if Region.wanted o (yielded ops a.tmps) = true then Oper.wp Tryz.prog o a w K Q else E := by
  have hw : Region.wanted o (yielded ops a.tmps) = true := by simp [Region.wanted, hg]
  rw [if_pos hw]
  unfold Oper.wp
  rw [hrun, Oper.upon_enter]
  refine hc.mono fun e w'' hh => ?_
  have := h e w'' hh
  cases e <;> exact this

theorem ent_twin : Ent 14 := by
  intro args w
  kernel_rfl

theorem smA_get : ∀ (l l' : List Tr), SmA l l' → ∀ (j : Nat) (t t' : Tr), l[j]? = some t → l'[j]? = some t' → Sm t t'
  | [], [], _, j, t, t', h, _ => by simp at h
  | u :: r, u' :: r', hl, j, t, t', h, h' => by
    unfold SmA at hl
    rcases j with _ | j
    · obtain rfl : u = t := by simpa using h
      obtain rfl : u' = t' := by simpa using h'
      exact hl.1
    · exact smA_get r r' hl.2 j t t' (by simpa using h) (by simpa using h')
  | [], _ :: _, hl, _, _, _, _, _ => by unfold SmA at hl; exact hl.elim
  | _ :: _, [], hl, _, _, _, _, _ => by unfold SmA at hl; exact hl.elim

theorem step_twin {vs : Array Value} {ops : Array Oper} {o : Oper} {a : Act} {w : World} {K : Act → World → Prop} {Q : Exit → Act → World → Prop} {E : Prop} (hg : o.guard = none) (hrun : (execOp a.eval o).run Tryz.prog w = .ok (.enter 14 vs) w)
    (hc : Calls Tryz.prog 14 vs w fun e w' => e = .returned (.bool true) ∧ Below w.heap.size w w') (hok : ∀ w', Below w.heap.size w w' → K (a.put o.dst (.bool true)) w') :
    if Region.wanted o (yielded ops a.tmps) = true then Oper.wp Tryz.prog o a w K Q else E :=
  step_call hg hrun hc fun e w' hh => by
    obtain ⟨rfl, h⟩ := hh
    exact hok w' h

set_option maxHeartbeats 3000000 in
set_option maxRecDepth 100000 in
theorem twin_same : ∀ t t' : Tr, Sm t t' → ∀ w, t.In w 0 → t'.In w 0 → Calls Tryz.prog 14 #[t.val, t'.val] w fun e w' => e = .returned (.bool true) ∧ Below w.heap.size w w' := by
  refine Tr.ind fun k n f s a c kids hk t' hs w hin hin' => ?_
  obtain ⟨k', n', f', s', a', c', kids'⟩ := t'
  unfold Sm at hs
  obtain ⟨rfl, rfl, rfl, rfl, hsa⟩ := hs
  have hl := smA_len hsa
  have hsm := len_small hin
  obtain ⟨M, hM⟩ : ∃ M, kids.length = M := ⟨_, rfl⟩
  have hM' : kids'.length = M := by omega
  have HK := hidb hk
  have HSA := hidb hsa
  have HI := hidb hin
  have HI' := hidb hin'
  have HM := hidb hM
  have HM' := hidb hM'
  rw [hM] at hsm
  simp only [Tr.val, Tr.cells]
  rw [hM, hM']
  clear hk hsa hin hin' hl hM hM'
  go_enter Tryz.func14, Tryz.ntmps14
  go_wp2_with fail
  have X1 := (Box.new w 29 (.int .i64 k) (.int .i64 n) (.float .f64 f) (.string s) (.slice a M c)).keep (below_new _ (Obj.cells #[.int .i64 k, .int .i64 n, .float .f64 f, .string s, .slice a' M c'] 29))
  have X2 := Box.new (w.alloc (Obj.cells #[.int .i64 k, .int .i64 n, .float .f64 f, .string s, .slice a M c] 29)) 29 (.int .i64 k) (.int .i64 n) (.float .f64 f) (.string s) (.slice a' M c')
  have hs1 : (w.alloc (Obj.cells #[.int .i64 k, .int .i64 n, .float .f64 f, .string s, .slice a M c] 29)).heap.size = w.heap.size + 1 := by simp
  rw [hs1] at X2
  have HB2 : Hid (Below w.heap.size w ((w.alloc (Obj.cells #[.int .i64 k, .int .i64 n, .float .f64 f, .string s, .slice a M c] 29)).alloc (Obj.cells #[.int .i64 k, .int .i64 n, .float .f64 f, .string s, .slice a' M c'] 29))) := hidb ((below_new w _).alloc (by simp) _)
  generalize hW2 : ((w.alloc (Obj.cells #[.int .i64 k, .int .i64 n, .float .f64 f, .string s, .slice a M c] 29)).alloc (Obj.cells #[.int .i64 k, .int .i64 n, .float .f64 f, .string s, .slice a' M c'] 29)) = W2 at *
  clear hW2 hs1
  have HX1 := hidb X1
  have HX2 := hidb X2
  obtain ⟨x0, x1, x2, x3, x4, -, -, -, -, -, -⟩ := X1
  obtain ⟨y0, y1, y2, y3, y4, -, -, -, -, -, -⟩ := X2
  have k1 : (k != k) = false := by simp
  have k2 : (!(s.toList == s.toList)) = false := by simp
  have k3 : (n != n) = false := by simp
  have k4 : (((f : Nat) : Int) != ((f : Nat) : Int)) = false := by simp
  have k6 : (((M : Nat) : Int) != ((M : Nat) : Int)) = false := by simp
  go_quiet (fail)
  have HB4 := hidb (below_drewN HB2.out nq)
  have hbd : Below W2.heap.size W2 (W2.drewN nq) := below_drewN (Below.refl _ _) nq
  have HX3 := hidb (HX1.out.keep hbd)
  have HX4 := hidb (HX2.out.keep hbd)
  clear hbd x0 x1 x2 x3 x4 y0 y1 y2 y3 y4 HX1 HX2 HB2
  generalize W2.drewN nq = W4 at HB4 HX3 HX4 ⊢
  go_wp2_with fail
  clear k1 k2 k3 k4 k6
  go_loopw [5] (fun iv wr => ∃ (m : Nat), m ≤ M ∧ iv = .int .i64 m ∧ Below W4.heap.size W4 wr) (fun iv _ => M - (intOf iv).toNat)
  case atStart => exact ⟨0, by omega, rfl, Below.refl _ _⟩
  case round =>
    obtain ⟨m, hm, rfl, hby⟩ := hrel
    have HBY := hidb hby
    have HBW := hidb (HB4.out.trans (hby.mono HB4.out.size))
    have e4 := (HX3.out.keep hby).c4
    have g4 := (HX4.out.keep hby).c4
    clear hby
    by_cases hml : m < M
    · have hmb : (m : Int) < (M : Int) := by omega
      have hmz : (0 : Int) ≤ (m : Int) := by omega
      obtain ⟨b, o, rfl, hat⟩ := kid_at HI.out (by have := HM.out; omega)
      obtain ⟨k1, n1, f1, s1, a1, c1, ks1, hu1, hin1, x0, x1, x2, x3, x4⟩ := hat m (by have := HM.out; omega)
      obtain ⟨b', o', rfl, hat'⟩ := kid_at HI'.out (by have := HM'.out; omega)
      obtain ⟨k2, n2, f2, s2, a2, c2, ks2, hu2, hin2, y0, y1, y2, y3, y4⟩ := hat' m (by have := HM'.out; omega)
      have hlb : b < w.heap.size := World.block_lt_of_cell? w _ x0
      have hlb' : b' < w.heap.size := World.block_lt_of_cell? w _ y0
      have v0 := (HBW.out.cell hlb).trans x0
      have v1 := (HBW.out.cell hlb).trans x1
      have v2 := (HBW.out.cell hlb).trans x2
      have v3 := (HBW.out.cell hlb).trans x3
      have v4 := (HBW.out.cell hlb).trans x4
      have z0 := (HBW.out.cell hlb').trans y0
      have z1 := (HBW.out.cell hlb').trans y1
      have z2 := (HBW.out.cell hlb').trans y2
      have z3 := (HBW.out.cell hlb').trans y3
      have z4 := (HBW.out.cell hlb').trans y4
      have hss := smA_get _ _ HSA.out m _ _ hu1 hu2
      have hbd : Below wr.heap.size wr wr.drew := (Below.refl _ _).drew
      have TW := hidb (HK.out _ (List.mem_of_getElem? hu1) _ hss wr.drew (in_below (HBW.out.trans (hbd.mono HBW.out.size)) hin1) (in_below (HBW.out.trans (hbd.mono HBW.out.size)) hin2))
      simp only [Tr.val, Tr.cells] at TW
      clear hat hat' hu1 hu2 hin1 hin2 x0 x1 x2 x3 x4 y0 y1 y2 y3 y4 hss hbd
      go_wp2_with fail
      go_region_law (first
        | (refine step_twin rfl (run_call ent_twin #[.tmp 54, .tmp 59] _ rfl #[.agg #[.int .i64 k1, .int .i64 n1, .float .f64 f1, .string s1, .slice a1 ks1.length c1], .agg #[.int .i64 k2, .int .i64 n2, .float .f64 f2, .string s2, .slice a2 ks2.length c2]] rfl) TW.out ?_; intro wz hbz; have HBZ := hidb (HBY.out.trans ((undrew hbz).mono HBY.out.size)); clear hbz))
      all_goals (
        go_wp2_with fail
        go_roundw
        case rel => exact ⟨m + 1, by omega, by go_num, HBZ.out⟩
        case measure => simp [intOf]; omega)
    · have hmn : ¬ (m : Int) < (M : Int) := by omega
      go_wp2_with fail
      go_ret
      exact ⟨rfl, HBW.out⟩
end Go.Proofs.YtjnijmnacogabaaGreatDoor


/- Where a tree lies. -/
namespace Go.Proofs.YtjnijmnacogabaaGreatDoor
open Go.RowKit Go.Deep

theorem get_lt {α : Type} {l : List α} {i : Nat} {x : α} (h : l[i]? = some x) : i < l.length := by
  rcases Nat.lt_or_ge i l.length with q | q
  · exact q
  · rw [List.getElem?_eq_none q] at h; cases h


mutual
/-- All of a tree lies in blocks of P. -/
def Tr.On (P : Nat → Prop) : Tr → Prop
  | .mk _ _ _ _ a _ kids => (0 < kids.length → ∀ ad, a = some ad → P ad.block) ∧ Tr.OnAll P kids
def Tr.OnAll (P : Nat → Prop) : List Tr → Prop
  | [] => True
  | t :: r => Tr.On P t ∧ Tr.OnAll P r
end

theorem onAll_get {P : Nat → Prop} {kids : List Tr} (h : Tr.OnAll P kids) {t : Tr} (ht : t ∈ kids) : t.On P := by
  induction kids with
  | nil => simp at ht
  | cons u r ih =>
    unfold Tr.OnAll at h
    rcases List.mem_cons.1 ht with rfl | ht
    · exact h.1
    · exact ih h.2 ht

/-- What lies in a world lies in its blocks. -/
theorem on_all {w : World} {base : Nat} : ∀ t : Tr, t.In w base → t.On (fun k => k < w.heap.size) := by
  refine Tr.ind fun k n f s a c kids hk h => ?_
  unfold Tr.In at h
  unfold Tr.On
  refine ⟨fun h0 ad had => ?_, ?_⟩
  · obtain ⟨u, hu⟩ : ∃ u, kids[0]? = some u := ⟨_, List.getElem?_eq_getElem h0⟩
    have q := (inAll_get (h.2 ad had).2 0 u hu).1 0 (by omega)
    cases u with
    | mk =>
      have e : ad.add (0 * 5 + 0) = ad := by unfold Addr.add; simp
      rw [e] at q
      exact World.block_lt_of_cell? w ad (q.trans rfl)
  · have : ∀ l : List Tr, (∀ t, t ∈ l → t ∈ kids) → Tr.OnAll (fun k => k < w.heap.size) l := by
      intro l
      induction l with
      | nil => intro _; unfold Tr.OnAll; trivial
      | cons t r ih =>
        intro hl
        unfold Tr.OnAll
        refine ⟨?_, ih fun u hu => hl u (List.mem_cons_of_mem _ hu)⟩
        have ht := hl t (List.mem_cons_self ..)
        obtain ⟨j, hj⟩ := List.getElem?_of_mem ht
        refine hk t ht ?_
        cases a with
        | none =>
          have h0 := h.1.2.2.2.2.2.2 rfl
          have h1 := h.1.2.2.2.2.1
          have : j < kids.length := by
            rcases Nat.lt_or_ge j kids.length with h | h
            · exact h
            · rw [List.getElem?_eq_none h] at hj; simp at hj
          omega
        | some ad => exact (inAll_get (h.2 ad rfl).2 j t hj).2
    exact this kids fun t h => h


theorem in_on {w w' : World} {base : Nat} {S : Nat → Prop} (hs : ∀ b, S b → w'.heap[b]? = w.heap[b]?) : ∀ t : Tr, t.In w base → t.On S → t.In w' base := by
  refine Tr.ind fun k n f s a c kids hk h ho => ?_
  unfold Tr.In at h ⊢
  unfold Tr.On at ho
  refine ⟨h.1, fun ad had => ⟨(h.2 ad had).1, inAll_of fun j t hj => ?_⟩⟩
  have g := inAll_get (h.2 ad had).2 j t hj
  have hpos : 0 < kids.length := by have := get_lt hj; omega
  have hS := ho.1 hpos ad had
  refine ⟨fun i hi => ?_, hk t (List.mem_of_getElem? hj) g.2 (onAll_get ho.2 (List.mem_of_getElem? hj))⟩
  rw [add_add]
  rw [← g.1 i hi]
  refine World.cell?_of_block (w := w) ?_
  have e : (ad.add (j * 5 + i)).block = ad.block := by unfold Addr.add; split <;> rfl
  rw [e]
  exact hs _ hS

theorem on_mono {S S' : Nat → Prop} (h : ∀ b, S b → S' b) : ∀ t : Tr, t.On S → t.On S' := by
  refine Tr.ind fun k n f s a c kids hk ho => ?_
  unfold Tr.On at ho ⊢
  refine ⟨fun h0 ad had => h _ (ho.1 h0 ad had), ?_⟩
  have : ∀ l : List Tr, (∀ t, t ∈ l → t ∈ kids) → Tr.OnAll S l → Tr.OnAll S' l := by
    intro l
    induction l with
    | nil => intro _ _; unfold Tr.OnAll; trivial
    | cons t r ih =>
      intro hl hx
      unfold Tr.OnAll at hx ⊢
      exact ⟨hk t (hl t (List.mem_cons_self ..)) hx.1, ih (fun u hu => hl u (List.mem_cons_of_mem _ hu)) hx.2⟩
  exact this kids (fun t h => h) ho.2


theorem on_from {w : World} {base : Nat} : ∀ t : Tr, t.In w base → t.On (fun k => base ≤ k) := by
  refine Tr.ind fun k n f s a c kids hk h => ?_
  unfold Tr.In at h
  unfold Tr.On
  refine ⟨fun h0 ad had => (h.2 ad had).1, ?_⟩
  cases a with
  | none =>
    have h0 := h.1.2.2.2.2.2.2 rfl
    have h1 := h.1.2.2.2.2.1
    have hz : kids = [] := List.length_eq_zero_iff.1 (by omega)
    subst hz
    unfold Tr.OnAll
    trivial
  | some ad =>
    have hin := (h.2 ad rfl).2
    have : ∀ l : List Tr, (∀ t, t ∈ l → t ∈ kids) → Tr.OnAll (fun k => base ≤ k) l := by
      intro l
      induction l with
      | nil => intro _; unfold Tr.OnAll; trivial
      | cons t r ih =>
        intro hl
        unfold Tr.OnAll
        refine ⟨?_, ih fun u hu => hl u (List.mem_cons_of_mem _ hu)⟩
        obtain ⟨j, hj⟩ := List.getElem?_of_mem (hl t (List.mem_cons_self ..))
        exact hk t (hl t (List.mem_cons_self ..)) (inAll_get hin j t hj).2
    exact this kids (fun t h => h)

theorem on_and {S S' : Nat → Prop} : ∀ t : Tr, t.On S → t.On S' → t.On (fun k => S k ∧ S' k) := by
  refine Tr.ind fun k n f s a c kids hk h h' => ?_
  unfold Tr.On at h h' ⊢
  refine ⟨fun h0 ad had => ⟨h.1 h0 ad had, h'.1 h0 ad had⟩, ?_⟩
  have : ∀ l : List Tr, (∀ t, t ∈ l → t ∈ kids) → Tr.OnAll S l → Tr.OnAll S' l → Tr.OnAll (fun k => S k ∧ S' k) l := by
    intro l
    induction l with
    | nil => intro _ _ _; unfold Tr.OnAll; trivial
    | cons t r ih =>
      intro hl hx hy
      unfold Tr.OnAll at hx hy ⊢
      exact ⟨hk t (hl t (List.mem_cons_self ..)) hx.1 hy.1, ih (fun u hu => hl u (List.mem_cons_of_mem _ hu)) hx.2 hy.2⟩
  exact this kids (fun t h => h) h.2 h'.2
end Go.Proofs.YtjnijmnacogabaaGreatDoor


