import Derived.Test.YtggpbfmdhenjdaaG06
import Derived.Deep.AppendLies
import Derived.Deep.RegionLaw
import Derived.BigQuiet
/- term.Copy of any term: the same term, in new memory. -/
namespace Go.Proofs.Ytggpbfmdhenjdaa
open Go.Deep Go.RowKit Go.Lib
attribute [local go_sem] store_float f64bits
attribute [local go_sem ↓] Go.wp_at_zero Go.wp_at_succ

theorem in_base {w : World} {B C : Nat} (hBC : B ≤ C) : ∀ t : Tr, t.In w C → t.In w B := by
  intro t
  induction t using Tr.ind with
  | h k n f s a c kids ih =>
  intro h
  unfold Tr.In at h ⊢
  refine ⟨h.1, fun ad had => ⟨Nat.le_trans hBC (h.2 ad had).1, inAll_of fun j u hu => ?_⟩⟩
  have g := inAll_get (h.2 ad had).2 j u hu
  refine ⟨fun i hi => ?_, ih u (List.mem_of_getElem? hu) g.2⟩
  rw [add_add]
  exact g.1 i hi

theorem in_over {w w' : World} {C : Nat} (hw : ∀ p v, C ≤ p.block → w.cell? p = some v → w'.cell? p = some v) : ∀ t : Tr, t.In w C → t.In w' C := by
  refine Tr.ind fun k n f s a c kids hk h => ?_
  unfold Tr.In at h ⊢
  refine ⟨h.1, fun ad had => ⟨(h.2 ad had).1, inAll_of fun j t hj => ?_⟩⟩
  have g := inAll_get (h.2 ad had).2 j t hj
  refine ⟨fun i hi => ?_, hk t (List.mem_of_getElem? hj) g.2⟩
  rw [add_add]
  have e := g.1 i hi
  have hl : i < t.cells.length := by cases t; simpa [Tr.cells] using hi
  rw [List.getElem?_eq_getElem hl] at e ⊢
  exact hw _ _ (by rw [show (ad.add (j * 5 + i)).block = ad.block by unfold Addr.add; split <;> rfl]; exact (h.2 ad had).1) e

theorem in_set {w : World} {C : Nat} {t : Tr} (h : t.In w C) {p : Addr} (hp : p.block < C) (v : Value) : t.In (w.setCell p v) C :=
  in_over (fun q u hq hu => by rw [World.cell?_setCell_other]; exact hu; intro e; subst e; omega) t h

/-- The one term of a copied row. -/
theorem copy_take {t : Tr} {ts' : List Tr} {w : World} {B g : Nat} (hs : SmA [t] ts') (hi : Tr.InAll w B ⟨g, 0, none⟩ ts') : ∃ t' : Tr, Sm t t' ∧ t'.In w B ∧ (match t' with | .mk k n f s a c kids => w.cell? ⟨g, 0, none⟩ = some (.int .i64 k) ∧ w.cell? ⟨g, 1, none⟩ = some (.int .i64 n) ∧ w.cell? ⟨g, 2, none⟩ = some (.float .f64 f) ∧ w.cell? ⟨g, 3, none⟩ = some (.string s) ∧ w.cell? ⟨g, 4, none⟩ = some (.slice a kids.length c)) := by
  match ts', hs with
  | [t'], hs =>
    unfold SmA at hs
    unfold Tr.InAll at hi
    obtain ⟨hc, hin, _⟩ := hi
    obtain ⟨k, n, f, s, a, c, kids⟩ := t'
    refine ⟨_, hs.1, hin, ?_⟩
    have h0 := hc 0 (by omega); have h1 := hc 1 (by omega); have h2 := hc 2 (by omega); have h3 := hc 3 (by omega); have h4 := hc 4 (by omega)
    simp [Addr.add, Tr.cells] at h0 h1 h2 h3 h4
    exact ⟨h0, h1, h2, h3, h4⟩
  | [], hs => unfold SmA at hs; exact hs.elim
  | _ :: _ :: _, hs => unfold SmA at hs; have := hs.2; unfold SmA at this; exact this.elim

theorem copyAll_one (k n : Int) (f : Nat) (s : ByteArray) (a : Option Addr) (c : Nat) (kids : List Tr) (W : World) (b g : Nat) (hg : W.heap.size = g) (bx : Box W b (.int .i64 k) (.int .i64 n) (.float .f64 f) (.string s) (.slice a kids.length c)) (hin : (Tr.mk k n f s a c kids).In W 0) (hsm : Small (.mk k n f s a c kids)) (hcn : cnT (.mk k n f s a c kids) ≤ 1000000000) :
    Calls Try.prog 33 #[.slice (some ⟨b, 0, none⟩) 1 1] W fun e w1 => ∃ t2 : Tr, e = .returned (.slice (some ⟨g, 0, none⟩) 1 1) ∧ Sm (.mk k n f s a c kids) t2 ∧ t2.In w1 g ∧ (match t2 with | .mk k n f s a c kids => w1.cell? ⟨g, 0, none⟩ = some (.int .i64 k) ∧ w1.cell? ⟨g, 1, none⟩ = some (.int .i64 n) ∧ w1.cell? ⟨g, 2, none⟩ = some (.float .f64 f) ∧ w1.cell? ⟨g, 3, none⟩ = some (.string s) ∧ w1.cell? ⟨g, 4, none⟩ = some (.slice a kids.length c)) ∧ Below W.heap.size W w1 := by
  subst hg
  refine (copyAll_any [.mk k n f s a c kids] ⟨b, 0, none⟩ 1 W (by simp) (by simp) (fun t ht => by
    obtain rfl : t = .mk k n f s a c kids := by simpa using ht
    exact ⟨hin, hsm⟩) (fun j v hj => by
    simp only [rowCells, Tr.cells, List.append_nil] at hj
    match j, hj with
    | 0, hj => simp at hj; subst hj; simpa [Addr.add] using bx.c0
    | 1, hj => simp at hj; subst hj; simpa [Addr.add] using bx.c1
    | 2, hj => simp at hj; subst hj; simpa [Addr.add] using bx.c2
    | 3, hj => simp at hj; subst hj; simpa [Addr.add] using bx.c3
    | 4, hj => simp at hj; subst hj; simpa [Addr.add] using bx.c4
    | j + 5, hj => simp at hj) (by simpa [cnA] using hcn)).mono ?_
  rintro e w1 ⟨ts', rfl, hsa, hia, hb⟩
  obtain ⟨t2, hs2, hi2, hq⟩ := copy_take hsa hia
  exact ⟨t2, rfl, hs2, hi2, hq, hb⟩

set_option maxHeartbeats 1000000 in
theorem copy_any (t : Tr) (w : World) (hin : t.In w 0) (hsm : Small t) (hcn : cnT t ≤ 1000000000) : Calls Try.prog 23 #[t.val] w fun e w' => ∃ t', e = .returned t'.val ∧ Sm t t' ∧ t'.In w' w.heap.size ∧ Below w.heap.size w w' := by
  obtain ⟨k, n, f, s, a, c, kids⟩ := t
  simp only [Tr.val, Tr.cells]
  have bx : Box (((w.alloc (.cells #[.int .i64 k, .int .i64 n, .float .f64 f, .string s, .slice a kids.length c] TT)).alloc (.cells #[.int .i64 0, .int .i64 0, .float .f64 0, .string ⟨#[]⟩, .slice none 0 0] TT)).alloc (.cells #[.int .i64 k, .int .i64 n, .float .f64 f, .string s, .slice a kids.length c] TT)) (w.heap.size + 1 + 1) (.int .i64 k) (.int .i64 n) (.float .f64 f) (.string s) (.slice a kids.length c) := by
    have := Box.new ((w.alloc (.cells #[.int .i64 k, .int .i64 n, .float .f64 f, .string s, .slice a kids.length c] TT)).alloc (.cells #[.int .i64 0, .int .i64 0, .float .f64 0, .string ⟨#[]⟩, .slice none 0 0] TT)) TT (.int .i64 k) (.int .i64 n) (.float .f64 f) (.string s) (.slice a kids.length c)
    simpa using this
  have rx : Box (((w.alloc (.cells #[.int .i64 k, .int .i64 n, .float .f64 f, .string s, .slice a kids.length c] TT)).alloc (.cells #[.int .i64 0, .int .i64 0, .float .f64 0, .string ⟨#[]⟩, .slice none 0 0] TT)).alloc (.cells #[.int .i64 k, .int .i64 n, .float .f64 f, .string s, .slice a kids.length c] TT)) (w.heap.size + 1) (.int .i64 0) (.int .i64 0) (.float .f64 0) (.string ⟨#[]⟩) (.slice none 0 0) := by
    have := (Box.new (w.alloc (.cells #[.int .i64 k, .int .i64 n, .float .f64 f, .string s, .slice a kids.length c] TT)) TT (.int .i64 0) (.int .i64 0) (.float .f64 0) (.string ⟨#[]⟩) (.slice none 0 0)).alloc (.cells #[.int .i64 k, .int .i64 n, .float .f64 f, .string s, .slice a kids.length c] TT)
    simpa using this
  have bw : Below w.heap.size w (((w.alloc (.cells #[.int .i64 k, .int .i64 n, .float .f64 f, .string s, .slice a kids.length c] TT)).alloc (.cells #[.int .i64 0, .int .i64 0, .float .f64 0, .string ⟨#[]⟩, .slice none 0 0] TT)).alloc (.cells #[.int .i64 k, .int .i64 n, .float .f64 f, .string s, .slice a kids.length c] TT)) := ((below_new w _).alloc (by simp) _).alloc (by simp; omega) _
  have CA := hidb (copyAll_one k n f s a c kids _ _ (w.heap.size + 1 + 1 + 1) (by simp) bx (in_below bw hin) hsm hcn)
  have RX := hidb rx
  have BW := hidb bw
  have HSZ : Hid (w.heap.size ≤ (((w.alloc (.cells #[.int .i64 k, .int .i64 n, .float .f64 f, .string s, .slice a kids.length c] TT)).alloc (.cells #[.int .i64 0, .int .i64 0, .float .f64 0, .string ⟨#[]⟩, .slice none 0 0] TT)).alloc (.cells #[.int .i64 k, .int .i64 n, .float .f64 f, .string s, .slice a kids.length c] TT)).heap.size) := hidb bw.size
  generalize kids.length = KL at *
  clear bx rx bw
  go_enter Try.func23, Try.ntmps23
  go_wp2_with (first | (go_at_call 33; refine CA.out.mono ?_; rintro e w1 ⟨⟨k2, n2, f2, s2, a2, c2, kids2⟩, rfl, hs2, hi2, ⟨q0, q1, q2, q3, q4⟩, hb⟩; obtain ⟨r0, r1, r2, r3, r4, g0, g1, g2, g3, g4, -⟩ := RX.out.keep hb; have HS := hidb hs2; have HI := hidb hi2; have HB := hidb (BW.out.trans (hb.mono BW.out.size)); clear hb hs2 hi2 CA RX BW HSZ))
  exact bodyPost_ret (v := .agg #[.int .i64 k2, .int .i64 n2, .float .f64 f2, .string s2, .slice a2 kids2.length c2]) (by simp [results, Try.results23, go_sem, r0, r1, r2, r3, r4]) rfl ⟨.mk k2 n2 f2 s2 a2 c2 kids2, rfl, HS.out, in_base (by omega) _ (in_set (in_set (in_set (in_set (in_set HI.out (by simp) _) (by simp) _) (by simp) _) (by simp) _) (by simp) _), ((((HB.out.setCell (by simp) _).setCell (by simp) _).setCell (by simp) _).setCell (by simp) _).setCell (by simp) _⟩
end Go.Proofs.Ytggpbfmdhenjdaa


/- Twin, of terms that are the same. -/
namespace Go.Proofs.Ytggpbfmdhenjdaa
open Go.RowKit Go.Deep
attribute [local go_sem] store_float f64bits f64frombits
attribute [local go_sem ↓] Go.wp_at_zero Go.wp_at_succ

abbrev Ent (f : Nat) : Prop := ∀ args w, (callFunc f args).run Try.prog w = .ok (.enter f args) w

theorem run_call {f : Nat} (ent : Ent f) {o : Oper} {a : Act} {w : World} (xs : Array Operand) (ts : Array TypeId) (hop : o.op = Op.call { callee := .value (.func f), args := xs, argTypes := ts }) (vs : Array Value) (hx' : xs.toList.map a.eval = vs.toList) :
    (execOp a.eval o).run Try.prog w = .ok (.enter f vs) w := by
  have hx : xs.map a.eval = vs := by apply Array.ext'; simpa using hx'
  unfold execOp
  rw [hop]
  have hf : a.eval (.func f) = ({ tmps := #[], defers := [] } : Act).eval (.func f) := rfl
  have ent2 := ent vs w
  simp only [resolve, hx, hf]
  go_simp

theorem step_call {f : Nat} {vs : Array Value} {ops : Array Oper} {o : Oper} {a : Act} {w : World} {K : Act → World → Prop} {Q : Exit → Act → World → Prop} {E : Prop} (hg : o.guard = none) (hrun : (execOp a.eval o).run Try.prog w = .ok (.enter f vs) w)
    {Post : Ending → World → Prop} (hc : Calls Try.prog f vs w Post) (h : ∀ e w', Post e w' → match e with | .returned v => K (a.put o.dst v) w' | .panicked c => Q (.panic c) a w' | .outgrown => LetsOut Q) :
    if Region.wanted o (yielded ops a.tmps) = true then Oper.wp Try.prog o a w K Q else E := by
  have hw : Region.wanted o (yielded ops a.tmps) = true := by simp [Region.wanted, hg]
  rw [if_pos hw]
  unfold Oper.wp
  rw [hrun, Oper.upon_enter]
  refine hc.mono fun e w'' hh => ?_
  have := h e w'' hh
  cases e <;> exact this

theorem ent_twin : Ent 11 := by
  intro args w
  kernel_rfl

theorem smA_get : ∀ (l l' : List Tr), SmA l l' → ∀ (j : Nat) (t t' : Tr), l[j]? = some t → l'[j]? = some t' → Sm t t'
  | [], [], _, j, t, t', h, _ => by simp at h
  | u :: r, u' :: r', hl, j, t, t', h, h' => by
    unfold SmA at hl
    rcases j with _ | j
    · obtain rfl : u = t := by simpa using h
      obtain rfl : u' = t' := by simpa using h'
      exact hl.1
    · exact smA_get r r' hl.2 j t t' (by simpa using h) (by simpa using h')
  | [], _ :: _, hl, _, _, _, _, _ => by unfold SmA at hl; exact hl.elim
  | _ :: _, [], hl, _, _, _, _, _ => by unfold SmA at hl; exact hl.elim

theorem step_twin {vs : Array Value} {ops : Array Oper} {o : Oper} {a : Act} {w : World} {K : Act → World → Prop} {Q : Exit → Act → World → Prop} {E : Prop} (hg : o.guard = none) (hrun : (execOp a.eval o).run Try.prog w = .ok (.enter 11 vs) w)
    (hc : Calls Try.prog 11 vs w fun e w' => e = .returned (.bool true) ∧ Below w.heap.size w w') (hok : ∀ w', Below w.heap.size w w' → K (a.put o.dst (.bool true)) w') :
    if Region.wanted o (yielded ops a.tmps) = true then Oper.wp Try.prog o a w K Q else E :=
  step_call hg hrun hc fun e w' hh => by
    obtain ⟨rfl, h⟩ := hh
    exact hok w' h

set_option maxHeartbeats 3000000 in
set_option maxRecDepth 100000 in
theorem twin_same : ∀ t t' : Tr, Sm t t' → ∀ w, t.In w 0 → t'.In w 0 → Calls Try.prog 11 #[t.val, t'.val] w fun e w' => e = .returned (.bool true) ∧ Below w.heap.size w w' := by
  refine Tr.ind fun k n f s a c kids hk t' hs w hin hin' => ?_
  obtain ⟨k', n', f', s', a', c', kids'⟩ := t'
  unfold Sm at hs
  obtain ⟨rfl, rfl, rfl, rfl, hsa⟩ := hs
  have hl := smA_len hsa
  have hsm := len_small hin
  obtain ⟨M, hM⟩ : ∃ M, kids.length = M := ⟨_, rfl⟩
  have hM' : kids'.length = M := by omega
  have HK := hidb hk
  have HSA := hidb hsa
  have HI := hidb hin
  have HI' := hidb hin'
  have HM := hidb hM
  have HM' := hidb hM'
  rw [hM] at hsm
  simp only [Tr.val, Tr.cells]
  rw [hM, hM']
  clear hk hsa hin hin' hl hM hM'
  go_enter Try.func11, Try.ntmps11
  go_wp2_with fail
  have X1 := (Box.new w 27 (.int .i64 k) (.int .i64 n) (.float .f64 f) (.string s) (.slice a M c)).keep (below_new _ (Obj.cells #[.int .i64 k, .int .i64 n, .float .f64 f, .string s, .slice a' M c'] 27))
  have X2 := Box.new (w.alloc (Obj.cells #[.int .i64 k, .int .i64 n, .float .f64 f, .string s, .slice a M c] 27)) 27 (.int .i64 k) (.int .i64 n) (.float .f64 f) (.string s) (.slice a' M c')
  have hs1 : (w.alloc (Obj.cells #[.int .i64 k, .int .i64 n, .float .f64 f, .string s, .slice a M c] 27)).heap.size = w.heap.size + 1 := by simp
  rw [hs1] at X2
  have HB2 : Hid (Below w.heap.size w ((w.alloc (Obj.cells #[.int .i64 k, .int .i64 n, .float .f64 f, .string s, .slice a M c] 27)).alloc (Obj.cells #[.int .i64 k, .int .i64 n, .float .f64 f, .string s, .slice a' M c'] 27))) := hidb ((below_new w _).alloc (by simp) _)
  generalize hW2 : ((w.alloc (Obj.cells #[.int .i64 k, .int .i64 n, .float .f64 f, .string s, .slice a M c] 27)).alloc (Obj.cells #[.int .i64 k, .int .i64 n, .float .f64 f, .string s, .slice a' M c'] 27)) = W2 at *
  clear hW2 hs1
  have HX1 := hidb X1
  have HX2 := hidb X2
  obtain ⟨x0, x1, x2, x3, x4, -, -, -, -, -, -⟩ := X1
  obtain ⟨y0, y1, y2, y3, y4, -, -, -, -, -, -⟩ := X2
  have k1 : (k != k) = false := by simp
  have k2 : (!(s.toList == s.toList)) = false := by simp
  have k3 : (n != n) = false := by simp
  have k4 : (((f : Nat) : Int) != ((f : Nat) : Int)) = false := by simp
  have k6 : (((M : Nat) : Int) != ((M : Nat) : Int)) = false := by simp
  go_quiet (fail)
  have HB4 := hidb (below_drewN HB2.out nq)
  have hbd : Below W2.heap.size W2 (W2.drewN nq) := below_drewN (Below.refl _ _) nq
  have HX3 := hidb (HX1.out.keep hbd)
  have HX4 := hidb (HX2.out.keep hbd)
  clear hbd x0 x1 x2 x3 x4 y0 y1 y2 y3 y4 HX1 HX2 HB2
  generalize W2.drewN nq = W4 at HB4 HX3 HX4 ⊢
  go_wp2_with fail
  clear k1 k2 k3 k4 k6
  go_loopw [5] (fun iv wr => ∃ (m : Nat), m ≤ M ∧ iv = .int .i64 m ∧ Below W4.heap.size W4 wr) (fun iv _ => M - (intOf iv).toNat)
  case atStart => exact ⟨0, by omega, rfl, Below.refl _ _⟩
  case round =>
    obtain ⟨m, hm, rfl, hby⟩ := hrel
    have HBY := hidb hby
    have HBW := hidb (HB4.out.trans (hby.mono HB4.out.size))
    have e4 := (HX3.out.keep hby).c4
    have g4 := (HX4.out.keep hby).c4
    clear hby
    by_cases hml : m < M
    · have hmb : (m : Int) < (M : Int) := by omega
      have hmz : (0 : Int) ≤ (m : Int) := by omega
      obtain ⟨b, o, rfl, hat⟩ := kid_at HI.out (by have := HM.out; omega)
      obtain ⟨k1, n1, f1, s1, a1, c1, ks1, hu1, hin1, x0, x1, x2, x3, x4⟩ := hat m (by have := HM.out; omega)
      obtain ⟨b', o', rfl, hat'⟩ := kid_at HI'.out (by have := HM'.out; omega)
      obtain ⟨k2, n2, f2, s2, a2, c2, ks2, hu2, hin2, y0, y1, y2, y3, y4⟩ := hat' m (by have := HM'.out; omega)
      have hlb : b < w.heap.size := World.block_lt_of_cell? w _ x0
      have hlb' : b' < w.heap.size := World.block_lt_of_cell? w _ y0
      have v0 := (HBW.out.cell hlb).trans x0
      have v1 := (HBW.out.cell hlb).trans x1
      have v2 := (HBW.out.cell hlb).trans x2
      have v3 := (HBW.out.cell hlb).trans x3
      have v4 := (HBW.out.cell hlb).trans x4
      have z0 := (HBW.out.cell hlb').trans y0
      have z1 := (HBW.out.cell hlb').trans y1
      have z2 := (HBW.out.cell hlb').trans y2
      have z3 := (HBW.out.cell hlb').trans y3
      have z4 := (HBW.out.cell hlb').trans y4
      have hss := smA_get _ _ HSA.out m _ _ hu1 hu2
      have hbd : Below wr.heap.size wr wr.drew := (Below.refl _ _).drew
      have TW := hidb (HK.out _ (List.mem_of_getElem? hu1) _ hss wr.drew (in_below (HBW.out.trans (hbd.mono HBW.out.size)) hin1) (in_below (HBW.out.trans (hbd.mono HBW.out.size)) hin2))
      simp only [Tr.val, Tr.cells] at TW
      clear hat hat' hu1 hu2 hin1 hin2 x0 x1 x2 x3 x4 y0 y1 y2 y3 y4 hss hbd
      go_wp2_with fail
      go_region_law (first
        | (refine step_twin rfl (run_call ent_twin #[.tmp 54, .tmp 59] _ rfl #[.agg #[.int .i64 k1, .int .i64 n1, .float .f64 f1, .string s1, .slice a1 ks1.length c1], .agg #[.int .i64 k2, .int .i64 n2, .float .f64 f2, .string s2, .slice a2 ks2.length c2]] rfl) TW.out ?_; intro wz hbz; have HBZ := hidb (HBY.out.trans ((undrew hbz).mono HBY.out.size)); clear hbz))
      all_goals (
        go_wp2_with fail
        go_roundw
        case rel => exact ⟨m + 1, by omega, by go_num, HBZ.out⟩
        case measure => simp [intOf]; omega)
    · have hmn : ¬ (m : Int) < (M : Int) := by omega
      go_wp2_with fail
      go_ret
      exact ⟨rfl, HBW.out⟩
end Go.Proofs.Ytggpbfmdhenjdaa


