import Derived.Test.YtdpfmmbfidknfaaGreatDoorG39
import Derived.Deep.RegionHeld2
/- unary. -/
namespace Go.Proofs.YtdpfmmbfidknfaaGreatDoor
open Go.RowKit Go.Lib
attribute [local go_sem] store_float f64bits
attribute [local go_sem ↓] Go.wp_at_zero Go.wp_at_succ
attribute [local go_sem] nd_p tk_k tk_x tk_n tk_f tk_p
variable {B g b o : Nat} {e : PM Nat}

theorem tkCells_get : ∀ (l : List Tk) (m : Nat) (t : Tk), l[m]? = some t → ∀ j, j < 5 → (tkCells l)[m * 5 + j]? = t.cells[j]?
  | [], _, _, h, _, _ => by simp at h
  | u :: r, 0, t, h, j, hj => by
    simp at h
    subst h
    have : tkCells (u :: r) = u.cells ++ tkCells r := rfl
    rw [this, Nat.zero_mul, Nat.zero_add, List.getElem?_append_left (by simpa [Tk.cells] using hj)]
  | u :: r, m + 1, t, h, j, hj => by
    have : tkCells (u :: r) = u.cells ++ tkCells r := rfl
    rw [this, List.getElem?_append_right (by simp [Tk.cells]; omega)]
    have h5 : u.cells.length = 5 := rfl
    rw [h5, show (m + 1) * 5 + j - 5 = m * 5 + j by omega]
    exact tkCells_get r m t (by simpa using h) j hj

theorem signs_t {γ : Type} {s s' : PS} {u : Tk} {k : Nat} {l : List Tk} {G : List Tk → PM γ} (h : Gm.hd s = u) (hm : Gm.isM u ⟨#[45]⟩ = true ∨ Gm.isM u ⟨#[110, 111, 116]⟩ = true) (hc : Gm.cut s = s') : (Gm.signs (k + 1) l >>= G) s = (Gm.signs k (l ++ [u]) >>= G) s' := by
  subst h hc
  rw [Gm.bind_at, Gm.bind_at]
  have : Gm.signs (k + 1) l s = Gm.signs k (l ++ [Gm.hd s]) (Gm.cut s) := Gm.ite_t hm
  rw [this]
theorem signs_f {γ : Type} {s : PS} {u : Tk} {k : Nat} {l : List Tk} {G : List Tk → PM γ} (h : Gm.hd s = u) (hm : ¬ (Gm.isM u ⟨#[45]⟩ = true ∨ Gm.isM u ⟨#[110, 111, 116]⟩ = true)) : (Gm.signs (k + 1) l >>= G) s = G l s := by
  subst h
  rw [Gm.bind_at]
  have : Gm.signs (k + 1) l s = .ok (l, s) := Gm.ite_f hm
  rw [this]
theorem app_tk (w : World) (t : Tk) (q : Nat) (hg : q = w.heap.size) (j : Nat) (u : Value) (hj : t.cells[j]? = some u) : (w.alloc (.cells #[.int .i64 t.k, .string t.x, .int .i64 t.n, .float .f64 t.f, .int .i64 (t.p : Int)] TT)).cell? ((⟨q, 0, none⟩ : Addr).add j) = some u := by
  subst hg
  match j, hj with
  | 0, hj => simp [Tk.cells] at hj; subst hj; simp [Addr.add]
  | 1, hj => simp [Tk.cells] at hj; subst hj; simp [Addr.add]
  | 2, hj => simp [Tk.cells] at hj; subst hj; simp [Addr.add]
  | 3, hj => simp [Tk.cells] at hj; subst hj; simp [Addr.add]
  | 4, hj => simp [Tk.cells] at hj; subst hj; simp [Addr.add]
  | (j + 5), hj => simp [Tk.cells] at hj
theorem layOps_step {x y z : Nat} {s s' s'' : PS} {t : Tk} {l r : List Tk} (hd : l = t :: r) (h : Gm.layOps r x s = .ok (y, s')) (ho : Gm.op t.p t.x [y] s' = .ok (z, s'')) : Gm.layOps l x s = .ok (z, s'') := by
  subst hd
  exact (Gm.bind_ok h).trans ho
theorem layOps_err {x : Nat} {s : PS} {er : Int × Nat} {r : List Tk} : ∀ (a : List Tk), Gm.layOps r x s = .error er → Gm.layOps (a ++ r) x s = .error er
  | [], h => h
  | _ :: a, h => Gm.bind_err (layOps_err a h)
theorem layOps_fell {x y m : Nat} {s s' : PS} {t : Tk} {l r : List Tk} {er : Int × Nat} (hd : l.drop m = t :: r) (h : Gm.layOps r x s = .ok (y, s')) (ho : Gm.op t.p t.x [y] s' = .error er) : Gm.layOps l x s = .error er := by
  have h1 : Gm.layOps (l.drop m) x s = .error er := by rw [hd]; exact (Gm.bind_ok h).trans ho
  have h2 := layOps_err (l.take m) h1
  rwa [List.take_append_drop] at h2

/-- A row of tokens of the call's own. -/
structure TR (w : World) (C g b : Nat) (V v : Value) (l : List Tk) : Prop where
  own : w.ownsRow C TT 5 v l.length (tkCells l)
  ng : v.ownBlock ≠ some g
  nb : v.ownBlock ≠ some b
  nv : ∀ k, v.ownBlock = some k → V.ownBlock ≠ some k
section
variable {C : Nat} {P : Nat → Prop} {w0 w w' : World} {V0 V V' v : Value} {s s' : PS} {l : List Tk}
theorem TR.step (h : TR w C g b V v l) (h' : St B g b o P w V w' V' s') : TR w' C g b V' v l := by
  refine ⟨row_but h.own h'.but ?_, h.ng, h.nb, fun k hk => h'.beside (row_lt h.own k hk) (h.nv k hk)⟩
  rintro k hk (rfl | hS)
  · exact h.ng hk
  · exact h.nv k hk hS
theorem TR.below (h : TR w C g b V v l) (hb : Below w.heap.size w w') : TR w' C g b V v l := ⟨row_but h.own (But.of_below (S := fun _ => False) hb) (fun _ _ h => h), h.ng, h.nb, h.nv⟩
theorem TR.none (w : World) (C g b : Nat) (V : Value) : TR w C g b V (.slice none 0 0) [] := ⟨⟨rfl, .inl ⟨rfl, rfl⟩⟩, by simp [Value.ownBlock], by simp [Value.ownBlock], by simp [Value.ownBlock]⟩
theorem TR.sl (h : TR w C g b V v l) : ∃ a c, v = .slice a l.length c := by
  rcases h.own.2 with ⟨hv, hn⟩ | ⟨q, cap, cur, hv, _⟩
  · exact ⟨Option.none, 0, by rw [hv, hn]⟩
  · exact ⟨_, _, hv⟩
theorem TR.grown (h : St B g b o (PV P v) w0 V0 w V s) (hi : TR w w0.heap.size g b V v l) {X : World} (hX : Below w.heap.size w X) {v' : Value} {l' : List Tk} (hG : X.grownBy w' v.ownBlock) (hA : ∀ k, v'.ownBlock = some k → v.ownBlock = some k ∨ X.heap.size ≤ k)
    (ho : w'.ownsRow w0.heap.size TT 5 v' l'.length (tkCells l')) : TR w' w0.heap.size g b V v' l' ∧ St B g b o (PV P v') w0 V0 w' V s := by
  have hXs := hX.size
  have hGs := hG.size
  have hw0 := h.but.size
  have hB3 : But (fun k => v.ownBlock = some k) w w' := (But.of_below hX).trans (grown_but hG)
  have hvg := hi.ng
  have hvb := hi.nb
  have hk' : ∀ k, v'.ownBlock = some k → k ≠ g ∧ k ≠ b ∧ V.ownBlock ≠ some k := by
    intro k hk
    rcases hA k hk with e | e
    · exact ⟨fun he => hi.ng (he ▸ e), fun he => hi.nb (he ▸ e), hi.nv k e⟩
    · exact ⟨by have := h.glt; omega, by have := h.blt; omega, fun he => by have := h.vlt k he; omega⟩
  refine ⟨⟨ho, fun he => (hk' g he).1 rfl, fun he => (hk' b he).2.1 rfl, fun k he => (hk' k he).2.2⟩, ?_⟩
  have hlo : ∀ k, v.ownBlock = some k → w0.heap.size ≤ k := fun k e => (hi.own.lt k e).1
  refine ⟨h.pb.but hB3 (fun e => hi.ng e) (fun e => hi.nb e), ?_, by have := h.le; omega, h.ne, h.op, ⟨hB3.os.trans h.but.os, hB3.tape.trans h.but.tape, hB3.output.trans h.but.output, by omega, fun k hk hs => ?_⟩, h.own, fun k hk => ?_, fun k hk => ?_, h.tl⟩
  · have h1 : NS X B g b (PV P v) V s.ns := h.ns.but (But.of_below (S := fun _ => False) hX) (fun _ _ h => h) (fun _ h => h.elim)
    obtain ⟨⟨vs, a1, a2, a3⟩, a4, a5, a6⟩ := h1
    refine ⟨⟨vs, a1, row_but a2 (grown_but hG) (fun k hV he => hi.nv k he hV), fun i n u hn hu => ?_⟩, a4, a5, a6⟩
    obtain ⟨c1, c2, c3⟩ := a3 i n u hn hu
    refine ⟨c1.but (grown_but hG) (fun k e he => (c3 k e).2 (.inr he)), c2, fun k e => ⟨(c3 k e).1, ?_⟩⟩
    rintro (hp | hp)
    · exact (c3 k e).2 (.inl hp)
    · rcases hA k hp with e2 | e2
      · exact (c3 k e).2 (.inr e2)
      · have := c1.lt k e; omega
  · refine (hB3.block k (by omega) (fun e => ?_)).trans (h.but.block k hk hs)
    have := hlo k e; omega
  · rcases hk with hp | hp
    · have := h.plt k (.inl hp); omega
    · exact row_lt ho k hp
  · rcases hk with hp | hp
    · exact h.npv k (.inl hp)
    · exact ⟨(hk' k hp).2.2, (hk' k hp).1⟩
end

set_option maxHeartbeats 2000000 in
set_option maxRecDepth 100000 in
theorem pUnary (hE : EC B g b o e) {P : Nat → Prop} {w : World} {V : Value} {s : PS} (h : At B g b o P w V s) :
    Calls Tryz.prog 95 #[.pointer (some ⟨g, 0, none⟩)] w fun r w' => Rz B g b o P w V (Gm.unary e s) iv r w' := by
  have H : Hid (St B g b o P w V w V s) := hidb h
  obtain ⟨R, hR⟩ : ∃ R, Gm.unary e s = R := ⟨_, rfl⟩
  rw [hR]
  have HR := hidb hR.symm
  clear hR
  have HP := hidb h.plt
  have HS0 := hidb (h.less (Q := PV P (.slice none 0 0)) (fun _ hk => hk.elim id (fun he => by simp [Value.ownBlock] at he)))
  have htl := h.tl
  have HE := hidb hE
  clear h hE
  obtain ⟨i0, hi0, hz0, hz1, hz2⟩ := info_parts (P := Tryz.prog) (e := TT) (z := .agg #[.int .i64 0, .string ⟨#[]⟩, .int .i64 0, .float .f64 0, .int .i64 0]) (size := 5) (bytes := 48) (by kernel_rfl)
  go_enter Tryz.func95, Tryz.ntmps95
  go_wp2_with fail
  have HR := hidb (HR.out.trans (Gm.bind_left rfl))
  go_loopg [3] s.ts.length (fun gf s3 wx => ∃ (l : List Tk) (sx : PS) (a : Option Addr) (c k : Nat), s3 = .slice a l.length c ∧ St B g b o (PV P (.slice a l.length c)) w V wx V sx ∧ TR wx w.heap.size g b V (.slice a l.length c) l ∧ R = (Gm.signs k l >>= fun l => Gm.call e >>= fun x => Gm.layOps l x) sx ∧ sx.ts.length ≤ k ∧ k ≤ gf ∧ l.length + sx.ts.length ≤ 100001)
  case atStart => exact ⟨[], s, none, 0, _, rfl, HS0.out, TR.none _ _ _ _ _, HR.out, Nat.le_refl _, Nat.le_refl _, by simp; omega⟩
  case round =>
    obtain ⟨l, sx, a, c, k, hs3, hst, hir, hmore, hk, hkg, hll⟩ := hrel
    subst hs3
    have hpos : 0 < sx.ts.length := by obtain ⟨r, hr⟩ := Gm.ne_hd hst.ne; rw [hr]; simp
    obtain ⟨k', rfl⟩ : ∃ k', k = k' + 1 := ⟨k - 1, by omega⟩
    obtain ⟨g', rfl⟩ : ∃ g', gk = g' + 1 := ⟨gk - 1, by omega⟩
    obtain ⟨u, hu⟩ : ∃ u, Gm.hd sx = u := ⟨_, rfl⟩
    have H := hidb hst
    have HI := hidb hir
    have HR := hidb hmore
    have Tu := hidb hu
    have HQ : Hid True := hidb trivial
    have hc1 : l.length + 1 ≤ maxLen := by unfold maxLen; omega
    have hc2 : (l.length + 1) * 48 ≤ 140737488355328 := by omega
    clear hst hir hmore hu
    have hw : IntKind.i64.wrap (((l.length : Nat) : Int) - 1) = ((l.length : Nat) : Int) - 1 := by rw [IntKind.wrap_i64]; omega
    go_wp2_with (first
      | (go_at_call 69; refine (sIsU _ H.out.at).mono ?_; rintro r1 w1 ⟨u2, hu, ⟨hq, rfl⟩ | ⟨hq, rfl⟩, hb⟩ <;> (obtain rfl : u = u2 := Tu.out.symm.trans hu; have HQ := hidb (And.intro HQ.out hq); have HI := hidb (HI.out.below hb); have H := hidb (H.out.below hb); clear hb hq hu))
      | (go_at_call 36; have hsg : Gm.isM u ⟨#[45]⟩ = true ∨ Gm.isM u ⟨#[110, 111, 116]⟩ = true := (by have := HQ.out; simp [this]); refine (sNext H.out.at (hk_of Tu.out (hsg.elim Gm.isM_k Gm.isM_k))).mono ?_; rintro r1 w2 ⟨t2, s1, hq, rfl, hs⟩; obtain rfl : u = t2 := Tu.out.symm.trans hq.1; have HC := hidb hq.2; have HR := hidb (HR.out.trans (signs_t hq.1 hsg hq.2)); have HI := hidb (HI.out.step hs); have H := hidb (H.out.trans hs); clear hs hq hsg)
      | (at_builtin; refine wpList_append_own_at _ rfl _ _ 44 rfl w.heap.size TT i0 (.agg #[.int .i64 0, .string ⟨#[]⟩, .int .i64 0, .float .f64 0, .int .i64 0]) 5 48 Tryz.underlying44 hi0 hz0 hz1 hz2 rfl (by decide) _ _ _ rfl (HI.out.own.alloc _) ⟨w2.heap.size, 0, none⟩ 1 1 u.cells rfl rfl ?_ ?_ ?_ ?_ ?_ ?_)
      | (go_at_call 96; refine (pCall HE.out H.out.at).mono ?_; rintro r1 w2 (⟨er, q, hq, rfl, hbu⟩ | ⟨x0, s1, V1, hq, rfl, hs⟩) <;> first | (have HR := hidb ((HR.out.trans (signs_f Tu.out (by have := HQ.out; simp [this]))).trans (Gm.bind_ok hq)); have HI := hidb (HI.out.step hs); have H := hidb (H.out.trans hs); clear hs hq) | (have HR := hidb ((HR.out.trans (signs_f Tu.out (by have := HQ.out; simp [this]))).trans (Gm.bind_err hq)); have HBU := hidb (but_then H.out.but H.out.own hbu); clear hq hbu)))
    all_goals first
      | (intro q u hq; exact app_tk _ _ _ rfl q u hq)
      | (intro y hy; simp only [Tk.cells, List.mem_cons, List.not_mem_nil, or_false] at hy; rcases hy with rfl | rfl | rfl | rfl | rfl <;> rfl)
      | exact hc1
      | exact hc2
      | (have := H.out.but.size; simp; omega)
      | exact ⟨rfl, .inl ⟨_, _, HR.out, rfl, HBU.out⟩⟩
      | (intro v' w3 hown hgrow hnil hat
         obtain ⟨j1, j2⟩ := TR.grown (l' := l ++ [u]) H.out HI.out (below_new _ _) hgrow (fun k hk => by rcases hat with h | h <;> rw [h] at hk; (exact .inl hk); (cases hk; right; simp)) (by rw [List.length_append, tkCells_snoc]; exact hown)
         obtain ⟨a', c', rfl⟩ := j1.sl
         have HI := hidb j1
         have H := hidb j2
         clear j1 j2 hown hgrow hnil hat
         go_wp2_with fail
         go_roundg g'
         (case measure => omega)
         (case rel => exact ⟨l ++ [u], _, a', c', k', rfl, H.out, HI.out, HR.out, (by have h1 := HC.out; subst h1; simp [Gm.cut]; omega), (by omega), (by have h1 := HC.out; subst h1; simp [Gm.cut]; omega)⟩))
      | skip
    go_loopg [4, 5] l.length (fun gf s4 s5 wx => ∃ (i x : Nat) (j : Int) (sy : PS) (Vy : Value), s4 = iv x ∧ s5 = .int .i64 j ∧ j + 1 = (i : Int) ∧ i ≤ l.length ∧ i ≤ gf ∧ Gm.layOps (l.drop i) x0 s1 = .ok (x, sy) ∧ St B g b o (PV P (.slice a l.length c)) w V wx Vy sy ∧ TR wx w.heap.size g b Vy (.slice a l.length c) l)
    case atStart => exact ⟨l.length, x0, _, s1, V1, rfl, rfl, by omega, Nat.le_refl _, Nat.le_refl _, by simp [Gm.layOps]; rfl, H.out, HI.out⟩
    case round =>
      obtain ⟨i, x, j, sy, Vy, hs4, hs5, hj, hil, hig, hlo, hst2, htr⟩ := hrel
      subst hs4
      subst hs5
      cases i with
      | zero =>
        obtain rfl : j = -1 := by omega
        have HO := hidb hlo
        have H := hidb hst2
        clear hlo hst2 htr hj
        go_wp2_with fail
        exact bodyPost_ret (v := iv x) (by simp [results, Tryz.results95, go_sem]) rfl (.inr ⟨_, _, _, HR.out.trans HO.out, rfl, H.out.drop⟩)
      | succ m =>
        obtain rfl : j = (m : Int) := by omega
        obtain ⟨g2, rfl⟩ : ∃ g2, gk = g2 + 1 := ⟨gk - 1, by omega⟩
        obtain ⟨q, hq⟩ : ∃ q, a = some ⟨q, 0, none⟩ := by
          rcases htr.own.2 with ⟨_, hn⟩ | ⟨q, cap, cur, hv, _⟩
          · omega
          · cases hv; exact ⟨q, rfl⟩
        subst hq
        obtain ⟨u2, hu2⟩ : ∃ u, l[m]? = some u := ⟨l[m], List.getElem?_eq_getElem (by omega)⟩
        have k1' : (tkCells l)[m * 5 + 1]? = some (.string u2.x) := tkCells_get l m u2 hu2 1 (by omega)
        have k4' : (tkCells l)[m * 5 + 4]? = some (.int .i64 (u2.p : Int)) := tkCells_get l m u2 hu2 4 (by omega)
        have k1 := (htr.own.cellAt (m * 5 + 1) (by omega)).trans k1'
        have k4 := (htr.own.cellAt (m * 5 + 4) (by omega)).trans k4'
        have hd : l.drop m = u2 :: l.drop (m + 1) := by rw [List.drop_eq_getElem_cons (by omega)]; congr 1; exact (List.getElem?_eq_some_iff.1 hu2).2
        have hmw : IntKind.i64.wrap ((m : Int) - 1) = (m : Int) - 1 := by rw [IntKind.wrap_i64]; omega
        have hm0 : (0 : Int) ≤ (m : Int) := by omega
        have hm1 : (m : Int) < ((l.length : Nat) : Int) := by omega
        have HO := hidb hlo
        have HD := hidb hd
        have H := hidb hst2
        have HI := hidb htr
        clear hlo hst2 htr hj hd hu2
        go_wp2_with fail
        have HX := hidb (H.out.below (Below.drew (Below.refl _ _)))
        have HIX := hidb (HI.out.below (Below.drew (Below.refl _ _)))
        go_region_held2 (fun w' => w'.cell? ⟨q, m * 5 + 1, none⟩ = some (.string u2.x) ∧ w'.cell? ⟨q, m * 5 + 4, none⟩ = some (.int .i64 (u2.p : Int)))
          (first | with_reducible exact ⟨z1, z4⟩ | go_keep)
          (first
            | (go_at_call 87; refine (sOp u2.p u2.x [x] _ (HX.out.below (below_new _ _)).at (LR.lit HX.out.at _ _ rfl (by simp))).mono ?_; rintro r1 w3 (⟨er, q2, hq, rfl, hbu⟩ | ⟨z, s3, V3, hq, rfl, hs⟩) <;> first | (have HI3 := hidb ((HIX.out.below (below_new _ _)).step hs); have z1 := (HI3.out.own.cellAt (m * 5 + 1) (by omega)).trans k1'; have z4 := (HI3.out.own.cellAt (m * 5 + 4) (by omega)).trans k4'; have H3 := hidb ((HX.out.below (below_new _ _)).trans hs); have HO3 := hidb (layOps_step HD.out HO.out hq); clear hs hq) | exact ⟨rfl, .inl ⟨_, _, HR.out.trans (layOps_fell HD.out HO.out hq), rfl, but_then (HX.out.below (below_new _ _)).but HX.out.own hbu⟩⟩))
        all_goals (
          go_wp2_with fail
          go_roundg g2
          (case measure => omega)
          (case rel => exact ⟨m, z, (m : Int) - 1, s3, V3, rfl, rfl, (by omega), (by omega), (by omega), HO3.out, H3.out, HI3.out⟩))
end Go.Proofs.YtdpfmmbfidknfaaGreatDoor


/- expr. -/
namespace Go.Proofs.YtdpfmmbfidknfaaGreatDoor
open Go.RowKit Go.Lib
attribute [local go_sem] store_float f64bits
attribute [local go_sem ↓] Go.wp_at_zero Go.wp_at_succ
attribute [local go_sem] nd_p tk_k tk_x tk_n tk_f tk_p
variable {B g b o : Nat} {e : PM Nat}

theorem fc_unary (hE : EC B g b o e) : FC B g b o 95 (Gm.unary e) := ⟨Gm.all_unary hE.all, ent_unary, fun h => pUnary hE h⟩
theorem fc_mul (hE : EC B g b o e) : FC B g b o 94 (Gm.mul e) := ⟨Gm.all_mul hE.all, ent_mul, fun h => pMul (fc_unary hE) h⟩
theorem fc_add (hE : EC B g b o e) : FC B g b o 93 (Gm.add e) := ⟨Gm.all_add hE.all, ent_add, fun h => pAdd (fc_mul hE) h⟩
theorem fc_compare (hE : EC B g b o e) : FC B g b o 90 (Gm.compare e) := ⟨Gm.all_compare hE.all, ent_compare, fun h => pCompare (fc_add hE) h⟩
theorem fc_andalso (hE : EC B g b o e) : FC B g b o 89 (Gm.andalso e) := ⟨Gm.all_right (Gm.all_compare hE.all) _, ent_andalso, fun h => pAndalso (fc_compare hE) h⟩

/-- How many expressions are open. -/
theorem St.opens {P : Nat → Prop} {w0 w : World} {V0 V : Value} {s : PS} (o' : Nat) (h : St B g b o P w0 V0 w V s) : St B g b o' P w0 V0 (w.setCell ⟨g, 2, none⟩ (.int .i64 (o' : Int))) V { s with o := o' } := by
  have hB : But (· = g) w (w.setCell ⟨g, 2, none⟩ (.int .i64 (o' : Int))) := (But.refl (· = g) w).setCell (p := ⟨g, 2, none⟩) (fun _ => rfl) _
  obtain ⟨⟨i, cap, hT, hcap, hts⟩, hne, hlt⟩ := h.pb
  refine ⟨⟨⟨i, cap, hT.set2 _, hcap, hts.but hB hlt hne⟩, hne, Nat.lt_of_lt_of_le hlt hB.size⟩, h.ns.but hB (fun k hk he => h.ns.ng (he ▸ hk)) (fun k he => .inl he), Nat.le_trans h.le hB.size, h.ne, rfl, h.but.trans (hB.mono fun k _ he => .inl he), h.own, fun k hk => Nat.lt_of_lt_of_le (h.plt k hk) hB.size, h.npv, h.tl⟩
theorem St.cell2 {P : Nat → Prop} {w0 w : World} {V0 V : Value} {s : PS} (h : St B g b o P w0 V0 w V s) : w.cell? ⟨g, 2, none⟩ = some (.int .i64 (o : Int)) ∧ w.frozen? ⟨g, 2, none⟩ = false := by
  obtain ⟨⟨i, cap, hT, _⟩, _⟩ := h.pb
  exact ⟨h.op ▸ hT.c2, hT.f2⟩

set_option maxHeartbeats 2000000 in
set_option maxRecDepth 100000 in
theorem pExpr_deep {k : Nat} {P : Nat → Prop} {w : World} {V : Value} {s : PS} (h : At B g b 200 P w V s) :
    Calls Tryz.prog 84 #[.pointer (some ⟨g, 0, none⟩)] w fun r w' => Rz B g b 200 P w V (Gm.expr (k + 1) s) iv r w' := by
  have H : Hid (St B g b 200 P w V w V s) := hidb h
  have hR : Gm.expr (k + 1) s = .error (25, (Gm.hd s).p) := by simp only [Gm.expr, if_pos h.op]
  rw [hR]
  obtain ⟨c2, f2⟩ := h.cell2
  clear hR h
  go_enter Tryz.func84, Tryz.ntmps84
  go_wp2_with (go_at_call 35; refine (sGiveUp (α := Nat) 25 H.out.at).mono ?_; rintro r1 w1 ⟨q, hq, rfl, hbu⟩; have HBU := hidb (but_then H.out.but H.out.own hbu); have HQ := hidb hq; clear hq hbu)
  exact ⟨rfl, .inl ⟨_, _, HQ.out, rfl, HBU.out⟩⟩

theorem expr_ok {k x : Nat} {s s' : PS} (h : s.o = o) (ho : o < 200) (hm : Gm.opened (Gm.expr k) { s with o := o + 1 } = .ok (x, s')) : Gm.expr (k + 1) s = .ok (x, { s' with o := s'.o - 1 }) := by
  subst h
  have : ¬ s.o = 200 := by omega
  simp only [Gm.expr, if_neg this, hm]
theorem expr_err {k : Nat} {s : PS} {er : Int × Nat} (h : s.o = o) (ho : o < 200) (hm : Gm.opened (Gm.expr k) { s with o := o + 1 } = .error er) : Gm.expr (k + 1) s = .error er := by
  subst h
  have : ¬ s.o = 200 := by omega
  simp only [Gm.expr, if_neg this, hm]

set_option maxHeartbeats 2000000 in
set_option maxRecDepth 100000 in
theorem pExpr_step {k : Nat} (hE : EC B g b (o + 1) (Gm.expr k)) (ho : o < 200) {P : Nat → Prop} {w : World} {V : Value} {s : PS} (h : At B g b o P w V s) :
    Calls Tryz.prog 84 #[.pointer (some ⟨g, 0, none⟩)] w fun r w' => Rz B g b o P w V (Gm.expr (k + 1) s) iv r w' := by
  have H : Hid (St B g b o P w V w V s) := hidb h
  obtain ⟨R, hR⟩ : ∃ R, Gm.expr (k + 1) s = R := ⟨_, rfl⟩
  rw [hR]
  have HR := hidb hR.symm
  have HOP := hidb h.op
  obtain ⟨c2, f2⟩ := h.cell2
  have HO := hidb (h.opens (o + 1))
  have hg := h.glt
  have e0 : ((o : Nat) : Int) ≠ 200 := by omega
  have e1 : IntKind.i64.wrap ((o : Int) + 1) = ((o + 1 : Nat) : Int) := by rw [IntKind.wrap_i64]; omega
  have e2 : IntKind.i64.wrap (((o + 1 : Nat) : Int) - 1) = (o : Int) := by rw [IntKind.wrap_i64]; omega
  have HE := hidb hE
  clear h hE hR
  go_enter Tryz.func84, Tryz.ntmps84
  go_wp2_with (go_at_call 85; refine (pOpened HE.out (fc_andalso HE.out) HO.out.at).mono ?_; rintro r1 w1 (⟨er, q, hq, rfl, hbu⟩ | ⟨x, s1, V1, hq, rfl, hs⟩) <;> first | (have H1 := hidb (HO.out.trans hs); obtain ⟨d2, g2⟩ := hs.cell2; have HR := hidb (HR.out.trans (expr_ok HOP.out ho hq)); clear hs hq) | (have HR := hidb (HR.out.trans (expr_err HOP.out ho hq)); have HBU := hidb (but_then HO.out.but HO.out.own hbu); clear hq hbu))
  · exact ⟨rfl, .inl ⟨er, q, HR.out, rfl, HBU.out⟩⟩
  · refine bodyPost_ret (v := iv x) (by simp [results, Tryz.results84, go_sem]) rfl (.inr ⟨x, { s1 with o := s1.o - 1 }, V1, HR.out, rfl, ?_⟩)
    have h2 := H1.out.opens o
    have h3 : s1.o - 1 = o := by rw [H1.out.op]; rfl
    rw [h3]
    exact h2

theorem ec_expr : ∀ (k o : Nat), o + k = 200 → EC B g b o (Gm.expr (k + 1))
  | 0, o, h => by
    obtain rfl : o = 200 := by omega
    exact ⟨Gm.all_expr _, fun h => pExpr_deep h⟩
  | k + 1, o, h => ⟨Gm.all_expr _, fun h' => pExpr_step (ec_expr k (o + 1) (by omega)) (by omega) h'⟩
end Go.Proofs.YtdpfmmbfidknfaaGreatDoor


