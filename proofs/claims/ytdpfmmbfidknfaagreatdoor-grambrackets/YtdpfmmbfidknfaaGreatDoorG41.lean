import Derived.Test.YtdpfmmbfidknfaaGreatDoorG40
import Derived.Deep.RegionHeld2
/- function. -/
namespace Go.Proofs.YtdpfmmbfidknfaaGreatDoor
open Go.RowKit Go.Lib
attribute [local go_sem] store_float f64bits
attribute [local go_sem ↓] Go.wp_at_zero Go.wp_at_succ
attribute [local go_sem] nd_p tk_k tk_x tk_n tk_f tk_p
variable {B g b o : Nat} {e : PM Nat}

theorem bind_inv {α β : Type} {m : PM α} {f : α → PM β} {s s' : PS} {x : β} (h : (m >>= f) s = .ok (x, s')) : ∃ a s1, m s = .ok (a, s1) ∧ f a s1 = .ok (x, s') := by
  rw [Gm.bind_at] at h
  cases hm : m s with
  | error er => simp [hm] at h
  | ok p => obtain ⟨a, s1⟩ := p; simp only [hm] at h; exact ⟨a, s1, rfl, h⟩
theorem lay_at {n : Nd} {s s' : PS} {x : Nat} (h : Gm.lay n s = .ok (x, s')) : x = s.ns.length ∧ s'.ns = s.ns ++ [n] := by
  simp only [Gm.lay] at h
  split at h
  · cases h
  · cases h; exact ⟨rfl, rfl⟩
theorem lay_lt {n : Nd} {s s' : PS} {x : Nat} (h : Gm.lay n s = .ok (x, s')) : x < s'.ns.length := by
  obtain ⟨h1, h2⟩ := lay_at h
  rw [h1, h2]; simp
theorem tail_lt {p : Nat} {x : ByteArray} {l : List Nat} {s s' : PS} {y : Nat} (h : Gm.tail e p x l s = .ok (y, s')) : y < s'.ns.length := by
  obtain ⟨_, _, _, h⟩ := bind_inv h
  obtain ⟨_, _, _, h⟩ := bind_inv h
  obtain ⟨_, _, _, h⟩ := bind_inv h
  exact lay_lt h
theorem fclause_lt {s s' : PS} {y : Nat} (h : Gm.fclause e s = .ok (y, s')) : y < s'.ns.length := by
  obtain ⟨_, _, _, h⟩ := bind_inv h
  obtain ⟨_, _, _, h⟩ := bind_inv h
  exact tail_lt h
theorem moreC_head {c : PM Nat} : ∀ (k : Nat) {l l' : List Nat} {s s' : PS}, Gm.moreC c k l s = .ok (l', s') → ∃ r, l' = l ++ r
  | 0, _, _, _, _, h => by cases h; exact ⟨[], by simp⟩
  | k + 1, l, l', s, s', h => by
    rw [Gm.moreC_succ] at h
    obtain ⟨b, s1, _, h⟩ := bind_inv h
    cases b with
    | false => cases h; exact ⟨[], by simp⟩
    | true =>
      obtain ⟨x, s2, _, h⟩ := bind_inv (m := c) (f := fun x => Gm.moreC c k (l ++ [x])) h
      obtain ⟨r, hr⟩ := moreC_head k h
      exact ⟨x :: r, by rw [hr]; simp⟩
/-- Clauses have a first one, which is laid. -/
theorem clauses_first {m : PM Nat} (hm : Gm.All m) (hl : ∀ s x s', m s = .ok (x, s') → x < s'.ns.length) {s s' : PS} {c : Nat} (hn : Ne s) (h : Gm.clauses m s = .ok (c, s')) :
    ∃ nc x0 r f, s'.ns[c]? = some nc ∧ nc.l = x0 :: r ∧ s'.ns[x0]? = some f := by
  obtain ⟨t, s0, ht, h⟩ := bind_inv h
  cases ht
  obtain ⟨x0, s1, h1, h⟩ := bind_inv h
  obtain ⟨k, s2, hk, h⟩ := bind_inv h
  cases hk
  obtain ⟨l, s3, h3, h⟩ := bind_inv h
  obtain ⟨r, hr⟩ := moreC_head _ h3
  obtain ⟨hx, hs⟩ := lay_at h
  have hx0 := hl _ _ _ h1
  have hn1 := (hm s hn x0 s1 h1).2
  obtain ⟨b3, hb3⟩ := (Gm.all_moreC hm _ _ s1 hn1 l s3 h3).1.ns
  have hlt : x0 < s3.ns.length := by rw [hb3]; simp; omega
  refine ⟨⟨20, ⟨#[]⟩, 0, 0, l, (Gm.hd s).p⟩, x0, r, s3.ns[x0], by rw [hs, hx]; simp, by simp [hr], ?_⟩
  rw [hs, List.getElem?_append_left hlt, List.getElem?_eq_getElem hlt]

theorem ndCells_get : ∀ (l : List Nd) (vs : List Value) (i : Nat) (n : Nd) (v : Value), l[i]? = some n → vs[i]? = some v → ∀ j, j < 6 → (ndCells l vs)[i * 6 + j]? = (n.cells v)[j]?
  | [], _, _, _, _, h, _, _, _ => by simp at h
  | _ :: _, [], _, _, _, _, h, _, _ => by simp at h
  | m :: r, u :: us, 0, n, v, h, h', j, hj => by
    simp at h h'
    subst h h'
    have : ndCells (m :: r) (u :: us) = m.cells u ++ ndCells r us := rfl
    rw [this, Nat.zero_mul, Nat.zero_add, List.getElem?_append_left (by simpa [Nd.cells] using hj)]
  | m :: r, u :: us, i + 1, n, v, h, h', j, hj => by
    have : ndCells (m :: r) (u :: us) = m.cells u ++ ndCells r us := rfl
    rw [this, List.getElem?_append_right (by simp [Nd.cells]; omega)]
    have h6 : (m.cells u).length = 6 := rfl
    rw [h6, show (i + 1) * 6 + j - 6 = i * 6 + j by omega]
    exact ndCells_get r us i n v (by simpa using h) (by simpa using h') j hj
/-- A node in memory. -/
theorem St.node {P : Nat → Prop} {w0 w : World} {V0 V : Value} {s : PS} (h : St B g b o P w0 V0 w V s) {i : Nat} {n : Nd} (hi : s.ns[i]? = some n) :
    ∃ q cap v, V = .slice (some ⟨q, 0, none⟩) s.ns.length cap ∧ w.cell? ⟨g, 1, none⟩ = some V ∧ LRow w v n.l ∧ (∀ j, j < 6 → w.cell? ⟨q, i * 6 + j, none⟩ = (n.cells v)[j]?) := by
  obtain ⟨⟨vs, hl, ho, hr⟩, _⟩ := h.ns
  have hlt := (List.getElem?_eq_some_iff.1 hi).1
  obtain ⟨v, hv⟩ : ∃ v, vs[i]? = some v := ⟨_, List.getElem?_eq_getElem (by omega)⟩
  obtain ⟨⟨i', cap', hT, _⟩, _⟩ := h.pb
  have c1 := hT.c1
  rcases ho.2 with ⟨_, h0⟩ | ⟨q, cap, cur, hV, _⟩
  · omega
  · subst hV
    exact ⟨q, cap, v, rfl, c1, (hr i n v hi hv).1, fun j hj => (ho.cellAt (i * 6 + j) (by omega)).trans (ndCells_get s.ns vs i n v hi hv j hj)⟩

theorem need_ns {x : ByteArray} {s s' : PS} (h : Gm.need x s = .ok ((), s')) : s'.ns = s.ns := by
  simp only [Gm.need] at h
  split at h
  · cases h; rfl
  · cases h

set_option maxHeartbeats 8000000 in
set_option maxRecDepth 100000 in
theorem pFunction (hE : EC B g b o e) {P : Nat → Prop} {w : World} {V : Value} {s : PS} (h : At B g b o P w V s) :
    Calls Tryz.prog 38 #[.pointer (some ⟨g, 0, none⟩)] w fun r w' => Rz B g b o P w V (Gm.functionOf e s) iv r w' := by
  have H : Hid (St B g b o P w V w V s) := hidb h
  obtain ⟨R, hR⟩ : ∃ R, Gm.functionOf e s = R := ⟨_, rfl⟩
  rw [hR]
  have HR := hidb hR.symm
  clear hR
  have HE := hidb hE
  clear h hE
  have hmf : ∀ (fn : Fn) (first cap : Array Value) (w : World), (Instr.makeFunc fn first cap).run Tryz.prog w = .ok (.func fn first cap) w := fun _ _ _ _ => rfl
  go_enter Tryz.func38, Tryz.ntmps38
  go_wp2_with (first
    | (go_at_call 32; refine (sHere H.out.at).mono ?_; rintro r1 w1 ⟨t, hq, rfl, hs, hb⟩; have H := hidb (H.out.below hb); have HR := hidb (HR.out.trans (Gm.bind_here hq)); have Tt := hidb hq; clear hs hb hq)
    | (go_at_call 53; refine (pClauses (fc_fclause HE.out) H.out.at).mono ?_; rintro r1 w1 (⟨er, q, hq, rfl, hbu⟩ | ⟨c, s1, V1, hq, rfl, hs⟩) <;> first | (have HFI := hidb (clauses_first (Gm.all_fclause HE.out.all) (fun _ _ _ h => fclause_lt h) H.out.ne hq); have H := hidb (H.out.trans hs); have HR := hidb (HR.out.trans (Gm.bind_ok hq)); clear hs hq) | (have HR := hidb (HR.out.trans (Gm.bind_err hq)); have HBU := hidb (but_then H.out.but H.out.own hbu); clear hq hbu))
    | (go_at_call 33; refine (sNeed _ H.out.at).mono ?_; rintro r1 w1 (⟨er, q, hq, rfl, hbu⟩ | ⟨s1, hq, rfl, hs⟩) <;> first | (have HNN := hidb (need_ns hq); have H := hidb (H.out.trans hs); (first | (with_reducible have HR := hidb (HR.out.trans hq)) | have HR := hidb (HR.out.trans (Gm.bind_ok hq))); clear hs hq) | ((first | (with_reducible have HR := hidb (HR.out.trans hq)) | have HR := hidb (HR.out.trans (Gm.bind_err hq))); have HBU := hidb (but_then H.out.but H.out.own hbu); clear hq hbu)))
  · exact ⟨rfl, .inl ⟨_, _, HR.out, rfl, HBU.out⟩⟩
  · exact ⟨rfl, .inl ⟨_, _, HR.out, rfl, HBU.out⟩⟩
  obtain ⟨nc, x0, rl, f, hc, hcl, hf⟩ := HFI.out
  rw [← HNN.out] at hc hf
  obtain ⟨q, cap, vc, hV, cg1, hrow, hcells⟩ := H.out.node hc
  obtain ⟨q', cap', vf, hV', _, hrf, hfc⟩ := H.out.node hf
  obtain ⟨rfl, rfl⟩ : q = q' ∧ cap = cap' := by rw [hV] at hV'; cases hV'; exact ⟨rfl, rfl⟩
  clear hV'
  have HR := hidb (HR.out.trans (by simp only [List.getD_eq_getElem?_getD, hc, Option.getD_some, hcl, List.headD_cons, hf]) : R = Gm.lay ⟨23, f.x, f.n, 0, [c], t.p⟩ s1)
  have hcN := (List.getElem?_eq_some_iff.1 hc).1
  have hxN := (List.getElem?_eq_some_iff.1 hf).1
  obtain ⟨N, hN⟩ : ∃ N, s1.ns.length = N := ⟨_, rfl⟩
  rw [hN] at hcN hxN hV
  obtain ⟨lb, lcap, hvc, hlb, hl0⟩ : ∃ lb lcap, vc = .slice (some ⟨lb, 0, none⟩) (rl.length + 1) lcap ∧ lb < w1.heap.size ∧ w1.cell? ⟨lb, 0, none⟩ = some (iv x0) := by
    rcases hrow with ⟨_, h0⟩ | ⟨lb, lcap, hv, h1, h2⟩
    · rw [hcl] at h0; cases h0
    · rw [hcl] at hv h2; exact ⟨lb, lcap, hv, h1, h2 0 x0 rfl⟩
  have k4 := hcells 4 (by omega)
  have f0 := hfc 0 (by omega)
  have f1 := hfc 1 (by omega)
  have f2 := hfc 2 (by omega)
  have f3 := hfc 3 (by omega)
  have f4 := hfc 4 (by omega)
  have f5 := hfc 5 (by omega)
  simp only [Nd.cells, List.getElem?_cons_zero, List.getElem?_cons_succ] at k4 f0 f1 f2 f3 f4 f5
  obtain ⟨va, vm, vc2, hvf⟩ : ∃ a m c, vf = .slice a m c := by
    rcases hrf with ⟨rfl, _⟩ | ⟨_, _, rfl, _⟩ <;> exact ⟨_, _, _, rfl⟩
  subst hvf
  subst hvc
  subst hV
  have hglt := H.out.glt
  have hqlt := H.out.vlt q rfl
  have SF : ∀ X, Below w1.heap.size w1 X → X.cell? ⟨g, 1, none⟩ = some (.slice (some ⟨q, 0, none⟩) N cap) ∧ X.cell? ⟨q, c * 6 + 4, none⟩ = some (.slice (some ⟨lb, 0, none⟩) (rl.length + 1) lcap) ∧ X.cell? ⟨lb, 0, none⟩ = some (iv x0) ∧ X.cell? ⟨q, x0 * 6, none⟩ = some (.int .i64 f.k) ∧ X.cell? ⟨q, x0 * 6 + 1, none⟩ = some (.string f.x) ∧ X.cell? ⟨q, x0 * 6 + 2, none⟩ = some (.int .i64 f.n) ∧ X.cell? ⟨q, x0 * 6 + 3, none⟩ = some (.float .f64 f.f) ∧ X.cell? ⟨q, x0 * 6 + 4, none⟩ = some (.slice va vm vc2) ∧ X.cell? ⟨q, x0 * 6 + 5, none⟩ = some (.int .i64 (f.p : Int)) := fun X hb =>
    ⟨(hb.cell (p := ⟨g, 1, none⟩) hglt).trans cg1, (hb.cell (p := ⟨q, c * 6 + 4, none⟩) hqlt).trans k4, (hb.cell (p := ⟨lb, 0, none⟩) hlb).trans hl0, (hb.cell (p := ⟨q, x0 * 6, none⟩) hqlt).trans f0, (hb.cell (p := ⟨q, x0 * 6 + 1, none⟩) hqlt).trans f1, (hb.cell (p := ⟨q, x0 * 6 + 2, none⟩) hqlt).trans f2, (hb.cell (p := ⟨q, x0 * 6 + 3, none⟩) hqlt).trans f3, (hb.cell (p := ⟨q, x0 * 6 + 4, none⟩) hqlt).trans f4, (hb.cell (p := ⟨q, x0 * 6 + 5, none⟩) hqlt).trans f5⟩
  have hB0 : Below w1.heap.size w1 w1.drew := Below.drew (Below.refl _ _)
  have hB1 : ∀ ob, Below w1.heap.size w1 (w1.alloc ob).drew := fun ob => Below.drew (below_new w1 ob)
  have hB2 : ∀ ob (u0 u1 u2 u3 u4 u5 : Value), Below w1.heap.size w1 (((((((w1.alloc ob).drew.setCell ⟨w1.heap.size, 0, none⟩ u0).setCell ⟨w1.heap.size, 1, none⟩ u1).setCell ⟨w1.heap.size, 2, none⟩ u2).setCell ⟨w1.heap.size, 3, none⟩ u3).setCell ⟨w1.heap.size, 4, none⟩ u4).setCell ⟨w1.heap.size, 5, none⟩ u5) := fun ob u0 u1 u2 u3 u4 u5 => ((((((hB1 ob).setCell (p := ⟨w1.heap.size, 0, none⟩) (Nat.le_refl _) u0).setCell (p := ⟨w1.heap.size, 1, none⟩) (Nat.le_refl _) u1).setCell (p := ⟨w1.heap.size, 2, none⟩) (Nat.le_refl _) u2).setCell (p := ⟨w1.heap.size, 3, none⟩) (Nat.le_refl _) u3).setCell (p := ⟨w1.heap.size, 4, none⟩) (Nat.le_refl _) u4).setCell (p := ⟨w1.heap.size, 5, none⟩) (Nat.le_refl _) u5
  have z1 : (0 : Int) ≤ (c : Int) := by omega
  have z2 : (c : Int) < ((N : Nat) : Int) := by omega
  have z3 : (0 : Int) ≤ (x0 : Int) := by omega
  have z4 : (x0 : Int) < ((N : Nat) : Int) := by omega
  have z5 : (0 : Int) < ((rl.length + 1 : Nat) : Int) := by omega
  have SFH := hidb SF
  have HB0 := hidb hB0
  have HB1 := hidb hB1
  have HB2 := hidb hB2
  clear hB2 hc hf hcl hcells hfc hrow hrf SF hB0 hB1 k4 f0 f1 f2 f3 f4 f5 hl0 cg1
  go_region_held2 (fun X => X.cell? ⟨g, 1, none⟩ = some (.slice (some ⟨q, 0, none⟩) N cap) ∧ X.cell? ⟨q, c * 6 + 4, none⟩ = some (.slice (some ⟨lb, 0, none⟩) (rl.length + 1) lcap) ∧ X.cell? ⟨lb, 0, none⟩ = some (iv x0) ∧ X.cell? ⟨q, x0 * 6, none⟩ = some (.int .i64 f.k) ∧ X.cell? ⟨q, x0 * 6 + 1, none⟩ = some (.string f.x) ∧ X.cell? ⟨q, x0 * 6 + 2, none⟩ = some (.int .i64 f.n) ∧ X.cell? ⟨q, x0 * 6 + 3, none⟩ = some (.float .f64 f.f) ∧ X.cell? ⟨q, x0 * 6 + 4, none⟩ = some (.slice va vm vc2) ∧ X.cell? ⟨q, x0 * 6 + 5, none⟩ = some (.int .i64 (f.p : Int)))
    (first | with_reducible exact SFH.out _ HB0.out | with_reducible exact SFH.out _ (HB1.out _) | with_reducible exact SFH.out _ (HB2.out _ _ _ _ _ _ _))
    (fail)
  all_goals (
    have HX0 := H.out.below (below_new w1 (.cells #[.int .i64 f.k, .string f.x, .int .i64 f.n, .float .f64 f.f, .slice va vm vc2, .int .i64 (f.p : Int)] NT))
    have hsz : (w1.alloc (.cells #[.int .i64 f.k, .string f.x, .int .i64 f.n, .float .f64 f.f, .slice va vm vc2, .int .i64 (f.p : Int)] NT)).heap.size = w1.heap.size + 1 := by simp
    have LX0 := LR.lit HX0.at #[iv c] [c] rfl (by simp)
    rw [hsz] at LX0
    have hb2 : Below (w1.alloc (.cells #[.int .i64 f.k, .string f.x, .int .i64 f.n, .float .f64 f.f, .slice va vm vc2, .int .i64 (f.p : Int)] NT)).heap.size (w1.alloc (.cells #[.int .i64 f.k, .string f.x, .int .i64 f.n, .float .f64 f.f, .slice va vm vc2, .int .i64 (f.p : Int)] NT)) ((w1.alloc (.cells #[.int .i64 f.k, .string f.x, .int .i64 f.n, .float .f64 f.f, .slice va vm vc2, .int .i64 (f.p : Int)] NT)).alloc (.cells #[iv c] IT)).drew := Below.drew (below_new _ _)
    have LX := hidb (LX0.below (Below.drew (Below.refl _ _)))
    have HX := hidb (HX0.below hb2)
    clear LX0 HX0 hsz hb2
    go_wp2_with (go_at_call 39; refine (sLayR HR.out HX.out.at LX.out).mono ?_; rintro r1 w1 (⟨er, q, hq, rfl, hbu⟩ | ⟨z, s1, V1, hq, rfl, hs⟩) <;> first | (have H := hidb (HX.out.trans hs); have HR := hidb hq; clear hs hq) | (have HR := hidb hq; have HBU := hidb (but_then HX.out.but HX.out.own hbu); clear hq hbu))
    · exact ⟨rfl, .inl ⟨_, _, HR.out, rfl, HBU.out⟩⟩
    · exact bodyPost_ret (v := iv z) (by simp [results, Tryz.results38, go_sem]) rfl (.inr ⟨_, _, _, HR.out, rfl, H.out⟩))
end Go.Proofs.YtdpfmmbfidknfaaGreatDoor


/- module. -/
namespace Go.Proofs.YtdpfmmbfidknfaaGreatDoor
open Go.RowKit Go.Lib
attribute [local go_sem] store_float f64bits
attribute [local go_sem ↓] Go.wp_at_zero Go.wp_at_succ
attribute [local go_sem] nd_p tk_k tk_x tk_n tk_f tk_p
variable {B g b o : Nat} {e : PM Nat}

theorem all_function {e : PM Nat} (he : Gm.All e) : Gm.All (Gm.functionOf e) :=
  Gm.all_bind Gm.all_here fun _ => Gm.all_bind (Gm.all_clauses (Gm.all_fclause he)) fun _ => Gm.all_bind (Gm.all_need _) fun _ => fun s => Gm.all_lay _ s

theorem functions_end {γ : Type} {s : PS} {u : Tk} {k : Nat} {l : List Nat} {G : List Nat → PM γ} (h : Gm.hd s = u) (hk : u.k = 8) : (Gm.functions e (k + 1) l >>= G) s = G l s := by
  subst h
  rw [Gm.bind_at]
  have : Gm.functions e (k + 1) l s = .ok (l, s) := Gm.ite_t hk
  rw [this]
theorem functions_ok {γ : Type} {s s' : PS} {u : Tk} {k x : Nat} {l : List Nat} {G : List Nat → PM γ} (h : Gm.hd s = u) (hk : ¬ u.k = 8) (hf : Gm.functionOf e s = .ok (x, s')) : (Gm.functions e (k + 1) l >>= G) s = (Gm.functions e k (l ++ [x]) >>= G) s' := by
  subst h
  rw [Gm.bind_at, Gm.bind_at]
  have : Gm.functions e (k + 1) l s = Gm.functions e k (l ++ [x]) s' := (Gm.ite_f hk).trans (Gm.bind_ok hf)
  rw [this]
theorem functions_err {γ : Type} {s : PS} {u : Tk} {k : Nat} {l : List Nat} {G : List Nat → PM γ} {er : Int × Nat} (h : Gm.hd s = u) (hk : ¬ u.k = 8) (hf : Gm.functionOf e s = .error er) : (Gm.functions e (k + 1) l >>= G) s = .error er := by
  subst h
  have : Gm.functions e (k + 1) l s = .error er := (Gm.ite_f hk).trans (Gm.bind_err hf)
  exact Gm.bind_err this
theorem function_lt (he : Gm.All e) {s s' : PS} {x : Nat} (hn : Ne s) (h : Gm.functionOf e s = .ok (x, s')) : s'.ts.length < s.ts.length := by
  obtain ⟨t, s0, ht, h⟩ := bind_inv h
  cases ht
  obtain ⟨c, s1, h1, h⟩ := bind_inv h
  obtain ⟨u, s2, h2, h⟩ := bind_inv h
  obtain ⟨k1, k2⟩ := Gm.all_clauses (Gm.all_fclause he) s hn c s1 h1
  have k3 := k1.len
  have hc : s2.ts.length + 1 = s1.ts.length := by
    simp only [Gm.need] at h2
    split at h2
    · cases h2
      obtain ⟨r, hr⟩ := Gm.ne_hd k2
      simp [Gm.cut, hr]
    · cases h2
  have k5 : s'.ts = s2.ts := by
    simp only [Gm.lay] at h
    split at h
    · cases h
    · cases h; rfl
  rw [k5]; omega

set_option maxHeartbeats 8000000 in
set_option maxRecDepth 100000 in
theorem pModule (hE : EC B g b o e) {P : Nat → Prop} {w : World} {V : Value} {s : PS} (h : At B g b o P w V s) :
    Calls Tryz.prog 18 #[.pointer (some ⟨g, 0, none⟩)] w fun r w' => Rz B g b o P w V (Gm.module e s) iv r w' := by
  have H : Hid (St B g b o P w V w V s) := hidb h
  obtain ⟨R, hR⟩ : ∃ R, Gm.module e s = R := ⟨_, rfl⟩
  rw [hR]
  have HR := hidb hR.symm
  clear hR
  have HP := hidb h.plt
  have HE := hidb hE
  clear h hE
  have M0 : Hid True := hidb trivial
  obtain ⟨i0, hi0, hz0, hz1, hz2⟩ := info_parts (P := Tryz.prog) (e := IT) (z := .int .i64 0) (size := 1) (bytes := 8) (by kernel_rfl)
  go_enter Tryz.func18, Tryz.ntmps18
  go_wp2_with (first
    | (go_at_call 32; first | (clear M0; refine (sHere H.out.at).mono ?_; rintro r1 w1 ⟨t, hq, rfl, hs, hb⟩; have H := hidb (H.out.below hb); have HR := hidb (HR.out.trans (Gm.bind_here hq)); clear hs hb hq) | (refine (sHere H.out.at).mono ?_; rintro r1 w1 ⟨u, hq, rfl, hs, hb⟩; have H := hidb (H.out.below hb); have HR := hidb (HR.out.trans (Gm.bind_here hq)); have Tu := hidb hq; clear hs hb hq))
    | (go_at_call 33; refine (sNeed _ H.out.at).mono ?_; rintro r1 w1 (⟨er, q, hq, rfl, hbu⟩ | ⟨s1, hq, rfl, hs⟩) <;> first | (have HL := hidb hs; have H := hidb (H.out.trans hs); (first | (with_reducible have HR := hidb (HR.out.trans hq)) | have HR := hidb (HR.out.trans (Gm.bind_ok hq)));  clear hs hq) | ((first | (with_reducible have HR := hidb (HR.out.trans hq)) | have HR := hidb (HR.out.trans (Gm.bind_err hq))); have HBU := hidb (but_then H.out.but H.out.own hbu); clear hq hbu))
    | (go_at_call 34; refine (pAtom_any _ _ _).mono ?_; rintro r1 w2 ⟨rfl, hb⟩; have H := hidb (H.out.below hb); clear hb; obtain ⟨c, hc⟩ : ∃ c, Gm.isA u ⟨#[109, 111, 100, 117, 108, 101]⟩ = c := ⟨_, rfl⟩; rw [hc]; have HA := hidb hc; clear hc; cases c)
    | (go_at_call 35; refine (sGiveUp (α := Nat) 24 H.out.at).mono ?_; rintro r1 w1 ⟨q, hq, rfl, hbu⟩; have HBU := hidb (but_then H.out.but H.out.own hbu); have HR := hidb ((HR.out.trans (Gm.ite_f (by simp [HA.out]))).trans hq); clear hq hbu)
    | (go_at_call 36; refine (sNext H.out.at (hk_of Tu.out (Gm.isA_k HA.out))).mono ?_; rintro r1 w1 ⟨t2, s1, hq, rfl, hs⟩; have H := hidb (H.out.trans hs); have HR := hidb ((HR.out.trans (Gm.ite_t HA.out)).trans (Gm.bind_next hq)); clear hs hq)
    | (go_at_call 37; refine (sNeedK (k := 1) (by omega) H.out.at).mono ?_; rintro r1 w1 (⟨er, q, hq, rfl, hbu⟩ | ⟨n, s1, hq, rfl, hs⟩) <;> first | (have HL := hidb hs; have H := hidb (H.out.trans hs); (first | (with_reducible have HR := hidb (HR.out.trans hq)) | have HR := hidb (HR.out.trans (Gm.bind_ok hq)));  clear hs hq) | ((first | (with_reducible have HR := hidb (HR.out.trans hq)) | have HR := hidb (HR.out.trans (Gm.bind_err hq))); have HBU := hidb (but_then H.out.but H.out.own hbu); clear hq hbu)))
  all_goals first
    | exact ⟨rfl, .inl ⟨_, _, HR.out, rfl, HBU.out⟩⟩
    | skip
  have HR := hidb (HR.out.trans (Gm.bind_left rfl))
  have H := hidb (H.out.less (Q := PV P (.slice none 0 0)) (fun _ hk => hk.elim id (fun he => by simp [Value.ownBlock] at he)))
  have htl := H.out.tl
  go_loopg [5] s1.ts.length (fun gf s5 wx => ∃ (l : List Nat) (sx : PS) (Vx : Value) (a : Option Addr) (c k : Nat), s5 = .slice a l.length c ∧ St B g b o (PV P (.slice a l.length c)) w V wx Vx sx ∧ IR wx w.heap.size g b Vx (.slice a l.length c) l ∧ R = (Gm.functions e k l >>= fun l => Gm.lay ⟨24, n.x, 0, 0, l, t.p⟩) sx ∧ sx.ts.length ≤ k ∧ k ≤ gf ∧ l.length + sx.ts.length ≤ 100001)
  case atStart => exact ⟨[], s1, V, none, 0, _, rfl, H.out, IR.none _ _ _ _ _, HR.out, Nat.le_refl _, Nat.le_refl _, by simp; omega⟩
  case round =>
    obtain ⟨l, sx, Vx, a, c, k, hs3, hst, hir, hmore, hk, hkg, hll⟩ := hrel
    subst hs3
    have hpos : 0 < sx.ts.length := by obtain ⟨r, hr⟩ := Gm.ne_hd hst.ne; rw [hr]; simp
    obtain ⟨k', rfl⟩ : ∃ k', k = k' + 1 := ⟨k - 1, by omega⟩
    obtain ⟨g', rfl⟩ : ∃ g', gk = g' + 1 := ⟨gk - 1, by omega⟩
    have H := hidb hst
    have HI := hidb hir
    have HR := hidb hmore
    have hc1 : l.length + 1 ≤ maxLen := by unfold maxLen; omega
    have hc2 : (l.length + 1) * 8 ≤ 140737488355328 := by omega
    clear hst hir hmore
    go_wp2_with (first
      | (go_at_call 32; refine (sHere H.out.at).mono ?_; rintro r1 w1 ⟨u, hq, rfl, hs, hb⟩; have HI := hidb (HI.out.below hb); have H := hidb (H.out.below hb); have Tu := hidb hq; clear hs hb hq)
      | (go_at_call 38; refine (pFunction HE.out H.out.at).mono ?_; rintro r1 w1 (⟨er, q, hq, rfl, hbu⟩ | ⟨x, s2, V2, hq, rfl, hs⟩) <;> first | (have HF := hidb (function_lt HE.out.all H.out.ne hq); have HR := hidb (HR.out.trans (functions_ok Tu.out (by first | assumption | (have h : (u.k != 8) = true := (by assumption); simpa using h)) hq)); have HI := hidb (HI.out.step hs); have H := hidb (H.out.trans hs); clear hs hq) | (have HR := hidb (HR.out.trans (functions_err Tu.out (by first | assumption | (have h : (u.k != 8) = true := (by assumption); simpa using h)) hq)); have HBU := hidb (but_then H.out.but H.out.own hbu); clear hq hbu))
      | (at_builtin; refine wpList_append_own_at _ rfl _ _ 32 rfl w.heap.size IT i0 (.int .i64 0) 1 8 Tryz.underlying32 hi0 hz0 hz1 hz2 rfl (by decide) _ _ _ rfl (HI.out.own.alloc _) ⟨w1.heap.size, 0, none⟩ 1 1 [iv x] rfl rfl ?_ ?_ ?_ ?_ ?_ ?_)
      | (go_at_call 39; refine (sLayR (HR.out.trans (functions_end Tu.out (by first | assumption | (have h : (u.k != 8) = false := (by assumption); simpa using h)))) H.out.drop.at (HI.out.lr HP.out)).mono ?_; rintro r1 w2 (⟨er, q, hq, rfl, hbu⟩ | ⟨z, s1, V1, hq, rfl, hs⟩) <;> first | (have H := hidb (H.out.drop.trans hs); have HR := hidb hq; clear hs hq) | (have HR := hidb hq; have HBU := hidb (but_then H.out.but H.out.own hbu); clear hq hbu)))
    all_goals first
      | (intro q u hq; exact app_ints _ _ _ rfl q u hq)
      | (intro u hu; cases List.mem_singleton.1 hu; rfl)
      | exact hc1
      | exact hc2
      | (have := H.out.but.size; simp; omega)
      | exact ⟨rfl, .inl ⟨_, _, HR.out, rfl, HBU.out⟩⟩
      | exact bodyPost_ret (v := iv z) (by simp [results, Tryz.results18, go_sem]) rfl (.inr ⟨_, _, _, HR.out, rfl, H.out⟩)
      | (intro v' w3 hown hgrow hnil hat
         obtain ⟨j1, j2⟩ := IR.app (xs := [x]) H.out HI.out hgrow hat hown
         obtain ⟨a', c', rfl⟩ := j1.sl
         have HI := hidb j1
         have H := hidb j2
         clear j1 j2 hown hgrow hnil hat
         go_wp2_with fail
         go_roundg g'
         (case measure => omega)
         (case rel => exact ⟨l ++ [x], s2, V2, a', c', k', rfl, H.out, HI.out, HR.out, (by have := HF.out; omega), (by omega), (by have := HF.out; simp; omega)⟩))
end Go.Proofs.YtdpfmmbfidknfaaGreatDoor


