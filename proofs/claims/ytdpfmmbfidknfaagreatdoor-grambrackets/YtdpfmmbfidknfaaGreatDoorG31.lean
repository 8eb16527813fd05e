import Derived.Test.YtdpfmmbfidknfaaGreatDoorG30
/- Rows of places, and steps one behind another. -/
namespace Go.Proofs.YtdpfmmbfidknfaaGreatDoor
open Go.RowKit Go.Lib

namespace Gm
variable {α β : Type} {s s' : PS}
theorem bind_ok {m : PM α} {f : α → PM β} {a : α} (h : m s = .ok (a, s')) : (m >>= f) s = f a s' := by rw [bind_at, h]
theorem bind_err {m : PM α} {f : α → PM β} {er : Int × Nat} (h : m s = .error er) : (m >>= f) s = .error er := by rw [bind_at, h]
theorem bind_here {f : Tk → PM β} {t : Tk} (h : hd s = t) : (here >>= f) s = f t s := by subst h; rfl
theorem bind_ahead {f : Tk → PM β} {t : Tk} (h : hd2 s = t) : (ahead >>= f) s = f t s := by subst h; rfl
theorem bind_left {f : Nat → PM β} {n : Nat} (h : s.ts.length = n) : (left >>= f) s = f n s := by subst h; rfl
theorem bind_next {f : Tk → PM β} {t : Tk} (h : hd s = t ∧ cut s = s') : (next >>= f) s = f t s' := by obtain ⟨rfl, rfl⟩ := h; rfl
theorem bind_t {m : PM Bool} {A C : PM β} (h : m s = .ok (true, s')) : (m >>= fun b => if b then A else C) s = A s' := by rw [bind_at, h]; rfl
theorem bind_f {m : PM Bool} {A C : PM β} (h : m s = .ok (false, s')) : (m >>= fun b => if b then A else C) s = C s' := by rw [bind_at, h]; rfl
theorem ite_t {c : Prop} [Decidable c] {A C : PM β} (h : c) : (if c then A else C) s = A s := by rw [if_pos h]
theorem ite_f {c : Prop} [Decidable c] {A C : PM β} (h : ¬ c) : (if c then A else C) s = C s := by rw [if_neg h]
end Gm

abbrev IT : Nat := 3

/-- A row of places of the call's own: it may grow. -/
structure IR (w : World) (C g b : Nat) (V v : Value) (l : List Nat) : Prop where
  own : w.ownsRow C IT 1 v l.length (l.map iv)
  ng : v.ownBlock ≠ some g
  nb : v.ownBlock ≠ some b
  nv : ∀ k, v.ownBlock = some k → V.ownBlock ≠ some k

/-- Blocks that are held, and a row's besides. -/
def PV (P : Nat → Prop) (v : Value) (k : Nat) : Prop := P k ∨ v.ownBlock = some k

section
variable {B g b o C : Nat} {P : Nat → Prop} {w0 w w' : World} {V0 V V' v : Value} {s s' : PS} {l : List Nat}
theorem row_lt {e size n : Nat} {xs : List Value} (h : w.ownsRow C e size v n xs) : ∀ k, v.ownBlock = some k → k < w.heap.size := fun k hk => (h.lt k hk).2
theorem row_base {e size n C' : Nat} {xs : List Value} (h : w.ownsRow C e size v n xs) (hC : C' ≤ C) : w.ownsRow C' e size v n xs :=
  ⟨h.1, h.2.imp id fun ⟨q, cap, cur, h1, h2, h3⟩ => ⟨q, cap, cur, h1, Nat.le_trans hC h2, h3⟩⟩
theorem IR.but (h : IR w C g b V v l) {S : Nat → Prop} (hb : But S w w') (hs : ∀ k, v.ownBlock = some k → ¬ S k) : IR w' C g b V v l := ⟨row_but h.own hb hs, h.ng, h.nb, h.nv⟩
theorem IR.step (h : IR w C g b V v l) (h' : St B g b o P w V w' V' s') : IR w' C g b V' v l := by
  refine ⟨row_but h.own h'.but ?_, h.ng, h.nb, fun k hk => h'.beside (row_lt h.own k hk) (h.nv k hk)⟩
  rintro k hk (rfl | hS)
  · exact h.ng hk
  · exact h.nv k hk hS
theorem IR.below (h : IR w C g b V v l) (hb : Below w.heap.size w w') : IR w' C g b V v l := h.but (But.of_below (S := fun _ => False) hb) (fun _ _ h => h)
theorem IR.none (w : World) (C g b : Nat) (V : Value) : IR w C g b V (.slice none 0 0) [] := ⟨⟨rfl, .inl ⟨rfl, rfl⟩⟩, by simp [Value.ownBlock], by simp [Value.ownBlock], by simp [Value.ownBlock]⟩
theorem IR.rebase {C' : Nat} (h : IR w C g b V v l) (hC : C' ≤ C) : IR w C' g b V v l := ⟨row_base h.own hC, h.ng, h.nb, h.nv⟩
theorem IR.sl (h : IR w C g b V v l) : ∃ a c, v = .slice a l.length c := by
  rcases h.own.2 with ⟨hv, hn⟩ | ⟨q, cap, cur, hv, _⟩
  · exact ⟨Option.none, 0, by rw [hv, hn]⟩
  · exact ⟨_, _, hv⟩
theorem IR.lr (h : IR w C g b V v l) (hP : ∀ k, P k → k < C) : LR w g P V v l := by
  refine ⟨?_, h.ng, fun k hk => ⟨h.nv k hk, fun hp => ?_⟩⟩
  · have hl := row_lt h.own
    rcases h.own.2 with ⟨hv, hn⟩ | ⟨q, cap, cur, hv, hB, hq, rest⟩
    · exact .inl ⟨hv, List.length_eq_zero_iff.1 hn⟩
    · subst hv
      refine .inr ⟨q, cap, rfl, hl q rfl, fun j n hj => ?_⟩
      have hc := h.own.cellAt j (by have := (List.getElem?_eq_some_iff.1 hj).1; omega)
      rw [hc]
      simp [hj]
  · have := (h.own.lt k hk).1
    have := hP k hp
    omega

theorem St.more (h : St B g b o P w0 V0 w V s) {v : Value} (hv : ∀ k, v.ownBlock = some k → k < w.heap.size ∧ k ≠ g ∧ V.ownBlock ≠ some k) (hn : NS w B g b (PV P v) V s.ns) : St B g b o (PV P v) w0 V0 w V s :=
  ⟨h.pb, hn, h.le, h.ne, h.op, h.but, h.own, fun k hk => hk.elim (h.plt k) fun hk => (hv k hk).1, fun k hk => hk.elim (h.npv k) fun hk => ⟨(hv k hk).2.2, (hv k hk).2.1⟩, h.tl⟩
theorem NS.less {ns : List Nd} {Q : Nat → Prop} (h : NS w B g b P V ns) (hQ : ∀ k, Q k → P k) : NS w B g b Q V ns := by
  obtain ⟨⟨vs, h1, h2, h3⟩, h4, h5, h6⟩ := h
  exact ⟨⟨vs, h1, h2, fun i n v hi hv => ⟨(h3 i n v hi hv).1, (h3 i n v hi hv).2.1, fun k hk => ⟨((h3 i n v hi hv).2.2 k hk).1, fun hq => ((h3 i n v hi hv).2.2 k hk).2 (hQ k hq)⟩⟩⟩, h4, h5, h6⟩
theorem St.less (h : St B g b o P w0 V0 w V s) {Q : Nat → Prop} (hQ : ∀ k, Q k → P k) : St B g b o Q w0 V0 w V s :=
  ⟨h.pb, h.ns.less hQ, h.le, h.ne, h.op, h.but, h.own, fun k hk => h.plt k (hQ k hk), fun k hk => h.npv k (hQ k hk), h.tl⟩
theorem St.drop (h : St B g b o (PV P v) w0 V0 w V s) : St B g b o P w0 V0 w V s := h.less fun _ hk => .inl hk
/-- No node's row lies in a new block. -/
theorem NS.newer {ns : List Nd} (h : NS w B g b P V ns) (hv : ∀ k, v.ownBlock = some k → w.heap.size ≤ k) : NS w B g b (PV P v) V ns := by
  obtain ⟨⟨vs, h1, h2, h3⟩, h4, h5, h6⟩ := h
  refine ⟨⟨vs, h1, h2, fun i n u hi hu => ⟨(h3 i n u hi hu).1, (h3 i n u hi hu).2.1, fun k hk => ⟨((h3 i n u hi hu).2.2 k hk).1, ?_⟩⟩⟩, h4, h5, h6⟩
  rintro (hp | hp)
  · exact ((h3 i n u hi hu).2.2 k hk).2 hp
  · have := (h3 i n u hi hu).1.lt k hk
    have := hv k hp
    omega

/-- A row that is made new. -/
theorem IR.lit (h : St B g b o P w0 V0 w V s) (cs : Array Value) (l : List Nat) (hc : cs.toList = l.map iv) (hl : l.length ≤ 1000) :
    IR (w.alloc (.cells cs IT)) w0.heap.size g b V (.slice (some ⟨w.heap.size, 0, .none⟩) l.length l.length) l ∧ St B g b o (PV P (.slice (some ⟨w.heap.size, 0, .none⟩) l.length l.length)) w0 V0 (w.alloc (.cells cs IT)) V s := by
  have hs : cs.size = l.length := by have := congrArg List.length hc; simpa using this
  have hb : Below w.heap.size w (w.alloc (.cells cs IT)) := below_new _ _
  have ho := World.ownsRow_lit (e := IT) (size := 1) (base := w0.heap.size) w cs l.length h.but.size (by unfold maxLen; omega) (by omega)
  have hV : V.ownBlock ≠ some w.heap.size := h.at.fresh
  refine ⟨⟨by rw [← hc]; exact ho, ?_, ?_, ?_⟩, (h.below hb).more ?_ ?_⟩
  · have := h.glt; simp [Value.ownBlock]; omega
  · have := h.blt; simp [Value.ownBlock]; omega
  · intro k hk; simp [Value.ownBlock] at hk; subst hk; exact hV
  · intro k hk
    simp [Value.ownBlock] at hk
    subst hk
    exact ⟨by simp, by have := h.glt; omega, hV⟩
  · exact ((h.ns.newer (v := .slice (some ⟨w.heap.size, 0, .none⟩) l.length l.length) (fun k hk => by simp [Value.ownBlock] at hk; omega)).but (But.of_below (S := fun _ => False) hb) (fun _ _ h => h) (fun _ h => h.elim))

/-- A row that grows. -/
theorem IR.grown (h : St B g b o (PV P v) w0 V0 w V s) (hi : IR w w0.heap.size g b V v l) {X : World} (hX : Below w.heap.size w X) {v' : Value} {l' : List Nat} (hG : X.grownBy w' v.ownBlock) (hA : ∀ k, v'.ownBlock = some k → v.ownBlock = some k ∨ X.heap.size ≤ k)
    (ho : w'.ownsRow w0.heap.size IT 1 v' l'.length (l'.map iv)) : IR w' w0.heap.size g b V v' l' ∧ St B g b o (PV P v') w0 V0 w' V s := by
  have hXs := hX.size
  have hGs := hG.size
  have hw0 := h.but.size
  have hB3 : But (fun k => v.ownBlock = some k) w w' := (But.of_below hX).trans (grown_but hG)
  have hvg := hi.ng
  have hvb := hi.nb
  have hk' : ∀ k, v'.ownBlock = some k → k ≠ g ∧ k ≠ b ∧ V.ownBlock ≠ some k := by
    intro k hk
    rcases hA k hk with e | e
    · exact ⟨fun he => hi.ng (he ▸ e), fun he => hi.nb (he ▸ e), hi.nv k e⟩
    · exact ⟨by have := h.glt; omega, by have := h.blt; omega, fun he => by have := h.vlt k he; omega⟩
  refine ⟨⟨ho, fun he => (hk' g he).1 rfl, fun he => (hk' b he).2.1 rfl, fun k he => (hk' k he).2.2⟩, ?_⟩
  have hlo : ∀ k, v.ownBlock = some k → w0.heap.size ≤ k := fun k e => (hi.own.lt k e).1
  refine ⟨h.pb.but hB3 (fun e => hi.ng e) (fun e => hi.nb e), ?_, by have := h.le; omega, h.ne, h.op, ⟨hB3.os.trans h.but.os, hB3.tape.trans h.but.tape, hB3.output.trans h.but.output, by omega, fun k hk hs => ?_⟩, h.own, fun k hk => ?_, fun k hk => ?_, h.tl⟩
  · have h1 : NS X B g b (PV P v) V s.ns := h.ns.but (But.of_below (S := fun _ => False) hX) (fun _ _ h => h) (fun _ h => h.elim)
    obtain ⟨⟨vs, a1, a2, a3⟩, a4, a5, a6⟩ := h1
    refine ⟨⟨vs, a1, row_but a2 (grown_but hG) (fun k hV he => hi.nv k he hV), fun i n u hn hu => ?_⟩, a4, a5, a6⟩
    obtain ⟨c1, c2, c3⟩ := a3 i n u hn hu
    refine ⟨c1.but (grown_but hG) (fun k e he => (c3 k e).2 (.inr he)), c2, fun k e => ⟨(c3 k e).1, ?_⟩⟩
    rintro (hp | hp)
    · exact (c3 k e).2 (.inl hp)
    · rcases hA k hp with e2 | e2
      · exact (c3 k e).2 (.inr e2)
      · have := c1.lt k e; omega
  · refine (hB3.block k (by omega) (fun e => ?_)).trans (h.but.block k hk hs)
    have := hlo k e; omega
  · rcases hk with hp | hp
    · have := h.plt k (.inl hp); omega
    · exact row_lt ho k hp
  · rcases hk with hp | hp
    · exact h.npv k (.inl hp)
    · exact ⟨(hk' k hp).2.2, (hk' k hp).1⟩
end

/-- lay, as the grammar has it. -/
theorem sLayR {B g b o : Nat} {P : Nat → Prop} {w : World} {V v : Value} {s : PS} {n : Nd} {R : Except (Int × Nat) (Nat × PS)} (hR : R = Gm.lay n s) (h : At B g b o P w V s) (hv : LR w g P V v n.l) :
    Calls Tryz.prog 39 #[.pointer (some ⟨g, 0, none⟩), .agg #[.int .i64 n.k, .string n.x, .int .i64 n.n, .float .f64 n.f, v, .int .i64 (n.p : Int)]] w fun e w' => Rz B g b o P w V R iv e w' := by
  rw [hR]; exact sLay n v h hv
theorem sOpR {B g b o : Nat} {P : Nat → Prop} {w : World} {V v : Value} {s : PS} {p : Nat} {x : ByteArray} {l : List Nat} {R : Except (Int × Nat) (Nat × PS)} (hR : R = Gm.op p x l s) (h : At B g b o P w V s) (hv : LR w g P V v l) :
    Calls Tryz.prog 87 #[.pointer (some ⟨g, 0, none⟩), .int .i64 (p : Int), .string x, v] w fun e w' => Rz B g b o P w V R iv e w' := by
  rw [hR]; exact sOp p x l v h hv

/-- What a step that tells a row has done. -/
def RzL (B g b o : Nat) (P : Nat → Prop) (w : World) (V : Value) (r : Except (Int × Nat) (List Nat × PS)) (e : Ending) (w' : World) : Prop :=
  (∃ er p, r = .error (er, p) ∧ e = gaveUp er p ∧ But (fun k => k = g ∨ V.ownBlock = some k) w w') ∨ (∃ l s' V' v, r = .ok (l, s') ∧ e = .returned v ∧ St B g b o P w V w' V' s' ∧ St B g b o (PV P v) w V w' V' s' ∧ IR w' w.heap.size g b V' v l ∧ l.length ≤ 100001)
end Go.Proofs.YtdpfmmbfidknfaaGreatDoor


/- exprs. -/
namespace Go.Proofs.YtdpfmmbfidknfaaGreatDoor
open Go.RowKit Go.Lib
attribute [local go_sem] store_float f64bits
attribute [local go_sem ↓] Go.wp_at_zero Go.wp_at_succ
attribute [local go_sem] nd_p tk_k tk_x tk_n tk_f tk_p
variable {B g b o : Nat} {e : PM Nat}

theorem app_ints (w : World) (a0 : Value) (q : Nat) (hg : q = w.heap.size) (j : Nat) (u : Value) (hj : [a0][j]? = some u) : (w.alloc (.cells #[a0] IT)).cell? ((⟨q, 0, none⟩ : Addr).add j) = some u := by
  subst hg
  match j, hj with
  | 0, hj => simp at hj; subst hj; simp [Addr.add]
  | (j + 1), hj => simp at hj

theorem IR.app {P : Nat → Prop} {w0 w w' : World} {V0 V v v' : Value} {s : PS} {l : List Nat} {xs : List Nat} {ob : Obj} (h : St B g b o (PV P v) w0 V0 w V s) (hi : IR w w0.heap.size g b V v l) (hG : (w.alloc ob).grownBy w' v.ownBlock) (hA : v'.ownBlock = v.ownBlock ∨ v'.ownBlock = some (w.heap.size + 1))
    (ho : w'.ownsRow w0.heap.size IT 1 v' (l.length + xs.length) (l.map iv ++ xs.map iv)) : IR w' w0.heap.size g b V v' (l ++ xs) ∧ St B g b o (PV P v') w0 V0 w' V s := by
  refine IR.grown h hi (below_new w ob) hG (fun k hk => ?_) (by rw [List.length_append, List.map_append]; exact ho)
  rcases hA with e | e
  · exact .inl (e ▸ hk)
  · rw [e] at hk; cases hk; right; simp

set_option maxHeartbeats 4000000 in
set_option maxRecDepth 100000 in
theorem pExprs (hE : EC B g b o e) (most : Nat) {P : Nat → Prop} {w : World} {V : Value} {s : PS} (h : At B g b o P w V s) :
    Calls Tryz.prog 80 #[.pointer (some ⟨g, 0, none⟩), .int .i64 (most : Int)] w fun r w' => RzL B g b o P w V (Gm.exprs e most s) r w' := by
  obtain ⟨i0, hi0, hz0, hz1, hz2⟩ := info_parts (P := Tryz.prog) (e := IT) (z := .int .i64 0) (size := 1) (bytes := 8) (by kernel_rfl)
  have H : Hid (St B g b o P w V w V s) := hidb h
  have HE := hidb hE
  obtain ⟨R, hR⟩ : ∃ R, Gm.exprs e most s = R := ⟨_, rfl⟩
  rw [hR]
  have HR := hidb hR.symm
  clear hR h hE
  go_enter Tryz.func80, Tryz.ntmps80
  go_wp2_with (first
    | (go_at_call 84; refine (HE.out.run H.out.at).mono ?_; rintro r1 w1 (⟨er, q, hq, rfl, hbu⟩ | ⟨x0, s1, V1, hq, rfl, hs⟩) <;> first | (have H := hidb (H.out.trans hs); have HR := hidb (HR.out.trans (Gm.bind_ok hq)); clear hs hq) | (have HR := hidb (HR.out.trans (Gm.bind_err hq)); have HBU := hidb (but_then H.out.but H.out.own hbu); clear hq hbu)))
  · exact ⟨rfl, .inl ⟨_, _, HR.out, rfl, HBU.out⟩⟩
  obtain ⟨j1, j2⟩ := IR.lit H.out #[iv x0] [x0] rfl (by simp)
  have HI := hidb j1
  have H := hidb j2
  have HR := hidb (HR.out.trans (Gm.bind_left rfl))
  have htl := j2.tl
  clear j1 j2
  go_loopg [5] s1.ts.length (fun gf s3 wx => ∃ (l : List Nat) (sx : PS) (Vx : Value) (a : Option Addr) (c k : Nat), s3 = .slice a l.length c ∧ St B g b o (PV P (.slice a l.length c)) w V wx Vx sx ∧ IR wx w.heap.size g b Vx (.slice a l.length c) l ∧ R = Gm.more e most k l sx ∧ sx.ts.length ≤ k ∧ k ≤ gf ∧ l.length + sx.ts.length ≤ 100001)
  case atStart => exact ⟨[x0], s1, V1, _, _, _, rfl, H.out, HI.out, HR.out, Nat.le_refl _, Nat.le_refl _, by simp; omega⟩
  case round =>
    obtain ⟨l, sx, Vx, a, c, k, hs3, hst, hir, hmore, hk, hkg, hll⟩ := hrel
    subst hs3
    have hpos : 0 < sx.ts.length := by obtain ⟨r, hr⟩ := Gm.ne_hd hst.ne; rw [hr]; simp
    obtain ⟨k', rfl⟩ : ∃ k', k = k' + 1 := ⟨k - 1, by omega⟩
    obtain ⟨g', rfl⟩ : ∃ g', gk = g' + 1 := ⟨gk - 1, by omega⟩
    have H := hidb hst
    have HI := hidb hir
    have HR := hidb hmore
    have hc1 : l.length + 1 ≤ maxLen := by unfold maxLen; omega
    have hc2 : (l.length + 1) * 8 ≤ 140737488355328 := by omega
    clear hst hir hmore
    by_cases hmo : l.length = most
    · have e1 : ((l.length : Nat) : Int) = (most : Int) := by omega
      have HMO := hidb hmo
      clear hmo
      go_wp2_with (first
        | (go_at_call 51; refine (sTake ⟨#[44]⟩ H.out.at).mono ?_; rintro r1 w1 (⟨s1, hq, rfl, hs⟩ | ⟨hq, rfl, hs⟩) <;> first | (have HR := hidb (HR.out.trans (Gm.bind_t hq.1)); have H := hidb (H.out.trans hs); have HI := hidb (HI.out.step hs); clear hs hq) | (have HR := hidb (HR.out.trans (Gm.bind_f hq)); have H := hidb (H.out.trans hs); have HI := hidb (HI.out.step hs); clear hs hq))
        | (go_at_call 35; refine (sGiveUp (α := List Nat) 2 H.out.at).mono ?_; rintro r1 w1 ⟨q, hq, rfl, hbu⟩; have HR := hidb ((HR.out.trans (Gm.ite_t HMO.out)).trans hq); have HBU := hidb (but_then H.out.but H.out.own hbu); clear hq hbu))
      · exact ⟨rfl, .inl ⟨_, _, HR.out, rfl, HBU.out⟩⟩
      · exact bodyPost_ret (v := .slice a l.length c) (by simp [results, Tryz.results80, go_sem]) rfl (.inr ⟨_, _, _, _, HR.out, rfl, H.out.drop, H.out, HI.out, by omega⟩)
    · have e1 : ((l.length : Nat) : Int) ≠ (most : Int) := by omega
      have HMO := hidb hmo
      clear hmo
      go_wp2_with (first
        | (go_at_call 51; refine (sTake ⟨#[44]⟩ H.out.at).mono ?_; rintro r1 w1 (⟨s1, hq, rfl, hs⟩ | ⟨hq, rfl, hs⟩) <;> first | (have HR := hidb (HR.out.trans (Gm.bind_t hq.1)); have HT := hidb hq.2; have H := hidb (H.out.trans hs); have HI := hidb (HI.out.step hs); clear hs hq) | (have HR := hidb (HR.out.trans (Gm.bind_f hq)); have H := hidb (H.out.trans hs); have HI := hidb (HI.out.step hs); clear hs hq))
        | (go_at_call 84; refine (HE.out.run H.out.at).mono ?_; rintro r1 w1 (⟨er, q, hq, rfl, hbu⟩ | ⟨x, s2, V2, hq, rfl, hs⟩) <;> first | (have HF := hidb (HE.out.all _ H.out.ne _ _ hq).1; have H := hidb (H.out.trans hs); have HI := hidb (HI.out.step hs); have HR := hidb ((HR.out.trans (Gm.ite_f HMO.out)).trans (Gm.bind_ok hq)); clear hs hq) | (have HR := hidb ((HR.out.trans (Gm.ite_f HMO.out)).trans (Gm.bind_err hq)); have HBU := hidb (but_then H.out.but H.out.own hbu); clear hq hbu))
        | (at_builtin; refine wpList_append_own_at _ rfl _ _ 32 rfl w.heap.size IT i0 (.int .i64 0) 1 8 Tryz.underlying32 hi0 hz0 hz1 hz2 rfl (by decide) _ _ _ rfl (HI.out.own.alloc _) ⟨w1.heap.size, 0, none⟩ 1 1 [iv x] rfl rfl ?e51 ?e52 ?e53 ?e54 ?e55 ?_))
      case e51 => intro q u hq; exact app_ints _ _ _ rfl q u hq
      case e52 => intro u hu; cases List.mem_singleton.1 hu; rfl
      case e53 => exact hc1
      case e54 => exact hc2
      case e55 => have := H.out.but.size; simp; omega
      · exact ⟨rfl, .inl ⟨_, _, HR.out, rfl, HBU.out⟩⟩
      · intro v' w3 hown hgrow hnil hat
        obtain ⟨j1, j2⟩ := IR.app (xs := [x]) H.out HI.out hgrow hat hown
        obtain ⟨a', c', rfl⟩ := j1.sl
        have HI := hidb j1
        have H := hidb j2
        clear j1 j2 hown hgrow hnil hat
        go_wp2_with fail
        go_roundg g'
        case measure => omega
        case rel => exact ⟨l ++ [x], s2, V2, a', c', k', rfl, H.out, HI.out, HR.out, by have := HT.out; have := HF.out.len; omega, by omega, by have := HT.out; have := HF.out.len; simp; omega⟩
      · exact bodyPost_ret (v := .slice a l.length c) (by simp [results, Tryz.results80, go_sem]) rfl (.inr ⟨_, _, _, _, HR.out, rfl, H.out.drop, H.out, HI.out, by omega⟩)
end Go.Proofs.YtdpfmmbfidknfaaGreatDoor


