import Derived.Test.YthdljnakmekhkaaGreatDoorG06
/- Rows of places, and steps one behind another. -/
namespace Go.Proofs.YthdljnakmekhkaaGreatDoor
open Go.RowKit Go.Lib

namespace Gm
variable {α β : Type} {s s' : PS}
theorem bind_ok {m : PM α} {f : α → PM β} {a : α} (h : m s = .ok (a, s')) : (m >>= f) s = f a s' := by rw [bind_at, h]
theorem bind_err {m : PM α} {f : α → PM β} {er : Int × Nat} (h : m s = .error er) : (m >>= f) s = .error er := by rw [bind_at, h]
theorem bind_here {f : Tk → PM β} {t : Tk} (h : hd s = t) : (here >>= f) s = f t s := by subst h; rfl
theorem bind_left {f : Nat → PM β} {n : Nat} (h : s.ts.length = n) : (left >>= f) s = f n s := by subst h; rfl
theorem bind_next {f : Tk → PM β} {t : Tk} (h : hd s = t ∧ cut s = s') : (next >>= f) s = f t s' := by obtain ⟨rfl, rfl⟩ := h; rfl
theorem bind_t {m : PM Bool} {A C : PM β} (h : m s = .ok (true, s')) : (m >>= fun b => if b then A else C) s = A s' := by rw [bind_at, h]; rfl
theorem bind_f {m : PM Bool} {A C : PM β} (h : m s = .ok (false, s')) : (m >>= fun b => if b then A else C) s = C s' := by rw [bind_at, h]; rfl
theorem ite_t {c : Prop} [Decidable c] {A C : PM β} (h : c) : (if c then A else C) s = A s := by rw [if_pos h]
theorem ite_f {c : Prop} [Decidable c] {A C : PM β} (h : ¬ c) : (if c then A else C) s = C s := by rw [if_neg h]
end Gm

abbrev IT : Nat := 3

/-- A row of places of the call's own: it may grow. -/
structure IR (w : World) (C g b : Nat) (V v : Value) (l : List Nat) : Prop where
  own : w.ownsRow C IT 1 v l.length (l.map iv)
  ng : v.ownBlock ≠ some g
  nb : v.ownBlock ≠ some b
  nv : ∀ k, v.ownBlock = some k → V.ownBlock ≠ some k

/-- Blocks that are held, and a row's besides. -/
def PV (P : Nat → Prop) (v : Value) (k : Nat) : Prop := P k ∨ v.ownBlock = some k

section
variable {B g b o C : Nat} {P : Nat → Prop} {w0 w w' : World} {V0 V V' v : Value} {s s' : PS} {l : List Nat}
theorem row_lt {e size n : Nat} {xs : List Value} (h : w.ownsRow C e size v n xs) : ∀ k, v.ownBlock = some k → k < w.heap.size := fun k hk => (h.lt k hk).2
theorem row_base {e size n C' : Nat} {xs : List Value} (h : w.ownsRow C e size v n xs) (hC : C' ≤ C) : w.ownsRow C' e size v n xs :=
  ⟨h.1, h.2.imp id fun ⟨q, cap, cur, h1, h2, h3⟩ => ⟨q, cap, cur, h1, Nat.le_trans hC h2, h3⟩⟩
theorem IR.but (h : IR w C g b V v l) {S : Nat → Prop} (hb : But S w w') (hs : ∀ k, v.ownBlock = some k → ¬ S k) : IR w' C g b V v l := ⟨row_but h.own hb hs, h.ng, h.nb, h.nv⟩
theorem IR.step (h : IR w C g b V v l) (h' : St B g b o P w V w' V' s') : IR w' C g b V' v l := by
  refine ⟨row_but h.own h'.but ?_, h.ng, h.nb, fun k hk => h'.beside (row_lt h.own k hk) (h.nv k hk)⟩
  rintro k hk (rfl | hS)
  · exact h.ng hk
  · exact h.nv k hk hS
theorem IR.below (h : IR w C g b V v l) (hb : Below w.heap.size w w') : IR w' C g b V v l := h.but (But.of_below (S := fun _ => False) hb) (fun _ _ h => h)
theorem IR.none (w : World) (C g b : Nat) (V : Value) : IR w C g b V (.slice none 0 0) [] := ⟨⟨rfl, .inl ⟨rfl, rfl⟩⟩, by simp [Value.ownBlock], by simp [Value.ownBlock], by simp [Value.ownBlock]⟩
theorem IR.rebase {C' : Nat} (h : IR w C g b V v l) (hC : C' ≤ C) : IR w C' g b V v l := ⟨row_base h.own hC, h.ng, h.nb, h.nv⟩
theorem IR.sl (h : IR w C g b V v l) : ∃ a c, v = .slice a l.length c := by
  rcases h.own.2 with ⟨hv, hn⟩ | ⟨q, cap, cur, hv, _⟩
  · exact ⟨Option.none, 0, by rw [hv, hn]⟩
  · exact ⟨_, _, hv⟩
theorem IR.lr (h : IR w C g b V v l) (hP : ∀ k, P k → k < C) : LR w g P V v l := by
  refine ⟨?_, h.ng, fun k hk => ⟨h.nv k hk, fun hp => ?_⟩⟩
  · have hl := row_lt h.own
    rcases h.own.2 with ⟨hv, hn⟩ | ⟨q, cap, cur, hv, hB, hq, rest⟩
    · exact .inl ⟨hv, List.length_eq_zero_iff.1 hn⟩
    · subst hv
      refine .inr ⟨q, cap, rfl, hl q rfl, fun j n hj => ?_⟩
      have hc := h.own.cellAt j (by have := (List.getElem?_eq_some_iff.1 hj).1; omega)
      rw [hc]
      simp [hj]
  · have := (h.own.lt k hk).1
    have := hP k hp
    omega

theorem St.more (h : St B g b o P w0 V0 w V s) {v : Value} (hv : ∀ k, v.ownBlock = some k → k < w.heap.size ∧ k ≠ g ∧ V.ownBlock ≠ some k) (hn : NS w B g b (PV P v) V s.ns) : St B g b o (PV P v) w0 V0 w V s :=
  ⟨h.pb, hn, h.le, h.ne, h.op, h.but, h.own, fun k hk => hk.elim (h.plt k) fun hk => (hv k hk).1, fun k hk => hk.elim (h.npv k) fun hk => ⟨(hv k hk).2.2, (hv k hk).2.1⟩, h.tl⟩
theorem NS.less {ns : List Nd} {Q : Nat → Prop} (h : NS w B g b P V ns) (hQ : ∀ k, Q k → P k) : NS w B g b Q V ns := by
  obtain ⟨⟨vs, h1, h2, h3⟩, h4, h5, h6⟩ := h
  exact ⟨⟨vs, h1, h2, fun i n v hi hv => ⟨(h3 i n v hi hv).1, (h3 i n v hi hv).2.1, fun k hk => ⟨((h3 i n v hi hv).2.2 k hk).1, fun hq => ((h3 i n v hi hv).2.2 k hk).2 (hQ k hq)⟩⟩⟩, h4, h5, h6⟩
theorem St.less (h : St B g b o P w0 V0 w V s) {Q : Nat → Prop} (hQ : ∀ k, Q k → P k) : St B g b o Q w0 V0 w V s :=
  ⟨h.pb, h.ns.less hQ, h.le, h.ne, h.op, h.but, h.own, fun k hk => h.plt k (hQ k hk), fun k hk => h.npv k (hQ k hk), h.tl⟩
theorem St.drop (h : St B g b o (PV P v) w0 V0 w V s) : St B g b o P w0 V0 w V s := h.less fun _ hk => .inl hk
/-- No node's row lies in a new block. -/
theorem NS.newer {ns : List Nd} (h : NS w B g b P V ns) (hv : ∀ k, v.ownBlock = some k → w.heap.size ≤ k) : NS w B g b (PV P v) V ns := by
  obtain ⟨⟨vs, h1, h2, h3⟩, h4, h5, h6⟩ := h
  refine ⟨⟨vs, h1, h2, fun i n u hi hu => ⟨(h3 i n u hi hu).1, (h3 i n u hi hu).2.1, fun k hk => ⟨((h3 i n u hi hu).2.2 k hk).1, ?_⟩⟩⟩, h4, h5, h6⟩
  rintro (hp | hp)
  · exact ((h3 i n u hi hu).2.2 k hk).2 hp
  · have := (h3 i n u hi hu).1.lt k hk
    have := hv k hp
    omega

/-- A row that is made new. -/
theorem IR.lit (h : St B g b o P w0 V0 w V s) (cs : Array Value) (l : List Nat) (hc : cs.toList = l.map iv) (hl : l.length ≤ 1000) :
    IR (w.alloc (.cells cs IT)) w0.heap.size g b V (.slice (some ⟨w.heap.size, 0, .none⟩) l.length l.length) l ∧ St B g b o (PV P (.slice (some ⟨w.heap.size, 0, .none⟩) l.length l.length)) w0 V0 (w.alloc (.cells cs IT)) V s := by
  have hs : cs.size = l.length := by have := congrArg List.length hc; simpa using this
  have hb : Below w.heap.size w (w.alloc (.cells cs IT)) := below_new _ _
  have ho := World.ownsRow_lit (e := IT) (size := 1) (base := w0.heap.size) w cs l.length h.but.size (by unfold maxLen; omega) (by omega)
  have hV : V.ownBlock ≠ some w.heap.size := h.at.fresh
  refine ⟨⟨by rw [← hc]; exact ho, ?_, ?_, ?_⟩, (h.below hb).more ?_ ?_⟩
  · have := h.glt; simp [Value.ownBlock]; omega
  · have := h.blt; simp [Value.ownBlock]; omega
  · intro k hk; simp [Value.ownBlock] at hk; subst hk; exact hV
  · intro k hk
    simp [Value.ownBlock] at hk
    subst hk
    exact ⟨by simp, by have := h.glt; omega, hV⟩
  · exact ((h.ns.newer (v := .slice (some ⟨w.heap.size, 0, .none⟩) l.length l.length) (fun k hk => by simp [Value.ownBlock] at hk; omega)).but (But.of_below (S := fun _ => False) hb) (fun _ _ h => h) (fun _ h => h.elim))

/-- A row that grows. -/
theorem IR.grown (h : St B g b o (PV P v) w0 V0 w V s) (hi : IR w w0.heap.size g b V v l) {X : World} (hX : Below w.heap.size w X) {v' : Value} {l' : List Nat} (hG : X.grownBy w' v.ownBlock) (hA : ∀ k, v'.ownBlock = some k → v.ownBlock = some k ∨ X.heap.size ≤ k)
    (ho : w'.ownsRow w0.heap.size IT 1 v' l'.length (l'.map iv)) : IR w' w0.heap.size g b V v' l' ∧ St B g b o (PV P v') w0 V0 w' V s := by
  have hXs := hX.size
  have hGs := hG.size
  have hw0 := h.but.size
  have hB3 : But (fun k => v.ownBlock = some k) w w' := (But.of_below hX).trans (grown_but hG)
  have hvg := hi.ng
  have hvb := hi.nb
  have hk' : ∀ k, v'.ownBlock = some k → k ≠ g ∧ k ≠ b ∧ V.ownBlock ≠ some k := by
    intro k hk
    rcases hA k hk with e | e
    · exact ⟨fun he => hi.ng (he ▸ e), fun he => hi.nb (he ▸ e), hi.nv k e⟩
    · exact ⟨by have := h.glt; omega, by have := h.blt; omega, fun he => by have := h.vlt k he; omega⟩
  refine ⟨⟨ho, fun he => (hk' g he).1 rfl, fun he => (hk' b he).2.1 rfl, fun k he => (hk' k he).2.2⟩, ?_⟩
  have hlo : ∀ k, v.ownBlock = some k → w0.heap.size ≤ k := fun k e => (hi.own.lt k e).1
  refine ⟨h.pb.but hB3 (fun e => hi.ng e) (fun e => hi.nb e), ?_, by have := h.le; omega, h.ne, h.op, ⟨hB3.os.trans h.but.os, hB3.tape.trans h.but.tape, hB3.output.trans h.but.output, by omega, fun k hk hs => ?_⟩, h.own, fun k hk => ?_, fun k hk => ?_, h.tl⟩
  · have h1 : NS X B g b (PV P v) V s.ns := h.ns.but (But.of_below (S := fun _ => False) hX) (fun _ _ h => h) (fun _ h => h.elim)
    obtain ⟨⟨vs, a1, a2, a3⟩, a4, a5, a6⟩ := h1
    refine ⟨⟨vs, a1, row_but a2 (grown_but hG) (fun k hV he => hi.nv k he hV), fun i n u hn hu => ?_⟩, a4, a5, a6⟩
    obtain ⟨c1, c2, c3⟩ := a3 i n u hn hu
    refine ⟨c1.but (grown_but hG) (fun k e he => (c3 k e).2 (.inr he)), c2, fun k e => ⟨(c3 k e).1, ?_⟩⟩
    rintro (hp | hp)
    · exact (c3 k e).2 (.inl hp)
    · rcases hA k hp with e2 | e2
      · exact (c3 k e).2 (.inr e2)
      · have := c1.lt k e; omega
  · refine (hB3.block k (by omega) (fun e => ?_)).trans (h.but.block k hk hs)
    have := hlo k e; omega
  · rcases hk with hp | hp
    · have := h.plt k (.inl hp); omega
    · exact row_lt ho k hp
  · rcases hk with hp | hp
    · exact h.npv k (.inl hp)
    · exact ⟨(hk' k hp).2.2, (hk' k hp).1⟩
end

/-- lay, as the grammar has it. -/
theorem sLayR {B g b o : Nat} {P : Nat → Prop} {w : World} {V v : Value} {s : PS} {n : Nd} {R : Except (Int × Nat) (Nat × PS)} (hR : R = Gm.lay n s) (h : At B g b o P w V s) (hv : LR w g P V v n.l) :
    Calls Tryz.prog 53 #[.pointer (some ⟨g, 0, none⟩), .agg #[.int .i64 n.k, .string n.x, .int .i64 n.n, .float .f64 n.f, v, .int .i64 (n.p : Int)]] w fun e w' => Rz B g b o P w V R iv e w' := by
  rw [hR]; exact sLay n v h hv
theorem sOpR {B g b o : Nat} {P : Nat → Prop} {w : World} {V v : Value} {s : PS} {p : Nat} {x : ByteArray} {l : List Nat} {R : Except (Int × Nat) (Nat × PS)} (hR : R = Gm.op p x l s) (h : At B g b o P w V s) (hv : LR w g P V v l) :
    Calls Tryz.prog 128 #[.pointer (some ⟨g, 0, none⟩), .int .i64 (p : Int), .string x, v] w fun e w' => Rz B g b o P w V R iv e w' := by
  rw [hR]; exact sOp p x l v h hv

/-- What a step that tells a row has done. -/
def RzL (B g b o : Nat) (P : Nat → Prop) (w : World) (V : Value) (r : Except (Int × Nat) (List Nat × PS)) (e : Ending) (w' : World) : Prop :=
  (∃ er p, r = .error (er, p) ∧ e = gaveUp er p ∧ But (fun k => k = g ∨ V.ownBlock = some k) w w') ∨ (∃ l s' V' v, r = .ok (l, s') ∧ e = .returned v ∧ St B g b o P w V w' V' s' ∧ St B g b o (PV P v) w V w' V' s' ∧ IR w' w.heap.size g b V' v l ∧ l.length ≤ 100001)
end Go.Proofs.YthdljnakmekhkaaGreatDoor


/- exprs. -/
namespace Go.Proofs.YthdljnakmekhkaaGreatDoor
open Go.RowKit Go.Lib
attribute [local go_sem] store_float f64bits
attribute [local go_sem ↓] Go.wp_at_zero Go.wp_at_succ
attribute [local go_sem] nd_p tk_k tk_x tk_n tk_f tk_p
variable {B g b o : Nat} {e : PM Nat}

theorem app_ints (w : World) (a0 : Value) (q : Nat) (hg : q = w.heap.size) (j : Nat) (u : Value) (hj : [a0][j]? = some u) : (w.alloc (.cells #[a0] IT)).cell? ((⟨q, 0, none⟩ : Addr).add j) = some u := by
  subst hg
  match j, hj with
  | 0, hj => simp at hj; subst hj; simp [Addr.add]
  | (j + 1), hj => simp at hj

theorem IR.app {P : Nat → Prop} {w0 w w' : World} {V0 V v v' : Value} {s : PS} {l : List Nat} {xs : List Nat} {ob : Obj} (h : St B g b o (PV P v) w0 V0 w V s) (hi : IR w w0.heap.size g b V v l) (hG : (w.alloc ob).grownBy w' v.ownBlock) (hA : v'.ownBlock = v.ownBlock ∨ v'.ownBlock = some (w.heap.size + 1))
    (ho : w'.ownsRow w0.heap.size IT 1 v' (l.length + xs.length) (l.map iv ++ xs.map iv)) : IR w' w0.heap.size g b V v' (l ++ xs) ∧ St B g b o (PV P v') w0 V0 w' V s := by
  refine IR.grown h hi (below_new w ob) hG (fun k hk => ?_) (by rw [List.length_append, List.map_append]; exact ho)
  rcases hA with e | e
  · exact .inl (e ▸ hk)
  · rw [e] at hk; cases hk; right; simp

set_option maxHeartbeats 4000000 in
set_option maxRecDepth 100000 in
theorem pExprs (hE : EC B g b o e) (most : Nat) {P : Nat → Prop} {w : World} {V : Value} {s : PS} (h : At B g b o P w V s) :
    Calls Tryz.prog 116 #[.pointer (some ⟨g, 0, none⟩), .int .i64 (most : Int)] w fun r w' => RzL B g b o P w V (Gm.exprs e most s) r w' := by
  obtain ⟨i0, hi0, hz0, hz1, hz2⟩ := info_parts (P := Tryz.prog) (e := IT) (z := .int .i64 0) (size := 1) (bytes := 8) (by kernel_rfl)
  have H : Hid (St B g b o P w V w V s) := hidb h
  have HE := hidb hE
  obtain ⟨R, hR⟩ : ∃ R, Gm.exprs e most s = R := ⟨_, rfl⟩
  rw [hR]
  have HR := hidb hR.symm
  clear hR h hE
  go_enter Tryz.func116, Tryz.ntmps116
  go_wp2_with (first
    | (go_at_call 121; refine (HE.out.run H.out.at).mono ?_; rintro r1 w1 (⟨er, q, hq, rfl, hbu⟩ | ⟨x0, s1, V1, hq, rfl, hs⟩) <;> first | (have H := hidb (H.out.trans hs); have HR := hidb (HR.out.trans (Gm.bind_ok hq)); clear hs hq) | (have HR := hidb (HR.out.trans (Gm.bind_err hq)); have HBU := hidb (but_then H.out.but H.out.own hbu); clear hq hbu)))
  · exact ⟨rfl, .inl ⟨_, _, HR.out, rfl, HBU.out⟩⟩
  obtain ⟨j1, j2⟩ := IR.lit H.out #[iv x0] [x0] rfl (by simp)
  have HI := hidb j1
  have H := hidb j2
  have HR := hidb (HR.out.trans (Gm.bind_left rfl))
  have htl := j2.tl
  clear j1 j2
  go_loopg [5] s1.ts.length (fun gf s3 wx => ∃ (l : List Nat) (sx : PS) (Vx : Value) (a : Option Addr) (c k : Nat), s3 = .slice a l.length c ∧ St B g b o (PV P (.slice a l.length c)) w V wx Vx sx ∧ IR wx w.heap.size g b Vx (.slice a l.length c) l ∧ R = Gm.more e most k l sx ∧ sx.ts.length ≤ k ∧ k ≤ gf ∧ l.length + sx.ts.length ≤ 100001)
  case atStart => exact ⟨[x0], s1, V1, _, _, _, rfl, H.out, HI.out, HR.out, Nat.le_refl _, Nat.le_refl _, by simp; omega⟩
  case round =>
    obtain ⟨l, sx, Vx, a, c, k, hs3, hst, hir, hmore, hk, hkg, hll⟩ := hrel
    subst hs3
    have hpos : 0 < sx.ts.length := by obtain ⟨r, hr⟩ := Gm.ne_hd hst.ne; rw [hr]; simp
    obtain ⟨k', rfl⟩ : ∃ k', k = k' + 1 := ⟨k - 1, by omega⟩
    obtain ⟨g', rfl⟩ : ∃ g', gk = g' + 1 := ⟨gk - 1, by omega⟩
    have H := hidb hst
    have HI := hidb hir
    have HR := hidb hmore
    have hc1 : l.length + 1 ≤ maxLen := by unfold maxLen; omega
    have hc2 : (l.length + 1) * 8 ≤ 140737488355328 := by omega
    clear hst hir hmore
    by_cases hmo : l.length = most
    · have e1 : ((l.length : Nat) : Int) = (most : Int) := by omega
      have HMO := hidb hmo
      clear hmo
      go_wp2_with (first
        | (go_at_call 76; refine (sTake ⟨#[44]⟩ H.out.at).mono ?_; rintro r1 w1 (⟨s1, hq, rfl, hs⟩ | ⟨hq, rfl, hs⟩) <;> first | (have HR := hidb (HR.out.trans (Gm.bind_t hq.1)); have H := hidb (H.out.trans hs); have HI := hidb (HI.out.step hs); clear hs hq) | (have HR := hidb (HR.out.trans (Gm.bind_f hq)); have H := hidb (H.out.trans hs); have HI := hidb (HI.out.step hs); clear hs hq))
        | (go_at_call 49; refine (sGiveUp (α := List Nat) 2 H.out.at).mono ?_; rintro r1 w1 ⟨q, hq, rfl, hbu⟩; have HR := hidb ((HR.out.trans (Gm.ite_t HMO.out)).trans hq); have HBU := hidb (but_then H.out.but H.out.own hbu); clear hq hbu))
      · exact ⟨rfl, .inl ⟨_, _, HR.out, rfl, HBU.out⟩⟩
      · exact bodyPost_ret (v := .slice a l.length c) (by simp [results, Tryz.results116, go_sem]) rfl (.inr ⟨_, _, _, _, HR.out, rfl, H.out.drop, H.out, HI.out, by omega⟩)
    · have e1 : ((l.length : Nat) : Int) ≠ (most : Int) := by omega
      have HMO := hidb hmo
      clear hmo
      go_wp2_with (first
        | (go_at_call 76; refine (sTake ⟨#[44]⟩ H.out.at).mono ?_; rintro r1 w1 (⟨s1, hq, rfl, hs⟩ | ⟨hq, rfl, hs⟩) <;> first | (have HR := hidb (HR.out.trans (Gm.bind_t hq.1)); have HT := hidb hq.2; have H := hidb (H.out.trans hs); have HI := hidb (HI.out.step hs); clear hs hq) | (have HR := hidb (HR.out.trans (Gm.bind_f hq)); have H := hidb (H.out.trans hs); have HI := hidb (HI.out.step hs); clear hs hq))
        | (go_at_call 121; refine (HE.out.run H.out.at).mono ?_; rintro r1 w1 (⟨er, q, hq, rfl, hbu⟩ | ⟨x, s2, V2, hq, rfl, hs⟩) <;> first | (have HF := hidb (HE.out.all _ H.out.ne _ _ hq).1; have H := hidb (H.out.trans hs); have HI := hidb (HI.out.step hs); have HR := hidb ((HR.out.trans (Gm.ite_f HMO.out)).trans (Gm.bind_ok hq)); clear hs hq) | (have HR := hidb ((HR.out.trans (Gm.ite_f HMO.out)).trans (Gm.bind_err hq)); have HBU := hidb (but_then H.out.but H.out.own hbu); clear hq hbu))
        | (at_builtin; refine wpList_append_own_at _ rfl _ _ 44 rfl w.heap.size IT i0 (.int .i64 0) 1 8 Tryz.underlying44 hi0 hz0 hz1 hz2 rfl (by decide) _ _ _ rfl (HI.out.own.alloc _) ⟨w1.heap.size, 0, none⟩ 1 1 [iv x] rfl rfl ?e51 ?e52 ?e53 ?e54 ?e55 ?_))
      case e51 => intro q u hq; exact app_ints _ _ _ rfl q u hq
      case e52 => intro u hu; cases List.mem_singleton.1 hu; rfl
      case e53 => exact hc1
      case e54 => exact hc2
      case e55 => have := H.out.but.size; simp; omega
      · exact ⟨rfl, .inl ⟨_, _, HR.out, rfl, HBU.out⟩⟩
      · intro v' w3 hown hgrow hnil hat
        obtain ⟨j1, j2⟩ := IR.app (xs := [x]) H.out HI.out hgrow hat hown
        obtain ⟨a', c', rfl⟩ := j1.sl
        have HI := hidb j1
        have H := hidb j2
        clear j1 j2 hown hgrow hnil hat
        go_wp2_with fail
        go_roundg g'
        case measure => omega
        case rel => exact ⟨l ++ [x], s2, V2, a', c', k', rfl, H.out, HI.out, HR.out, by have := HT.out; have := HF.out.len; omega, by omega, by have := HT.out; have := HF.out.len; simp; omega⟩
      · exact bodyPost_ret (v := .slice a l.length c) (by simp [results, Tryz.results116, go_sem]) rfl (.inr ⟨_, _, _, _, HR.out, rfl, H.out.drop, H.out, HI.out, by omega⟩)
end Go.Proofs.YthdljnakmekhkaaGreatDoor


/- group, body, guard. -/
namespace Go.Proofs.YthdljnakmekhkaaGreatDoor
open Go.RowKit Go.Lib
attribute [local go_sem] store_float f64bits
attribute [local go_sem ↓] Go.wp_at_zero Go.wp_at_succ
attribute [local go_sem] nd_p tk_k tk_x tk_n tk_f tk_p
variable {B g b o : Nat} {e : PM Nat}

set_option maxHeartbeats 2000000 in
set_option maxRecDepth 100000 in
theorem pGroup (hE : EC B g b o e) (kind : Int) {P : Nat → Prop} {w : World} {V : Value} {s : PS} (h : At B g b o P w V s) :
    Calls Tryz.prog 120 #[.pointer (some ⟨g, 0, none⟩), .int .i64 kind] w fun r w' => Rz B g b o P w V (Gm.group e kind s) iv r w' := by
  have H : Hid (St B g b o P w V w V s) := hidb h
  obtain ⟨R, hR⟩ : ∃ R, Gm.group e kind s = R := ⟨_, rfl⟩
  rw [hR]
  have HR := hidb hR.symm
  clear hR
  have HE := hidb hE
  clear h hE
  go_enter Tryz.func120, Tryz.ntmps120
  go_wp2_with (first
    | (go_at_call 46; refine (sHere H.out.at).mono ?_; rintro r1 w1 ⟨t, hq, rfl, hs, hb⟩; have H := hidb (H.out.below hb); have HR := hidb (HR.out.trans (Gm.bind_here hq)); have Tt := hidb hq; clear hs hb hq)
    | (go_at_call 116; refine (pExprs HE.out Gm.noBound H.out.at).mono ?_; rintro r1 w1 (⟨er, q, hq, rfl, hbu⟩ | ⟨l, s1, V1, v, hq, rfl, hs, hs2, hi, hlen⟩) <;> first | (obtain ⟨la, lc, rfl⟩ := hi.sl; have HI := hidb (hi.lr H.out.plt);  have HL := hidb hs; have H := hidb (H.out.trans hs); (first | (with_reducible have HR := hidb (HR.out.trans hq)) | have HR := hidb (HR.out.trans (Gm.bind_ok hq))); clear hs hs2 hi hq hlen) | ((first | (with_reducible have HR := hidb (HR.out.trans hq)) | have HR := hidb (HR.out.trans (Gm.bind_err hq))); have HBU := hidb (but_then H.out.but H.out.own hbu); clear hq hbu))
    | (go_at_call 53; refine (sLay ⟨kind, ⟨#[]⟩, 0, 0, l, t.p⟩ _ H.out.at HI.out).mono ?_; rintro r1 w1 (⟨er, q, hq, rfl, hbu⟩ | ⟨x, s1, V1, hq, rfl, hs⟩) <;> first | (have HL := hidb hs; have H := hidb (H.out.trans hs); (first | (with_reducible have HR := hidb (HR.out.trans hq)) | have HR := hidb (HR.out.trans (Gm.bind_ok hq)));  clear hs hq) | ((first | (with_reducible have HR := hidb (HR.out.trans hq)) | have HR := hidb (HR.out.trans (Gm.bind_err hq))); have HBU := hidb (but_then H.out.but H.out.own hbu); clear hq hbu)))
  · exact ⟨rfl, .inl ⟨_, _, HR.out, rfl, HBU.out⟩⟩
  · exact ⟨rfl, .inl ⟨_, _, HR.out, rfl, HBU.out⟩⟩
  · exact bodyPost_ret (v := iv x) (by simp [results, Tryz.results120, go_sem]) rfl (.inr ⟨_, _, _, HR.out, rfl, H.out⟩)

set_option maxHeartbeats 2000000 in
set_option maxRecDepth 100000 in
theorem pBody (hE : EC B g b o e) {P : Nat → Prop} {w : World} {V : Value} {s : PS} (h : At B g b o P w V s) :
    Calls Tryz.prog 115 #[.pointer (some ⟨g, 0, none⟩)] w fun r w' => Rz B g b o P w V (Gm.body e s) iv r w' := by
  have H : Hid (St B g b o P w V w V s) := hidb h
  obtain ⟨R, hR⟩ : ∃ R, Gm.body e s = R := ⟨_, rfl⟩
  rw [hR]
  have HR := hidb hR.symm
  clear hR
  have HE := hidb hE
  clear h hE
  have HR : Hid (R = Gm.group e 19 s) := hidb HR.out
  go_enter Tryz.func115, Tryz.ntmps115
  go_wp2_with (first
    | (go_at_call 120; refine (pGroup HE.out 19 H.out.at).mono ?_; rintro r1 w1 (⟨er, q, hq, rfl, hbu⟩ | ⟨x, s1, V1, hq, rfl, hs⟩) <;> first | (have HL := hidb hs; have H := hidb (H.out.trans hs); (first | (with_reducible have HR := hidb (HR.out.trans hq)) | have HR := hidb (HR.out.trans (Gm.bind_ok hq)));  clear hs hq) | ((first | (with_reducible have HR := hidb (HR.out.trans hq)) | have HR := hidb (HR.out.trans (Gm.bind_err hq))); have HBU := hidb (but_then H.out.but H.out.own hbu); clear hq hbu)))
  · exact ⟨rfl, .inl ⟨_, _, HR.out, rfl, HBU.out⟩⟩
  · exact bodyPost_ret (v := iv x) (by simp [results, Tryz.results115, go_sem]) rfl (.inr ⟨_, _, _, HR.out, rfl, H.out⟩)

set_option maxHeartbeats 2000000 in
set_option maxRecDepth 100000 in
theorem pGuard (hE : EC B g b o e) {P : Nat → Prop} {w : World} {V : Value} {s : PS} (h : At B g b o P w V s) :
    Calls Tryz.prog 114 #[.pointer (some ⟨g, 0, none⟩)] w fun r w' => Rz B g b o P w V (Gm.guard e s) iv r w' := by
  have H : Hid (St B g b o P w V w V s) := hidb h
  obtain ⟨R, hR⟩ : ∃ R, Gm.guard e s = R := ⟨_, rfl⟩
  rw [hR]
  have HR := hidb hR.symm
  clear hR
  have HE := hidb hE
  clear h hE
  go_enter Tryz.func114, Tryz.ntmps114
  go_wp2_with (first
    | (go_at_call 76; refine (sTake _ H.out.at).mono ?_; rintro r1 w1 (⟨s1, hq, rfl, hs⟩ | ⟨hq, rfl, hs⟩) <;> first | (have HR := hidb (HR.out.trans (Gm.bind_t hq.1)); have HT := hidb hq.2; have HL := hidb hs; have H := hidb (H.out.trans hs);  clear hs hq) | (have HR := hidb (HR.out.trans (Gm.bind_f hq)); have HL := hidb hs; have H := hidb (H.out.trans hs);  clear hs hq))
    | (go_at_call 120; refine (pGroup HE.out 22 H.out.at).mono ?_; rintro r1 w1 (⟨er, q, hq, rfl, hbu⟩ | ⟨x, s1, V1, hq, rfl, hs⟩) <;> first | (have HL := hidb hs; have H := hidb (H.out.trans hs); (first | (with_reducible have HR := hidb (HR.out.trans hq)) | have HR := hidb (HR.out.trans (Gm.bind_ok hq)));  clear hs hq) | ((first | (with_reducible have HR := hidb (HR.out.trans hq)) | have HR := hidb (HR.out.trans (Gm.bind_err hq))); have HBU := hidb (but_then H.out.but H.out.own hbu); clear hq hbu))
    | (go_at_call 119; refine (sLayNone 22 H.out.at).mono ?_; rintro r1 w1 (⟨er, q, hq, rfl, hbu⟩ | ⟨x, s1, V1, hq, rfl, hs⟩) <;> first | (have HL := hidb hs; have H := hidb (H.out.trans hs); (first | (with_reducible have HR := hidb (HR.out.trans hq)) | have HR := hidb (HR.out.trans (Gm.bind_ok hq)));  clear hs hq) | ((first | (with_reducible have HR := hidb (HR.out.trans hq)) | have HR := hidb (HR.out.trans (Gm.bind_err hq))); have HBU := hidb (but_then H.out.but H.out.own hbu); clear hq hbu)))
  · exact ⟨rfl, .inl ⟨_, _, HR.out, rfl, HBU.out⟩⟩
  · exact bodyPost_ret (v := iv x) (by simp [results, Tryz.results114, go_sem]) rfl (.inr ⟨_, _, _, HR.out, rfl, H.out⟩)
  · exact ⟨rfl, .inl ⟨_, _, HR.out, rfl, HBU.out⟩⟩
  · exact bodyPost_ret (v := iv x) (by simp [results, Tryz.results114, go_sem]) rfl (.inr ⟨_, _, _, HR.out, rfl, H.out⟩)

end Go.Proofs.YthdljnakmekhkaaGreatDoor


/- Rows of operators that go from the right. -/
namespace Go.Proofs.YthdljnakmekhkaaGreatDoor
open Go.RowKit Go.Lib
attribute [local go_sem] store_float f64bits
attribute [local go_sem ↓] Go.wp_at_zero Go.wp_at_succ
attribute [local go_sem] nd_p tk_k tk_x tk_n tk_f tk_p
variable {B g b o : Nat} {e : PM Nat}

/-- The contract of a method that is handed on as a value. -/
structure FC (B g b o f : Nat) (m : PM Nat) : Prop where
  all : Gm.All m
  enter : ∀ args w, (callFunc f args).run Tryz.prog w = .ok (.enter f args) w
  run : ∀ {P : Nat → Prop} {w : World} {V : Value} {s : PS}, At B g b o P w V s → Calls Tryz.prog f #[.pointer (some ⟨g, 0, none⟩)] w fun r w' => Rz B g b o P w V (m s) iv r w'

theorem LR.lit {P : Nat → Prop} {w : World} {V : Value} {s : PS} (h : At B g b o P w V s) (cs : Array Value) (l : List Nat) (hc : cs.toList = l.map iv) (hl : l.length ≤ 1000) : LR (w.alloc (.cells cs IT)) g P V (.slice (some ⟨w.heap.size, 0, .none⟩) l.length l.length) l :=
  (IR.lit h cs l hc hl).1.lr h.plt

set_option maxHeartbeats 2000000 in
set_option maxRecDepth 100000 in
theorem pRightward {f : Nat} {m : PM Nat} (hF : FC B g b o f m) (x : ByteArray) : ∀ (k : Nat) (P : Nat → Prop) (w : World) (V : Value) (s : PS) (_ : At B g b o P w V s) (_ : s.ts.length ≤ k),
    Calls Tryz.prog 130 #[.pointer (some ⟨g, 0, none⟩), .func (.func f) #[.pointer (some ⟨g, 0, none⟩)] #[], .string x] w fun r w' => Rz B g b o P w V (Gm.rightward m x k s) iv r w' := by
  intro k
  induction k with
  | zero => intro P w V s h hk; obtain ⟨r, hr⟩ := Gm.ne_hd h.ne; rw [hr] at hk; simp at hk
  | succ k ih =>
    intro P w V s h hk
    have H : Hid (St B g b o P w V w V s) := hidb h
    have IH := hidb ih
    have HK := hidb hk
    obtain ⟨R, hR⟩ : ∃ R, Gm.rightward m x (k + 1) s = R := ⟨_, rfl⟩
    rw [hR]
    have HR := hidb hR.symm
    have eg := hF.enter
    clear hR h ih hk
    go_enter Tryz.func130, Tryz.ntmps130
    go_wp2_with (first
      | (go_at_call 46; refine (sHere H.out.at).mono ?_; rintro r1 w1 ⟨t, hq, rfl, hs, hb⟩; have H := hidb (H.out.below hb); have HR := hidb (HR.out.trans (Gm.bind_here hq)); have Tt := hidb hq; clear hs hb hq)
      | (go_at_call 130; refine (IH.out _ _ _ _ H.out.at (by have := HK.out; have := HT.out; have := HF.out.len; omega)).mono ?_; rintro r1 w1 (⟨er, q, hq, rfl, hbu⟩ | ⟨y2, s1, V1, hq, rfl, hs⟩) <;> first | (have HL := hidb hs; have H := hidb (H.out.trans hs); (first | (with_reducible have HR := hidb (HR.out.trans hq)) | have HR := hidb (HR.out.trans (Gm.bind_ok hq))); clear hs hq) | ((first | (with_reducible have HR := hidb (HR.out.trans hq)) | have HR := hidb (HR.out.trans (Gm.bind_err hq))); have HBU := hidb (but_then H.out.but H.out.own hbu); clear hq hbu))
      | (go_at_call 76; refine (sTake _ H.out.at).mono ?_; rintro r1 w1 (⟨s1, hq, rfl, hs⟩ | ⟨hq, rfl, hs⟩) <;> first | (have HR := hidb (HR.out.trans (Gm.bind_t hq.1)); have HT := hidb hq.2; have HL := hidb hs; have H := hidb (H.out.trans hs);  clear hs hq) | (have HR := hidb (HR.out.trans (Gm.bind_f hq)); have HL := hidb hs; have H := hidb (H.out.trans hs);  clear hs hq))
      | (go_at_call 128; refine (sOp t.p x [x1, y2] _ (H.out.below (below_new _ _)).at (LR.lit H.out.at #[iv x1, iv y2] [x1, y2] rfl (by simp))).mono ?_; rintro r1 w1 (⟨er, q, hq, rfl, hbu⟩ | ⟨z, s1, V1, hq, rfl, hs⟩) <;> first | (have HL := hidb hs; have H := hidb ((H.out.below (below_new _ _)).trans hs); (first | (with_reducible have HR := hidb (HR.out.trans hq)) | have HR := hidb (HR.out.trans (Gm.bind_ok hq)));  clear hs hq) | ((first | (with_reducible have HR := hidb (HR.out.trans hq)) | have HR := hidb (HR.out.trans (Gm.bind_err hq))); have HBU := hidb (but_then (H.out.below (below_new _ _)).but H.out.own hbu); clear hq hbu))
      | (refine (hF.run H.out.at).mono ?_; rintro r1 w1 (⟨er, q, hq, rfl, hbu⟩ | ⟨x1, s1, V1, hq, rfl, hs⟩) <;> first | (have HF := hidb (hF.all _ H.out.ne _ _ hq).1; have HL := hidb hs; have H := hidb (H.out.trans hs); (first | (with_reducible have HR := hidb (HR.out.trans hq)) | have HR := hidb (HR.out.trans (Gm.bind_ok hq))); clear hs hq) | ((first | (with_reducible have HR := hidb (HR.out.trans hq)) | have HR := hidb (HR.out.trans (Gm.bind_err hq))); have HBU := hidb (but_then H.out.but H.out.own hbu); clear hq hbu)))
    · exact ⟨rfl, .inl ⟨_, _, HR.out, rfl, HBU.out⟩⟩
    · exact ⟨rfl, .inl ⟨_, _, HR.out, rfl, HBU.out⟩⟩
    · exact ⟨rfl, .inl ⟨_, _, HR.out, rfl, HBU.out⟩⟩
    · exact bodyPost_ret (v := iv z) (by simp [results, Tryz.results130, go_sem]) rfl (.inr ⟨_, _, _, HR.out, rfl, H.out⟩)
    · exact bodyPost_ret (v := iv x1) (by simp [results, Tryz.results130, go_sem]) rfl (.inr ⟨_, _, _, HR.out, rfl, H.out⟩)

/-- A row of operators that goes from the right. -/
theorem pRight {f : Nat} {m : PM Nat} (hF : FC B g b o f m) (x : ByteArray) {P : Nat → Prop} {w : World} {V : Value} {s : PS} (h : At B g b o P w V s) :
    Calls Tryz.prog 130 #[.pointer (some ⟨g, 0, none⟩), .func (.func f) #[.pointer (some ⟨g, 0, none⟩)] #[], .string x] w fun r w' => Rz B g b o P w V (Gm.right m x s) iv r w' :=
  pRightward hF x s.ts.length P w V s h (Nat.le_refl _)

set_option maxHeartbeats 2000000 in
set_option maxRecDepth 100000 in
theorem pAppend {m : PM Nat} (hF : FC B g b o 138 m) {P : Nat → Prop} {w : World} {V : Value} {s : PS} (h : At B g b o P w V s) :
    Calls Tryz.prog 135 #[.pointer (some ⟨g, 0, none⟩)] w fun r w' => Rz B g b o P w V (Gm.right m ⟨#[43, 43]⟩ s) iv r w' := by
  have H : Hid (St B g b o P w V w V s) := hidb h
  obtain ⟨R, hR⟩ : ∃ R, Gm.right m ⟨#[43, 43]⟩ s = R := ⟨_, rfl⟩
  rw [hR]
  have HR := hidb hR.symm
  clear hR
  clear h
  have hmf : ∀ (fn : Fn) (first cap : Array Value) (w : World), (Instr.makeFunc fn first cap).run Tryz.prog w = .ok (.func fn first cap) w := fun _ _ _ _ => rfl
  have HR : Hid (R = Gm.right m ⟨#[43, 43]⟩ s) := hidb HR.out
  go_enter Tryz.func135, Tryz.ntmps135
  go_wp2_with (first
    | (go_at_call 130; refine (pRight hF ⟨#[43, 43]⟩ H.out.at).mono ?_; rintro r1 w1 (⟨er, q, hq, rfl, hbu⟩ | ⟨x, s1, V1, hq, rfl, hs⟩) <;> first | (have HL := hidb hs; have H := hidb (H.out.trans hs); (first | (with_reducible have HR := hidb (HR.out.trans hq)) | have HR := hidb (HR.out.trans (Gm.bind_ok hq)));  clear hs hq) | ((first | (with_reducible have HR := hidb (HR.out.trans hq)) | have HR := hidb (HR.out.trans (Gm.bind_err hq))); have HBU := hidb (but_then H.out.but H.out.own hbu); clear hq hbu)))
  · exact ⟨rfl, .inl ⟨_, _, HR.out, rfl, HBU.out⟩⟩
  · exact bodyPost_ret (v := iv x) (by simp [results, Tryz.results135, go_sem]) rfl (.inr ⟨_, _, _, HR.out, rfl, H.out⟩)

set_option maxHeartbeats 2000000 in
set_option maxRecDepth 100000 in
theorem pAndalso {m : PM Nat} (hF : FC B g b o 133 m) {P : Nat → Prop} {w : World} {V : Value} {s : PS} (h : At B g b o P w V s) :
    Calls Tryz.prog 131 #[.pointer (some ⟨g, 0, none⟩)] w fun r w' => Rz B g b o P w V (Gm.right m ⟨#[97, 110, 100, 97, 108, 115, 111]⟩ s) iv r w' := by
  have H : Hid (St B g b o P w V w V s) := hidb h
  obtain ⟨R, hR⟩ : ∃ R, Gm.right m ⟨#[97, 110, 100, 97, 108, 115, 111]⟩ s = R := ⟨_, rfl⟩
  rw [hR]
  have HR := hidb hR.symm
  clear hR
  clear h
  have hmf : ∀ (fn : Fn) (first cap : Array Value) (w : World), (Instr.makeFunc fn first cap).run Tryz.prog w = .ok (.func fn first cap) w := fun _ _ _ _ => rfl
  have HR : Hid (R = Gm.right m ⟨#[97, 110, 100, 97, 108, 115, 111]⟩ s) := hidb HR.out
  go_enter Tryz.func131, Tryz.ntmps131
  go_wp2_with (first
    | (go_at_call 130; refine (pRight hF ⟨#[97, 110, 100, 97, 108, 115, 111]⟩ H.out.at).mono ?_; rintro r1 w1 (⟨er, q, hq, rfl, hbu⟩ | ⟨x, s1, V1, hq, rfl, hs⟩) <;> first | (have HL := hidb hs; have H := hidb (H.out.trans hs); (first | (with_reducible have HR := hidb (HR.out.trans hq)) | have HR := hidb (HR.out.trans (Gm.bind_ok hq)));  clear hs hq) | ((first | (with_reducible have HR := hidb (HR.out.trans hq)) | have HR := hidb (HR.out.trans (Gm.bind_err hq))); have HBU := hidb (but_then H.out.but H.out.own hbu); clear hq hbu)))
  · exact ⟨rfl, .inl ⟨_, _, HR.out, rfl, HBU.out⟩⟩
  · exact bodyPost_ret (v := iv x) (by simp [results, Tryz.results131, go_sem]) rfl (.inr ⟨_, _, _, HR.out, rfl, H.out⟩)

set_option maxHeartbeats 2000000 in
set_option maxRecDepth 100000 in
theorem pOrelse {m : PM Nat} (hF : FC B g b o 131 m) {P : Nat → Prop} {w : World} {V : Value} {s : PS} (h : At B g b o P w V s) :
    Calls Tryz.prog 127 #[.pointer (some ⟨g, 0, none⟩)] w fun r w' => Rz B g b o P w V (Gm.right m ⟨#[111, 114, 101, 108, 115, 101]⟩ s) iv r w' := by
  have H : Hid (St B g b o P w V w V s) := hidb h
  obtain ⟨R, hR⟩ : ∃ R, Gm.right m ⟨#[111, 114, 101, 108, 115, 101]⟩ s = R := ⟨_, rfl⟩
  rw [hR]
  have HR := hidb hR.symm
  clear hR
  clear h
  have hmf : ∀ (fn : Fn) (first cap : Array Value) (w : World), (Instr.makeFunc fn first cap).run Tryz.prog w = .ok (.func fn first cap) w := fun _ _ _ _ => rfl
  have HR : Hid (R = Gm.right m ⟨#[111, 114, 101, 108, 115, 101]⟩ s) := hidb HR.out
  go_enter Tryz.func127, Tryz.ntmps127
  go_wp2_with (first
    | (go_at_call 130; refine (pRight hF ⟨#[111, 114, 101, 108, 115, 101]⟩ H.out.at).mono ?_; rintro r1 w1 (⟨er, q, hq, rfl, hbu⟩ | ⟨x, s1, V1, hq, rfl, hs⟩) <;> first | (have HL := hidb hs; have H := hidb (H.out.trans hs); (first | (with_reducible have HR := hidb (HR.out.trans hq)) | have HR := hidb (HR.out.trans (Gm.bind_ok hq)));  clear hs hq) | ((first | (with_reducible have HR := hidb (HR.out.trans hq)) | have HR := hidb (HR.out.trans (Gm.bind_err hq))); have HBU := hidb (but_then H.out.but H.out.own hbu); clear hq hbu)))
  · exact ⟨rfl, .inl ⟨_, _, HR.out, rfl, HBU.out⟩⟩
  · exact bodyPost_ret (v := iv x) (by simp [results, Tryz.results127, go_sem]) rfl (.inr ⟨_, _, _, HR.out, rfl, H.out⟩)

end Go.Proofs.YthdljnakmekhkaaGreatDoor


/- compare, add, mul. -/
namespace Go.Proofs.YthdljnakmekhkaaGreatDoor
open Go.RowKit Go.Lib
attribute [local go_sem] store_float f64bits
attribute [local go_sem ↓] Go.wp_at_zero Go.wp_at_succ
attribute [local go_sem] nd_p tk_k tk_x tk_n tk_f tk_p
variable {B g b o : Nat} {e : PM Nat}

set_option maxHeartbeats 4000000 in
set_option maxRecDepth 100000 in
theorem pIsCmp {P : Nat → Prop} {w : World} {V : Value} {s : PS} (h : At B g b o P w V s) :
    Calls Tryz.prog 136 #[.pointer (some ⟨g, 0, none⟩)] w fun r w' => ((Gm.isCmp (Gm.hd s) = true ∧ r = .returned (.bool true)) ∨ (Gm.isCmp (Gm.hd s) = false ∧ r = .returned (.bool false))) ∧ Below w.heap.size w w' := by
  have HB : Hid (Below w.heap.size w w) := hidb (Below.refl _ _)
  have HA := hidb h
  have HQ : Hid True := hidb trivial
  obtain ⟨t, ht⟩ : ∃ t, Gm.hd s = t := ⟨_, rfl⟩
  have HT := hidb ht
  clear h
  rw [ht]
  clear ht
  go_enter Tryz.func136, Tryz.ntmps136
  go_wp2_with (first
    | (go_at_call 101; refine (sIs _ (HA.out.below HB.out).at).mono ?_; rintro r1 w1 ⟨⟨hq, rfl⟩ | ⟨hq, rfl⟩, hb⟩ <;> (rw [HT.out] at hq; have HQ := hidb (And.intro HQ.out hq); have HB := hidb (HB.out.trans (hb.mono HB.out.size)); clear hb hq)))
  · exact bodyPost_ret (v := .bool true) (by simp [results, Tryz.results136, go_sem]) rfl ⟨.inl ⟨by simp [Gm.isCmp, HQ.out], rfl⟩, HB.out⟩
  · exact bodyPost_ret (v := .bool true) (by simp [results, Tryz.results136, go_sem]) rfl ⟨.inl ⟨by simp [Gm.isCmp, HQ.out], rfl⟩, HB.out⟩
  · exact bodyPost_ret (v := .bool true) (by simp [results, Tryz.results136, go_sem]) rfl ⟨.inl ⟨by simp [Gm.isCmp, HQ.out], rfl⟩, HB.out⟩
  · exact bodyPost_ret (v := .bool true) (by simp [results, Tryz.results136, go_sem]) rfl ⟨.inl ⟨by simp [Gm.isCmp, HQ.out], rfl⟩, HB.out⟩
  · exact bodyPost_ret (v := .bool true) (by simp [results, Tryz.results136, go_sem]) rfl ⟨.inl ⟨by simp [Gm.isCmp, HQ.out], rfl⟩, HB.out⟩
  · exact bodyPost_ret (v := .bool true) (by simp [results, Tryz.results136, go_sem]) rfl ⟨.inl ⟨by simp [Gm.isCmp, HQ.out], rfl⟩, HB.out⟩
  · exact bodyPost_ret (v := .bool true) (by simp [results, Tryz.results136, go_sem]) rfl ⟨.inl ⟨by simp [Gm.isCmp, HQ.out], rfl⟩, HB.out⟩
  · exact bodyPost_ret (v := .bool true) (by simp [results, Tryz.results136, go_sem]) rfl ⟨.inl ⟨by simp [Gm.isCmp, HQ.out], rfl⟩, HB.out⟩
  · exact bodyPost_ret (v := .bool false) (by simp [results, Tryz.results136, go_sem]) rfl ⟨.inr ⟨by simp [Gm.isCmp, HQ.out], rfl⟩, HB.out⟩
theorem hk_of {s : PS} {u : Tk} (hu : Gm.hd s = u) (h : u.k ≠ 8) : (Gm.hd s).k ≠ 8 := hu ▸ h

theorem sIsU (x : ByteArray) {P : Nat → Prop} {w : World} {V : Value} {s : PS} (h : At B g b o P w V s) : Calls Tryz.prog 101 #[.pointer (some ⟨g, 0, none⟩), .string x] w fun e w' => ∃ u, Gm.hd s = u ∧ ((Gm.isM u x = true ∧ e = .returned (.bool true)) ∨ (Gm.isM u x = false ∧ e = .returned (.bool false))) ∧ Below w.heap.size w w' :=
  (sIs x h).mono fun _ _ ⟨h1, h2⟩ => ⟨_, rfl, h1, h2⟩
theorem sIsCmpU {P : Nat → Prop} {w : World} {V : Value} {s : PS} (h : At B g b o P w V s) : Calls Tryz.prog 136 #[.pointer (some ⟨g, 0, none⟩)] w fun e w' => ∃ u, Gm.hd s = u ∧ ((Gm.isCmp u = true ∧ e = .returned (.bool true)) ∨ (Gm.isCmp u = false ∧ e = .returned (.bool false))) ∧ Below w.heap.size w w' :=
  (pIsCmp h).mono fun _ _ ⟨h1, h2⟩ => ⟨_, rfl, h1, h2⟩

set_option maxHeartbeats 2000000 in
set_option maxRecDepth 100000 in
theorem pCompare (hF : FC B g b o 138 (Gm.add e)) {P : Nat → Prop} {w : World} {V : Value} {s : PS} (h : At B g b o P w V s) :
    Calls Tryz.prog 133 #[.pointer (some ⟨g, 0, none⟩)] w fun r w' => Rz B g b o P w V (Gm.compare e s) iv r w' := by
  have H : Hid (St B g b o P w V w V s) := hidb h
  obtain ⟨R, hR⟩ : ∃ R, Gm.compare e s = R := ⟨_, rfl⟩
  rw [hR]
  have HR := hidb hR.symm
  clear hR
  clear h
  go_enter Tryz.func133, Tryz.ntmps133
  go_wp2_with (first
    | (go_at_call 46; refine (sHere H.out.at).mono ?_; rintro r1 w1 ⟨t, hq, rfl, hs, hb⟩; have H := hidb (H.out.below hb); have HR := hidb (HR.out.trans (Gm.bind_here hq)); have Tt := hidb hq; clear hs hb hq)
    | (go_at_call 135; refine (pAppend hF H.out.at).mono ?_; rintro r1 w1 (⟨er, q, hq, rfl, hbu⟩ | ⟨y, s1, V1, hq, rfl, hs⟩) <;> first | (have HL := hidb hs; have H := hidb (H.out.trans hs); (first | (with_reducible have HR := hidb (HR.out.trans hq)) | have HR := hidb (HR.out.trans (Gm.bind_ok hq))); clear hs hq) | ((first | (with_reducible have HR := hidb (HR.out.trans hq)) | have HR := hidb (HR.out.trans (Gm.bind_err hq))); have HBU := hidb (but_then H.out.but H.out.own hbu); clear hq hbu))
    | (go_at_call 136; refine (sIsCmpU H.out.at).mono ?_; rintro r1 w1 ⟨u, hu, ⟨hq, rfl⟩ | ⟨hq, rfl⟩, hb⟩ <;> first | (have HR := hidb ((HR.out.trans (Gm.bind_here hu)).trans (Gm.ite_t hq)); have Tu := hidb hu; have HK := hidb (hk_of hu (Gm.isCmp_k _ hq)); have H := hidb (H.out.below hb); clear hb hq hu) | (have HR := hidb ((HR.out.trans (Gm.bind_here hu)).trans (Gm.ite_f (by simp [hq]))); have H := hidb (H.out.below hb); clear hb hq hu))
    | (go_at_call 50; refine (sNext H.out.at HK.out).mono ?_; rintro r1 w1 ⟨t2, s1, hq, rfl, hs⟩; obtain rfl : u = t2 := Tu.out.symm.trans hq.1; have HC := hidb hq.2; have H := hidb (H.out.trans hs); have HR := hidb (HR.out.trans (Gm.bind_next hq)); clear hs hq)
    | (go_at_call 128; refine (sOpR HR.out (H.out.below (below_new _ _)).at (LR.lit H.out.at _ _ rfl (by simp))).mono ?_; rintro r1 w1 (⟨er, q, hq, rfl, hbu⟩ | ⟨z, s1, V1, hq, rfl, hs⟩) <;> first | (have HL := hidb hs; have H := hidb ((H.out.below (below_new _ _)).trans hs); (have HR := hidb hq);  clear hs hq) | ((have HR := hidb hq); have HBU := hidb (but_then (H.out.below (below_new _ _)).but H.out.own hbu); clear hq hbu)))

  · exact ⟨rfl, .inl ⟨_, _, HR.out, rfl, HBU.out⟩⟩
  · exact ⟨rfl, .inl ⟨_, _, HR.out, rfl, HBU.out⟩⟩
  · exact ⟨rfl, .inl ⟨_, _, HR.out, rfl, HBU.out⟩⟩
  · exact bodyPost_ret (v := iv z) (by simp [results, Tryz.results133, go_sem]) rfl (.inr ⟨_, _, _, HR.out, rfl, H.out⟩)
  · exact bodyPost_ret (v := iv y) (by simp [results, Tryz.results133, go_sem]) rfl (.inr ⟨_, _, _, HR.out, rfl, H.out⟩)

end Go.Proofs.YthdljnakmekhkaaGreatDoor


