/- A copy of the document's tree is laid: what stands while its region draws its order. -/
import Derived.Test.YtejjffgolipdmaaAvZ
import Derived.Test.YtejjffgolipdmaaRgB
namespace Go.Proofs.Ytejjffgolipdmaa
open Go.RowKit Go.Shelf
attribute [local go_sem] Oper.semAt_some
attribute [local go_sem ↓] Go.wp_at_zero Go.wp_at_succ

/-- A row appended to one's own row, be the row nil or not. -/
theorem run_app {w : World} {base n m : Nat} {v x : Value} {xs news : List Value} (ty : TypeId) (hown : w.ownsRow base IT 1 v n xs) (hx : w.ownsRow 0 IT 1 x m news) (h1 : ∀ u ∈ news, u.oneCell' = true)
    (h63 : n + m ≤ 100000) (hbase : base ≤ w.heap.size) :
    ∃ v' w', (Builtin.append_ #[27, 27] ty #[v, x]).run Try.prog w = .ok v' w' ∧ w'.ownsRow base IT 1 v' (n + m) (xs ++ news) ∧ w.grownBy w' v.ownBlock ∧ (v'.ownBlock = v.ownBlock ∨ v'.ownBlock = some w.heap.size) := by
  obtain ⟨i0, hi0, hz0, hz1, hz2⟩ := infoI
  have hxl := hx.1
  rcases hx.2 with ⟨rfl, rfl⟩ | ⟨g, cap, cur, rfl, -⟩
  · obtain ⟨a, c, rfl⟩ := own_sl hown
    have hn : news = [] := List.length_eq_zero_iff.1 (by simpa using hxl)
    subst hn
    refine ⟨_, w, ?_, by simpa using hown, World.grownBy.refl _ _, .inl rfl⟩
    have hle : n ≤ c := by
      rcases hown.2 with ⟨e1, e2⟩ | ⟨g, cap, cur, e1, e2, e3, e4, -⟩
      · cases e1; omega
      · cases e1; exact e4
    have ht := Try.underlying27
    cases a <;> simp [Builtin.append_, run_underlying ht, sizeOf, typeInfo, hi0, hle, Builtin.lenOf, Builtin.firstCells, storeCells]
  · obtain ⟨v', w', a, b, c, -, d⟩ := run_append_own_at (P := Try.prog) w base 27 ty IT i0 (.int .i64 0) 1 8 Try.underlying27 hi0 hz0 hz1 hz2 rfl (by decide) v n xs hown ⟨g, 0, none⟩ m cap news hxl
      (fun j u hj => by
        have hjl := (List.getElem?_eq_some_iff.1 hj).1
        have e1 : (⟨g, 0, none⟩ : Addr).add j = ⟨g, j, none⟩ := by unfold Addr.add; split <;> simp_all
        rw [e1, hx.cellAt j (by omega), hj]) h1 (by unfold maxLen; omega) (by omega) hbase
    exact ⟨v', w', a, b, c, d⟩

theorem step_run {P : Program} {w : World} {ops : Array Oper} {o : Oper} {a : Act} {K : Act → World → Prop} {Q : Exit → Act → World → Prop} {E : Prop} (hgd : o.guard = none) (s x : Operand) (t : TypeId)
    (ho : o.op = .call { callee := .builtin .append, args := #[s, x], argTypes := #[t, t] }) {vs vx v' : Value} {w' : World} (hs : a.eval s = vs) (hx : a.eval x = vx)
    (hr : (Builtin.append_ #[t, t] o.type #[vs, vx]).run P w = .ok v' w') (h : K (a.put o.dst v') w') :
    if Region.wanted o (yielded ops a.tmps) = true then Oper.wp P o a w K Q else E := by
  have hw : Region.wanted o (yielded ops a.tmps) = true := by simp [Region.wanted, hgd]
  rw [if_pos hw]
  unfold Oper.wp execOp
  simp only [ho, resolve, invoke, builtin, Sem.run_bind, Sem.run_pure, Result.andThen_ok, List.map_toArray, List.map_cons, List.map_nil, hs, hx, hr]
  exact h

theorem own_down {w : World} {B n : Nat} {v : Value} {xs : List Value} (h : w.ownsRow B IT 1 v n xs) : w.ownsRow 0 IT 1 v n xs := by
  refine ⟨h.1, ?_⟩
  rcases h.2 with h | ⟨g, cap, cur, h1, h2, h3⟩
  · exact .inl h
  · exact .inr ⟨g, cap, cur, h1, Nat.zero_le _, h3⟩

theorem wp_region_N {P : Program} {ops : Array Oper} {Q : Exit → Act → World → Prop} {id : Nat} {a : Act} {w : World} (S : World → Prop) (D : List Nat) (hm : P.follows .mixedOrders = true)
    (h : wpAnyD P .any ops (fun e a w => e = .normal ∧ Q e a w) S D ops.size (Array.replicate ops.size false) a w.drew) : (Code.region id ops true).wp P Q a w :=
  Code.wp_mono (fun _ _ _ h => h.2) (wp_region_D S D hm h)

def ob (r : Option (Value × List Value)) : Option Nat := r.bind (fun x => x.1.ownBlock)

/-- What has been laid so far: two rows, a box, a variable. -/
structure Cp (w5 W : World) (r1 r2 : Option (Value × List Value)) (bx : Option (Nat × Value × Value)) (vr : Option Nat) : Prop where
  below : Below w5.heap.size w5 W
  own1 : ∀ v xs, r1 = some (v, xs) → W.ownsRow w5.heap.size IT 1 v xs.length xs
  own2 : ∀ v xs, r2 = some (v, xs) → W.ownsRow w5.heap.size IT 1 v xs.length xs
  box : ∀ s a b, bx = some (s, a, b) → Duo W s a b ∧ w5.heap.size ≤ s
  var : ∀ b, vr = some b → W.cell? ⟨b, 0, none⟩ = some (.pointer none) ∧ W.frozen? ⟨b, 0, none⟩ = false ∧ w5.heap.size ≤ b ∧ b < W.heap.size
  d12 : ∀ g, ob r1 = some g → ob r2 ≠ some g
  dB : ∀ s a b, bx = some (s, a, b) → ob r1 ≠ some s ∧ ob r2 ≠ some s
  dV : ∀ b, vr = some b → ob r1 ≠ some b ∧ ob r2 ≠ some b ∧ ∀ s a c, bx = some (s, a, c) → s ≠ b

section
variable {w5 W W' : World} {r1 r2 : Option (Value × List Value)} {bx : Option (Nat × Value × Value)} {vr : Option Nat}

theorem Cp.start (w5 : World) : Cp w5 w5.drew none none none none :=
  ⟨(Below.refl _ _).drew, fun _ _ e => (nomatch e), fun _ _ e => (nomatch e), fun _ _ _ e => (nomatch e), fun _ e => (nomatch e), fun _ e => (nomatch e), fun _ _ _ e => (nomatch e), fun _ e => (nomatch e)⟩

theorem Cp.swap (h : Cp w5 W r1 r2 bx vr) : Cp w5 W r2 r1 bx vr :=
  ⟨h.below, h.own2, h.own1, h.box, h.var, fun g e1 e2 => h.d12 g e2 e1, fun s a b e => ⟨(h.dB s a b e).2, (h.dB s a b e).1⟩, fun b e => ⟨(h.dV b e).2.1, (h.dV b e).1, (h.dV b e).2.2⟩⟩

theorem Cp.lt1 (h : Cp w5 W r1 r2 bx vr) {g : Nat} (e : ob r1 = some g) : w5.heap.size ≤ g ∧ g < W.heap.size := by
  cases r1 with
  | none => cases e
  | some x => exact (h.own1 x.1 x.2 rfl).lt g e
theorem Cp.lt2 (h : Cp w5 W r1 r2 bx vr) {g : Nat} (e : ob r2 = some g) : w5.heap.size ≤ g ∧ g < W.heap.size := h.swap.lt1 e

/-- Row 1 is laid anew or grows: nothing else that was laid changes. -/
theorem Cp.upd (h : Cp w5 W r1 r2 bx vr) {row : Option Nat} (hg : W.grownBy W' row) (hr : ∀ g, row = some g → ob r1 = some g) {v : Value} {xs : List Value} (hown : W'.ownsRow w5.heap.size IT 1 v xs.length xs)
    (hat : v.ownBlock = ob r1 ∨ v.ownBlock = some W.heap.size) : Cp w5 W' (some (v, xs)) r2 bx vr := by
  have hs := hg.size
  have hws := h.below.size
  have hb : But (fun k => row = some k) W W' := But.of_grown hg (fun g e => e)
  refine ⟨h.below.grown hg hws (fun k e => (h.lt1 (hr k e)).1), fun v' xs' e => by cases e; exact hown, fun v' xs' e => ?_, fun s a b e => ?_, fun b e => ?_, fun g e1 e2 => ?_, fun s a b e => ?_, fun b e => ?_⟩
  · exact row_but (h.own2 v' xs' e) hb (fun g e1 e2 => h.d12 g (hr g e2) (by rw [e]; exact e1))
  · have := h.box s a b e
    exact ⟨this.1.but hb (fun e2 => (h.dB s a b e).1 (hr s e2)), this.2⟩
  · have := h.var b e
    have hn : ¬ row = some b := fun e2 => (h.dV b e).1 (hr b e2)
    exact ⟨(hb.cell (p := ⟨b, 0, none⟩) this.2.2.2 hn).trans this.1, (hb.frozen (p := ⟨b, 0, none⟩) this.2.2.2 hn).trans this.2.1, this.2.2.1, by omega⟩
  · have e1' : v.ownBlock = some g := e1
    rcases hat with hh | hh
    · exact h.d12 g (hh ▸ e1') e2
    · have := h.lt2 e2
      rw [hh] at e1'; cases e1'; omega
  · refine ⟨fun e1 => ?_, (h.dB s a b e).2⟩
    have e1' : v.ownBlock = some s := e1
    rcases hat with hh | hh
    · exact (h.dB s a b e).1 (hh ▸ e1')
    · have := (h.box s a b e).1.lt
      rw [hh] at e1'; cases e1'; omega
  · refine ⟨fun e1 => ?_, (h.dV b e).2⟩
    have e1' : v.ownBlock = some b := e1
    rcases hat with hh | hh
    · exact (h.dV b e).1 (hh ▸ e1')
    · have := (h.var b e).2.2.2
      rw [hh] at e1'; cases e1'; omega

theorem Cp.new1 (h : Cp w5 W none r2 bx vr) : Cp w5 (W.alloc (.cells #[] 3)) (some (.slice (some ⟨W.heap.size, 0, none⟩) 0 0, [])) r2 bx vr :=
  h.upd (World.grownBy_alloc W _ none) (fun g e => by cases e) (row_but (World.ownsRow_made W #[] 0 h.below.size (by unfold maxLen; omega) (by simp)) (But.refl (fun _ => False) _) (fun _ _ h => h)) (.inr rfl)

theorem Cp.keepAlloc (h : Cp w5 W r1 r2 bx vr) (o : Obj) : Cp w5 (W.alloc o) r1 r2 bx vr := by
  have hb : But (fun _ => False) W (W.alloc o) := (But.refl _ _).alloc o
  have hws := h.below.size
  refine ⟨h.below.alloc hws o, fun v xs e => row_but (h.own1 v xs e) hb (fun _ _ z => z), fun v xs e => row_but (h.own2 v xs e) hb (fun _ _ z => z), fun s a b e => ⟨(h.box s a b e).1.but hb id, (h.box s a b e).2⟩, fun b e => ?_, h.d12, h.dB, h.dV⟩
  have := h.var b e
  exact ⟨(hb.cell (p := ⟨b, 0, none⟩) this.2.2.2 id).trans this.1, (hb.frozen (p := ⟨b, 0, none⟩) this.2.2.2 id).trans this.2.1, this.2.2.1, by simp; omega⟩

theorem Cp.newBox (h : Cp w5 W r1 r2 none vr) (a b : Value) (t : TypeId) : Cp w5 (W.alloc (.cells #[a, b] t)) r1 r2 (some (W.heap.size, a, b)) vr := by
  have k := h.keepAlloc (.cells #[a, b] t)
  refine ⟨k.below, k.own1, k.own2, fun s a' b' e => ?_, k.var, k.d12, fun s a' b' e => ?_, fun v e => ⟨(k.dV v e).1, (k.dV v e).2.1, fun s a' b' e2 => ?_⟩⟩
  · cases e; exact ⟨Duo.new _ _ _ _, h.below.size⟩
  · cases e; exact ⟨fun e1 => by have := (h.lt1 e1).2; omega, fun e1 => by have := (h.lt2 e1).2; omega⟩
  · cases e2; have := (h.var v e).2.2.2; omega

theorem Cp.newVar (h : Cp w5 W r1 r2 bx none) (t : TypeId) : Cp w5 (W.alloc (.cells #[.pointer none] t)) r1 r2 bx (some W.heap.size) := by
  have k := h.keepAlloc (.cells #[.pointer none] t)
  refine ⟨k.below, k.own1, k.own2, k.box, fun b e => ?_, k.d12, k.dB, fun b e => ?_⟩
  · cases e; exact ⟨by rw [World.cell?_alloc_new]; rfl, World.frozen?_alloc_new _ _ _ _, h.below.size, by simp⟩
  · cases e; exact ⟨fun e1 => by have := (h.lt1 e1).2; omega, fun e1 => by have := (h.lt2 e1).2; omega, fun s a c e2 => by have := (h.box s a c e2).1.lt; omega⟩

/-- The copy, once all is laid. -/
theorem Cp.copy {V1 V2 : Value} {L : List KV} {s : Nat} (h : Cp w5 W (some (V1, ivs (keysOf L))) (some (V2, ivs (valsOf L))) (some (s, V1, V2)) vr) :
    RB W s (fun k => V1.ownBlock = some k ∨ V2.ownBlock = some k) L := by
  have h1 := h.own1 _ _ rfl
  have h2 := h.own2 _ _ rfl
  have hb := h.box _ _ _ rfl
  have hd := h.dB _ _ _ rfl
  have l1 : (ivs (keysOf L)).length = L.length := by simp [ivs, keysOf]
  have l2 : (ivs (valsOf L)).length = L.length := by simp [ivs, valsOf]
  rw [l1] at h1
  rw [l2] at h2
  refine ⟨V1, V2, hb.1, own_down h1, own_down h2, fun g e => ⟨.inl e, fun e2 => hd.1 (by subst e2; exact e), h.d12 g e⟩, fun g e => ⟨.inr e, fun e2 => hd.2 (by subst e2; exact e)⟩⟩
end
end Go.Proofs.Ytejjffgolipdmaa
