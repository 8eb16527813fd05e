import Derived.Test.YtdpfmmbfidknfaaGreatDoorG41
import Derived.Defers
import Derived.Recover
/- treeOf: what it recovers. -/
namespace Go.Proofs.YtdpfmmbfidknfaaGreatDoor
open Go.RowKit Go.Lib
attribute [local go_sem] store_float f64bits
attribute [local go_sem ↓] Go.wp_at_zero Go.wp_at_succ

set_option maxHeartbeats 2000000 in
set_option maxRecDepth 100000 in
theorem catch_idle (p q : Nat) (w : World) :
    CallsD Tryz.prog 17 #[.pointer (some ⟨p, 0, none⟩), .pointer (some ⟨q, 0, none⟩)] .returning w fun e u' w' => e = .returned (.tuple #[]) ∧ u' = .returning ∧ w' = w := by
  refine callsD_of_wpS Tryz.func17 rfl fun c₀ cs hu => ?_
  apply wpS_seq
  apply wpS_region
  simp [wpOpsS, go_sem, recoverD, hu, Tryz.ntmps17, Exit.thenS]
  refine wpS_of_wp ?_
  go_wp2_with fail
  cases c₀
  simp_all [bodyPostS, results, Tryz.results17]

theorem ta_fault (v : Value) (w : World) : (Instr.typeAssert (.iface FT v) 20 FT true).run Tryz.prog w = .ok (.tuple #[v, .bool true]) w := by kernel_rfl
attribute [local go_sem] ta_fault

set_option maxHeartbeats 4000000 in
set_option maxRecDepth 100000 in
theorem catch_fault (p q : Nat) (hne : p ≠ q) (er : Int) (pp : Nat) (older : List PanicEntry) (v0 v1 v2 v3 : Value) (w : World) (hp : Duo w p v0 v1) (hq : Duo w q v2 v3) :
    CallsD Tryz.prog 17 #[.pointer (some ⟨p, 0, none⟩), .pointer (some ⟨q, 0, none⟩)] (.panicking ({ v := .iface FT (.agg #[.int .i64 er, .int .i64 (pp : Int)]), recovered := false } :: older)) w fun e u' w' =>
      e = .returned (.tuple #[]) ∧ u' = .panicking ({ v := .iface FT (.agg #[.int .i64 er, .int .i64 (pp : Int)]), recovered := true } :: older) ∧ Duo w' p (.slice none 0 0) (.int .i64 0) ∧ Duo w' q (.int .i64 er) (.int .i64 (pp : Int)) ∧ But (fun k => k = p ∨ k = q) w w' := by
  refine callsD_of_wpS Tryz.func17 rfl fun c₀ cs hu => ?_
  apply wpS_seq
  apply wpS_region
  simp [wpOpsS, go_sem, recoverD, hu, Tryz.ntmps17, Exit.thenS]
  refine wpS_of_wp ?_
  have c0 := hp.c0; have c1 := hp.c1; have f0 := hp.f0; have f1 := hp.f1
  have d0 := hq.c0; have d1 := hq.c1; have g0 := hq.f0; have g1 := hq.f1
  have hpl := hp.lt
  have hql := hq.lt
  have HP := hidb hp
  have HQ := hidb hq
  clear hp hq
  go_wp2_with fail
  go_region_law (fail)
  all_goals (
    have b1 : But (· = p) w ((w.setCell ⟨p, 0, none⟩ (.slice none 0 0)).setCell ⟨p, 1, none⟩ (.int .i64 0)) := ((But.refl (· = p) w).setCell (p := ⟨p, 0, none⟩) (fun _ => rfl) _).setCell (p := ⟨p, 1, none⟩) (fun _ => rfl) _
    have e1 := (HP.out.set0 (.slice none 0 0)).set1 (.int .i64 0)
    have e2 := HQ.out.but b1 (fun e => hne e.symm)
    have b2 : But (· = q) ((w.setCell ⟨p, 0, none⟩ (.slice none 0 0)).setCell ⟨p, 1, none⟩ (.int .i64 0)) ((((w.setCell ⟨p, 0, none⟩ (.slice none 0 0)).setCell ⟨p, 1, none⟩ (.int .i64 0)).setCell ⟨q, 0, none⟩ (.int .i64 er)).setCell ⟨q, 1, none⟩ (.int .i64 (pp : Int))) := ((But.refl (· = q) _).setCell (p := ⟨q, 0, none⟩) (fun _ => rfl) _).setCell (p := ⟨q, 1, none⟩) (fun _ => rfl) _
    have e3 := e1.but b2 hne
    have e4 := (e2.set0 (.int .i64 er)).set1 (.int .i64 (pp : Int))
    have b3 := (b1.mono (S' := fun k => k = p ∨ k = q) (fun _ _ h => .inl h)).trans (b2.mono (fun _ _ h => .inr h))
    exact ⟨rfl, _, rfl, .tuple #[], by simp [results, Tryz.results17], rfl, rfl, e3.keep (Below.drew (below_new _ _)), e4.keep (Below.drew (below_new _ _)), (b3.alloc _).drew⟩)

end Go.Proofs.YtdpfmmbfidknfaaGreatDoor


/- treeOf. -/
namespace Go.Proofs.YtdpfmmbfidknfaaGreatDoor
open Go.RowKit Go.Lib
attribute [local go_sem] store_float f64bits
attribute [local go_sem ↓] Go.wp_at_zero Go.wp_at_succ

/-- Nodes that lie in memory of the call's own. -/
structure Nodes (w : World) (B : Nat) (V : Value) (ns : List Nd) : Prop where
  ex : ∃ vs : List Value, vs.length = ns.length ∧ w.ownsRow B NT 6 V ns.length (ndCells ns vs) ∧ ∀ (i : Nat) (n : Nd) (v : Value), ns[i]? = some n → vs[i]? = some v → LRow w v n.l ∧ ∀ k, v.ownBlock = some k → B ≤ k
  few : ns.length ≤ 16384
theorem NS.nodes {w : World} {B g b : Nat} {P : Nat → Prop} {V : Value} {ns : List Nd} (h : NS w B g b P V ns) (hP : ∀ k, k < B → P k) : Nodes w B V ns := by
  obtain ⟨⟨vs, h1, h2, h3⟩, _, _, h4⟩ := h
  exact ⟨⟨vs, h1, h2, fun i n v hi hv => ⟨(h3 i n v hi hv).1, fun k hk => Nat.le_of_not_lt fun hl => ((h3 i n v hi hv).2.2 k hk).2 (hP k hl)⟩⟩, h4⟩

theorem Nodes.but {S : Nat → Prop} {w w' : World} {B : Nat} {V : Value} {ns : List Nd} (h : Nodes w B V ns) (hb : But S w w') (hS : ∀ k, S k → k < B) : Nodes w' B V ns := by
  obtain ⟨⟨vs, h1, h2, h3⟩, h4⟩ := h
  refine ⟨⟨vs, h1, row_but h2 hb (fun k hk hs => ?_), fun i n v hi hv => ⟨(h3 i n v hi hv).1.but hb (fun k hk hs => ?_), (h3 i n v hi hv).2⟩⟩, h4⟩
  · have := (h2.lt k hk).1
    have := hS k hs
    omega
  · have := (h3 i n v hi hv).2 k hk
    have := hS k hs
    omega
theorem Nodes.base {w : World} {B B' : Nat} {V : Value} {ns : List Nd} (h : Nodes w B V ns) (hB : B' ≤ B) : Nodes w B' V ns := by
  obtain ⟨⟨vs, h1, h2, h3⟩, h4⟩ := h
  exact ⟨⟨vs, h1, row_base h2 hB, fun i n v hi hv => ⟨(h3 i n v hi hv).1, fun k hk => Nat.le_trans hB ((h3 i n v hi hv).2 k hk)⟩⟩, h4⟩
/-- Two boxes that are written. -/
abbrev put4 (w : World) (p q : Nat) (a b c d : Value) : World := (((w.setCell ⟨p, 0, none⟩ a).setCell ⟨p, 1, none⟩ b).setCell ⟨q, 0, none⟩ c).setCell ⟨q, 1, none⟩ d
theorem put4_all {w : World} {p q : Nat} {v0 v1 v2 v3 : Value} (hp : Duo w p v0 v1) (hq : Duo w q v2 v3) (hne : p ≠ q) (a b c d : Value) : Duo (put4 w p q a b c d) p a b ∧ Duo (put4 w p q a b c d) q c d ∧ But (fun k => k = p ∨ k = q) w (put4 w p q a b c d) := by
  have b1 : But (· = p) w ((w.setCell ⟨p, 0, none⟩ a).setCell ⟨p, 1, none⟩ b) := ((But.refl (· = p) w).setCell (p := ⟨p, 0, none⟩) (fun _ => rfl) _).setCell (p := ⟨p, 1, none⟩) (fun _ => rfl) _
  have e1 := (hp.set0 a).set1 b
  have e2 := hq.but b1 (fun e => hne e.symm)
  have b2 : But (· = q) ((w.setCell ⟨p, 0, none⟩ a).setCell ⟨p, 1, none⟩ b) (put4 w p q a b c d) := ((But.refl (· = q) _).setCell (p := ⟨q, 0, none⟩) (fun _ => rfl) _).setCell (p := ⟨q, 1, none⟩) (fun _ => rfl) _
  exact ⟨e1.but b2 hne, (e2.set0 c).set1 d, (b1.mono (S' := fun k => k = p ∨ k = q) (fun _ _ h => .inl h)).trans (b2.mono (fun _ _ h => .inr h))⟩

def treeP (ts : List Tk) : Except (Int × Nat) (Nat × PS) := Gm.module (Gm.expr 201) ⟨ts, [], 0⟩

/-- What treeOf has told. -/
def TreeR (w : World) (ts : List Tk) (e : Ending) (w' : World) : Prop :=
  Below w.heap.size w w' ∧
  ((∃ er p, treeP ts = .error (er, p) ∧ e = .returned (.tuple #[.agg #[.slice none 0 0, .int .i64 0], .agg #[.int .i64 er, .int .i64 ((p : Nat) : Int)]])) ∨
   (∃ r s V, treeP ts = .ok (r, s) ∧ e = .returned (.tuple #[.agg #[V, iv r], .agg #[.int .i64 0, .int .i64 0]]) ∧ Nodes w' w.heap.size V s.ns))

theorem st_cell1 {B g b o : Nat} {P : Nat → Prop} {w0 w : World} {V0 V : Value} {s : PS} (h : St B g b o P w0 V0 w V s) : w.cell? ⟨g, 1, none⟩ = some V := by
  obtain ⟨⟨i, cap, hT, _⟩, _⟩ := h.pb
  exact hT.c1
theorem st_sl {B g b o : Nat} {P : Nat → Prop} {w0 w : World} {V0 V : Value} {s : PS} (h : St B g b o P w0 V0 w V s) : ∃ a m c, V = .slice a m c := by
  obtain ⟨⟨vs, _, ho, _⟩, _⟩ := h.ns
  rcases ho.2 with ⟨hv, _⟩ | ⟨q, cap, cur, hv, _⟩
  · exact ⟨_, _, _, hv⟩
  · exact ⟨_, _, _, hv⟩

set_option maxHeartbeats 4000000 in
set_option maxRecDepth 100000 in
theorem treeOf_any {ts : List Tk} {b i cap : Nat} {w : World} (hT : Tks w b i ts) (hc : ts.length ≤ cap) (hb : b < w.heap.size) (hne : Ne ⟨ts, [], 0⟩) (hl : ts.length ≤ 100000) :
    Calls Tryz.prog 13 #[.slice (some ⟨b, i, none⟩) ts.length cap] w fun e w' => TreeR w ts e w' := by
  have hmf : ∀ (fn : Fn) (first cap : Array Value) (w : World), (Instr.makeFunc fn first cap).run Tryz.prog w = .ok (.func fn first cap) w := fun _ _ _ _ => rfl
  obtain ⟨W3, hW3⟩ : ∃ W3, (((w.alloc (.cells #[.slice none 0 0, .int .i64 0] 25)).alloc (.cells #[.int .i64 0, .int .i64 0] 28)).alloc (.cells #[.slice (some ⟨b, i, none⟩) ts.length cap, .slice none 0 0, .int .i64 0] 55)) = W3 := ⟨_, rfl⟩
  have hB3 : Below w.heap.size w W3 := by rw [← hW3]; exact (((Below.refl _ _).alloc (Nat.le_refl _) _).alloc (by simp) _).alloc (by simp; omega) _
  have hZ3 : W3.heap.size = w.heap.size + 1 + 1 + 1 := by rw [← hW3]; simp
  have hTri : Tri W3 (w.heap.size + 1 + 1) (.slice (some ⟨b, i, none⟩) ts.length cap) (.slice none 0 0) (.int .i64 0) := by
    rw [← hW3]
    have := Tri.new ((w.alloc (.cells #[.slice none 0 0, .int .i64 0] 25)).alloc (.cells #[.int .i64 0, .int .i64 0] 28)) 55 (.slice (some ⟨b, i, none⟩) ts.length cap) (.slice none 0 0) (.int .i64 0)
    simpa using this
  have hD1 : Duo W3 w.heap.size (.slice none 0 0) (.int .i64 0) := by rw [← hW3]; exact ((Duo.new w _ _ _).keep (below_new _ _)).keep (below_new _ _)
  have hD2 : Duo W3 (w.heap.size + 1) (.int .i64 0) (.int .i64 0) := by
    rw [← hW3]
    have := (Duo.new (w.alloc (.cells #[.slice none 0 0, .int .i64 0] 25)) FT (.int .i64 0) (.int .i64 0)).keep (below_new _ (.cells #[.slice (some ⟨b, i, none⟩) ts.length cap, .slice none 0 0, .int .i64 0] 55))
    simpa using this
  have hAt : At w.heap.size (w.heap.size + 1 + 1) b 0 (fun k => k < w.heap.size + 1 + 1) W3 (.slice none 0 0) ⟨ts, [], 0⟩ := by
    refine ⟨⟨⟨i, cap, hTri, hc, hT.but (But.of_below (S := fun _ => False) hB3) hb (fun h => h)⟩, by omega, by omega⟩, ⟨⟨[], rfl, World.ownsRow_nil _ _ _ _, by simp⟩, by simp [Value.ownBlock], by simp [Value.ownBlock], by simp⟩, by omega, hne, rfl, But.refl _ _, .inl rfl, fun k hk => by omega, fun k hk => ⟨by simp [Value.ownBlock], by omega⟩, hl⟩
  have HA := hidb hAt
  have HW3 := hidb hW3
  have HB3 := hidb hB3
  have HD1 := hidb hD1
  have HD2 := hidb hD2
  have HZ3 := hidb hZ3
  obtain ⟨R, hR⟩ : ∃ R, treeP ts = R := ⟨_, rfl⟩
  have HR : Hid (R = Gm.module (Gm.expr 201) ⟨ts, [], 0⟩) := hidb hR.symm
  have hTR : ∀ e w', (Below w.heap.size w w' ∧ ((∃ er p, R = .error (er, p) ∧ e = .returned (.tuple #[.agg #[.slice none 0 0, .int .i64 0], .agg #[.int .i64 er, .int .i64 ((p : Nat) : Int)]])) ∨ (∃ r s V, R = .ok (r, s) ∧ e = .returned (.tuple #[.agg #[V, iv r], .agg #[.int .i64 0, .int .i64 0]]) ∧ Nodes w' w.heap.size V s.ns))) → TreeR w ts e w' := by
    intro e w' h
    rw [← hR] at h
    exact h
  have HTR := hidb hTR
  obtain ⟨PP, hPP⟩ : ∃ PP : Ending → World → Prop, (fun e w' => TreeR w ts e w') = PP := ⟨_, rfl⟩
  have HPP := hidb (fun e w' h => (congrFun (congrFun hPP e) w') ▸ hTR e w' h : ∀ e w', (Below w.heap.size w w' ∧ ((∃ er p, R = .error (er, p) ∧ e = .returned (.tuple #[.agg #[.slice none 0 0, .int .i64 0], .agg #[.int .i64 er, .int .i64 ((p : Nat) : Int)]])) ∨ (∃ r s V, R = .ok (r, s) ∧ e = .returned (.tuple #[.agg #[V, iv r], .agg #[.int .i64 0, .int .i64 0]]) ∧ Nodes w' w.heap.size V s.ns))) → PP e w')
  rw [hPP]
  clear hW3 hAt hB3 hD1 hD2 hTri hT hR hTR hPP hZ3 hne HTR
  go_enter_defers Tryz.func13, Tryz.ntmps13
  go_wp2_with (go_at_call 18; go_loud (rw [HW3.out]); go_loud (refine (pModule (ec_expr 200 0 rfl) HA.out).mono ?_); rintro r1 w4 (⟨er, q, hq, rfl, hbu⟩ | ⟨r, s1, V1, hq, rfl, hs⟩) <;> first | (have HR1 := hidb (HR.out.trans hq); have H1 := hidb hs; obtain ⟨va, vm, vc, rfl⟩ := st_sl hs; have c1 := st_cell1 hs; obtain ⟨y0, y1, z0, z1, -⟩ := HD1.out.but hs.but (by simp [Value.ownBlock]; omega); obtain ⟨y2, y3, z2, z3, -⟩ := HD2.out.but hs.but (by simp [Value.ownBlock]); clear hs hq) | (have HR1 := hidb (HR.out.trans hq); have HBU := hidb hbu; clear hq hbu))
  · have hz := HZ3.out
    refine leaves_cons (f := 17) (args := #[.pointer (some ⟨w.heap.size, 0, none⟩), .pointer (some ⟨w.heap.size + 1, 0, none⟩)]) (by simp) (by simp [go_sem]) ?_
    refine (catch_fault w.heap.size (w.heap.size + 1) (by omega) er q [] _ _ _ _ w4 (HD1.out.but HBU.out (by simp [Value.ownBlock]; omega)) (HD2.out.but HBU.out (by simp [Value.ownBlock]))).mono ?_
    rintro e u' w5 ⟨rfl, rfl, d1, d2, b5⟩
    have k0 := d1.c0; have k1 := d1.c1; have k2 := d2.c0; have k3 := d2.c1
    have hb4 : Below w.heap.size W3 w4 := HBU.out.below (by omega) (fun k hk => by simp [Value.ownBlock] at hk; omega)
    have hb5 : Below w.heap.size w4 w5 := b5.below (by have := hb4.size; omega) (fun k hk => by omega)
    have hfin := HPP.out (.returned (.tuple #[.agg #[.slice none 0 0, .int .i64 0], .agg #[.int .i64 er, .int .i64 ((q : Nat) : Int)]])) w5 ⟨(HB3.out.trans hb4).trans hb5, .inl ⟨er, q, HR1.out, rfl⟩⟩
    have HF := hidb hfin
    clear hfin hb4 hb5 d1 d2 b5
    simp [Leaves, settle, results, Tryz.results13, go_sem, k0, k1, k2, k3]
    exact HF.out
  · have hz := HZ3.out
    refine leaves_cons (f := 17) (args := #[.pointer (some ⟨w.heap.size, 0, none⟩), .pointer (some ⟨w.heap.size + 1, 0, none⟩)]) (by simp) (by simp [go_sem]) ?_
    refine (catch_idle w.heap.size (w.heap.size + 1) _).mono ?_
    rintro e u' w5 ⟨rfl, rfl, rfl⟩
    have e1 := ((HD1.out.but H1.out.but (by simp [Value.ownBlock]; omega)).set0 (.slice va vm vc)).set1 (iv r)
    have b1 : But (· = w.heap.size) w4 ((w4.setCell ⟨w.heap.size, 0, none⟩ (.slice va vm vc)).setCell ⟨w.heap.size, 1, none⟩ (iv r)) := ((But.refl (· = w.heap.size) w4).setCell (p := ⟨w.heap.size, 0, none⟩) (fun _ => rfl) _).setCell (p := ⟨w.heap.size, 1, none⟩) (fun _ => rfl) _
    have e2 := (HD2.out.but H1.out.but (by simp [Value.ownBlock])).but b1 (by simp)
    have e4 := (e2.set0 (.int .i64 0)).set1 (.int .i64 0)
    have b2 : But (· = w.heap.size + 1) ((w4.setCell ⟨w.heap.size, 0, none⟩ (.slice va vm vc)).setCell ⟨w.heap.size, 1, none⟩ (iv r)) ((((w4.setCell ⟨w.heap.size, 0, none⟩ (.slice va vm vc)).setCell ⟨w.heap.size, 1, none⟩ (iv r)).setCell ⟨w.heap.size + 1, 0, none⟩ (.int .i64 0)).setCell ⟨w.heap.size + 1, 1, none⟩ (.int .i64 0)) := ((But.refl (· = w.heap.size + 1) _).setCell (p := ⟨w.heap.size + 1, 0, none⟩) (fun _ => rfl) _).setCell (p := ⟨w.heap.size + 1, 1, none⟩) (fun _ => rfl) _
    have e3 := e1.but b2 (by omega)
    have b3 := (b1.mono (S' := fun k => k = w.heap.size ∨ k = w.heap.size + 1) (fun _ _ h => .inl h)).trans (b2.mono (fun _ _ h => .inr h))
    have hnd := (H1.out.ns.but b3 (fun k hk he => (H1.out.npv k (by omega)).1 hk) (fun k he => .inr (.inr (by omega)))).nodes (fun k hk => by omega)
    generalize hW5 : ((((w4.setCell ⟨w.heap.size, 0, none⟩ (.slice va vm vc)).setCell ⟨w.heap.size, 1, none⟩ (iv r)).setCell ⟨w.heap.size + 1, 0, none⟩ (.int .i64 0)).setCell ⟨w.heap.size + 1, 1, none⟩ (.int .i64 0)) = W5 at *
    have k0 := e3.c0; have k1 := e3.c1; have k2 := e4.c0; have k3 := e4.c1
    have hb4 : Below w.heap.size W3 w4 := H1.out.but.below (by omega) (fun k hk => by simp [Value.ownBlock] at hk; omega)
    have hb5 : Below w.heap.size w4 W5 := b3.below (by have := hb4.size; omega) (fun k hk => by omega)
    have hfin := HPP.out (.returned (.tuple #[.agg #[.slice va vm vc, iv r], .agg #[.int .i64 0, .int .i64 0]])) W5 ⟨(HB3.out.trans hb4).trans hb5, .inr ⟨r, s1, _, HR1.out, rfl, hnd⟩⟩
    have HF := hidb hfin
    clear hfin hb4 hb5 hnd b1 b2 b3 e1 e2 e3 e4 hW5
    simp [Leaves, settle, results, Tryz.results13, go_sem, k0, k1, k2, k3]
    exact HF.out
end Go.Proofs.YtdpfmmbfidknfaaGreatDoor


