import Derived.Test.YtceigdeoefhcfaaGreatG32
import Derived.Deep.RegionHeld3
import Derived.Deep.RegionWith
import Derived.BigQuiet
import Derived.WalkSmall
import Derived.Deep.RegionHeld
/- MonsDown: moves 3 and 4, walked. -/
namespace Go.Proofs.YtceigdeoefhcfaaGreat
open Go.RowKit Go.Lib
open MV (Hf hf0 getL insL delL Rise Wfk TB Nw Rst KV MnT mvs)
attribute [local go_sem] store_float f64bits
attribute [local go_sem ↓] Go.wp_at_zero Go.wp_at_succ

variable {Yg : Nat → Prop} {wG : World} {w0 w w' : World} {wb ta tb eb N refs : Nat} {O T O' T' : List KV} {p q : List Sg} {dead : Bool} {dn : List Nat}
/-- What taking in tells. -/
def DoQ (Yg : Nat → Prop) (wG : World) (g : Int → Prop) (i pl ql : Nat) (w0 : World) (wb ta tb eb : Nat) (e : Ending) (w' : World) : Prop := e = .returned (.tuple #[]) ∧ ∃ O T p q dead refs dn N, DL Yg wG NoX w0 w' wb ta tb eb O T p q dead refs dn N ∧ Iv g i O T p q dead refs dn N ∧ p.length = pl ∧ q.length ≤ ql
theorem DoQ.r {g : Int → Prop} {i pl ql : Nat} {e : Ending} (h : DoQ Yg wG g i pl ql w0 wb ta tb eb e w) : DoR Yg wG g (i + 1) w0 wb ta tb eb e w := by
  obtain ⟨rfl, O, T, p, q, dead, refs, dn, N, h1, h2, -, -⟩ := h
  exact ⟨rfl, O, T, p, q, dead, refs, dn, N, h1, h2.next⟩
theorem dvs_set (l : List Nat) (n c : Nat) : (dvs l).set n (.int .i64 (c : Int)) = dvs (l.set n c) := by simp [dvs, List.map_set]
theorem DL.bump (h : DL Yg wG NoX w0 w wb ta tb eb O T p q dead refs dn N) {gv cap n c : Nat} (hV : w.cell? ⟨wb, 5, none⟩ = some (.slice (some ⟨gv, 0, none⟩) dn.length cap)) : DL Yg wG NoX w0 (w.setCell ⟨gv, n, none⟩ (.int .i64 (c : Int))) wb ta tb eb O T p q dead refs (dn.set n c) N := by
  obtain ⟨V9, hS9, hR9, -, hV9⟩ := h.box
  obtain rfl : (Value.slice (some ⟨gv, 0, none⟩) dn.length cap) = V9 := by have := hV.symm.trans hS9.c5; simpa using this
  refine h.setb dead refs (V' := .slice (some ⟨gv, 0, none⟩) dn.length cap) (dn' := dn.set n c) (fun V0 hS0 hR0 => ?_)
  obtain rfl : (Value.slice (some ⟨gv, 0, none⟩) dn.length cap) = V0 := by have := hV.symm.trans hS0.c5; simpa using this
  have hb : But (fun k => k = gv) w (w.setCell ⟨gv, n, none⟩ (.int .i64 (c : Int))) := (But.refl (fun k => k = gv) w).setCell (p := ⟨gv, n, none⟩) (fun _ => rfl) _
  refine ⟨hS0.but hb (fun e => (hV9 gv rfl).2 e.symm), ?_, hb.mono (fun k _ e => .inr (by rw [show k = gv from e]; rfl)), fun g e => .inl e⟩
  have h9 := (hR0.stored n (.int .i64 (c : Int))).1
  rw [dvs_set] at h9
  simpa using h9
theorem DL.row (h : DL Yg wG NoX w0 w wb ta tb eb O T p q dead refs dn N) {n c : Nat} (hc : dn[n]? = some c) : ∃ gv cap, w.cell? ⟨wb, 5, none⟩ = some (.slice (some ⟨gv, 0, none⟩) dn.length cap) ∧ w.cell? ⟨gv, n, none⟩ = some (.int .i64 (c : Int)) ∧ w.frozen? ⟨gv, n, none⟩ = false ∧ gv < w.heap.size ∧ gv ≠ wb := by
  obtain ⟨V9, hS9, hR9, -, hV9⟩ := h.box
  have hn := (List.getElem?_eq_some_iff.1 hc).1
  rcases hR9.2 with ⟨rfl, h0⟩ | ⟨g, cap, cur, rfl, -⟩
  · omega
  · refine ⟨g, cap, hS9.c5, ?_, MV.row_free hR9 _, (hR9.lt g rfl).2, (hV9 g rfl).2⟩
    rw [hR9.cellAt n (by omega)]
    simp [dvs, hc]

def sgb (x y : Int) (s : Sg) : Obj := .cells #[.int .i64 x, .int .i64 y, .int .i64 s.k, .int .i64 0, .int .i64 s.r, .bool false, .string ⟨#[]⟩, .int .i64 s.tk, .int .i64 0, .float .f64 0, .string s.ts, .slice none 0 0] 64

set_option maxRecDepth 100000 in
set_option maxHeartbeats 8000000 in
theorem does3_none {g : Int → Prop} {i : Nat} (h : DL Yg wG NoX w0 w wb ta tb eb O T p [] dead refs dn N) (hi : Iv g i O T p [] dead refs dn N) (rf : Int) :
    Calls Tryz.prog 7 #[.pointer (some ⟨wb, 0, none⟩), .agg #[.int .i64 3, .int .i64 rf]] w (DoQ Yg wG g i p.length 0 w0 wb ta tb eb) := by
  have hbs := hi.bs
  obtain ⟨W1, hW1⟩ : ∃ W1, w.alloc (.cells #[.int .i64 3, .int .i64 rf] 34) = W1 := ⟨_, rfl⟩
  have hb1 : Below w.heap.size w W1 := hW1 ▸ below_new _ _
  have hD1 : Duo W1 w.heap.size (.int .i64 3) (.int .i64 rf) := hW1 ▸ Duo.new _ _ _ _
  have hlw : w.heap.size < W1.heap.size := by rw [← hW1]; simp
  have hnw : w.heap.size ≠ W1.heap.size := by omega
  obtain ⟨V0, hS0, -, -, -⟩ := h.box
  have hwl := hS0.lt
  have hwl1 : wb < W1.heap.size := by omega
  have hwn : wb ≠ w.heap.size := by omega
  have hwn1 : wb ≠ W1.heap.size := by omega
  have hS1 := hS0.own hb1
  have n0 := hD1.c0
  have n1 := hD1.c1
  have k0 := hS1.c0; have k1 := hS1.c1; have k2 := hS1.c2; have k3 := hS1.c3
  have HB1 := hidb hb1
  have CT : Hid (Calls Tryz.prog 16 #[.pointer (some ⟨eb, 0, none⟩), .int .i64 2, .int .i64 1] W1 fun e w2 => e = .returned (.tuple #[zsig, .bool false]) ∧ Hid (∀ W', Below w2.heap.size w2 W' → DL Yg wG NoX w0 W' wb ta tb eb O T p [] dead refs dn N)) := hidb ((h.keep hb1).none21.mono (by
    rintro e w2 ⟨rfl, hb2⟩
    exact ⟨rfl, hidb (fun W' hb => ((h.keep hb1).keep hb2).keep hb)⟩))
  have HIV := hidb hi
  clear hS0 hS1 hD1 hb1 h hbs hi
  go_enter Tryz.func7, Tryz.ntmps7
  go_wp2_with (go_at_call 16; refine CT.out.mono ?_; rintro e w2 ⟨rfl, HR⟩)
  exact bodyPost_end (v := .tuple #[]) (by simp [results, Tryz.results7, go_sem]) rfl ⟨rfl, _, _, _, _, _, _, _, _, HR.out _ (by (repeat (first | exact Below.refl _ _ | assumption | refine Below.drew ?_ | refine below_drewN ?_ _ | refine Below.setCell ?_ (by simp) _ | refine Below.alloc ?_ (by (first | exact Nat.le_refl _ | (simp; done) | (simp; omega) | omega)) _ | refine Below.trans ?_ (Below.mono (by assumption) (by first | exact Nat.le_refl _ | (simp; done) | (simp; omega) | omega))))), HIV.out, rfl, Nat.le_refl _⟩

end Go.Proofs.YtceigdeoefhcfaaGreat


/- A region that draws its order, where a condition on memory holds until its last operation, which waits for all others. -/
namespace Go.Proofs.YtceigdeoefhcfaaGreat

section
variable {P : Program} {ops : Array Oper} {md : Region.Mode} {Q : Exit → Act → World → Prop} {S : World → Prop} {D : List Nat}

/-- Whatever order is picked from here on, and S holds behind every operation that is carried out and is not one of D. -/
def wpAnyD (P : Program) (md : Region.Mode) (ops : Array Oper) (Q : Exit → Act → World → Prop) (S : World → Prop) (D : List Nat) : Nat → Array Bool → Act → World → Prop
  | 0, listed, a, w => Region.ready md ops listed = [] ∧ Q .normal a w
  | fuel + 1, listed, a, w =>
    (Region.ready md ops listed = [] → Q .normal a w) ∧
    ∀ i ∈ Region.ready md ops listed, wpOp P ops Q i (fun a' w' => (i ∉ D → S w') ∧ wpAnyD P md ops Q S D fuel (listed.setIfInBounds i true) a' w') a w

theorem wpAny_of_D : ∀ (fuel : Nat) (listed : Array Bool) (a : Act) (w : World), wpAnyD P md ops Q S D fuel listed a w → wpAny P md ops Q fuel listed a w
  | 0, _, _, _, h => h
  | fuel + 1, _, _, _, h => ⟨h.1, fun i hi => wpOp_mono (fun a' w' h' => wpAny_of_D fuel _ a' w' h'.2) (h.2 i hi)⟩

/-- Does operation d wait for i? -/
def waitsB (md : Region.Mode) (ops : Array Oper) (i d : Nat) : Bool := ((ops[d]?).map fun o => o.after.any fun e => Region.binds md e && e.on == i).getD false

theorem waitsB_ready {i d : Nat} {listed : Array Bool} (h : waitsB md ops i d = true) (hr : d ∈ Region.ready md ops listed) : listed.getD i false = true := by
  obtain ⟨_, o, ho, hall⟩ := mem_ready.1 hr
  unfold waitsB at h
  rw [ho] at h
  simp only [Option.map_some, Option.getD_some] at h
  obtain ⟨e, he, hb⟩ := Array.any_eq_true'.1 h
  simp only [Bool.and_eq_true, beq_iff_eq] at hb
  have := hall e he hb.1
  rwa [hb.2] at this

theorem wpAnyD_first {i : Nat} {oi : Oper} {v : Value} (hi : ops[i]? = some oi) (hsel : ∀ (j : Nat) (o : Oper) cs b, ops[j]? = some o → o.op ≠ .select cs b)
    (hQ : ∀ c a w, Q (.panic c) (a.put oi.dst v) w → Q (.panic c) a w) (hD : ∀ d, d ∈ D → waitsB md ops i d = true) :
    ∀ (fuel : Nat) (listed : Array Bool) (a : Act) (w : World),
      (∀ j oj, ops[j]? = some oj → j ≠ i → listed.getD j true = false → (∀ e ∈ oj.after, Region.binds md e = true → e.on ≠ i) → oi.apart ops oj = true) →
      i ∈ Region.ready md ops listed → YieldsIf P ops S oi v a → S w →
      wpAnyD P md ops Q S D fuel (listed.setIfInBounds i true) (a.put oi.dst v) w → wpAnyD P md ops Q S D (fuel + 1) listed a w := by
  intro fuel
  induction fuel with
  | zero =>
    intro listed a w _ hr hy hS H
    refine ⟨fun h => (by rw [h] at hr; cases hr), fun j hj => ?_⟩
    by_cases hji : j = i
    · subst hji; exact hy.wpOp hi hS ⟨fun _ => hS, H⟩
    · have := ready_mono hj hji
      rw [H.1] at this
      cases this
  | succ fuel ih =>
    intro listed a w hfree hr hy hS H
    refine ⟨fun h => (by rw [h] at hr; cases hr), fun j hj => ?_⟩
    by_cases hji : j = i
    · subst hji; exact hy.wpOp hi hS ⟨fun _ => hS, H⟩
    · have h1 := H.2 j (ready_mono hj hji)
      obtain ⟨hjun, oj, hoj, hall⟩ := mem_ready.1 hj
      have hun : ∀ (x : Bool), listed.getD i x = false := fun x => by
        have h0 := (mem_ready.1 hr).1
        rcases Nat.lt_or_ge i listed.size with h' | h'
        · simp [h'] at h0 ⊢; exact h0
        · simp [Array.getElem?_eq_none h'] at h0
      have hjD : j ∉ D := fun hd => by
        have := waitsB_ready (hD j hd) hj
        rw [hun] at this
        cases this
      have hnot : ∀ e ∈ oj.after, Region.binds md e = true → e.on ≠ i := fun e he hb heq => by
        have h1 := hall e he hb
        rw [heq, hun] at h1
        cases h1
      have h2 := wpOp_putIf hoj (hfree j oj hoj hji hjun hnot) (fun cs b => hsel i oi cs b hi) (fun cs b => hsel j oj cs b hoj) hQ hy h1
      have hfree' : ∀ k ok, ops[k]? = some ok → k ≠ i → (listed.setIfInBounds j true).getD k true = false →
          (∀ e ∈ ok.after, Region.binds md e = true → e.on ≠ i) → oi.apart ops ok = true := fun k ok hk hki hun hno => by
        refine hfree k ok hk hki ?_ hno
        by_cases hjk : j = k
        · subst hjk; exact hjun
        · rw [getD_set_ne true hjk] at hun; exact hun
      refine wpOp_mono (fun a' w' h3 => ⟨h3.2.1, ih (listed.setIfInBounds j true) a' w' hfree' (ready_mono hr (Ne.symm hji)) h3.1 (h3.2.1 hjD) ?_⟩) h2
      rw [Array.setIfInBounds_comm _ _ hji]
      exact h3.2.2

/-- Operation i is taken first: it yields v wherever S holds. -/
theorem wpAnyD_take {i : Nat} {oi : Oper} {v : Value} {fuel : Nat} {listed : Array Bool} {a : Act} {w : World} (hi : ops[i]? = some oi)
    (hs : Region.noSelect ops = true) (hf : Region.free md ops listed i = true) (hr : (Region.ready md ops listed).contains i = true) (hD : D.all (waitsB md ops i) = true)
    (hQ : ∀ c a w, Q (.panic c) (a.put oi.dst v) w → Q (.panic c) a w) (hS : S w) (hy : YieldsIf P ops S oi v a)
    (h : wpAnyD P md ops Q S D fuel (listed.setIfInBounds i true) (a.put oi.dst v) w) : wpAnyD P md ops Q S D (fuel + 1) listed a w :=
  wpAnyD_first hi (Region.noSelect_spec hs) hQ (fun d hd => List.all_eq_true.1 hD d hd) fuel listed a w (Region.free_spec hi hf) (by simpa using hr) hy hS h

/-- Operation i alone may come up. -/
theorem wpAnyD_step {i : Nat} {oi : Oper} {fuel : Nat} {listed : Array Bool} {a : Act} {w : World} (hr : Region.ready md ops listed = [i]) (hi : ops[i]? = some oi)
    (h : if Region.wanted oi (yielded ops a.tmps) = true then Oper.wp P oi a w (fun a' w' => (i ∉ D → S w') ∧ wpAnyD P md ops Q S D fuel (listed.setIfInBounds i true) a' w') Q else (i ∉ D → S w) ∧ wpAnyD P md ops Q S D fuel (listed.setIfInBounds i true) (a.put oi.dst undef) w) : wpAnyD P md ops Q S D (fuel + 1) listed a w := by
  refine ⟨fun h0 => (by rw [hr] at h0; cases h0), fun j hj => ?_⟩
  rw [hr] at hj
  obtain rfl : j = i := by simpa using hj
  unfold wpOp
  simp only [hi]
  split
  · rename_i hw; rw [if_pos hw] at h; exact .inl h
  · rename_i hw; rw [if_neg hw] at h; exact h

theorem wpAnyD_done {listed : Array Bool} {a : Act} {w : World} (hr : Region.ready md ops listed = []) (h : Q .normal a w) :
    ∀ fuel, wpAnyD P md ops Q S D fuel listed a w
  | 0 => ⟨hr, h⟩
  | _ + 1 => ⟨fun _ => h, by rw [hr]; simp⟩

/-- The same, over a list. -/
theorem wpAnyD_takeL {l : List Oper} {i : Nat} {oi : Oper} {v : Value} {fuel : Nat} {listed : Array Bool} {a : Act} {w : World} (hi : l[i]? = some oi)
    (hs : Region.noSelect l.toArray = true) (hf : Region.free md l.toArray listed i = true) (hr : (Region.ready md l.toArray listed).contains i = true) (hD : D.all (waitsB md l.toArray i) = true)
    (hQ : ∀ c a w, Q (.panic c) (a.put oi.dst v) w → Q (.panic c) a w) (hS : S w) (hg : oi.guard = none) (hy : ∀ w, S w → (execOp a.eval oi).run P w = .ok (.value v) w)
    (h : wpAnyD P md l.toArray Q S D fuel (listed.setIfInBounds i true) (a.put oi.dst v) w) : wpAnyD P md l.toArray Q S D (fuel + 1) listed a w :=
  wpAnyD_take (by simpa using hi) hs hf hr hD hQ hS (.inl ⟨by simp [Region.wanted, hg], hy⟩) h
theorem wpAnyD_stepL {l : List Oper} {i : Nat} {oi : Oper} {fuel : Nat} {listed : Array Bool} {a : Act} {w : World} (hr : Region.ready md l.toArray listed = [i]) (hi : l[i]? = some oi)
    (h : ∀ K : Act → World → Prop, (∀ a' w', (i ∉ D → S w') → wpAnyD P md l.toArray Q S D fuel (listed.setIfInBounds i true) a' w' → K a' w') → if Region.wanted oi (yielded l.toArray a.tmps) = true then Oper.wp P oi a w K Q else K (a.put oi.dst undef) w) : wpAnyD P md l.toArray Q S D (fuel + 1) listed a w := by
  refine wpAnyD_step hr (by simpa using hi) ?_
  have := h (fun a' w' => (i ∉ D → S w') ∧ wpAnyD P md l.toArray Q S D fuel (listed.setIfInBounds i true) a' w') (fun a' w' h1 h2 => ⟨h1, h2⟩)
  exact this

theorem wp_region_D {id : Nat} {a : Act} {w : World} (S : World → Prop) (D : List Nat) (hm : P.follows .mixedOrders = true)
    (h : wpAnyD P .any ops Q S D ops.size (Array.replicate ops.size false) a w.drew) : (Code.region id ops true).wp P Q a w :=
  wp_region_any hm (wpAny_of_D _ _ _ _ h)
end
end Go.Proofs.YtceigdeoefhcfaaGreat


