import Derived.Deep.RegionHeld
import Derived.Test.YtogahhbckfnllaaG27
import Derived.Maps.AppendAt
import Derived.Laws.MakeOwn
/- A region that draws its order, where a condition on memory holds until its last operation, which waits for all others. -/
namespace Go.Proofs.Ytogahhbckfnllaa

section
variable {P : Program} {ops : Array Oper} {md : Region.Mode} {Q : Exit → Act → World → Prop} {S : World → Prop} {D : List Nat}

/-- Whatever order is picked from here on, and S holds behind every operation that is carried out and is not one of D. -/
def wpAnyD (P : Program) (md : Region.Mode) (ops : Array Oper) (Q : Exit → Act → World → Prop) (S : World → Prop) (D : List Nat) : Nat → Array Bool → Act → World → Prop
  | 0, listed, a, w => Region.ready md ops listed = [] ∧ Q .normal a w
  | fuel + 1, listed, a, w =>
    (Region.ready md ops listed = [] → Q .normal a w) ∧
    ∀ i ∈ Region.ready md ops listed, wpOp P ops Q i (fun a' w' => (i ∉ D → S w') ∧ wpAnyD P md ops Q S D fuel (listed.setIfInBounds i true) a' w') a w

theorem wpAny_of_D : ∀ (fuel : Nat) (listed : Array Bool) (a : Act) (w : World), wpAnyD P md ops Q S D fuel listed a w → wpAny P md ops Q fuel listed a w
  | 0, _, _, _, h => h
  | fuel + 1, _, _, _, h => ⟨h.1, fun i hi => wpOp_mono (fun a' w' h' => wpAny_of_D fuel _ a' w' h'.2) (h.2 i hi)⟩

/-- Does operation d wait for i? -/
def waitsB (md : Region.Mode) (ops : Array Oper) (i d : Nat) : Bool := ((ops[d]?).map fun o => o.after.any fun e => Region.binds md e && e.on == i).getD false

theorem waitsB_ready {i d : Nat} {listed : Array Bool} (h : waitsB md ops i d = true) (hr : d ∈ Region.ready md ops listed) : listed.getD i false = true := by
  obtain ⟨_, o, ho, hall⟩ := mem_ready.1 hr
  unfold waitsB at h
  rw [ho] at h
  simp only [Option.map_some, Option.getD_some] at h
  obtain ⟨e, he, hb⟩ := Array.any_eq_true'.1 h
  simp only [Bool.and_eq_true, beq_iff_eq] at hb
  have := hall e he hb.1
  rwa [hb.2] at this

theorem wpAnyD_first {i : Nat} {oi : Oper} {v : Value} (hi : ops[i]? = some oi) (hsel : ∀ (j : Nat) (o : Oper) cs b, ops[j]? = some o → o.op ≠ .select cs b)
    (hQ : ∀ c a w, Q (.panic c) (a.put oi.dst v) w → Q (.panic c) a w) (hD : ∀ d, d ∈ D → waitsB md ops i d = true) :
    ∀ (fuel : Nat) (listed : Array Bool) (a : Act) (w : World),
      (∀ j oj, ops[j]? = some oj → j ≠ i → listed.getD j true = false → (∀ e ∈ oj.after, Region.binds md e = true → e.on ≠ i) → oi.apart ops oj = true) →
      i ∈ Region.ready md ops listed → YieldsIf P ops S oi v a → S w →
      wpAnyD P md ops Q S D fuel (listed.setIfInBounds i true) (a.put oi.dst v) w → wpAnyD P md ops Q S D (fuel + 1) listed a w := by
  intro fuel
  induction fuel with
  | zero =>
    intro listed a w _ hr hy hS H
    refine ⟨fun h => (by rw [h] at hr; cases hr), fun j hj => ?_⟩
    by_cases hji : j = i
    · subst hji; exact hy.wpOp hi hS ⟨fun _ => hS, H⟩
    · have := ready_mono hj hji
      rw [H.1] at this
      cases this
  | succ fuel ih =>
    intro listed a w hfree hr hy hS H
    refine ⟨fun h => (by rw [h] at hr; cases hr), fun j hj => ?_⟩
    by_cases hji : j = i
    · subst hji; exact hy.wpOp hi hS ⟨fun _ => hS, H⟩
    · have h1 := H.2 j (ready_mono hj hji)
      obtain ⟨hjun, oj, hoj, hall⟩ := mem_ready.1 hj
      have hun : ∀ (x : Bool), listed.getD i x = false := fun x => by
        have h0 := (mem_ready.1 hr).1
        rcases Nat.lt_or_ge i listed.size with h' | h'
        · simp [h'] at h0 ⊢; exact h0
        · simp [Array.getElem?_eq_none h'] at h0
      have hjD : j ∉ D := fun hd => by
        have := waitsB_ready (hD j hd) hj
        rw [hun] at this
        cases this
      have hnot : ∀ e ∈ oj.after, Region.binds md e = true → e.on ≠ i := fun e he hb heq => by
        have h1 := hall e he hb
        rw [heq, hun] at h1
        cases h1
      have h2 := wpOp_putIf hoj (hfree j oj hoj hji hjun hnot) (fun cs b => hsel i oi cs b hi) (fun cs b => hsel j oj cs b hoj) hQ hy h1
      have hfree' : ∀ k ok, ops[k]? = some ok → k ≠ i → (listed.setIfInBounds j true).getD k true = false →
          (∀ e ∈ ok.after, Region.binds md e = true → e.on ≠ i) → oi.apart ops ok = true := fun k ok hk hki hun hno => by
        refine hfree k ok hk hki ?_ hno
        by_cases hjk : j = k
        · subst hjk; exact hjun
        · rw [getD_set_ne true hjk] at hun; exact hun
      refine wpOp_mono (fun a' w' h3 => ⟨h3.2.1, ih (listed.setIfInBounds j true) a' w' hfree' (ready_mono hr (Ne.symm hji)) h3.1 (h3.2.1 hjD) ?_⟩) h2
      rw [Array.setIfInBounds_comm _ _ hji]
      exact h3.2.2

/-- Operation i is taken first: it yields v wherever S holds. -/
theorem wpAnyD_take {i : Nat} {oi : Oper} {v : Value} {fuel : Nat} {listed : Array Bool} {a : Act} {w : World} (hi : ops[i]? = some oi)
    (hs : Region.noSelect ops = true) (hf : Region.free md ops listed i = true) (hr : (Region.ready md ops listed).contains i = true) (hD : D.all (waitsB md ops i) = true)
    (hQ : ∀ c a w, Q (.panic c) (a.put oi.dst v) w → Q (.panic c) a w) (hS : S w) (hy : YieldsIf P ops S oi v a)
    (h : wpAnyD P md ops Q S D fuel (listed.setIfInBounds i true) (a.put oi.dst v) w) : wpAnyD P md ops Q S D (fuel + 1) listed a w :=
  wpAnyD_first hi (Region.noSelect_spec hs) hQ (fun d hd => List.all_eq_true.1 hD d hd) fuel listed a w (Region.free_spec hi hf) (by simpa using hr) hy hS h

/-- Operation i alone may come up. -/
theorem wpAnyD_step {i : Nat} {oi : Oper} {fuel : Nat} {listed : Array Bool} {a : Act} {w : World} (hr : Region.ready md ops listed = [i]) (hi : ops[i]? = some oi)
    (h : if Region.wanted oi (yielded ops a.tmps) = true then Oper.wp P oi a w (fun a' w' => (i ∉ D → S w') ∧ wpAnyD P md ops Q S D fuel (listed.setIfInBounds i true) a' w') Q else (i ∉ D → S w) ∧ wpAnyD P md ops Q S D fuel (listed.setIfInBounds i true) (a.put oi.dst undef) w) : wpAnyD P md ops Q S D (fuel + 1) listed a w := by
  refine ⟨fun h0 => (by rw [hr] at h0; cases h0), fun j hj => ?_⟩
  rw [hr] at hj
  obtain rfl : j = i := by simpa using hj
  unfold wpOp
  simp only [hi]
  split
  · rename_i hw; rw [if_pos hw] at h; exact .inl h
  · rename_i hw; rw [if_neg hw] at h; exact h

theorem wpAnyD_done {listed : Array Bool} {a : Act} {w : World} (hr : Region.ready md ops listed = []) (h : Q .normal a w) :
    ∀ fuel, wpAnyD P md ops Q S D fuel listed a w
  | 0 => ⟨hr, h⟩
  | _ + 1 => ⟨fun _ => h, by rw [hr]; simp⟩

/-- The same, over a list. -/
theorem wpAnyD_takeL {l : List Oper} {i : Nat} {oi : Oper} {v : Value} {fuel : Nat} {listed : Array Bool} {a : Act} {w : World} (hi : l[i]? = some oi)
    (hs : Region.noSelect l.toArray = true) (hf : Region.free md l.toArray listed i = true) (hr : (Region.ready md l.toArray listed).contains i = true) (hD : D.all (waitsB md l.toArray i) = true)
    (hQ : ∀ c a w, Q (.panic c) (a.put oi.dst v) w → Q (.panic c) a w) (hS : S w) (hg : oi.guard = none) (hy : ∀ w, S w → (execOp a.eval oi).run P w = .ok (.value v) w)
    (h : wpAnyD P md l.toArray Q S D fuel (listed.setIfInBounds i true) (a.put oi.dst v) w) : wpAnyD P md l.toArray Q S D (fuel + 1) listed a w :=
  wpAnyD_take (by simpa using hi) hs hf hr hD hQ hS (.inl ⟨by simp [Region.wanted, hg], hy⟩) h
theorem wpAnyD_stepL {l : List Oper} {i : Nat} {oi : Oper} {fuel : Nat} {listed : Array Bool} {a : Act} {w : World} (hr : Region.ready md l.toArray listed = [i]) (hi : l[i]? = some oi)
    (h : ∀ K : Act → World → Prop, (∀ a' w', (i ∉ D → S w') → wpAnyD P md l.toArray Q S D fuel (listed.setIfInBounds i true) a' w' → K a' w') → if Region.wanted oi (yielded l.toArray a.tmps) = true then Oper.wp P oi a w K Q else K (a.put oi.dst undef) w) : wpAnyD P md l.toArray Q S D (fuel + 1) listed a w := by
  refine wpAnyD_step hr (by simpa using hi) ?_
  have := h (fun a' w' => (i ∉ D → S w') ∧ wpAnyD P md l.toArray Q S D fuel (listed.setIfInBounds i true) a' w') (fun a' w' h1 h2 => ⟨h1, h2⟩)
  exact this

theorem wp_region_D {id : Nat} {a : Act} {w : World} (S : World → Prop) (D : List Nat) (hm : P.follows .mixedOrders = true)
    (h : wpAnyD P .any ops Q S D ops.size (Array.replicate ops.size false) a w.drew) : (Code.region id ops true).wp P Q a w :=
  wp_region_any hm (wpAny_of_D _ _ _ _ h)
end
end Go.Proofs.Ytogahhbckfnllaa


/- A message is taken out of the document's row. -/
namespace Go.Proofs.Ytogahhbckfnllaa
open Go.RowKit Go.Lib Go.Deep
attribute [local go_sem] store_float f64bits
attribute [local go_sem ↓] Go.wp_at_zero Go.wp_at_succ
variable {w w' : World} {rb place words most : Nat} {lv : Value} {ds : List Tr} {T : Nat → Prop}

theorem ownsRow_lift {w : World} {base base' : Nat} {e : TypeId} {v : Value} {n : Nat} {xs : List Value} (h : w.ownsRow base e 5 v n xs) (hb : base' ≤ base) : w.ownsRow base' e 5 v n xs := by
  obtain ⟨hl, h | ⟨g, cap, cur, rfl, h1, h2⟩⟩ := h
  · exact ⟨hl, Or.inl h⟩
  · exact ⟨hl, Or.inr ⟨g, cap, cur, rfl, by omega, h2⟩⟩
theorem fc_split (ds : List Tr) (i : Nat) : ds.flatMap Tr.cells = (ds.take i).flatMap Tr.cells ++ (ds.drop i).flatMap Tr.cells := by
  rw [← List.flatMap_append, List.take_append_drop]
theorem fc_one (ds : List Tr) : ∀ u ∈ ds.flatMap Tr.cells, u.oneCell' = true := by
  intro u hu
  obtain ⟨t, _, ht⟩ := List.mem_flatMap.1 hu
  exact tr_one t u ht
theorem fc_drop (ds : List Tr) {i j : Nat} {u : Value} (hi : i ≤ ds.length) (h : ((ds.drop i).flatMap Tr.cells)[j]? = some u) : (ds.flatMap Tr.cells)[i * 5 + j]? = some u := by
  rw [fc_split ds i, List.getElem?_append_right (by rw [flat_len, List.length_take]; omega), flat_len, List.length_take, show i * 5 + j - min i ds.length * 5 = j by rw [Nat.min_eq_left hi]; omega]
  exact h
theorem fc_take (ds : List Tr) {i j : Nat} {u : Value} (h : ((ds.take i).flatMap Tr.cells)[j]? = some u) : (ds.flatMap Tr.cells)[j]? = some u := by
  rw [fc_split ds i, List.getElem?_append_left (List.getElem?_eq_some_iff.1 h).1]
  exact h
theorem addr_add0 (g j : Nat) : (⟨g, 0, none⟩ : Addr).add j = ⟨g, j, none⟩ := by unfold Addr.add; split <;> simp_all
theorem addr_add (g o j : Nat) : (⟨g, o, none⟩ : Addr).add j = ⟨g, o + j, none⟩ := by unfold Addr.add; split <;> simp_all

theorem RY.cellAt (h : RY w rb lv ds place words most T) {g cap j : Nat} {u : Value} (hv : lv = .slice (some ⟨g, 0, none⟩) ds.length cap) (hu : (ds.flatMap Tr.cells)[j]? = some u) : w.cell? ⟨g, j, none⟩ = some u := by
  subst hv
  exact (h.row.cellAt j (by have := (List.getElem?_eq_some_iff.1 hu).1; rw [flat_len] at this; exact this)).trans hu
theorem RY.cap {q : Option Addr} {n c : Nat} (h : RY w rb (.slice q n c) ds place words most T) : ds.length ≤ c := by
  rcases h.row.2 with ⟨e, h0⟩ | ⟨g, cap, cur, hv, _, _, h3, _⟩
  · omega
  · injection hv with _ _ e; omega
/-- What lies behind a place of the row, as a slice. -/
theorem RY.cut {g c : Nat} (h : RY w rb (.slice (some ⟨g, 0, none⟩) ds.length c) ds place words most T) {i : Nat} (hi : i < ds.length) {ad : Addr} (had : (if c = i + 1 then some (⟨g, 0, none⟩ : Addr) else some ⟨g, (i + 1) * 5, none⟩) = some ad) :
    ∀ j u, ((ds.drop (i + 1)).flatMap Tr.cells)[j]? = some u → w.cell? (ad.add j) = some u := by
  intro j u hj
  have hc := h.cap
  by_cases e : c = i + 1
  · have := (List.getElem?_eq_some_iff.1 hj).1
    rw [flat_len, List.length_drop] at this
    omega
  · rw [if_neg e] at had
    obtain rfl : (⟨g, (i + 1) * 5, none⟩ : Addr) = ad := by simpa using had
    rw [addr_add]
    exact h.cellAt rfl (fc_drop ds (by omega) hj)

theorem ent_size : Ent 35 := by
  intro args w
  kernel_rfl

set_option maxHeartbeats 1000000 in
set_option maxRecDepth 100000 in
theorem ry_out (h : RY w rb lv ds place words most T) {i wd : Nat} {k n : Int} {f : Nat} {s : ByteArray} {a : Option Addr} {c : Nat} {kids : List Tr} (hi : ds[i]? = some (.mk k n f s a c kids)) (hsw : SmallW (.mk k n f s a c kids)) (hwt : wordsT (.mk k n f s a c kids) + 2 = (wd : Int)) (hwd : wd ≤ words) (hmost : words ≤ 1000000000) (hl : ds.length ≤ 1000000) :
    Calls Try.prog 37 #[.pointer (some ⟨rb, 0, none⟩), .int .i64 (i : Int)] w fun e w' => e = .returned (.agg #[.int .i64 k, .int .i64 n, .float .f64 f, .string s, .slice a kids.length c]) ∧ ∃ lv', RY w' rb lv' (ds.eraseIdx i) place (words - wd) most T ∧ (∀ q, lv'.ownBlock = some q → w.heap.size ≤ q) ∧ But (fun q => q = rb) w w' := by
  obtain ⟨g, cap, rfl, hg1, hg2, -⟩ := h.at hi
  have hpl := (List.getElem?_eq_some_iff.1 hi).1
  have hb1 : (0 : Int) ≤ (i : Int) := by omega
  have hb2 : (i : Int) < (ds.length : Int) := by omega
  have HT := hidb (h.tr _ (List.mem_of_getElem? hi))
  have SZ := hidb (fun W hb => rsize_any (.mk k n f s a c kids) W (in_below (w := w) hb HT.out.1) hsw)
  rw [hwt] at SZ
  have HI := hidb hi
  have HH := hidb h
  have hbl := h.box.2
  obtain ⟨i0, hi0, hz0, hz1, hz2⟩ := info_parts infoT5
  have HSX : Hid (∀ W, Below w.heap.size w W → W.cell? ⟨rb, 0, none⟩ = some (.slice (some ⟨g, 0, none⟩) ds.length cap) ∧ W.cell? ⟨g, i * 5, none⟩ = some (.int .i64 k) ∧ W.cell? ⟨g, i * 5 + 1, none⟩ = some (.int .i64 n) ∧ W.cell? ⟨g, i * 5 + 2, none⟩ = some (.float .f64 f) ∧ W.cell? ⟨g, i * 5 + 3, none⟩ = some (.string s) ∧ W.cell? ⟨g, i * 5 + 4, none⟩ = some (.slice a kids.length c)) := hidb (fun W hb => by
    have hq := HH.out.keep hb
    obtain ⟨g', cap', hv, -, -, x0, x1, x2, x3, x4⟩ := hq.at HI.out
    obtain ⟨rfl, rfl⟩ : g = g' ∧ cap = cap' := by simpa using hv
    exact ⟨(hq.box.1 0 _ rfl).1, x0, x1, x2, x3, x4⟩)
  obtain ⟨c0, x0, x1, x2, x3, x4⟩ := HSX.out _ (below_new w zT)
  have hww : IntKind.i64.wrap ((words : Int) - (wd : Int)) = ((words - wd : Nat) : Int) := by rw [IntKind.wrap_i64]; omega
  obtain ⟨WA, hWA⟩ : ∃ WA, (w.alloc zT).alloc (.cells #[.int .i64 k, .int .i64 n, .float .f64 f, .string s, .slice a kids.length c] 36) = WA := ⟨_, rfl⟩
  have AX : At WA (w.heap.size + 1) [.int .i64 k, .int .i64 n, .float .f64 f, .string s, .slice a kids.length c] := by
    have := At.new (w.alloc zT) [.int .i64 k, .int .i64 n, .float .f64 f, .string s, .slice a kids.length c] 36
    rw [show (w.alloc zT).heap.size = w.heap.size + 1 by simp] at this
    rw [← hWA]; exact this
  have AR : At WA w.heap.size [.int .i64 0, .int .i64 0, .float .f64 0, .string ⟨#[]⟩, .slice none 0 0] := by
    rw [← hWA]; exact (At.new w [.int .i64 0, .int .i64 0, .float .f64 0, .string ⟨#[]⟩, .slice none 0 0] 36).keep (below_new _ _)
  have hBA : Below w.heap.size w WA := by rw [← hWA]; exact (below_new w _).alloc (by simp) _
  have HSA : Hid (∀ W, Below WA.heap.size WA W → W.cell? ⟨rb, 2, none⟩ = some (.int .i64 (words : Int)) ∧ W.cell? ⟨w.heap.size + 1, 0, none⟩ = some (.int .i64 k) ∧ W.cell? ⟨w.heap.size + 1, 1, none⟩ = some (.int .i64 n) ∧ W.cell? ⟨w.heap.size + 1, 2, none⟩ = some (.float .f64 f) ∧ W.cell? ⟨w.heap.size + 1, 3, none⟩ = some (.string s) ∧ W.cell? ⟨w.heap.size + 1, 4, none⟩ = some (.slice a kids.length c)) := hidb (fun W hb => by
    have hq := AX.keep hb
    exact ⟨(((h.keep hBA).keep hb).box.1 2 _ rfl).1, (hq.1 0 _ rfl).1, (hq.1 1 _ rfl).1, (hq.1 2 _ rfl).1, (hq.1 3 _ rfl).1, (hq.1 4 _ rfl).1⟩)
  have HWA := hidb hWA
  have HBA := hidb hBA
  have HAX := hidb AX
  have HAR := hidb AR
  clear h hi hsw hwt hWA AX AR hBA
  go_enter Try.func37, Try.ntmps37
  go_wp2_with fail
  clear c0 x0 x1 x2 x3 x4
  rw [HWA.out]
  refine wp_region_D (fun w' => w'.cell? ⟨rb, 2, none⟩ = some (.int .i64 (words : Int)) ∧ w'.cell? ⟨w.heap.size + 1, 0, none⟩ = some (.int .i64 k) ∧ w'.cell? ⟨w.heap.size + 1, 1, none⟩ = some (.int .i64 n) ∧ w'.cell? ⟨w.heap.size + 1, 2, none⟩ = some (.float .f64 f) ∧ w'.cell? ⟨w.heap.size + 1, 3, none⟩ = some (.string s) ∧ w'.cell? ⟨w.heap.size + 1, 4, none⟩ = some (.slice a kids.length c)) [10] (by kernel_rfl) ?_
  have HS0 := hidb (HSA.out WA.drew ((Below.refl _ _).drew))
  refine wpAnyD_takeL (i := 0) (v := ?vv0x0) rfl (by kernel_rfl) (by kernel_rfl) (by kernel_rfl) (by kernel_rfl) (fun _ _ _ h => h) HS0.out rfl ?hy0x0 ?_
  case hy0x0 => intro wy hSw; obtain ⟨y0, y1, y2, y3, y4, y5⟩ := hSw; go_simp; try with_reducible rfl
  simp only [Act.put, List.setIfInBounds_toArray, List.set_cons_zero, List.set_cons_succ]
  refine wpAnyD_takeL (i := 1) (v := ?vv1x0) rfl (by kernel_rfl) (by kernel_rfl) (by kernel_rfl) (by kernel_rfl) (fun _ _ _ h => h) HS0.out rfl ?hy1x0 ?_
  case hy1x0 => intro wy hSw; obtain ⟨y0, y1, y2, y3, y4, y5⟩ := hSw; go_simp; try with_reducible rfl
  simp only [Act.put, List.setIfInBounds_toArray, List.set_cons_zero, List.set_cons_succ]
  refine wpAnyD_takeL (i := 2) (v := ?vv2x0) rfl (by kernel_rfl) (by kernel_rfl) (by kernel_rfl) (by kernel_rfl) (fun _ _ _ h => h) HS0.out rfl ?hy2x0 ?_
  case hy2x0 => intro wy hSw; obtain ⟨y0, y1, y2, y3, y4, y5⟩ := hSw; go_simp; try with_reducible rfl
  simp only [Act.put, List.setIfInBounds_toArray, List.set_cons_zero, List.set_cons_succ]
  refine wpAnyD_takeL (i := 3) (v := ?vv3x0) rfl (by kernel_rfl) (by kernel_rfl) (by kernel_rfl) (by kernel_rfl) (fun _ _ _ h => h) HS0.out rfl ?hy3x0 ?_
  case hy3x0 => intro wy hSw; obtain ⟨y0, y1, y2, y3, y4, y5⟩ := hSw; go_simp; try with_reducible rfl
  simp only [Act.put, List.setIfInBounds_toArray, List.set_cons_zero, List.set_cons_succ]
  refine wpAnyD_takeL (i := 4) (v := ?vv4x0) rfl (by kernel_rfl) (by kernel_rfl) (by kernel_rfl) (by kernel_rfl) (fun _ _ _ h => h) HS0.out rfl ?hy4x0 ?_
  case hy4x0 => intro wy hSw; obtain ⟨y0, y1, y2, y3, y4, y5⟩ := hSw; go_simp; try with_reducible rfl
  simp only [Act.put, List.setIfInBounds_toArray, List.set_cons_zero, List.set_cons_succ]
  refine wpAnyD_takeL (i := 5) (v := ?vv5x0) rfl (by kernel_rfl) (by kernel_rfl) (by kernel_rfl) (by kernel_rfl) (fun _ _ _ h => h) HS0.out rfl ?hy5x0 ?_
  case hy5x0 => intro wy hSw; obtain ⟨y0, y1, y2, y3, y4, y5⟩ := hSw; go_simp; try with_reducible rfl
  simp only [Act.put, List.setIfInBounds_toArray, List.set_cons_zero, List.set_cons_succ]
  refine wpAnyD_stepL (i := 6) (by kernel_rfl) rfl (fun K hK => ?_)
  refine step_call rfl (run_call ent_size #[.tmp 18] _ rfl #[.agg #[.int .i64 k, .int .i64 n, .float .f64 f, .string s, .slice a kids.length c]] rfl) (SZ.out WA.drew (HBA.out.drew)) (fun e w2 hh => ?_)
  obtain ⟨rfl, hb2⟩ := hh
  have hbw : Below WA.heap.size WA w2 := (undrew hb2)
  have HS2 := hidb (HSA.out w2 hbw)
  have HBW := hidb hbw
  refine hK _ _ (fun _ => HS2.out) ?_
  clear hK K hb2 hbw SZ
  simp only [Act.put, List.setIfInBounds_toArray, List.set_cons_zero, List.set_cons_succ]
  refine wpAnyD_takeL (i := 7) (v := ?vv7x0) rfl (by kernel_rfl) (by kernel_rfl) (by kernel_rfl) (by kernel_rfl) (fun _ _ _ h => h) HS2.out rfl ?hy7x0 ?_
  case hy7x0 => intro wy hSw; obtain ⟨y0, y1, y2, y3, y4, y5⟩ := hSw; go_simp; try with_reducible rfl
  simp only [Act.put, List.setIfInBounds_toArray, List.set_cons_zero, List.set_cons_succ]
  refine wpAnyD_stepL (i := 8) (by kernel_rfl) rfl (fun K hK => ?_)
  go_simp
  refine hK _ _ (fun _ => HS2.out) ?_
  clear hK K
  refine wpAnyD_stepL (i := 9) (by kernel_rfl) rfl (fun K hK => ?_)
  go_simp
  refine hK _ _ (fun _ => HS2.out) ?_
  clear hK K
  have hRW := (HH.out.keep HBA.out).keep HBW.out
  obtain ⟨d2, f2⟩ := hRW.box.1 2 _ rfl
  have HRW := hidb hRW
  clear hRW
  refine wpAnyD_stepL (i := 10) (by kernel_rfl) rfl (fun K hK => ?_)
  go_simp
  refine hK _ _ (fun h => absurd (List.mem_singleton.2 rfl) h) ?_
  clear hK K
  refine wpAnyD_done (by kernel_rfl) ?_ _
  obtain ⟨W3, hW3⟩ : ∃ W3, w2.setCell ⟨rb, 2, none⟩ (.int .i64 ((words - wd : Nat) : Int)) = W3 := ⟨_, rfl⟩
  rw [hW3]
  have HR3 : Hid (RY W3 rb (.slice (some ⟨g, 0, none⟩) ds.length cap) ds place (words - wd) most T) := hidb (by rw [← hW3]; exact HRW.out.worded (words - wd))
  have HB3 : Hid (But (fun q => q = rb) w W3) := hidb (by rw [← hW3]; exact ((But.of_below (S := fun q => q = rb) HBA.out).trans (But.of_below HBW.out)).setCell (p := ⟨rb, 2, none⟩) (fun _ => rfl) _)
  have HA3 : Hid (At W3 (w.heap.size + 1) [.int .i64 k, .int .i64 n, .float .f64 f, .string s, .slice a kids.length c] ∧ At W3 w.heap.size [.int .i64 0, .int .i64 0, .float .f64 0, .string ⟨#[]⟩, .slice none 0 0]) := hidb (by
    rw [← hW3]
    exact ⟨(HAX.out.keep HBW.out).other (p := ⟨rb, 2, none⟩) (by show rb ≠ w.heap.size + 1; omega) _, (HAR.out.keep HBW.out).other (p := ⟨rb, 2, none⟩) (by show rb ≠ w.heap.size; omega) _⟩)
  clear d2 f2 hW3 HRW HBW HAX HAR HS0 HS2 HSA HSX
  go_wp2_with fail
  have hcap := HR3.out.cap
  have s1 : (i : Int) ≤ (cap : Int) := by omega
  have s3 : IntKind.i64.wrap ((i : Int) + 1) = ((i + 1 : Nat) : Int) := by rw [IntKind.wrap_i64]; omega
  have s4 : (0 : Int) ≤ (i : Int) + 1 := by omega
  have s5 : (i : Int) + 1 ≤ (ds.length : Int) := by omega
  have s6 : (ds.length : Int) ≤ (cap : Int) := by omega
  have HS4 : Hid (W3.drew.cell? ⟨rb, 0, none⟩ = some (.slice (some ⟨g, 0, none⟩) ds.length cap)) := hidb ((HR3.out.keep ((Below.refl _ _).drew)).box.1 0 _ rfl).1
  obtain ⟨ad, had⟩ : ∃ ad : Addr, (if cap = i + 1 then some (⟨g, 0, none⟩ : Addr) else some ⟨g, (i + 1) * 5, none⟩) = some ad := by split <;> exact ⟨_, rfl⟩
  have HAD := hidb had
  have HCP := hidb hcap
  clear had hcap
  have hbA : Below W3.heap.size W3 (W3.alloc (.cells #[] 36)).drew := (below_new _ _).drew
  have HFA := hidb (HR3.out.keep hbA)
  refine wp_region_D (fun w' => w'.cell? ⟨rb, 0, none⟩ = some (.slice (some ⟨g, 0, none⟩) ds.length cap)) [19] (by kernel_rfl) ?_
  refine wpAnyD_takeL (i := 0) (v := ?vv0x3) rfl (by kernel_rfl) (by kernel_rfl) (by kernel_rfl) (by kernel_rfl) (fun _ _ _ h => h) HS4.out rfl ?hy0x3 ?_
  case hy0x3 => intro wy hSw; go_simp; try with_reducible rfl
  simp only [Act.put, List.setIfInBounds_toArray, List.set_cons_zero, List.set_cons_succ]
  refine wpAnyD_takeL (i := 2) (v := ?vv2x3) rfl (by kernel_rfl) (by kernel_rfl) (by kernel_rfl) (by kernel_rfl) (fun _ _ _ h => h) HS4.out rfl ?hy2x3 ?_
  case hy2x3 => intro wy hSw; go_simp; try with_reducible rfl
  simp only [Act.put, List.setIfInBounds_toArray, List.set_cons_zero, List.set_cons_succ]
  refine wpAnyD_takeL (i := 3) (v := ?vv3x3) rfl (by kernel_rfl) (by kernel_rfl) (by kernel_rfl) (by kernel_rfl) (fun _ _ _ h => h) HS4.out rfl ?hy3x3 ?_
  case hy3x3 => intro wy hSw; go_simp; try with_reducible rfl
  simp only [Act.put, List.setIfInBounds_toArray, List.set_cons_zero, List.set_cons_succ]
  refine wpAnyD_takeL (i := 4) (v := ?vv4x3) rfl (by kernel_rfl) (by kernel_rfl) (by kernel_rfl) (by kernel_rfl) (fun _ _ _ h => h) HS4.out rfl ?hy4x3 ?_
  case hy4x3 => intro wy hSw; go_simp; try with_reducible rfl
  simp only [Act.put, List.setIfInBounds_toArray, List.set_cons_zero, List.set_cons_succ]
  refine wpAnyD_takeL (i := 5) (v := ?vv5x3) rfl (by kernel_rfl) (by kernel_rfl) (by kernel_rfl) (by kernel_rfl) (fun _ _ _ h => h) HS4.out rfl ?hy5x3 ?_
  case hy5x3 => intro wy hSw; go_simp; try with_reducible rfl
  simp only [Act.put, List.setIfInBounds_toArray, List.set_cons_zero, List.set_cons_succ]
  refine wpAnyD_takeL (i := 6) (v := ?vv6x3) rfl (by kernel_rfl) (by kernel_rfl) (by kernel_rfl) (by kernel_rfl) (fun _ _ _ h => h) HS4.out rfl ?hy6x3 ?_
  case hy6x3 => intro wy hSw; go_simp; try with_reducible rfl
  simp only [Act.put, List.setIfInBounds_toArray, List.set_cons_zero, List.set_cons_succ]
  refine wpAnyD_takeL (i := 7) (v := ?vv7x3) rfl (by kernel_rfl) (by kernel_rfl) (by kernel_rfl) (by kernel_rfl) (fun _ _ _ h => h) HS4.out rfl ?hy7x3 ?_
  case hy7x3 => intro wy hSw; go_simp; try with_reducible rfl
  simp only [Act.put, List.setIfInBounds_toArray, List.set_cons_zero, List.set_cons_succ]
  refine wpAnyD_takeL (i := 9) (v := ?vv9x3) rfl (by kernel_rfl) (by kernel_rfl) (by kernel_rfl) (by kernel_rfl) (fun _ _ _ h => h) HS4.out rfl ?hy9x3 ?_
  case hy9x3 => intro wy hSw; go_simp; try with_reducible rfl
  simp only [Act.put, List.setIfInBounds_toArray, List.set_cons_zero, List.set_cons_succ]
  refine wpAnyD_takeL (i := 10) (v := ?vv10x3) rfl (by kernel_rfl) (by kernel_rfl) (by kernel_rfl) (by kernel_rfl) (fun _ _ _ h => h) HS4.out rfl ?hy10x3 ?_
  case hy10x3 => intro wy hSw; go_simp; try with_reducible rfl
  simp only [Act.put, List.setIfInBounds_toArray, List.set_cons_zero, List.set_cons_succ]
  refine wpAnyD_takeL (i := 11) (v := ?vv11x3) rfl (by kernel_rfl) (by kernel_rfl) (by kernel_rfl) (by kernel_rfl) (fun _ _ _ h => h) HS4.out rfl ?hy11x3 ?_
  case hy11x3 => intro wy hSw; go_simp; try with_reducible rfl
  simp only [Act.put, List.setIfInBounds_toArray, List.set_cons_zero, List.set_cons_succ]
  refine wpAnyD_takeL (i := 12) (v := ?vv12x3) rfl (by kernel_rfl) (by kernel_rfl) (by kernel_rfl) (by kernel_rfl) (fun _ _ _ h => h) HS4.out rfl ?hy12x3 ?_
  case hy12x3 => intro wy hSw; go_simp; try with_reducible rfl
  simp only [Act.put, List.setIfInBounds_toArray, List.set_cons_zero, List.set_cons_succ]
  refine wpAnyD_takeL (i := 13) (v := ?vv13x3) rfl (by kernel_rfl) (by kernel_rfl) (by kernel_rfl) (by kernel_rfl) (fun _ _ _ h => h) HS4.out rfl ?hy13x3 ?_
  case hy13x3 => intro wy hSw; go_simp; try with_reducible rfl
  simp only [Act.put, List.setIfInBounds_toArray, List.set_cons_zero, List.set_cons_succ]
  refine wpAnyD_takeL (i := 14) (v := ?vv14x3) rfl (by kernel_rfl) (by kernel_rfl) (by kernel_rfl) (by kernel_rfl) (fun _ _ _ h => h) HS4.out rfl ?hy14x3 ?_
  case hy14x3 => intro wy hSw; go_simp; try with_reducible rfl
  simp only [Act.put, List.setIfInBounds_toArray, List.set_cons_zero, List.set_cons_succ]
  refine wpAnyD_takeL (i := 15) (v := ?vv15x3) rfl (by kernel_rfl) (by kernel_rfl) (by kernel_rfl) (by kernel_rfl) (fun _ _ _ h => h) HS4.out rfl ?hy15x3 ?_
  case hy15x3 => intro wy hSw; go_simp; try with_reducible rfl
  simp only [Act.put, List.setIfInBounds_toArray, List.set_cons_zero, List.set_cons_succ]
  rw [HAD.out]
  refine wpAnyD_stepL (i := 1) (by kernel_rfl) rfl (fun K hK => ?_)
  go_simp
  refine hK _ _ (fun _ => (HFA.out.box.1 0 _ rfl).1) ?_
  clear hK K
  refine wpAnyD_stepL (i := 8) (by kernel_rfl) rfl (fun K hK => ?_)
  refine step_app rfl (.tmp 24) (.tmp 30) 34 rfl W3.heap.size 36 i0 (.agg #[.int .i64 0, .int .i64 0, .float .f64 0, .string ⟨#[]⟩, .slice none 0 0]) 5 64 Try.underlying34 hi0 hz0 hz1 hz2 rfl (by decide) (.slice (some ⟨W3.heap.size, 0, none⟩) 0 0) 0 [] rfl ?own1 ⟨g, 0, none⟩ i cap ((ds.take i).flatMap Tr.cells) rfl ?len1 ?news1 (fc_one _) ?m1 ?b1 ?base1 ?_
  case own1 => exact ownsRow_block (World.ownsRow_made W3 #[] 0 (Nat.le_refl _) (by unfold maxLen; omega) (by simp)) (fun _ _ => rfl)
  case len1 => rw [flat_len, List.length_take, Nat.min_eq_left (by omega)]
  case news1 =>
    intro j u hj
    rw [addr_add0]
    exact HFA.out.cellAt rfl (fc_take ds hj)
  case m1 => unfold maxLen; omega
  case b1 => omega
  case base1 => show W3.heap.size ≤ (W3.alloc (.cells #[] 36)).heap.size; simp
  intro v1 Y1 hown1 hgrow1 hat1
  have hbY : Below W3.heap.size W3 Y1 := hbA.grown hgrow1 (by have := hbA.size; omega) (fun k e => by have : k = W3.heap.size := (by simpa [Value.ownBlock] using e.symm); omega)
  have HFY := hidb (HR3.out.keep hbY)
  obtain ⟨b1, d1, rfl⟩ := own_sl hown1
  refine hK _ _ (fun _ => (HFY.out.box.1 0 _ rfl).1) ?_
  clear hK K
  simp only [Act.put, List.setIfInBounds_toArray, List.set_cons_zero, List.set_cons_succ]
  refine wpAnyD_stepL (i := 16) (by kernel_rfl) rfl (fun K hK => ?_)
  refine step_app rfl (.tmp 31) (.tmp 38) 34 rfl W3.heap.size 36 i0 (.agg #[.int .i64 0, .int .i64 0, .float .f64 0, .string ⟨#[]⟩, .slice none 0 0]) 5 64 Try.underlying34 hi0 hz0 hz1 hz2 rfl (by decide) (.slice b1 (0 + i) d1) (0 + i) _ rfl hown1 ad (ds.length - (i + 1)) (cap - (i + 1)) ((ds.drop (i + 1)).flatMap Tr.cells) ?ev2 ?len2 ?news2 (fc_one _) ?m2 ?b2 ?base2 ?_
  case ev2 => rfl
  case len2 => rw [flat_len, List.length_drop]
  case news2 => exact HFY.out.cut hpl HAD.out
  case m2 => unfold maxLen; omega
  case b2 => omega
  case base2 => exact hbY.size
  intro v2 Y2 hown2 hgrow2 hat2
  obtain ⟨b2, d2, rfl⟩ := own_sl hown2
  have hbZ : Below W3.heap.size W3 Y2 := hbY.grown hgrow2 hbY.size (fun k e => (hown1.lt k e).1)
  have hzs : [] ++ (ds.take i).flatMap Tr.cells ++ (ds.drop (i + 1)).flatMap Tr.cells = (ds.eraseIdx i).flatMap Tr.cells := by rw [List.nil_append, ← List.flatMap_append, ← List.eraseIdx_eq_take_drop_succ]
  have hnl : 0 + i + (ds.length - (i + 1)) = (ds.eraseIdx i).length := by rw [List.length_eraseIdx, if_pos hpl]; omega
  rw [hzs, hnl] at hown2
  rw [hnl]
  have HFZ := hidb (HR3.out.keep hbZ)
  have HO2 := hidb hown2
  have HBZ := hidb hbZ
  have z0 := (HFZ.out.box.1 0 _ rfl).1
  have z1 := (HFZ.out.box.1 0 _ rfl).2
  refine hK _ _ (fun _ => (HFZ.out.box.1 0 _ rfl).1) ?_
  clear hK K
  simp only [Act.put, List.setIfInBounds_toArray, List.set_cons_zero, List.set_cons_succ]
  refine wpAnyD_stepL (i := 17) (by kernel_rfl) rfl (fun K hK => ?_)
  go_simp
  refine hK _ _ (fun _ => (HFZ.out.box.1 0 _ rfl).1) ?_
  clear hK K
  refine wpAnyD_stepL (i := 18) (by kernel_rfl) rfl (fun K hK => ?_)
  go_simp
  refine hK _ _ (fun _ => (HFZ.out.box.1 0 _ rfl).1) ?_
  clear hK K
  clear hown1 hgrow1 hat1 hown2 hgrow2 hat2 hzs hbA hbY hbZ HFA HFY hnl
  refine wpAnyD_stepL (i := 19) (by kernel_rfl) rfl (fun K hK => ?_)
  go_simp
  refine hK _ _ (fun h => absurd (List.mem_singleton.2 rfl) h) ?_
  clear hK K
  refine wpAnyD_done (by kernel_rfl) ?_ _
  have hOL : ∀ q, (Value.slice b2 (ds.eraseIdx i).length d2).ownBlock = some q → W3.heap.size ≤ q := fun q e => (ownsRow_lt HO2.out q e).1
  have hws := HB3.out.size
  have HY5 : Hid (RY (Y2.setCell ⟨rb, 0, none⟩ (.slice b2 (ds.eraseIdx i).length d2)) rb (.slice b2 (ds.eraseIdx i).length d2) (ds.eraseIdx i) place (words - wd) most T) := hidb (HFZ.out.rowed (ownsRow_lift HO2.out (by omega)) (fun t ht => HFZ.out.tr t (List.mem_of_mem_eraseIdx ht)) (fun q hq => ⟨(HFZ.out.far q hq).1, fun e => by have := hOL q e; have := (HR3.out.far q hq).1; omega, (HFZ.out.far q hq).2.2⟩))
  have HB5 : Hid (But (fun q => q = rb) w (Y2.setCell ⟨rb, 0, none⟩ (.slice b2 (ds.eraseIdx i).length d2))) := hidb ((HB3.out.trans (But.of_below HBZ.out)).setCell (p := ⟨rb, 0, none⟩) (fun _ => rfl) _)
  have hA5 : At (Y2.setCell ⟨rb, 0, none⟩ (.slice b2 (ds.eraseIdx i).length d2)) (w.heap.size + 1) [.int .i64 k, .int .i64 n, .float .f64 f, .string s, .slice a kids.length c] ∧ At (Y2.setCell ⟨rb, 0, none⟩ (.slice b2 (ds.eraseIdx i).length d2)) w.heap.size [.int .i64 0, .int .i64 0, .float .f64 0, .string ⟨#[]⟩, .slice none 0 0] := ⟨(HA3.out.1.keep HBZ.out).other (p := ⟨rb, 0, none⟩) (by show rb ≠ w.heap.size + 1; omega) _, (HA3.out.2.keep HBZ.out).other (p := ⟨rb, 0, none⟩) (by show rb ≠ w.heap.size; omega) _⟩
  have HOL := hidb (show ∀ q, (Value.slice b2 (ds.eraseIdx i).length d2).ownBlock = some q → w.heap.size ≤ q from fun q e => by have := hOL q e; omega)
  obtain ⟨W5, hW5⟩ : ∃ W5, Y2.setCell ⟨rb, 0, none⟩ (.slice b2 (ds.eraseIdx i).length d2) = W5 := ⟨_, rfl⟩
  rw [hW5] at HY5 HB5 hA5 ⊢
  obtain ⟨x0, -⟩ := hA5.1.1 0 _ rfl
  obtain ⟨x1, -⟩ := hA5.1.1 1 _ rfl
  obtain ⟨x2, -⟩ := hA5.1.1 2 _ rfl
  obtain ⟨x3, -⟩ := hA5.1.1 3 _ rfl
  obtain ⟨x4, -⟩ := hA5.1.1 4 _ rfl
  obtain ⟨r0, g0⟩ := hA5.2.1 0 _ rfl
  obtain ⟨r1, g1'⟩ := hA5.2.1 1 _ rfl
  obtain ⟨r2, g2'⟩ := hA5.2.1 2 _ rfl
  obtain ⟨r3, g3⟩ := hA5.2.1 3 _ rfl
  obtain ⟨r4, g4⟩ := hA5.2.1 4 _ rfl
  have HFIN : Hid (∀ u0 u1 u2 u3 u4, RY (((((W5.setCell ⟨w.heap.size, 0, none⟩ u0).setCell ⟨w.heap.size, 1, none⟩ u1).setCell ⟨w.heap.size, 2, none⟩ u2).setCell ⟨w.heap.size, 3, none⟩ u3).setCell ⟨w.heap.size, 4, none⟩ u4) rb (.slice b2 (ds.eraseIdx i).length d2) (ds.eraseIdx i) place (words - wd) most T ∧ But (fun q => q = rb) w (((((W5.setCell ⟨w.heap.size, 0, none⟩ u0).setCell ⟨w.heap.size, 1, none⟩ u1).setCell ⟨w.heap.size, 2, none⟩ u2).setCell ⟨w.heap.size, 3, none⟩ u3).setCell ⟨w.heap.size, 4, none⟩ u4)) := hidb (fun u0 u1 u2 u3 u4 => by
    have hb2 : But (fun q => q = w.heap.size) W5 (((((W5.setCell ⟨w.heap.size, 0, none⟩ u0).setCell ⟨w.heap.size, 1, none⟩ u1).setCell ⟨w.heap.size, 2, none⟩ u2).setCell ⟨w.heap.size, 3, none⟩ u3).setCell ⟨w.heap.size, 4, none⟩ u4) := (((((But.refl (fun q => q = w.heap.size) W5).setCell (p := ⟨w.heap.size, 0, none⟩) (fun _ => rfl) _).setCell (p := ⟨w.heap.size, 1, none⟩) (fun _ => rfl) _).setCell (p := ⟨w.heap.size, 2, none⟩) (fun _ => rfl) _).setCell (p := ⟨w.heap.size, 3, none⟩) (fun _ => rfl) _).setCell (p := ⟨w.heap.size, 4, none⟩) (fun _ => rfl) _
    refine ⟨HY5.out.but hb2 (fun q hq => ?_) (fun q hq => ?_), ((((HB5.out.setCell (p := ⟨w.heap.size, 0, none⟩) (fun h => absurd h (Nat.lt_irrefl _)) _).setCell (p := ⟨w.heap.size, 1, none⟩) (fun h => absurd h (Nat.lt_irrefl _)) _).setCell (p := ⟨w.heap.size, 2, none⟩) (fun h => absurd h (Nat.lt_irrefl _)) _).setCell (p := ⟨w.heap.size, 3, none⟩) (fun h => absurd h (Nat.lt_irrefl _)) _).setCell (p := ⟨w.heap.size, 4, none⟩) (fun h => absurd h (Nat.lt_irrefl _)) _⟩
    · rcases hq with rfl | hq
      · omega
      · have := hOL q hq; have := HA3.out.1.2; omega
    · have := (HH.out.far q hq).1; omega)
  clear hA5 hOL hW5 z0 z1 HY5 HB5 HFZ HO2 HBZ HR3 HB3 HA3 HH hws s1 s3 s4 s5 s6
  go_wp2_with fail
  exact bodyPost_ret (v := .agg #[.int .i64 k, .int .i64 n, .float .f64 f, .string s, .slice a kids.length c]) (by simp [results, Try.results37, go_sem, r0, r1, r2, r3, r4]) rfl ⟨rfl, _, (HFIN.out _ _ _ _ _).1, HOL.out, (HFIN.out _ _ _ _ _).2⟩
end Go.Proofs.Ytogahhbckfnllaa


