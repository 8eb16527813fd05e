import Derived.Test.YtpcpdehnppfbfaaGreatG07
import Derived.Test.YtpcpdehnppfbfaaGreatG41
import Derived.Test.YtpcpdehnppfbfaaGreatG26
import Derived.Test.YtpcpdehnppfbfaaGreatG37
import Derived.Test.YtpcpdehnppfbfaaGreatG36
import Derived.Test.YtpcpdehnppfbfaaGreatG38
/- The chapter's first example. -/
namespace Go.Proofs.YtpcpdehnppfbfaaGreat
open Go.RowKit Go.Lib Go.Maps
attribute [local go_sem] store_float f64bits
attribute [local go_sem ↓] Go.wp_at_zero Go.wp_at_succ

theorem newE (w : World) : Calls Tryz.prog 6 #[] w fun e w' => e = .returned (.pointer (some ⟨w.heap.size, 0, none⟩)) ∧ w' = w.alloc (.cells #[.map none, .int .i64 0] 54) := by
  go_enter Tryz.func6, Tryz.ntmps6
  go_wp2
  go_ret
  exact ⟨rfl, rfl⟩

theorem eo_new (w0 w : World) (hB : Below w0.heap.size w0 w) : EO w0 (w.alloc (.cells #[.map none, .int .i64 0] 54)) w.heap.size (.map none) (fun _ _ => none) 0 0 :=
  ⟨Duo.new _ _ _ _, .inl ⟨rfl, fun _ _ => rfl⟩, hB.size, fun a b l h => (by cases h), fun a b l a' b' l' h => (by cases h), hB.alloc hB.size _⟩

theorem kn_3 (l1 l2 l3 : Lane) : updL (updL (updL (fun _ _ => none) 1 2 (some l1)) 3 2 (some l2)) 1 2 (some l3) 3 2 = some l2 := by simp [updL]
theorem kn_only (l1 l2 l3 : Lane) (a b : Int) (h : (updL (updL (updL (fun _ _ => none) 1 2 (some l1)) 3 2 (some l2)) 1 2 (some l3) a b).isSome = true) : (a = 1 ∨ a = 3) ∧ b = 2 := by
  unfold updL at h
  by_cases c1 : a = 1 ∧ b = 2
  · omega
  · by_cases c2 : a = 3 ∧ b = 2
    · omega
    · simp [c1, c2] at h
theorem kn_x {l1 l2 l3 : Lane} (h1 : l1.xs = oldx (fun _ _ => none) 1 2 ++ sgl 1 2 2 0) (h3 : l3.xs = oldx (updL (updL (fun _ _ => none) 1 2 (some l1)) 3 2 (some l2)) 1 2 ++ sgl 1 2 3 5) : l3.xs = sgl 1 2 2 0 ++ sgl 1 2 3 5 := by
  have e : oldx (updL (updL (fun _ _ => none) 1 2 (some l1)) 3 2 (some l2)) 1 2 = l1.xs := by simp [oldx, updL]
  rw [h3, e, h1]
  simp [oldx]
theorem kn_k {l1 l2 l3 : Lane} (h1 : l1.k = oldk (fun _ _ => none) 1 2 + 1) (h3 : l3.k = oldk (updL (updL (fun _ _ => none) 1 2 (some l1)) 3 2 (some l2)) 1 2 + 1) : l3.k = 0 + 1 + 1 := by
  have e : oldk (updL (updL (fun _ _ => none) 1 2 (some l1)) 3 2 (some l2)) 1 2 = l1.k := by simp [oldk, updL]
  rw [h3, e, h1]
  simp [oldk]

theorem kn_far {w0 w : World} {eb all N g q : Nat} {mv : Value} {f : Int → Int → Option Lane} {i j : Int} {l : Lane} (h : EO w0 w eb mv f all N) (hl : f i j = some l) (hg : w.heap.size ≤ g) (hq : q = eb ∨ foot l q) (e : q = g) : False := by
  rcases hq with e2 | e2
  · have := h.duo.lt; omega
  · have := (h.foot_lt hl e2).1; omega

set_option maxHeartbeats 4000000 in
set_option maxRecDepth 100000 in
theorem known11_of (PO : PopOk) (w : World) : Calls Tryz.prog 4 #[] w fun e w' => e = .returned (.bool true) ∧ Below w.heap.size w w' := by
  have C2 := hidb (fun x0 x1 w' h0 h1 h2 h3 => check2 x0 x1 w' h0 h1 h2 h3)
  have HE0 := hidb (eo_new w w (Below.refl _ _))
  go_enter Tryz.func4, Tryz.ntmps4
  go_wp2_with (first
    | (go_at_call 6; refine (newE _).mono ?_; rintro e w1 ⟨rfl, rfl⟩)
    | (go_at_call 8; refine (put_ok wf1 wf2 HE0.out (by omega) (by omega) (fun w' => C2.out 1 2 w' (by omega) (by omega) (by omega) (by omega))).mono ?_; rintro e w2 ⟨rfl, mv1, l1, h1, hx1, hk1, -⟩; have HE1 := hidb h1; have HX1 := hidb hx1; have HK1 := hidb hk1; clear h1 hx1 hk1 HE0)
    | (go_at_call 8; refine (put_ok wf3 wf2 HE1.out (by omega) (by omega) (fun w' => C2.out 3 2 w' (by omega) (by omega) (by omega) (by omega))).mono ?_; rintro e w3 ⟨rfl, mv2, l2, h2, hx2, hk2, -⟩; have HE2 := hidb h2; have HX2 := hidb hx2; have HK2 := hidb hk2; clear h2 hx2 hk2 HE1)
    | (go_at_call 8; refine (put_ok wf1 wf2 HE2.out (by omega) (by omega) (fun w' => check3 1 2 5 w' (by omega) (by omega) (by omega) (by omega) (by omega) (by omega))).mono ?_; rintro e w4 ⟨rfl, mv3, l3, h3, hx3, hk3, -⟩; have HE3 := hidb h3; have HX3 := hidb hx3; have HK3 := hidb hk3; clear h3 hx3 hk3 HE2)
    | (go_at_call 8; refine (put_refused HE3.out 1 rfl (fun w' => check2bad 1 2 w' (by omega) (by omega) (by omega) (by omega))).mono ?_; rintro e w5 ⟨rfl, h4⟩; have HE4 := hidb h4; have HXX := hidb (kn_x HX1.out HX3.out); have HKK := hidb (kn_k HK1.out HK3.out); clear h4 HE3)
    | (go_at_call 13; refine (ready2 HE4.out (updL_same _ _ _ _) (kn_3 l1 l2 l3) (kn_only l1 l2 l3)).mono ?_; rintro e w6 ⟨g, cap, rfl, hrow, hb6⟩; have HE5 := hidb (HE4.out.keep hb6); have HROW := hidb hrow; have HGE : Hid (∀ q, q = w.heap.size ∨ foot l3 q → q ≠ g) := hidb (fun q hq e => kn_far HE4.out (updL_same _ _ _ _) (row_lt hrow g rfl).2 hq e); clear hrow hb6)
    | (go_at_call 14; refine (take_more PO wf1 wf2 HE5.out (updL_same _ _ _ _) HXX.out HKK.out (by omega) (by omega) (by omega)).mono ?_; rintro e w7 ⟨rfl, ⟨V7, h7, -⟩, hb7⟩; have HE7 := hidb h7; have HR7 := hidb (row_but HROW.out hb7 (fun q hq hS => HGE.out q hS (by simpa [Value.ownBlock] using hq.symm))); have q0 : w7.cell? ⟨g, 0, none⟩ = some (.int .i64 1) := HR7.out.cellAt 0 (by omega); have q1 : w7.cell? ⟨g, 1, none⟩ = some (.int .i64 3) := HR7.out.cellAt 1 (by omega); have hgl := (row_lt HR7.out g rfl).1; have HE8 := hidb (HE7.out.keep (below_new w7 (.cells #[.int .i64 1, .int .i64 2, .int .i64 2, .int .i64 0, .int .i64 0, .bool false, .string ⟨#[]⟩, .int .i64 0, .int .i64 0, .float .f64 0, .string ⟨#[]⟩, .slice none 0 0] ST))); clear h7 hb7)
    | (go_at_call 15; refine (all_any HE8.out).mono ?_; rintro e w8 ⟨rfl, rfl⟩))
  go_ret
  exact ⟨rfl, HE8.out.bel⟩
end Go.Proofs.YtpcpdehnppfbfaaGreat


/- EtherOwn: an ether that holds copies of the signals that were put. -/
namespace Go.Proofs.YtpcpdehnppfbfaaGreat
open Go.RowKit Go.Lib Go.Maps

/-- The blocks that an ether lies in. -/
def EF (mv : Value) (f : Int → Int → Option Lane) (eb q : Nat) : Prop := q = eb ∨ mv = .map (some q) ∨ ∃ a b l, f a b = some l ∧ foot l q
theorem EF.of_put {mv : Value} {f : Int → Int → Option Lane} {eb q : Nat} {i j : Int} (h : putS mv f eb i j q) : EF mv f eb q := by
  rcases h with h | h | ⟨l, hl, h⟩
  · exact .inl h
  · exact .inr (.inl h)
  · exact .inr (.inr ⟨i, j, l, hl, h⟩)
theorem EO.foot {w0 w : World} {eb all N : Nat} {mv : Value} {f : Int → Int → Option Lane} (h : EO w0 w eb mv f all N) {q : Nat} (hq : EF mv f eb q) : q < w.heap.size ∧ w0.heap.size ≤ q := by
  rcases hq with rfl | e | ⟨a, b, l, hl, hq⟩
  · exact ⟨h.duo.lt, h.ge⟩
  · rcases h.map with ⟨e2, _⟩ | ⟨mb, n, e2, he, _, hm, _⟩
    · rw [e2] at e; cases e
    · rw [e2] at e; obtain rfl : mb = q := by simpa using e
      exact ⟨he.lt, hm⟩
  · exact h.foot_lt hl hq
theorem nodupG_len {α : Type} [DecidableEq α] : ∀ (ks L : List α), ks.Nodup → (∀ x, x ∈ ks → x ∈ L) → ks.length ≤ L.length
  | [], _, _, _ => Nat.zero_le _
  | x :: ks, L, hn, hs => by
    have hx := hs x (by simp)
    obtain ⟨h1, h2⟩ := List.nodup_cons.1 hn
    have := nodupG_len ks (L.erase x) h2 (fun y hy => (List.mem_erase_of_ne (fun e : y = x => h1 (e ▸ hy))).2 (hs y (by simp [hy])))
    rw [List.length_erase_of_mem hx] at this
    have := List.length_pos_of_mem hx
    simp
    omega
theorem sm_small : ∀ t t' : Tr, Sm t t' → (Small t → Small t') ∧ cnT t' = cnT t := by
  refine Tr.ind fun k n f s a c kids hk => ?_
  rintro ⟨k', n', f', s', a', c', kids'⟩ h
  unfold Sm at h
  have hl := smA_len h.2.2.2.2
  have hall : ∀ (l l' : List Tr), (∀ t, t ∈ l → t ∈ kids) → SmA l l' → (SmallAll l → SmallAll l') ∧ cnA l' = cnA l := by
    intro l
    induction l with
    | nil =>
      intro l' _ h
      cases l' with
      | nil => exact ⟨fun h => h, rfl⟩
      | cons => unfold SmA at h; exact h.elim
    | cons t r ih =>
      intro l' hm h
      cases l' with
      | nil => unfold SmA at h; exact h.elim
      | cons t' r' =>
        unfold SmA at h
        have h1 := hk t (hm t (by simp)) t' h.1
        have h2 := ih r' (fun u hu => hm u (by simp [hu])) h.2
        simp only [SmallAll, cnA]
        exact ⟨fun h => ⟨h1.1 h.1, h2.1 h.2⟩, by omega⟩
  have := hall kids kids' (fun t h => h) h.2.2.2.2
  simp only [Small, cnT]
  exact ⟨fun h => ⟨by omega, this.1 h.2⟩, by omega⟩

theorem sm_trans : ∀ t t' t'' : Tr, Sm t t' → Sm t' t'' → Sm t t'' := by
  refine Tr.ind fun k n f s a c kids hk => ?_
  rintro ⟨k', n', f', s', a', c', kids'⟩ ⟨k2, n2, f2, s2, a2, c2, kids2⟩ h h2
  unfold Sm at h h2 ⊢
  obtain ⟨rfl, rfl, rfl, rfl, h⟩ := h
  obtain ⟨rfl, rfl, rfl, rfl, h2⟩ := h2
  refine ⟨rfl, rfl, rfl, rfl, ?_⟩
  have hall : ∀ (l l' l2 : List Tr), (∀ t, t ∈ l → t ∈ kids) → SmA l l' → SmA l' l2 → SmA l l2 := by
    intro l
    induction l with
    | nil =>
      intro l' l2 _ h h2
      cases l' with
      | nil => exact h2
      | cons => unfold SmA at h; exact h.elim
    | cons t r ih =>
      intro l' l2 hm h h2
      cases l' with
      | nil => unfold SmA at h; exact h.elim
      | cons t' r' =>
        cases l2 with
        | nil => unfold SmA at h2; exact h2.elim
        | cons t2 r2 =>
          unfold SmA at h h2 ⊢
          exact ⟨hk t (hm t (by simp)) t' t2 h.1 h2.1, ih r' r2 (fun u hu => hm u (by simp [hu])) h.2 h2.2⟩
  exact hall kids kids' kids2 (fun t h => h) h h2

theorem sg_trans {a b c : SG} (h : a.same b) (h' : b.same c) : a.same c := by
  obtain ⟨⟨h0, h1, h2, h3, h4, h5, h6⟩, h7⟩ := h
  obtain ⟨⟨k0, k1, k2, k3, k4, k5, k6⟩, k7⟩ := h'
  exact ⟨⟨h0.trans k0, h1.trans k1, h2.trans k2, h3.trans k3, h4.trans k4, h5.trans k5, h6.trans k6⟩, sm_trans _ _ _ h7 k7⟩
theorem sg_symm {a b : SG} (h : a.same b) : b.same a := by
  obtain ⟨⟨h0, h1, h2, h3, h4, h5, h6⟩, h7⟩ := h
  exact ⟨⟨h0.symm, h1.symm, h2.symm, h3.symm, h4.symm, h5.symm, h6.symm⟩, sm_symm _ _ h7⟩
theorem samL_trans {a b c : List SG} (h : SamL a b) (h' : SamL b c) : SamL a c := by
  refine ⟨h'.1.trans h.1, fun i s d hs hd => ?_⟩
  have hl := (List.getElem?_eq_some_iff.1 hs).1
  obtain ⟨m, hm⟩ : ∃ m, b[i]? = some m := ⟨_, List.getElem?_eq_getElem (by rw [h.1]; exact hl)⟩
  exact sg_trans (h.2 i s m hs hm) (h'.2 i m d hm hd)
theorem samL_symm {a b : List SG} (h : SamL a b) : SamL b a := ⟨h.1.symm, fun i s d hs hd => sg_symm (h.2 i d s hd hs)⟩
theorem samL_snoc {a b : List SG} {s d : SG} (h : SamL a b) (hs : s.same d) : SamL (a ++ [s]) (b ++ [d]) := by
  refine ⟨by simp [h.1], fun i x y hx hy => ?_⟩
  by_cases e : i < a.length
  · rw [List.getElem?_append_left e] at hx
    rw [List.getElem?_append_left (by rw [h.1]; exact e)] at hy
    exact h.2 i x y hx hy
  · have hl := (List.getElem?_eq_some_iff.1 hx).1
    simp at hl
    obtain rfl : i = a.length := by omega
    rw [← h.1] at hy
    rw [List.getElem?_append_right (Nat.le_refl _), Nat.sub_self] at hy
    rw [List.getElem?_append_right (Nat.le_refl _), Nat.sub_self] at hx
    cases hx
    cases hy
    exact hs
theorem samL_nil {b : List SG} (h : SamL [] b) : b = [] := List.length_eq_zero_iff.1 h.1

abbrev SG.er (s : SG) : Int := Xk.errS s.x0 s.x1 s.x2 s.x3 s.x4 s.lk s.nm s.t
/-- What of the signals stands in a lane. -/
def rmL (ss : List SG) (a b : Int) : List SG := ss.filter fun s => decide (s.x0 = a) && (decide (s.x1 = b) && decide (s.er = 0))
theorem rmL_bad {ss : List SG} {s : SG} (h : s.er ≠ 0) : rmL (ss ++ [s]) = rmL ss := by
  funext a b
  simp [rmL, List.filter_append, h]
theorem rmL_same {ss : List SG} {s : SG} (h : s.er = 0) : rmL (ss ++ [s]) s.x0 s.x1 = rmL ss s.x0 s.x1 ++ [s] := by
  unfold rmL
  rw [List.filter_append]
  congr 1
  rw [List.filter_cons_of_pos (by simp [h])]
  rfl
theorem rmL_other {ss : List SG} {s : SG} {a b : Int} (h : ¬ (a = s.x0 ∧ b = s.x1)) : rmL (ss ++ [s]) a b = rmL ss a b := by
  unfold rmL
  rw [List.filter_append]
  have : ([s].filter fun s => decide (s.x0 = a) && (decide (s.x1 = b) && decide (s.er = 0))) = [] := by
    rw [List.filter_cons_of_neg]
    · rfl
    · simp only [Bool.and_eq_true, decide_eq_true_eq]
      exact fun e => h ⟨e.1.symm, e.2.1.symm⟩
  rw [this, List.append_nil]
theorem rmL_mem {ss : List SG} {a b : Int} (h : rmL ss a b ≠ []) : (a, b) ∈ ss.map (fun s => (s.x0, s.x1)) := by
  obtain ⟨s, hs⟩ := List.exists_mem_of_ne_nil _ h
  unfold rmL at hs
  rw [List.mem_filter] at hs
  simp only [Bool.and_eq_true, decide_eq_true_eq] at hs
  exact List.mem_map.2 ⟨s, hs.1, by rw [hs.2.1, hs.2.2.1]⟩

def updS (g : Int → Int → List SG) (i j : Int) (x : List SG) : Int → Int → List SG := fun a b => if a = i ∧ b = j then x else g a b
theorem updS_same (g : Int → Int → List SG) (i j : Int) (x : List SG) : updS g i j x i j = x := by simp [updS]
theorem updS_other (g : Int → Int → List SG) (i j a b : Int) (x : List SG) (h : ¬ (a = i ∧ b = j)) : updS g i j x a b = g a b := by simp [updS, h]

/-- An ether in blocks of X, with copies of those signals that may be. -/
structure EI (w0 w : World) (X : Nat → Prop) (eb : Nat) (mv : Value) (f : Int → Int → Option Lane) (all N : Nat) (ss : List SG) (sig : Int → Int → List SG) : Prop where
  eo : EO w0 w eb mv f all N
  sg : SigG f sig
  fo : ∀ q, EF mv f eb q → X q
  tr : ∀ a b, ∀ s ∈ sig a b, s.t.In w 0 ∧ s.t.On (fun q => X q ∧ ¬ EF mv f eb q) ∧ Small s.t ∧ cnT s.t ≤ 1000000000
  sam : ∀ a b, SamL (rmL ss a b) (sig a b)
  has : ∀ a b, (f a b).isSome = true ↔ rmL ss a b ≠ []
  low : ∀ q, X q → w0.heap.size ≤ q ∧ q < w.heap.size
  cnt : all ≤ ss.length ∧ N ≤ 2 * ss.length

variable {w0 w w' : World} {X : Nat → Prop} {eb all N : Nat} {mv : Value} {f : Int → Int → Option Lane} {ss : List SG} {sig : Int → Int → List SG}

theorem EI.but {S : Nat → Prop} (h : EI w0 w X eb mv f all N ss sig) (hb : But S w w') (hX : ∀ q, X q → ¬ S q) (hge : ∀ q, S q → w0.heap.size ≤ q) : EI w0 w' X eb mv f all N ss sig :=
  ⟨h.eo.but hb (hX _ (h.fo _ (.inl rfl))) (fun mb e => hX _ (h.fo _ (.inr (.inl e)))) (fun a b l j hl hj => hX _ (h.fo _ (.inr (.inr ⟨a, b, l, hl, hj⟩)))) hge, h.sg, h.fo,
    fun a b s hs => by
      obtain ⟨h1, h2, h3⟩ := h.tr a b s hs
      exact ⟨in_on (S := fun q => X q ∧ ¬ EF mv f eb q) (fun q hq => hb.block q (h.low q hq.1).2 (hX q hq.1)) _ h1 h2, h2, h3⟩,
    h.sam, h.has, fun q hq => ⟨(h.low q hq).1, Nat.lt_of_lt_of_le (h.low q hq).2 hb.size⟩, h.cnt⟩
theorem EI.keep (h : EI w0 w X eb mv f all N ss sig) (hb : Below w.heap.size w w') : EI w0 w' X eb mv f all N ss sig :=
  h.but (But.of_below (S := fun _ => False) hb) (fun _ _ => id) (fun _ => False.elim)
theorem EI.bad (h : EI w0 w X eb mv f all N ss sig) {s : SG} (he : s.er ≠ 0) : EI w0 w X eb mv f all N (ss ++ [s]) sig :=
  ⟨h.eo, h.sg, h.fo, h.tr, by rw [rmL_bad he]; exact h.sam, by rw [rmL_bad he]; exact h.has, h.low, by have := h.cnt; simp; omega⟩
theorem EI.old (h : EI w0 w X eb mv f all N ss sig) (a b : Int) : oldx f a b = sgcs (sig a b) ∧ oldk f a b = (sig a b).length := by
  cases hf : f a b with
  | some l => simp only [oldx, oldk, hf]; exact h.sg a b l hf
  | none =>
    have h0 : rmL ss a b = [] := by
      by_cases e : rmL ss a b = []
      · exact e
      · have := (h.has a b).2 e; rw [hf] at this; cases this
    have h1 := h.sam a b
    rw [h0] at h1
    simp only [oldx, oldk, hf, samL_nil h1]
    exact ⟨rfl, rfl⟩
theorem EI.good (h : EI w0 w X eb mv f all N ss sig) {s : SG} (he : s.er = 0) {t' : Tr} {mv' : Value} {l : Lane} (hE : EO w0 w' eb mv' (updL f s.x0 s.x1 (some l)) (all + 1) (N + 2)) (hx : l.xs = oldx f s.x0 s.x1 ++ sgc s.x0 s.x1 s.x2 s.x3 s.x4 s.lk s.nm t') (hk : l.k = oldk f s.x0 s.x1 + 1) (hb : But (putS mv f eb s.x0 s.x1) w w') (hmv : ∀ k, mv' = .map (some k) → mv = .map (some k) ∨ w.heap.size ≤ k) (hfo : ∀ q, foot l q → (∃ l0, f s.x0 s.x1 = some l0 ∧ foot l0 q) ∨ w.heap.size ≤ q)
    (hsm : Sm s.t t') (hin : t'.In w' 0) (hon : t'.On (fun q => w.heap.size ≤ q ∧ ¬ foot l q ∧ q ≠ eb ∧ mv' ≠ .map (some q))) (hsl : Small s.t) (hcn : cnT s.t ≤ 1000000000) :
    EI w0 w' (fun q => X q ∨ (w.heap.size ≤ q ∧ q < w'.heap.size)) eb mv' (updL f s.x0 s.x1 (some l)) (all + 1) (N + 2) (ss ++ [s]) (updS sig s.x0 s.x1 (sig s.x0 s.x1 ++ [⟨s.x0, s.x1, s.x2, s.x3, s.x4, s.lk, s.nm, t'⟩])) := by
  obtain ⟨ho1, ho2⟩ := h.old s.x0 s.x1
  have hsz := hb.size
  have hss := sm_small _ _ hsm
  have key : ∀ q, EF mv' (updL f s.x0 s.x1 (some l)) eb q → EF mv f eb q ∨ w.heap.size ≤ q := by
    rintro q (e | e | ⟨a, b, m, hm, hq⟩)
    · exact .inl (.inl e)
    · exact (hmv q e).imp (fun e => .inr (.inl e)) id
    · by_cases hc : a = s.x0 ∧ b = s.x1
      · obtain ⟨rfl, rfl⟩ := hc
        rw [updL_same] at hm
        obtain rfl : l = m := by simpa using hm
        exact (hfo q hq).imp (fun ⟨l0, h1, h2⟩ => .inr (.inr ⟨_, _, l0, h1, h2⟩)) id
      · rw [updL_other _ _ _ _ _ _ hc] at hm
        exact .inl (.inr (.inr ⟨a, b, m, hm, hq⟩))
  refine ⟨hE, fun a b m hm => ?_, fun q hq => ?_, fun a b d hd => ?_, fun a b => ?_, fun a b => ?_, fun q hq => ?_, by have := h.cnt; simp; omega⟩
  · by_cases hc : a = s.x0 ∧ b = s.x1
    · obtain ⟨rfl, rfl⟩ := hc
      rw [updL_same] at hm
      obtain rfl : l = m := by simpa using hm
      rw [updS_same, sgcs_app, hx, hk, ho1, ho2]
      exact ⟨by simp [sgcs, SG.cells], by simp⟩
    · rw [updL_other _ _ _ _ _ _ hc] at hm
      rw [updS_other _ _ _ _ _ _ hc]
      exact h.sg a b m hm
  · have hq9 := (hE.foot hq).1
    exact (key q hq).imp (h.fo q) (fun e => ⟨e, hq9⟩)
  · have old : ∀ d ∈ sig a b, d.t.In w' 0 ∧ d.t.On (fun q => (X q ∨ (w.heap.size ≤ q ∧ q < w'.heap.size)) ∧ ¬ EF mv' (updL f s.x0 s.x1 (some l)) eb q) ∧ Small d.t ∧ cnT d.t ≤ 1000000000 := fun d hd => by
      obtain ⟨h1, h2, h3⟩ := h.tr a b d hd
      exact ⟨in_on (S := fun q => X q ∧ ¬ EF mv f eb q) (fun q hq => hb.block q (h.low q hq.1).2 (fun e => hq.2 (EF.of_put e))) _ h1 h2, on_mono (fun q hq => ⟨.inl hq.1, fun e => by
        rcases key q e with e | e
        · exact hq.2 e
        · have := (h.low q hq.1).2; omega⟩) _ h2, h3⟩
    by_cases hc : a = s.x0 ∧ b = s.x1
    · obtain ⟨rfl, rfl⟩ := hc
      rw [updS_same] at hd
      rcases List.mem_append.1 hd with hd | hd
      · exact old d hd
      · obtain rfl := List.mem_singleton.1 hd
        refine ⟨hin, on_mono (fun q hq => ⟨.inr ⟨hq.1.1, hq.2⟩, ?_⟩) _ (on_and _ hon (on_all _ hin)), hss.1 hsl, by show cnT t' ≤ _; rw [hss.2]; exact hcn⟩
        rintro (e | e | ⟨a, b, m, hm, e⟩)
        · exact hq.1.2.2.1 e
        · exact hq.1.2.2.2 e
        · by_cases hc : a = s.x0 ∧ b = s.x1
          · obtain ⟨rfl, rfl⟩ := hc
            rw [updL_same] at hm
            obtain rfl : l = m := by simpa using hm
            exact hq.1.2.1 e
          · rw [updL_other _ _ _ _ _ _ hc] at hm
            have := (h.eo.foot_lt hm e).1
            have := hq.1.1
            omega
    · rw [updS_other _ _ _ _ _ _ hc] at hd
      exact old d hd
  · by_cases hc : a = s.x0 ∧ b = s.x1
    · obtain ⟨rfl, rfl⟩ := hc
      rw [updS_same, rmL_same he]
      exact samL_snoc (h.sam _ _) ⟨⟨rfl, rfl, rfl, rfl, rfl, rfl, rfl⟩, hsm⟩
    · rw [updS_other _ _ _ _ _ _ hc, rmL_other hc]
      exact h.sam a b
  · by_cases hc : a = s.x0 ∧ b = s.x1
    · obtain ⟨rfl, rfl⟩ := hc
      rw [updL_same, rmL_same he]
      simp
    · rw [updL_other _ _ _ _ _ _ hc, rmL_other hc]
      exact h.has a b
  · rcases hq with hq | hq
    · have := h.low q hq; omega
    · have := h.eo.bel.size; omega
theorem EI.few (h : EI w0 w X eb mv f all N ss sig) (ks : List (Int × Int)) (hk : LKeys f ks) : ks.length ≤ ss.length := by
  have := nodupG_len ks (ss.map fun s => (s.x0, s.x1)) hk.1 (fun x hx => by
    obtain ⟨a, b⟩ := x
    obtain ⟨h1, h2⟩ := hk.2.2 _ hx
    exact rmL_mem ((h.has a b).1 ((hk.2.1 a b h1 h2).1 hx)))
  simpa using this
/-- Two ethers with the same signals have the same lanes. -/
theorem keys_same {w2 : World} {X2 : Nat → Prop} {eb2 all2 N2 : Nat} {mv2 : Value} {f2 : Int → Int → Option Lane} {sig2 : Int → Int → List SG} (h : EI w0 w X eb mv f all N ss sig) (h' : EI w0 w2 X2 eb2 mv2 f2 all2 N2 ss sig2) {ks ks' : List (Int × Int)} (hk : LKeys f ks) (hk' : LKeys f2 ks') (hr : Rise ks) (hr' : Rise ks') : ks = ks' := by
  refine rise_unique hr hr' ((List.perm_ext_iff_of_nodup hk.1 hk'.1).2 fun x => ?_)
  obtain ⟨a, b⟩ := x
  constructor
  · intro hx
    obtain ⟨h1, h2⟩ := hk.2.2 _ hx
    exact (hk'.2.1 a b h1 h2).2 ((h'.has a b).2 ((h.has a b).1 ((hk.2.1 a b h1 h2).1 hx)))
  · intro hx
    obtain ⟨h1, h2⟩ := hk'.2.2 _ hx
    exact (hk.2.1 a b h1 h2).2 ((h.has a b).2 ((h'.has a b).1 ((hk'.2.1 a b h1 h2).1 hx)))
theorem EI.new (w0 w : World) (hB : Below w0.heap.size w0 w) : EI w0 (w.alloc (.cells #[.map none, .int .i64 0] 54)) (fun q => q = w.heap.size) w.heap.size (.map none) (fun _ _ => none) 0 0 [] (fun _ _ => []) := by
  refine ⟨eo_new w0 w hB, fun a b l h => (by cases h), fun q hq => ?_, fun a b s hs => absurd hs (List.not_mem_nil), fun a b => ⟨rfl, fun i s d hs => (by simp [rmL] at hs)⟩, fun a b => by simp [rmL], fun q hq => by subst hq; have := hB.size; simp; omega, by simp⟩
  rcases hq with h | h | ⟨a, b, l, e, _⟩
  · exact h
  · cases h
  · cases e
end Go.Proofs.YtpcpdehnppfbfaaGreat


