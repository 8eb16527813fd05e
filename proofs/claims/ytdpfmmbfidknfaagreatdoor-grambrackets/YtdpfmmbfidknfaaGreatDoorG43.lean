import Derived.Test.YtdpfmmbfidknfaaGreatDoorG42
import Derived.Test.YtdpfmmbfidknfaaGreatDoorG20
import Derived.Test.YtdpfmmbfidknfaaGreatDoorG13
/- Parse. -/
namespace Go.Proofs.YtdpfmmbfidknfaaGreatDoor
open Go.RowKit Go.Lib
attribute [local go_sem] store_float f64bits
attribute [local go_sem ↓] Go.wp_at_zero Go.wp_at_succ

theorem tkOf_k (k n e : Int) (x : ByteArray) (f p : Nat) (hk : k ≠ 8) : (tkOf (.tuple #[.agg #[.int .i64 (k), .string (x), .int .i64 (n), .float .f64 (f), .int .i64 (0)], .int .i64 e]) p).k ≠ 8 := hk
theorem badV_k (e : Int) (p : Nat) : (tkOf (badV e) p).k ≠ 8 := tkOf_k 0 0 e ⟨#[]⟩ 0 p (by decide)
theorem atomV_k (x : ByteArray) (p : Nat) : (tkOf (atomV x) p).k ≠ 8 := by
  unfold atomV
  split
  · exact badV_k _ _
  · exact tkOf_k _ _ _ _ _ _ (by decide)
theorem tokV_k (s : ByteArray) (i p : Nat) : (tkOf (tokV s i) p).k ≠ 8 := by
  unfold tokV
  split
  · unfold wordV
    repeat' split
    all_goals exact tkOf_k _ _ _ _ _ _ (by decide)
  · split
    · exact tkOf_k _ _ _ _ _ _ (by decide)
    · split
      · unfold numV
        split
        · exact badV_k _ _
        · split
          · unfold wholeV
            split
            · exact badV_k _ _
            · split
              · exact badV_k _ _
              · exact tkOf_k _ _ _ _ _ _ (by decide)
          · unfold floatV
            split
            · exact badV_k _ _
            · exact tkOf_k _ _ _ _ _ _ (by decide)
      · split
        · unfold bitsV
          split
          · split
            · exact tkOf_k _ _ _ _ _ _ (by decide)
            · exact badV_k _ _
          · exact badV_k _ _
        · split
          · unfold quoteV
            split
            · split
              · exact atomV_k _ _
              · exact tkOf_k _ _ _ _ _ _ (by decide)
            · exact badV_k _ _
          · cases signAt s i with
            | none => exact tkOf_k _ _ _ _ _ _ (by decide)
            | some l => exact tkOf_k _ _ _ _ _ _ (by decide)

theorem toks_ends (s : ByteArray) : ∀ (k p : Nat) (done l : List Tk), toks s k p done = .inl l → (∀ t ∈ done, t.k ≠ 8) → (∃ a t, l = a ++ [t] ∧ t.k = 8 ∧ ∀ u ∈ a, u.k ≠ 8) ∧ l.length ≤ done.length + k
  | 0, _, _, _, h, _ => by cases h
  | k + 1, p, done, l, h, hd => by
    unfold toks at h
    split at h
    · split at h
      · have := toks_ends s k _ done l h hd
        exact ⟨this.1, by omega⟩
      · split at h
        · have := toks_ends s k _ _ l h (by
            intro t ht
            rcases List.mem_append.1 ht with ht | ht
            · exact hd t ht
            · simp at ht; subst ht; exact tokV_k _ _ _)
          exact ⟨this.1, by have h2 := this.2; simp at h2; omega⟩
        · cases h
    · cases h
      exact ⟨⟨done, _, rfl, rfl, hd⟩, by simp⟩

theorem okV_er (s : ByteArray) (i : Nat) (h : erOf (tokV s i) = 0) : okV (tokV s i) = true := by
  obtain ⟨k, x, n, f, e, hv⟩ := tokV_tk s i
  rw [hv] at h ⊢
  exact decide_eq_true h
/-- The fuel is enough: a fault has a number. -/
theorem toks_err (s : ByteArray) : ∀ (k p : Nat) (done : List Tk) (er : Int) (q : Nat), p ≤ s.size → s.size < k + p → toks s k p done = .inr (er, q) → er ≠ 0
  | 0, p, _, _, _, hp, hk, _ => by omega
  | k + 1, p, done, er, q, hp, hk, h => by
    have h1 := goes_ge pBlank s p
    have h2 := goes_le pBlank s p hp
    unfold toks at h
    split at h
    · rename_i hlt
      split at h
      · rename_i h37
        have h3 := goes_ge pLine s (goes pBlank s p)
        have h4 := goes_le pLine s (goes pBlank s p) h2
        have h5 : goes pBlank s p < goes pLine s (goes pBlank s p) := by
          rcases Nat.lt_or_ge (goes pBlank s p) (goes pLine s (goes pBlank s p)) with hh | hh
          · exact hh
          · have he : goes pLine s (goes pBlank s p) = goes pBlank s p := by omega
            have hn := goes_not pLine s (goes pBlank s p) (by omega)
            rw [he, h37] at hn
            simp [pLine] at hn
        exact toks_err s k _ done er q h4 (by omega) h
      · split at h
        · rename_i he
          obtain ⟨h3, h4⟩ := tokE_in s _ hlt (okV_er s _ he)
          exact toks_err s k _ _ er q h4 (by omega) h
        · rename_i he
          cases h
          exact he
    · cases h

theorem tks_of {w : World} {q : Nat} : ∀ (l : List Tk) (i : Nat), (∀ k u, (tkCells l)[k]? = some u → w.cell? ⟨q, i + k, none⟩ = some u) → Tks w q i l
  | [], _, _ => trivial
  | t :: r, i, h => by
    have hc : tkCells (t :: r) = t.cells ++ tkCells r := rfl
    rw [hc] at h
    refine ⟨⟨h 0 _ rfl, h 1 _ rfl, h 2 _ rfl, h 3 _ rfl, h 4 _ rfl⟩, tks_of r (i + 5) fun k u hk => ?_⟩
    have := h (5 + k) u (by rw [List.getElem?_append_right (by simp [Tk.cells])]; simpa [Tk.cells] using hk)
    rw [← Nat.add_assoc] at this
    exact this

/-- The tree of a source: the root and the state that holds the nodes, or the fault. -/
def parseP (s : ByteArray) : Except (Int × Nat) (Nat × PS) := match allT s with
  | .inr e => .error e
  | .inl l => treeP l

/-- What Parse has told. -/
def ParseR (w : World) (R : Except (Int × Nat) (Nat × PS)) (e : Ending) (w' : World) : Prop :=
  Below w.heap.size w w' ∧
  ((∃ er p, R = .error (er, p) ∧ e = .returned (.tuple #[.agg #[.slice none 0 0, .int .i64 0], .agg #[.int .i64 er, .int .i64 ((p : Nat) : Int)]])) ∨
   (∃ r s V, R = .ok (r, s) ∧ e = .returned (.tuple #[.agg #[V, iv r], .agg #[.int .i64 0, .int .i64 0]]) ∧ Nodes w' w.heap.size V s.ns))

theorem allT_ends (s : ByteArray) {l : List Tk} (h : allT s = .inl l) : Ne ⟨l, [], 0⟩ ∧ l.length ≤ 100000 := by
  unfold allT at h
  split at h
  · cases h
  · obtain ⟨⟨a, t, h1, h2, h3⟩, h4⟩ := toks_ends s _ _ _ l h (by simp)
    exact ⟨⟨a, t, h1, h2, h3⟩, by simp at h4; omega⟩
theorem allT_err (s : ByteArray) {er : Int} {p : Nat} (h : allT s = .inr (er, p)) : er ≠ 0 := by
  unfold allT at h
  split at h
  · cases h; decide
  · exact toks_err s _ _ _ er p (Nat.zero_le _) (by omega) h

theorem nodes_sl {w : World} {B : Nat} {V : Value} {ns : List Nd} (h : Nodes w B V ns) : ∃ a m c, V = .slice a m c := by
  obtain ⟨⟨vs, _, ho, _⟩, _⟩ := h
  rcases ho.2 with ⟨hv, _⟩ | ⟨q, cap, cur, hv, _⟩
  · exact ⟨_, _, _, hv⟩
  · exact ⟨_, _, _, hv⟩

set_option maxHeartbeats 2000000 in
set_option maxRecDepth 100000 in
theorem Parse_any (s : ByteArray) (w : World) (hT : LexTab w) : Calls Tryz.prog 6 #[.string s] w fun e w' => ParseR w (parseP s) e w' := by
  obtain ⟨W2, hW2⟩ : ∃ W2, ((w.alloc (.cells #[.slice none 0 0, .int .i64 0] 25)).alloc (.cells #[.int .i64 0, .int .i64 0] 28)) = W2 := ⟨_, rfl⟩
  have hB2 : Below w.heap.size w W2 := by rw [← hW2]; exact ((Below.refl _ _).alloc (Nat.le_refl _) _).alloc (by simp) _
  have hZ2 : W2.heap.size = w.heap.size + 1 + 1 := by rw [← hW2]; simp
  have hD1 : Duo W2 w.heap.size (.slice none 0 0) (.int .i64 0) := by rw [← hW2]; exact (Duo.new w _ _ _).keep (below_new _ _)
  have hD2 : Duo W2 (w.heap.size + 1) (.int .i64 0) (.int .i64 0) := by
    rw [← hW2]
    have := Duo.new (w.alloc (.cells #[.slice none 0 0, .int .i64 0] 25)) 28 (.int .i64 0) (.int .i64 0)
    simpa using this
  have cT := Tokens_any s W2 (hT.but (But.of_below (S := fun _ => False) hB2) (fun _ e => e.elim))
  have HW2 := hidb hW2
  have HB2 := hidb hB2
  have HD1 := hidb hD1
  have HD2 := hidb hD2
  clear hW2 hB2 hD1 hD2 hT
  cases hA : allT s with
  | inr q =>
    obtain ⟨er, p⟩ := q
    have hR : parseP s = .error (er, p) := by unfold parseP; rw [hA]
    have her := allT_err s hA
    rw [hR]
    rw [hA] at cT
    clear hA hR
    go_enter Tryz.func6, Tryz.ntmps6
    go_wp2_with (go_at_call 12; rw [HW2.out]; refine cT.mono ?_; rintro r1 w1 ⟨⟨l, V, hl, rfl, ho⟩ | ⟨er', p', hl, rfl⟩, hb⟩ <;> first | (cases hl; have HB := hidb hb; obtain ⟨y0, y1, z0, z1, q1⟩ := HD1.out.keep hb; obtain ⟨y2, y3, z2, z3, q2⟩ := HD2.out.keep hb; clear hb) | cases hl)
    go_region_law (fail)
    all_goals (
      go_wp2_with fail
      obtain ⟨e1, e2, e3⟩ := put4_all (HD1.out.keep HB.out) (HD2.out.keep HB.out) (by omega) (.slice none 0 0) (.int .i64 0) (.int .i64 er) (.int .i64 (p : Int))
      have hb6 : Below w.heap.size w1 (put4 w1 w.heap.size (w.heap.size + 1) (.slice none 0 0) (.int .i64 0) (.int .i64 er) (.int .i64 (p : Int))) := e3.below (by omega) (fun k hk => by omega)
      have e5 := e1.keep (Below.drew (below_new _ (.cells #[.int .i64 er, .int .i64 (p : Int)] 28)))
      have e6 := e2.keep (Below.drew (below_new _ (.cells #[.int .i64 er, .int .i64 (p : Int)] 28)))
      have hb7 := ((HB2.out.trans (HB.out.mono (by omega))).trans hb6).trans ((Below.drew (below_new _ (.cells #[.int .i64 er, .int .i64 (p : Int)] 28))).mono (by have := hb6.size; omega))
      have k0 := e5.c0; have k1 := e5.c1; have k2 := e6.c0; have k3 := e6.c1
      simp only [put4] at k0 k1 k2 k3
      exact bodyPost_ret (v := .tuple #[.agg #[.slice none 0 0, .int .i64 0], .agg #[.int .i64 er, .int .i64 (p : Int)]]) (by simp [results, Tryz.results6, go_sem, k0, k1, k2, k3]) rfl ⟨hb7, .inl ⟨er, p, rfl, rfl⟩⟩)
  | inl l =>
    have hR : parseP s = treeP l := by unfold parseP; rw [hA]
    obtain ⟨hne, hlen⟩ := allT_ends s hA
    rw [hR]
    rw [hA] at cT
    have HNE := hidb hne
    clear hA hR hne
    go_enter Tryz.func6, Tryz.ntmps6
    go_wp2_with (first | (go_at_call 13; refine (treeOf_any (HTK.out.but (But.of_below (S := fun _ => False) (below_new w1 _)) HQL.out (fun h => h)) hqc (Nat.lt_of_lt_of_le HQL.out (below_new w1 _).size) HNE.out hlen).mono ?_; rintro r1 w2 ⟨hb, ⟨er, p, hq, rfl⟩ | ⟨r, s1, V1, hq, rfl, hn⟩⟩ <;> first | (have HN := hidb hn; obtain ⟨va, vm, vc, rfl⟩ := nodes_sl hn; have HQ := hidb hq; have HB5 := hidb hb; obtain ⟨x0, x1, u0, u1, -⟩ := (HD1.out.keep (HB.out.trans ((below_new w1 _).mono HB.out.size))).keep hb; obtain ⟨x2, x3, u2, u3, -⟩ := (HD2.out.keep (HB.out.trans ((below_new w1 _).mono HB.out.size))).keep hb; clear hb hq hn) | (have HQ := hidb hq; have HB5 := hidb hb; obtain ⟨x0, x1, u0, u1, -⟩ := (HD1.out.keep (HB.out.trans ((below_new w1 _).mono HB.out.size))).keep hb; obtain ⟨x2, x3, u2, u3, -⟩ := (HD2.out.keep (HB.out.trans ((below_new w1 _).mono HB.out.size))).keep hb; clear hb hq)) | (go_at_call 12; rw [HW2.out]; refine cT.mono ?_; rintro r1 w1 ⟨⟨l2, V, hl, rfl, ho⟩ | ⟨er', p', hl, rfl⟩, hb⟩ <;> first | (cases hl; have HB := hidb hb; obtain ⟨q, cap, rfl, hqB, hqc, hcs⟩ := own_cell ho (by obtain ⟨a, t, ha, _⟩ := HNE.out; simp only at ha; rw [ha]; simp); have HQL := hidb (cell_lt (hcs 0 _ (by obtain ⟨r, hr⟩ := Gm.ne_hd HNE.out; simp only at hr; rw [hr]; rfl))); have HTK := hidb (tks_of l 0 (fun k u hk => by rw [Nat.zero_add]; exact hcs k u hk)); obtain ⟨y0, y1, z0, z1, q1⟩ := HD1.out.keep hb; obtain ⟨y2, y3, z2, z3, q2⟩ := HD2.out.keep hb; clear hb ho hcs) | cases hl))
    · obtain ⟨e1, e2, e3⟩ := put4_all ((HD1.out.keep (HB.out.trans ((below_new w1 (.cells #[.int .i64 0, .int .i64 0] 28)).mono HB.out.size))).keep HB5.out) ((HD2.out.keep (HB.out.trans ((below_new w1 (.cells #[.int .i64 0, .int .i64 0] 28)).mono HB.out.size))).keep HB5.out) (by omega) (.slice none 0 0) (.int .i64 0) (.int .i64 er) (.int .i64 (p : Int))
      have hz1 := HB.out.size
      have hz5 := HB5.out.size
      have hza : (w1.alloc (.cells #[.int .i64 0, .int .i64 0] 28)).heap.size = w1.heap.size + 1 := by simp
      have hb6 : Below w.heap.size w2 (put4 w2 w.heap.size (w.heap.size + 1) (.slice none 0 0) (.int .i64 0) (.int .i64 er) (.int .i64 (p : Int))) := e3.below (by omega) (fun k hk => by omega)
      have hb7 := (((HB2.out.trans (HB.out.mono (by omega))).trans ((below_new w1 (.cells #[.int .i64 0, .int .i64 0] 28)).mono (by omega))).trans (HB5.out.mono (by omega))).trans hb6
      have k0 := e1.c0; have k1 := e1.c1; have k2 := e2.c0; have k3 := e2.c1
      simp only [put4] at k0 k1 k2 k3
      exact bodyPost_ret (v := .tuple #[.agg #[.slice none 0 0, .int .i64 0], .agg #[.int .i64 er, .int .i64 (p : Int)]]) (by simp [results, Tryz.results6, go_sem, k0, k1, k2, k3]) rfl ⟨hb7, .inl ⟨er, p, HQ.out, rfl⟩⟩
    · obtain ⟨e1, e2, e3⟩ := put4_all ((HD1.out.keep (HB.out.trans ((below_new w1 (.cells #[.int .i64 0, .int .i64 0] 28)).mono HB.out.size))).keep HB5.out) ((HD2.out.keep (HB.out.trans ((below_new w1 (.cells #[.int .i64 0, .int .i64 0] 28)).mono HB.out.size))).keep HB5.out) (by omega) (.slice va vm vc) (iv r) (.int .i64 0) (.int .i64 0)
      have hz1 := HB.out.size
      have hz5 := HB5.out.size
      have hza : (w1.alloc (.cells #[.int .i64 0, .int .i64 0] 28)).heap.size = w1.heap.size + 1 := by simp
      have hb6 : Below w.heap.size w2 (put4 w2 w.heap.size (w.heap.size + 1) (.slice va vm vc) (iv r) (.int .i64 0) (.int .i64 0)) := e3.below (by omega) (fun k hk => by omega)
      have hb7 := (((HB2.out.trans (HB.out.mono (by omega))).trans ((below_new w1 (.cells #[.int .i64 0, .int .i64 0] 28)).mono (by omega))).trans (HB5.out.mono (by omega))).trans hb6
      have hnd := (HN.out.but e3 (fun k hk => by omega)).base (B' := w.heap.size) (by omega)
      have k0 := e1.c0; have k1 := e1.c1; have k2 := e2.c0; have k3 := e2.c1
      simp only [put4] at k0 k1 k2 k3
      exact bodyPost_ret (v := .tuple #[.agg #[.slice va vm vc, iv r], .agg #[.int .i64 0, .int .i64 0]]) (by simp [results, Tryz.results6, go_sem, k0, k1, k2, k3]) rfl ⟨hb7, .inr ⟨r, s1, _, HQ.out, rfl, hnd⟩⟩
end Go.Proofs.YtdpfmmbfidknfaaGreatDoor


/- Nodes that are laid make a forest: each is owned once, by a later one, but for the roots. -/
namespace Go.Proofs.YtdpfmmbfidknfaaGreatDoor

/-- The nodes b, laid behind n0 others, are a forest with the roots l. -/
structure Forest (n0 : Nat) (b : List Nd) (l : List Nat) : Prop where
  inc : l.Pairwise (· < ·)
  rng : ∀ i ∈ l, n0 ≤ i ∧ i < n0 + b.length
  kid : ∀ j n, b[j]? = some n → n.l.Pairwise (· < ·) ∧ ∀ c ∈ n.l, n0 ≤ c ∧ c < n0 + j
  one : ∀ i, n0 ≤ i → i < n0 + b.length → (b.flatMap (·.l)).count i = if i ∈ l then 0 else 1

theorem Forest.nil (n0 : Nat) : Forest n0 [] [] := ⟨List.Pairwise.nil, (by simp), (by simp), fun i h1 h2 => by simp at h2; omega⟩
theorem Forest.kids {n0 : Nat} {b : List Nd} {l : List Nat} (h : Forest n0 b l) {c : Nat} (hc : c ∈ b.flatMap (·.l)) : n0 ≤ c ∧ c < n0 + b.length := by
  obtain ⟨n, hn, hcn⟩ := List.mem_flatMap.1 hc
  obtain ⟨j, hj, hjn⟩ := List.getElem_of_mem hn
  have := (h.kid j n (by rw [List.getElem?_eq_getElem hj, hjn])).2 c hcn
  omega
theorem Forest.append {n0 : Nat} {b b' : List Nd} {l l' : List Nat} (h : Forest n0 b l) (h' : Forest (n0 + b.length) b' l') : Forest n0 (b ++ b') (l ++ l') := by
  refine ⟨List.pairwise_append.2 ⟨h.inc, h'.inc, fun x hx y hy => ?_⟩, fun i hi => ?_, fun j n hj => ?_, fun i h1 h2 => ?_⟩
  · have := h.rng x hx
    have := h'.rng y hy
    omega
  · rw [List.length_append]
    rcases List.mem_append.1 hi with hi | hi
    · have := h.rng i hi; omega
    · have := h'.rng i hi; omega
  · by_cases hjl : j < b.length
    · rw [List.getElem?_append_left hjl] at hj
      exact h.kid j n hj
    · rw [List.getElem?_append_right (by omega)] at hj
      obtain ⟨h3, h4⟩ := h'.kid _ n hj
      exact ⟨h3, fun c hc => by have := h4 c hc; omega⟩
  · rw [List.flatMap_append, List.count_append]
    rw [List.length_append] at h2
    by_cases hi : i < n0 + b.length
    · have h3 : (b'.flatMap (·.l)).count i = 0 := List.count_eq_zero.2 fun hc => by have := h'.kids hc; omega
      have h4 : i ∉ l' := fun hc => by have := h'.rng i hc; omega
      rw [h3, h.one i h1 hi]
      simp [h4]
    · have h3 : (b.flatMap (·.l)).count i = 0 := List.count_eq_zero.2 fun hc => by have := h.kids hc; omega
      have h4 : i ∉ l := fun hc => by have := h.rng i hc; omega
      rw [h3, h'.one i (by omega) (by omega)]
      simp [h4]
theorem Forest.lay {n0 : Nat} {b : List Nd} {l : List Nat} (h : Forest n0 b l) {n : Nd} (hn : n.l = l) : Forest n0 (b ++ [n]) [n0 + b.length] := by
  refine ⟨List.pairwise_singleton _ _, fun i hi => ?_, fun j m hj => ?_, fun i h1 h2 => ?_⟩
  · simp at hi; simp; omega
  · by_cases hjl : j < b.length
    · rw [List.getElem?_append_left hjl] at hj
      exact h.kid j m hj
    · rw [List.getElem?_append_right (by omega)] at hj
      have hj0 : j - b.length = 0 := by
        cases hd : j - b.length with
        | zero => rfl
        | succ d => simp [hd] at hj
      rw [hj0] at hj
      simp at hj
      subst hj
      rw [hn]
      exact ⟨h.inc, fun c hc => by have := h.rng c hc; omega⟩
  · rw [List.flatMap_append, List.count_append]
    simp only [List.flatMap_cons, List.flatMap_nil, List.append_nil, hn]
    have hnd : l.Nodup := h.inc.imp (fun h => Nat.ne_of_lt h)
    rw [List.length_append] at h2
    by_cases hi : i < n0 + b.length
    · rw [h.one i h1 hi]
      have h5 : i ∉ [n0 + b.length] := by simp; omega
      rw [if_neg h5]
      by_cases hm : i ∈ l
      · rw [if_pos hm]
        have h6 := List.count_pos_iff.2 hm
        have h7 := List.nodup_iff_count.1 hnd i
        omega
      · rw [if_neg hm, List.count_eq_zero.2 hm]
    · have h3 : (b.flatMap (·.l)).count i = 0 := List.count_eq_zero.2 fun hc => by have := h.kids hc; omega
      have h4 : l.count i = 0 := List.count_eq_zero.2 fun hc => by have := h.rng i hc; omega
      have h5 : i ∈ [n0 + b.length] := by simp at h2 ⊢; omega
      rw [h3, h4, if_pos h5]

/-- What has been laid since s0 is a forest with the roots l. -/
def Fo (s0 s : PS) (l : List Nat) : Prop := ∃ b, s.ns = s0.ns ++ b ∧ Forest s0.ns.length b l
theorem Fo.start (s : PS) : Fo s s [] := ⟨[], by simp, Forest.nil _⟩
theorem Fo.trans {s0 s s' : PS} {l l' : List Nat} (h : Fo s0 s l) (h' : Fo s s' l') : Fo s0 s' (l ++ l') := by
  obtain ⟨b, h1, h2⟩ := h
  obtain ⟨b', h3, h4⟩ := h'
  refine ⟨b ++ b', by rw [h3, h1, List.append_assoc], h2.append ?_⟩
  rw [h1, List.length_append] at h4
  exact h4

namespace Gm
/-- A step that goes on with the roots l, and tells roots. -/
def Ks {α : Type} (l : List Nat) (r : α → List Nat) (m : PM α) : Prop := ∀ s0 s a s', Fo s0 s l → m s = .ok (a, s') → Fo s0 s' (r a)
theorem ks_bind {α β : Type} {l : List Nat} {r : α → List Nat} {q : β → List Nat} {m : PM α} {f : α → PM β} (h : Ks l r m) (g : ∀ a, Ks (r a) q (f a)) : Ks l q (m >>= f) := by
  intro s0 s b s' hf hb
  rw [bind_at] at hb
  cases hm : m s with
  | error e => simp [hm] at hb
  | ok p =>
    obtain ⟨a, t⟩ := p
    simp only [hm] at hb
    exact g a s0 t b s' (h s0 s a t hf hm) hb
/-- A rule: it lays a tree of its own. -/
abbrev Rt (m : PM Nat) : Prop := Ks [] (fun x => [x]) m
abbrev RtL (m : PM (List Nat)) : Prop := Ks [] (fun x => x) m
theorem ks_add {α : Type} {r : α → List Nat} {m : PM α} (h : Ks [] r m) (l : List Nat) : Ks l (fun a => l ++ r a) m := fun _ _ a s' hf hm => hf.trans (h _ _ a s' (Fo.start _) hm)
theorem ks_still {α : Type} {m : PM α} (h : ∀ s a s', m s = .ok (a, s') → s'.ns = s.ns) (l : List Nat) : Ks l (fun _ => l) m := fun s0 s a s' hf hm => by
  obtain ⟨b, h1, h2⟩ := hf
  exact ⟨b, by rw [h s a s' hm, h1], h2⟩
theorem ks_pure {α : Type} {r : α → List Nat} {l : List Nat} (a : α) (h : r a = l) : Ks l r (pure a) := fun s0 s b s' hf hm => by cases hm; rw [h]; exact hf
theorem ks_here (l : List Nat) : Ks l (fun _ => l) here := ks_still (fun _ _ _ h => by cases h; rfl) l
theorem ks_ahead (l : List Nat) : Ks l (fun _ => l) ahead := ks_still (fun _ _ _ h => by cases h; rfl) l
theorem ks_left (l : List Nat) : Ks l (fun _ => l) left := ks_still (fun _ _ _ h => by cases h; rfl) l
theorem ks_next (l : List Nat) : Ks l (fun _ => l) next := ks_still (fun _ _ _ h => by cases h; rfl) l
theorem ks_take (w : ByteArray) (l : List Nat) : Ks l (fun _ => l) (take w) := ks_still (fun s a s' h => by
  simp only [take] at h
  split at h <;> cases h <;> rfl) l
theorem ks_need (w : ByteArray) (l : List Nat) : Ks l (fun _ => l) (need w) := ks_still (fun s a s' h => by
  simp only [need] at h
  split at h
  · cases h; rfl
  · cases h) l
theorem ks_needK (k : Int) (l : List Nat) : Ks l (fun _ => l) (needK k) := ks_still (fun s a s' h => by
  simp only [needK] at h
  split at h
  · cases h; rfl
  · cases h) l
theorem ks_giveUp {α : Type} {l : List Nat} {r : α → List Nat} (e : Int) : Ks l r (giveUp e) := fun _ _ _ _ _ h => by cases h
theorem ks_fault {α : Type} {l : List Nat} {r : α → List Nat} (e : Int) (p : Nat) : Ks l r (fault e p) := fun _ _ _ _ _ h => by cases h
theorem ks_lay (n : Nd) : Ks n.l (fun x => [x]) (lay n) := by
  intro s0 s x s' hf h
  obtain ⟨b, h1, h2⟩ := hf
  simp only [lay] at h
  split at h
  · cases h
  · cases h
    refine ⟨b ++ [n], by simp [h1], ?_⟩
    rw [h1, List.length_append]
    exact h2.lay rfl
theorem ks_ite {α : Type} {l : List Nat} {r : α → List Nat} {c : Prop} [Decidable c] {m n : PM α} (h : Ks l r m) (g : Ks l r n) : Ks l r (if c then m else n) := by split <;> assumption
theorem rt_layNone (k : Int) (l : List Nat) : Ks l (fun x => l ++ [x]) (layNone k) := ks_add (ks_bind (ks_here []) fun _ => ks_lay ⟨k, ⟨#[]⟩, 0, 0, [], _⟩) l

variable {e : PM Nat}
theorem rt_more (he : Rt e) (most : Nat) : ∀ k l, Ks l (fun x => x) (more e most k l)
  | 0, l => ks_pure l rfl
  | k + 1, l => ks_bind (ks_take _ l) fun _ => ks_ite (ks_ite (ks_giveUp _) (ks_bind (ks_add he l) fun _ => rt_more he most k _)) (ks_pure l rfl)
theorem rt_exprs (he : Rt e) (most : Nat) : RtL (exprs e most) := ks_bind he fun _ => ks_bind (ks_left _) fun _ => rt_more he _ _ _
theorem rt_group (he : Rt e) (k : Int) : Rt (group e k) := ks_bind (ks_here _) fun _ => ks_bind (rt_exprs he _) fun l => ks_lay ⟨k, ⟨#[]⟩, 0, 0, l, _⟩
theorem rt_body (he : Rt e) : Rt (body e) := rt_group he _
theorem rt_guard (he : Rt e) : Rt (guard e) := ks_bind (ks_take _ _) fun _ => ks_ite (rt_group he _) (rt_layNone _ [])
theorem rt_args (he : Rt e) : RtL (args e) :=
  ks_bind (ks_need _ _) fun _ => ks_bind (ks_take _ _) fun _ => ks_ite (ks_pure [] rfl) (ks_bind (rt_exprs he _) fun l => ks_bind (ks_need _ l) fun _ => ks_pure l rfl)
theorem rt_tail (he : Rt e) (p : Nat) (x : ByteArray) (l : List Nat) : Ks l (fun x => [x]) (tail e p x l) :=
  ks_bind (ks_add (rt_guard he) l) fun g => ks_bind (ks_need _ _) fun _ => ks_bind (ks_add (rt_body he) _) fun b => by
    have h := ks_lay ⟨21, x, (l.length : Int), 0, l ++ [g, b], p⟩
    simpa using h
theorem rt_fclause (he : Rt e) : Rt (fclause e) := ks_bind (ks_needK _ _) fun _ => ks_bind (rt_args he) fun _ => rt_tail he _ _ _
theorem rt_gclause (he : Rt e) : Rt (gclause e) := ks_bind (ks_here _) fun _ => ks_bind (rt_args he) fun _ => rt_tail he _ _ _
theorem rt_clause (he : Rt e) : Rt (clause e) := ks_bind (ks_here _) fun _ => ks_bind he fun _ => rt_tail he _ _ _
theorem rt_leaf : Rt leaf := ks_bind (ks_next _) fun t => ks_lay ⟨leafKind t.k, t.x, t.n, t.f, [], t.p⟩
theorem rt_cls : Rt cls := ks_bind (ks_here _) fun t => ks_bind (ks_ahead _) fun _ => ks_ite (ks_ite (ks_bind rt_leaf fun x => ks_bind (ks_need _ _) fun _ => ks_pure x rfl) (ks_giveUp _)) (ks_lay ⟨3, ⟨#[116, 104, 114, 111, 119]⟩, 0, 0, [], t.p⟩)
theorem rt_cclause (he : Rt e) : Rt (cclause e) := ks_bind (ks_here _) fun _ => ks_bind rt_cls fun _ => ks_bind (ks_add he _) fun _ => rt_tail he _ _ _
theorem rt_moreC {c : PM Nat} (hc : Rt c) : ∀ k l, Ks l (fun x => x) (moreC c k l)
  | 0, l => ks_pure l rfl
  | k + 1, l => ks_bind (ks_take _ l) fun _ => ks_ite (ks_bind (ks_add hc l) fun _ => rt_moreC hc k _) (ks_pure l rfl)
theorem rt_clauses {c : PM Nat} (hc : Rt c) : Rt (clauses c) := ks_bind (ks_here _) fun t => ks_bind hc fun _ => ks_bind (ks_left _) fun _ => ks_bind (rt_moreC hc _ _) fun l => ks_lay ⟨20, ⟨#[]⟩, 0, 0, l, t.p⟩
theorem rt_clausesBehind {c : PM Nat} (w : ByteArray) (hc : Rt c) : Rt (clausesBehind w c) := ks_bind (ks_take _ _) fun _ => ks_ite (rt_clauses hc) (rt_layNone _ [])
theorem rt_begin (he : Rt e) : Rt (begin e) := ks_bind (ks_next _) fun t => ks_bind (rt_exprs he _) fun l => ks_bind (ks_need _ _) fun _ => ks_lay ⟨19, ⟨#[]⟩, 0, 0, l, t.p⟩
theorem rt_choice (he : Rt e) : Rt (choice e) := ks_bind (ks_next _) fun t => ks_bind he fun x => ks_bind (ks_need _ _) fun _ => ks_bind (ks_add (rt_clauses (rt_clause he)) _) fun c => ks_bind (ks_need _ _) fun _ => ks_lay ⟨15, ⟨#[]⟩, 0, 0, [x, c], t.p⟩
theorem rt_funName (p : Nat) : Rt (funName p) := ks_bind (ks_next _) fun t => ks_bind (ks_need _ _) fun _ => ks_bind (ks_needK _ _) fun n => ks_ite (ks_fault _ _) (ks_lay ⟨14, t.x, n.n, 0, [], p⟩)
theorem rt_fn (he : Rt e) : Rt (fn e) := ks_bind (ks_next _) fun t => ks_bind (ks_here _) fun _ => ks_ite (rt_funName _) (ks_bind (rt_clauses (rt_gclause he)) fun c => ks_bind (ks_need _ _) fun _ => ks_lay ⟨13, ⟨#[]⟩, 0, 0, [c], t.p⟩)
theorem rt_afterB (he : Rt e) : Ks [] (fun a => [a.2]) (afterB e) := ks_bind (ks_take _ _) fun _ => ks_ite (ks_bind (rt_body he) fun x => ks_pure (1, x) rfl) (ks_bind (rt_layNone _ []) fun x => ks_pure (0, x) rfl)
theorem rt_tryOf (he : Rt e) : Rt (tryOf e) := ks_bind (ks_next _) fun t => ks_bind (rt_body he) fun b => ks_bind (ks_add (rt_clausesBehind _ (rt_clause he)) _) fun o => ks_bind (ks_here _) fun _ => ks_bind (ks_add (rt_clausesBehind _ (rt_cclause he)) _) fun c => ks_bind (ks_here _) fun _ => ks_ite (ks_bind (ks_add (rt_afterB he) _) fun a => ks_bind (ks_need _ _) fun _ => ks_lay ⟨16, ⟨#[]⟩, a.1, 0, [b, o, c, a.2], t.p⟩) (ks_giveUp _)
theorem ks_patience (l : List Nat) : Ks l (fun _ => l) patience := ks_bind (ks_here l) fun _ => ks_ite (ks_bind (ks_next l) fun _ => ks_pure _ rfl) (ks_ite (ks_bind (ks_next l) fun _ => ks_pure _ rfl) (ks_giveUp _))
theorem rt_received (he : Rt e) : Rt (received e) := ks_bind (ks_here _) fun _ => ks_ite (rt_layNone _ []) (rt_clauses (rt_clause he))
theorem rt_afterR (he : Rt e) : Ks [] (fun a => [a.2]) (afterR e) := ks_bind (ks_take _ _) fun _ => ks_ite (ks_bind (ks_patience _) fun n => ks_bind (ks_need _ _) fun _ => ks_bind (rt_body he) fun x => ks_pure (n, x) rfl) (ks_bind (rt_layNone _ []) fun x => ks_pure (0, x) rfl)
theorem rt_receive (he : Rt e) : Rt (receive e) := ks_bind (ks_next _) fun t => ks_bind (rt_received he) fun c => ks_bind (ks_add (rt_afterR he) _) fun a => ks_bind (ks_need _ _) fun _ => ks_lay ⟨18, ⟨#[]⟩, a.1, 0, [c, a.2], t.p⟩
theorem rt_worded (he : Rt e) : Rt (worded e) := ks_bind (ks_here _) fun _ => ks_ite (rt_begin he) (ks_ite (rt_choice he) (ks_ite (rt_fn he) (ks_ite (rt_tryOf he) (ks_ite (rt_receive he) (ks_giveUp _)))))
theorem rt_tuple (he : Rt e) : Rt (tuple e) := ks_bind (ks_next _) fun t => ks_bind (ks_here _) fun _ => ks_ite (ks_bind (ks_need _ _) fun _ => ks_lay ⟨6, ⟨#[]⟩, 0, 0, [], t.p⟩) (ks_bind (rt_exprs he _) fun l => ks_bind (ks_need _ _) fun _ => ks_lay ⟨6, ⟨#[]⟩, 0, 0, l, t.p⟩)
theorem rt_list (he : Rt e) : Rt (list e) := ks_bind (ks_next _) fun t => ks_bind (ks_here _) fun _ => ks_ite (ks_bind (ks_need _ _) fun _ => ks_lay ⟨7, ⟨#[]⟩, 0, 0, [], t.p⟩) (ks_bind (rt_exprs he _) fun l => ks_bind (ks_take _ _) fun _ => ks_ite (ks_bind (ks_add he l) fun x => ks_bind (ks_need _ _) fun _ => ks_lay ⟨8, ⟨#[]⟩, 0, 0, l ++ [x], t.p⟩) (ks_bind (ks_need _ _) fun _ => ks_lay ⟨7, ⟨#[]⟩, 0, 0, l, t.p⟩))
theorem rt_bracketed (he : Rt e) : Rt (bracketed e) := ks_bind (ks_here _) fun _ => ks_ite (ks_bind (ks_next _) fun _ => ks_bind he fun x => ks_bind (ks_need _ _) fun _ => ks_pure x rfl) (ks_ite (rt_tuple he) (ks_ite (rt_list he) (ks_giveUp _)))
theorem rt_primary (he : Rt e) : Rt (primary e) := ks_bind (ks_here _) fun _ => ks_ite rt_leaf (ks_ite (rt_bracketed he) (ks_ite (rt_worded he) (ks_giveUp _)))
theorem rt_called (he : Rt e) : Rt (called e) := ks_bind (ks_here _) fun t => ks_bind (ks_ahead _) fun _ => ks_ite (ks_bind (ks_next _) fun _ => ks_bind (rt_args he) fun l => ks_lay ⟨11, t.x, 0, 0, l, t.p⟩) (rt_primary he)
theorem rt_applied (he : Rt e) (p : Nat) : ∀ k x, Ks [x] (fun y => [y]) (applied e p k x)
  | 0, x => ks_pure x rfl
  | k + 1, x => ks_bind (ks_here _) fun _ => ks_ite (ks_bind (ks_add (rt_args he) [x]) fun l => ks_bind (ks_lay ⟨12, ⟨#[]⟩, 0, 0, x :: l, p⟩) fun y => rt_applied he p k y) (ks_pure x rfl)
theorem rt_call (he : Rt e) : Rt (call e) := ks_bind (ks_here _) fun _ => ks_bind (rt_called he) fun x => ks_bind (ks_left _) fun _ => rt_applied he _ _ x
theorem ks_signs : ∀ k l, Ks [] (fun _ => []) (signs k l)
  | 0, l => ks_pure l rfl
  | k + 1, l => ks_bind (ks_here _) fun _ => ks_ite (ks_bind (ks_next _) fun _ => ks_signs k _) (ks_pure l rfl)
theorem rt_layOps : ∀ l x, Ks [x] (fun y => [y]) (layOps l x)
  | [], x => ks_pure x rfl
  | t :: r, x => ks_bind (rt_layOps r x) fun y => ks_lay ⟨9, t.x, 0, 0, [y], t.p⟩
theorem rt_unary (he : Rt e) : Rt (unary e) := ks_bind (ks_left _) fun _ => ks_bind (ks_signs _ _) fun l => ks_bind (rt_call he) fun x => rt_layOps l x
theorem rt_leftward {m : PM Nat} (hm : Rt m) (sg : Tk → Bool) (p : Nat) : ∀ k x, Ks [x] (fun y => [y]) (leftward m sg p k x)
  | 0, x => ks_pure x rfl
  | k + 1, x => ks_bind (ks_here _) fun t => ks_ite (ks_bind (ks_next _) fun _ => ks_bind (ks_add hm [x]) fun y => ks_bind (ks_lay ⟨9, t.x, 0, 0, [x, y], p⟩) fun z => rt_leftward hm sg p k z) (ks_pure x rfl)
theorem rt_mul (he : Rt e) : Rt (mul e) := ks_bind (ks_here _) fun _ => ks_bind (rt_unary he) fun x => ks_bind (ks_left _) fun _ => rt_leftward (rt_unary he) _ _ _ x
theorem rt_add (he : Rt e) : Rt (add e) := ks_bind (ks_here _) fun _ => ks_bind (rt_mul he) fun x => ks_bind (ks_left _) fun _ => rt_leftward (rt_mul he) _ _ _ x
theorem rt_rightward {m : PM Nat} (hm : Rt m) (w : ByteArray) : ∀ k, Rt (rightward m w k)
  | 0 => hm
  | k + 1 => ks_bind (ks_here _) fun t => ks_bind hm fun x => ks_bind (ks_take _ _) fun _ => ks_ite (ks_bind (ks_add (rt_rightward hm w k) [x]) fun y => ks_lay ⟨9, w, 0, 0, [x, y], t.p⟩) (ks_pure x rfl)
theorem rt_right {m : PM Nat} (hm : Rt m) (w : ByteArray) : Rt (right m w) := ks_bind (ks_left _) fun _ => rt_rightward hm w _
theorem rt_compare (he : Rt e) : Rt (compare e) := ks_bind (ks_here _) fun t => ks_bind (rt_right (rt_add he) _) fun x => ks_bind (ks_here _) fun u => ks_ite (ks_bind (ks_next _) fun _ => ks_bind (ks_add (rt_right (rt_add he) _) [x]) fun y => ks_lay ⟨9, u.x, 0, 0, [x, y], t.p⟩) (ks_pure x rfl)
theorem rt_opened (he : Rt e) : Rt (opened e) := ks_bind (ks_here _) fun t => ks_bind (ks_take _ _) fun _ => ks_ite (ks_bind he fun x => ks_lay ⟨17, ⟨#[]⟩, 0, 0, [x], t.p⟩) (ks_bind (rt_right (rt_right (rt_compare he) _) _) fun x => ks_bind (ks_take _ _) fun _ => ks_ite (ks_bind (ks_add he [x]) fun y => ks_lay ⟨10, ⟨#[]⟩, 0, 0, [x, y], t.p⟩) (ks_bind (ks_take _ _) fun _ => ks_ite (ks_bind (ks_add he [x]) fun y => ks_lay ⟨9, ⟨#[33]⟩, 0, 0, [x, y], t.p⟩) (ks_pure x rfl)))
theorem rt_expr : ∀ k, Rt (expr k)
  | 0 => ks_giveUp _
  | k + 1 => by
    intro s0 s a s' hf hm
    simp only [expr] at hm
    split at hm
    · cases hm
    · cases ho : opened (expr k) { s with o := s.o + 1 } with
      | error er => simp [ho] at hm
      | ok p =>
        obtain ⟨x, t⟩ := p
        simp only [ho] at hm
        cases hm
        exact rt_opened (rt_expr k) s0 { s with o := s.o + 1 } _ t hf ho
theorem rt_function (he : Rt e) : Rt (functionOf e) := ks_bind (ks_here _) fun t => ks_bind (rt_clauses (rt_fclause he)) fun c => ks_bind (ks_need _ _) fun _ => fun s0 s x s' hf hm => ks_lay ⟨23, _, _, 0, [c], t.p⟩ s0 s x s' hf hm
theorem rt_functions (he : Rt e) : ∀ k l, Ks l (fun x => x) (functions e k l)
  | 0, l => ks_pure l rfl
  | k + 1, l => ks_bind (ks_here _) fun _ => ks_ite (ks_pure l rfl) (ks_bind (ks_add (rt_function he) l) fun _ => rt_functions he k _)
theorem rt_module (he : Rt e) : Rt (module e) := ks_bind (ks_here _) fun t => ks_bind (ks_need _ _) fun _ => ks_bind (ks_here _) fun _ => ks_ite (ks_bind (ks_next _) fun _ => ks_bind (ks_need _ _) fun _ => ks_bind (ks_needK _ _) fun n => ks_bind (ks_need _ _) fun _ => ks_bind (ks_need _ _) fun _ => ks_bind (ks_left _) fun _ => ks_bind (rt_functions he _ _) fun l => ks_lay ⟨24, n.x, 0, 0, l, t.p⟩) (ks_giveUp _)
end Gm
/-- A tree is a tree: each node but the root is owned once, by a later one. -/
theorem tree_forest (ts : List Tk) {r : Nat} {s : PS} (h : Gm.module (Gm.expr 201) ⟨ts, [], 0⟩ = .ok (r, s)) : Forest 0 s.ns [r] := by
  obtain ⟨b, h1, h2⟩ := Gm.rt_module (Gm.rt_expr 201) _ _ r s (Fo.start _) h
  simp at h1
  subst h1
  exact h2
end Go.Proofs.YtdpfmmbfidknfaaGreatDoor


