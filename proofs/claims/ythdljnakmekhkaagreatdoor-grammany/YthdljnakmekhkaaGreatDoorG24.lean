import Derived.Test.YthdljnakmekhkaaGreatDoorG23
import Derived.Test.YthdljnakmekhkaaGreatDoorG12
import Derived.Test.YthdljnakmekhkaaGreatDoorG04
/- Tokens. -/
namespace Go.Proofs.YthdljnakmekhkaaGreatDoor
open Go.RowKit Go.Lib
attribute [local go_sem] store_float f64bits
attribute [local go_sem ↓] Go.wp_at_zero Go.wp_at_succ

/-- All tokens of a source, or the first fault. -/
def allT (s : ByteArray) : Res := if 65536 < s.size then .inr (3, 0) else toks s (s.size + 1) 0 []

theorem own_base {w : World} {B B' e size n : Nat} {v : Value} {xs : List Value} (h : w.ownsRow B e size v n xs) (hB : B' ≤ B) : w.ownsRow B' e size v n xs := by
  refine ⟨h.1, ?_⟩
  rcases h.2 with h0 | ⟨g, cap, cur, hv, hg, rest⟩
  · exact .inl h0
  · exact .inr ⟨g, cap, cur, hv, Nat.le_trans hB hg, rest⟩

/-- The cells of a row. -/
theorem own_cell {w : World} {B e size n : Nat} {v : Value} {xs : List Value} (h : w.ownsRow B e size v n xs) (hn : 0 < n) : ∃ g cap, v = .slice (some ⟨g, 0, none⟩) n cap ∧ B ≤ g ∧ n ≤ cap ∧ ∀ k u, xs[k]? = some u → w.cell? ⟨g, k, none⟩ = some u := by
  rcases h.2 with ⟨_, h0⟩ | ⟨g, cap, cur, hv, hg, hh, hc, hm, hz, ht⟩
  · omega
  · refine ⟨g, cap, hv, hg, hc, fun k u hk => ?_⟩
    rw [← ht, List.getElem?_take] at hk
    split at hk
    · simp only [World.cell?, hh]
      simpa using hk
    · cases hk

set_option maxHeartbeats 1000000 in
theorem Tokens_any (s : ByteArray) (w : World) (hT : LexTab w) :
    Calls Tryz.prog 13 #[.string s] w fun e w' => TP w.heap.size (allT s) e w' ∧ Below w.heap.size w w' := by
  unfold allT
  by_cases hl : 65536 < s.size
  · have h1 : (65536 : Int) < (s.size : Int) := by omega
    rw [if_pos hl]
    go_enter Tryz.func13, Tryz.ntmps13
    go_wp2_with fail
    exact bodyPost_ret (v := .tuple #[.slice none 0 0, .agg #[.int .i64 3, .int .i64 0]]) (by simp [results, Tryz.results13, go_sem]) rfl ⟨.inr ⟨3, 0, rfl, rfl⟩, (Below.refl _ _).alloc (Nat.le_refl _) _⟩
  · have h1 : ¬ (65536 : Int) < (s.size : Int) := by omega
    rw [if_neg hl]
    have hB2 : Below w.heap.size w ((w.alloc (Obj.cells #[Value.int IntKind.i64 0, Value.int IntKind.i64 0] 28)).alloc (Obj.cells #[Value.string s, Value.int IntKind.i64 0] 55)) := ((Below.refl _ _).alloc (Nat.le_refl _) _).alloc (by simp) _
    have hF : Duo ((w.alloc (Obj.cells #[Value.int IntKind.i64 0, Value.int IntKind.i64 0] 28)).alloc (Obj.cells #[Value.string s, Value.int IntKind.i64 0] 55)) w.heap.size (.int .i64 0) (.int .i64 0) := (Duo.new w _ _ _).keep (below_new _ _)
    have hS : Sc ((w.alloc (Obj.cells #[Value.int IntKind.i64 0, Value.int IntKind.i64 0] 28)).alloc (Obj.cells #[Value.string s, Value.int IntKind.i64 0] 55)) (w.heap.size + 1) s 0 := by
      have := Duo.new (w.alloc (Obj.cells #[Value.int IntKind.i64 0, Value.int IntKind.i64 0] 28)) 55 (.string s) (.int .i64 0)
      simpa [Sc] using this
    have hgw : 7 ≤ w.heap.size := by
      have := cell_lt ((hT.u.2 0 (by omega)).1)
      exact this
    have cT := tokens_any s (w.heap.size + 1) (by omega) _ hS (hT.but (But.of_below (S := fun _ => False) hB2) (fun _ e => e.elim)) (by unfold GB; omega)
    obtain ⟨R, hR⟩ : ∃ R, toks s (s.size + 1) 0 [] = R := ⟨_, rfl⟩
    rw [hR] at cT ⊢
    have hsz : ((w.alloc (Obj.cells #[Value.int IntKind.i64 0, Value.int IntKind.i64 0] 28)).alloc (Obj.cells #[Value.string s, Value.int IntKind.i64 0] 55)).heap.size = w.heap.size + 2 := by simp
    rw [hsz] at cT
    clear hR hT
    go_enter Tryz.func13, Tryz.ntmps13
    go_wp2_with fail
    refine cT.mono ?_
    rintro e w2 ⟨hTP, hbt⟩
    have hbl : Below w.heap.size w w2 := hB2.trans (hbt.below (by rw [hsz]; omega) (fun k hk => by omega))
    obtain ⟨q0, q1, qf0, qf1, _⟩ := hF.but hbt (by omega)
    have HB := hidb hbl
    clear cT hbt hbl hF hS hB2
    rcases hTP with ⟨l, V, rfl, rfl, how⟩ | ⟨er, p, rfl, rfl⟩
    · go_wp2_with fail
      refine bodyPost_ret (v := .tuple #[V, .agg #[.int .i64 0, .int .i64 0]]) (by simp [results, Tryz.results13, go_sem, q0, q1]) rfl ⟨.inl ⟨l, V, rfl, rfl, ?_⟩, (HB.out.setCell (p := ⟨w.heap.size, 0, none⟩) (Nat.le_refl _) _).setCell (p := ⟨w.heap.size, 1, none⟩) (Nat.le_refl _) _⟩
      exact own_base (own_but how (((But.refl (fun k => k = w.heap.size) w2).setCell (p := ⟨w.heap.size, 0, none⟩) (fun _ => rfl) _).setCell (p := ⟨w.heap.size, 1, none⟩) (fun _ => rfl) _) (fun k hk => by omega)) (by omega)
    · go_wp2_with fail
      exact bodyPost_ret (v := .tuple #[.slice none 0 0, .agg #[.int .i64 er, .int .i64 (p : Int)]]) (by simp [results, Tryz.results13, go_sem, q0, q1]) rfl ⟨.inr ⟨er, p, rfl, rfl⟩, (HB.out.setCell (p := ⟨w.heap.size, 0, none⟩) (Nat.le_refl _) _).setCell (p := ⟨w.heap.size, 1, none⟩) (Nat.le_refl _) _⟩
end Go.Proofs.YthdljnakmekhkaaGreatDoor


/- Parse. -/
namespace Go.Proofs.YthdljnakmekhkaaGreatDoor
open Go.RowKit Go.Lib
attribute [local go_sem] store_float f64bits
attribute [local go_sem ↓] Go.wp_at_zero Go.wp_at_succ

theorem tkOf_k (k n e : Int) (x : ByteArray) (f p : Nat) (hk : k ≠ 8) : (tkOf (.tuple #[.agg #[.int .i64 (k), .string (x), .int .i64 (n), .float .f64 (f), .int .i64 (0)], .int .i64 e]) p).k ≠ 8 := hk
theorem badV_k (e : Int) (p : Nat) : (tkOf (badV e) p).k ≠ 8 := tkOf_k 0 0 e ⟨#[]⟩ 0 p (by decide)
theorem atomV_k (x : ByteArray) (p : Nat) : (tkOf (atomV x) p).k ≠ 8 := by
  unfold atomV
  split
  · exact badV_k _ _
  · exact tkOf_k _ _ _ _ _ _ (by decide)
theorem tokV_k (s : ByteArray) (i p : Nat) : (tkOf (tokV s i) p).k ≠ 8 := by
  unfold tokV
  split
  · unfold wordV
    repeat' split
    all_goals exact tkOf_k _ _ _ _ _ _ (by decide)
  · split
    · exact tkOf_k _ _ _ _ _ _ (by decide)
    · split
      · unfold numV
        split
        · exact badV_k _ _
        · split
          · unfold wholeV
            split
            · exact badV_k _ _
            · split
              · exact badV_k _ _
              · exact tkOf_k _ _ _ _ _ _ (by decide)
          · unfold floatV
            split
            · exact badV_k _ _
            · exact tkOf_k _ _ _ _ _ _ (by decide)
      · split
        · unfold bitsV
          split
          · split
            · exact tkOf_k _ _ _ _ _ _ (by decide)
            · exact badV_k _ _
          · exact badV_k _ _
        · split
          · unfold quoteV
            split
            · split
              · exact atomV_k _ _
              · exact tkOf_k _ _ _ _ _ _ (by decide)
            · exact badV_k _ _
          · cases signAt s i with
            | none => exact tkOf_k _ _ _ _ _ _ (by decide)
            | some l => exact tkOf_k _ _ _ _ _ _ (by decide)

theorem toks_ends (s : ByteArray) : ∀ (k p : Nat) (done l : List Tk), toks s k p done = .inl l → (∀ t ∈ done, t.k ≠ 8) → (∃ a t, l = a ++ [t] ∧ t.k = 8 ∧ ∀ u ∈ a, u.k ≠ 8) ∧ l.length ≤ done.length + k
  | 0, _, _, _, h, _ => by cases h
  | k + 1, p, done, l, h, hd => by
    unfold toks at h
    split at h
    · split at h
      · have := toks_ends s k _ done l h hd
        exact ⟨this.1, by omega⟩
      · split at h
        · have := toks_ends s k _ _ l h (by
            intro t ht
            rcases List.mem_append.1 ht with ht | ht
            · exact hd t ht
            · simp at ht; subst ht; exact tokV_k _ _ _)
          exact ⟨this.1, by have h2 := this.2; simp at h2; omega⟩
        · cases h
    · cases h
      exact ⟨⟨done, _, rfl, rfl, hd⟩, by simp⟩

theorem okV_er (s : ByteArray) (i : Nat) (h : erOf (tokV s i) = 0) : okV (tokV s i) = true := by
  obtain ⟨k, x, n, f, e, hv⟩ := tokV_tk s i
  rw [hv] at h ⊢
  exact decide_eq_true h
/-- The fuel is enough: a fault has a number. -/
theorem toks_err (s : ByteArray) : ∀ (k p : Nat) (done : List Tk) (er : Int) (q : Nat), p ≤ s.size → s.size < k + p → toks s k p done = .inr (er, q) → er ≠ 0
  | 0, p, _, _, _, hp, hk, _ => by omega
  | k + 1, p, done, er, q, hp, hk, h => by
    have h1 := goes_ge pBlank s p
    have h2 := goes_le pBlank s p hp
    unfold toks at h
    split at h
    · rename_i hlt
      split at h
      · rename_i h37
        have h3 := goes_ge pLine s (goes pBlank s p)
        have h4 := goes_le pLine s (goes pBlank s p) h2
        have h5 : goes pBlank s p < goes pLine s (goes pBlank s p) := by
          rcases Nat.lt_or_ge (goes pBlank s p) (goes pLine s (goes pBlank s p)) with hh | hh
          · exact hh
          · have he : goes pLine s (goes pBlank s p) = goes pBlank s p := by omega
            have hn := goes_not pLine s (goes pBlank s p) (by omega)
            rw [he, h37] at hn
            simp [pLine] at hn
        exact toks_err s k _ done er q h4 (by omega) h
      · split at h
        · rename_i he
          obtain ⟨h3, h4⟩ := tokE_in s _ hlt (okV_er s _ he)
          exact toks_err s k _ _ er q h4 (by omega) h
        · rename_i he
          cases h
          exact he
    · cases h

theorem tks_of {w : World} {q : Nat} : ∀ (l : List Tk) (i : Nat), (∀ k u, (tkCells l)[k]? = some u → w.cell? ⟨q, i + k, none⟩ = some u) → Tks w q i l
  | [], _, _ => trivial
  | t :: r, i, h => by
    have hc : tkCells (t :: r) = t.cells ++ tkCells r := rfl
    rw [hc] at h
    refine ⟨⟨h 0 _ rfl, h 1 _ rfl, h 2 _ rfl, h 3 _ rfl, h 4 _ rfl⟩, tks_of r (i + 5) fun k u hk => ?_⟩
    have := h (5 + k) u (by rw [List.getElem?_append_right (by simp [Tk.cells])]; simpa [Tk.cells] using hk)
    rw [← Nat.add_assoc] at this
    exact this

/-- The tree of a source: the root and the state that holds the nodes, or the fault. -/
def parseP (s : ByteArray) : Except (Int × Nat) (Nat × PS) := match allT s with
  | .inr e => .error e
  | .inl l => treeP l

/-- What Parse has told. -/
def ParseR (w : World) (R : Except (Int × Nat) (Nat × PS)) (e : Ending) (w' : World) : Prop :=
  Below w.heap.size w w' ∧
  ((∃ er p, R = .error (er, p) ∧ e = .returned (.tuple #[.agg #[.slice none 0 0, .int .i64 0], .agg #[.int .i64 er, .int .i64 ((p : Nat) : Int)]])) ∨
   (∃ r s V, R = .ok (r, s) ∧ e = .returned (.tuple #[.agg #[V, iv r], .agg #[.int .i64 0, .int .i64 0]]) ∧ Nodes w' w.heap.size V s.ns))

theorem allT_ends (s : ByteArray) {l : List Tk} (h : allT s = .inl l) : Ne ⟨l, [], 0⟩ ∧ l.length ≤ 100000 := by
  unfold allT at h
  split at h
  · cases h
  · obtain ⟨⟨a, t, h1, h2, h3⟩, h4⟩ := toks_ends s _ _ _ l h (by simp)
    exact ⟨⟨a, t, h1, h2, h3⟩, by simp at h4; omega⟩
theorem allT_err (s : ByteArray) {er : Int} {p : Nat} (h : allT s = .inr (er, p)) : er ≠ 0 := by
  unfold allT at h
  split at h
  · cases h; decide
  · exact toks_err s _ _ _ er p (Nat.zero_le _) (by omega) h

theorem nodes_sl {w : World} {B : Nat} {V : Value} {ns : List Nd} (h : Nodes w B V ns) : ∃ a m c, V = .slice a m c := by
  obtain ⟨⟨vs, _, ho, _⟩, _⟩ := h
  rcases ho.2 with ⟨hv, _⟩ | ⟨q, cap, cur, hv, _⟩
  · exact ⟨_, _, _, hv⟩
  · exact ⟨_, _, _, hv⟩

set_option maxHeartbeats 2000000 in
set_option maxRecDepth 100000 in
theorem Parse_any (s : ByteArray) (w : World) (hT : LexTab w) : Calls Tryz.prog 10 #[.string s] w fun e w' => ParseR w (parseP s) e w' := by
  obtain ⟨W2, hW2⟩ : ∃ W2, ((w.alloc (.cells #[.slice none 0 0, .int .i64 0] 25)).alloc (.cells #[.int .i64 0, .int .i64 0] 28)) = W2 := ⟨_, rfl⟩
  have hB2 : Below w.heap.size w W2 := by rw [← hW2]; exact ((Below.refl _ _).alloc (Nat.le_refl _) _).alloc (by simp) _
  have hZ2 : W2.heap.size = w.heap.size + 1 + 1 := by rw [← hW2]; simp
  have hD1 : Duo W2 w.heap.size (.slice none 0 0) (.int .i64 0) := by rw [← hW2]; exact (Duo.new w _ _ _).keep (below_new _ _)
  have hD2 : Duo W2 (w.heap.size + 1) (.int .i64 0) (.int .i64 0) := by
    rw [← hW2]
    have := Duo.new (w.alloc (.cells #[.slice none 0 0, .int .i64 0] 25)) 28 (.int .i64 0) (.int .i64 0)
    simpa using this
  have cT := Tokens_any s W2 (hT.but (But.of_below (S := fun _ => False) hB2) (fun _ e => e.elim))
  have HW2 := hidb hW2
  have HB2 := hidb hB2
  have HD1 := hidb hD1
  have HD2 := hidb hD2
  clear hW2 hB2 hD1 hD2 hT
  cases hA : allT s with
  | inr q =>
    obtain ⟨er, p⟩ := q
    have hR : parseP s = .error (er, p) := by unfold parseP; rw [hA]
    have her := allT_err s hA
    rw [hR]
    rw [hA] at cT
    clear hA hR
    go_enter Tryz.func10, Tryz.ntmps10
    go_wp2_with (go_at_call 13; rw [HW2.out]; refine cT.mono ?_; rintro r1 w1 ⟨⟨l, V, hl, rfl, ho⟩ | ⟨er', p', hl, rfl⟩, hb⟩ <;> first | (cases hl; have HB := hidb hb; obtain ⟨y0, y1, z0, z1, q1⟩ := HD1.out.keep hb; obtain ⟨y2, y3, z2, z3, q2⟩ := HD2.out.keep hb; clear hb) | cases hl)
    go_region_law (fail)
    all_goals (
      go_wp2_with fail
      obtain ⟨e1, e2, e3⟩ := put4_all (HD1.out.keep HB.out) (HD2.out.keep HB.out) (by omega) (.slice none 0 0) (.int .i64 0) (.int .i64 er) (.int .i64 (p : Int))
      have hb6 : Below w.heap.size w1 (put4 w1 w.heap.size (w.heap.size + 1) (.slice none 0 0) (.int .i64 0) (.int .i64 er) (.int .i64 (p : Int))) := e3.below (by omega) (fun k hk => by omega)
      have e5 := e1.keep (Below.drew (below_new _ (.cells #[.int .i64 er, .int .i64 (p : Int)] 28)))
      have e6 := e2.keep (Below.drew (below_new _ (.cells #[.int .i64 er, .int .i64 (p : Int)] 28)))
      have hb7 := ((HB2.out.trans (HB.out.mono (by omega))).trans hb6).trans ((Below.drew (below_new _ (.cells #[.int .i64 er, .int .i64 (p : Int)] 28))).mono (by have := hb6.size; omega))
      have k0 := e5.c0; have k1 := e5.c1; have k2 := e6.c0; have k3 := e6.c1
      simp only [put4] at k0 k1 k2 k3
      exact bodyPost_ret (v := .tuple #[.agg #[.slice none 0 0, .int .i64 0], .agg #[.int .i64 er, .int .i64 (p : Int)]]) (by simp [results, Tryz.results10, go_sem, k0, k1, k2, k3]) rfl ⟨hb7, .inl ⟨er, p, rfl, rfl⟩⟩)
  | inl l =>
    have hR : parseP s = treeP l := by unfold parseP; rw [hA]
    obtain ⟨hne, hlen⟩ := allT_ends s hA
    rw [hR]
    rw [hA] at cT
    have HNE := hidb hne
    clear hA hR hne
    go_enter Tryz.func10, Tryz.ntmps10
    go_wp2_with (first | (go_at_call 16; refine (treeOf_any (HTK.out.but (But.of_below (S := fun _ => False) (below_new w1 _)) HQL.out (fun h => h)) hqc (Nat.lt_of_lt_of_le HQL.out (below_new w1 _).size) HNE.out hlen).mono ?_; rintro r1 w2 ⟨hb, ⟨er, p, hq, rfl⟩ | ⟨r, s1, V1, hq, rfl, hn⟩⟩ <;> first | (have HN := hidb hn; obtain ⟨va, vm, vc, rfl⟩ := nodes_sl hn; have HQ := hidb hq; have HB5 := hidb hb; obtain ⟨x0, x1, u0, u1, -⟩ := (HD1.out.keep (HB.out.trans ((below_new w1 _).mono HB.out.size))).keep hb; obtain ⟨x2, x3, u2, u3, -⟩ := (HD2.out.keep (HB.out.trans ((below_new w1 _).mono HB.out.size))).keep hb; clear hb hq hn) | (have HQ := hidb hq; have HB5 := hidb hb; obtain ⟨x0, x1, u0, u1, -⟩ := (HD1.out.keep (HB.out.trans ((below_new w1 _).mono HB.out.size))).keep hb; obtain ⟨x2, x3, u2, u3, -⟩ := (HD2.out.keep (HB.out.trans ((below_new w1 _).mono HB.out.size))).keep hb; clear hb hq)) | (go_at_call 13; rw [HW2.out]; refine cT.mono ?_; rintro r1 w1 ⟨⟨l2, V, hl, rfl, ho⟩ | ⟨er', p', hl, rfl⟩, hb⟩ <;> first | (cases hl; have HB := hidb hb; obtain ⟨q, cap, rfl, hqB, hqc, hcs⟩ := own_cell ho (by obtain ⟨a, t, ha, _⟩ := HNE.out; simp only at ha; rw [ha]; simp); have HQL := hidb (cell_lt (hcs 0 _ (by obtain ⟨r, hr⟩ := Gm.ne_hd HNE.out; simp only at hr; rw [hr]; rfl))); have HTK := hidb (tks_of l 0 (fun k u hk => by rw [Nat.zero_add]; exact hcs k u hk)); obtain ⟨y0, y1, z0, z1, q1⟩ := HD1.out.keep hb; obtain ⟨y2, y3, z2, z3, q2⟩ := HD2.out.keep hb; clear hb ho hcs) | cases hl))
    · obtain ⟨e1, e2, e3⟩ := put4_all ((HD1.out.keep (HB.out.trans ((below_new w1 (.cells #[.int .i64 0, .int .i64 0] 28)).mono HB.out.size))).keep HB5.out) ((HD2.out.keep (HB.out.trans ((below_new w1 (.cells #[.int .i64 0, .int .i64 0] 28)).mono HB.out.size))).keep HB5.out) (by omega) (.slice none 0 0) (.int .i64 0) (.int .i64 er) (.int .i64 (p : Int))
      have hz1 := HB.out.size
      have hz5 := HB5.out.size
      have hza : (w1.alloc (.cells #[.int .i64 0, .int .i64 0] 28)).heap.size = w1.heap.size + 1 := by simp
      have hb6 : Below w.heap.size w2 (put4 w2 w.heap.size (w.heap.size + 1) (.slice none 0 0) (.int .i64 0) (.int .i64 er) (.int .i64 (p : Int))) := e3.below (by omega) (fun k hk => by omega)
      have hb7 := (((HB2.out.trans (HB.out.mono (by omega))).trans ((below_new w1 (.cells #[.int .i64 0, .int .i64 0] 28)).mono (by omega))).trans (HB5.out.mono (by omega))).trans hb6
      have k0 := e1.c0; have k1 := e1.c1; have k2 := e2.c0; have k3 := e2.c1
      simp only [put4] at k0 k1 k2 k3
      exact bodyPost_ret (v := .tuple #[.agg #[.slice none 0 0, .int .i64 0], .agg #[.int .i64 er, .int .i64 (p : Int)]]) (by simp [results, Tryz.results10, go_sem, k0, k1, k2, k3]) rfl ⟨hb7, .inl ⟨er, p, HQ.out, rfl⟩⟩
    · obtain ⟨e1, e2, e3⟩ := put4_all ((HD1.out.keep (HB.out.trans ((below_new w1 (.cells #[.int .i64 0, .int .i64 0] 28)).mono HB.out.size))).keep HB5.out) ((HD2.out.keep (HB.out.trans ((below_new w1 (.cells #[.int .i64 0, .int .i64 0] 28)).mono HB.out.size))).keep HB5.out) (by omega) (.slice va vm vc) (iv r) (.int .i64 0) (.int .i64 0)
      have hz1 := HB.out.size
      have hz5 := HB5.out.size
      have hza : (w1.alloc (.cells #[.int .i64 0, .int .i64 0] 28)).heap.size = w1.heap.size + 1 := by simp
      have hb6 : Below w.heap.size w2 (put4 w2 w.heap.size (w.heap.size + 1) (.slice va vm vc) (iv r) (.int .i64 0) (.int .i64 0)) := e3.below (by omega) (fun k hk => by omega)
      have hb7 := (((HB2.out.trans (HB.out.mono (by omega))).trans ((below_new w1 (.cells #[.int .i64 0, .int .i64 0] 28)).mono (by omega))).trans (HB5.out.mono (by omega))).trans hb6
      have hnd := (HN.out.but e3 (fun k hk => by omega)).base (B' := w.heap.size) (by omega)
      have k0 := e1.c0; have k1 := e1.c1; have k2 := e2.c0; have k3 := e2.c1
      simp only [put4] at k0 k1 k2 k3
      exact bodyPost_ret (v := .tuple #[.agg #[.slice va vm vc, iv r], .agg #[.int .i64 0, .int .i64 0]]) (by simp [results, Tryz.results10, go_sem, k0, k1, k2, k3]) rfl ⟨hb7, .inr ⟨r, s1, _, HQ.out, rfl, hnd⟩⟩
end Go.Proofs.YthdljnakmekhkaaGreatDoor


/- Tokens of a source: what they are like. -/
namespace Go.Proofs.YthdljnakmekhkaaGreatDoor
namespace Rf
open Go.RowKit Go.Lib

theorem tg_tk (k n e : Int) (x : ByteArray) (f p : Nat) (h1 : k = 6 → lowB x = false) (h2 : k = 7 → lowB x = true) (h3 : k = 1 ∨ k = 2 ∨ k = 5 → n = 0 ∧ f = 0) (h4 : k = 3 → x = ⟨#[]⟩ ∧ f = 0) (h5 : k = 4 → x = ⟨#[]⟩ ∧ n = 0) : Tg (tkOf (.tuple #[.agg #[.int .i64 (k), .string (x), .int .i64 (n), .float .f64 (f), .int .i64 (0)], .int .i64 e]) p) := ⟨h1, h2, h3, h4, h5⟩
theorem tg_bad (e : Int) (p : Nat) : Tg (tkOf (badV e) p) := tg_tk 0 0 e ⟨#[]⟩ 0 p (by simp) (by simp) (by simp) (by simp) (by simp)
theorem tg_atom (x : ByteArray) (p : Nat) : Tg (tkOf (atomV x) p) := by
  unfold atomV
  split
  · exact tg_bad _ _
  · exact tg_tk _ _ _ _ _ _ (by simp) (by simp) (by simp) (by simp) (by simp)
theorem kept_low {x : ByteArray} (h : kept x = true) : lowB x = true := by
  unfold kept at h
  obtain ⟨k, hk, he⟩ := List.any_eq_true.1 h
  have h1 : x.data.toList = k := by simpa using he
  have h2 : ∀ k ∈ keptL, lowB ⟨k.toArray⟩ = true := by decide
  have h3 := h2 k hk
  have h4 : x = ⟨k.toArray⟩ := by cases x; simp at h1; simp [← h1]
  rw [h4]
  exact h3
theorem sign_low {s : ByteArray} {i : Nat} {l : List UInt8} (h : signAt s i = some l) : lowB ⟨l.toArray⟩ = false := by
  have h1 := List.mem_of_find?_eq_some h
  have h2 : ∀ k ∈ signL, lowB ⟨k.toArray⟩ = false := by decide
  exact h2 l h1
theorem tg_tok (s : ByteArray) (i p : Nat) : Tg (tkOf (tokV s i) p) := by
  unfold tokV
  split
  · unfold wordV
    split
    · rename_i hk
      exact tg_tk _ _ _ _ _ _ (by simp) (fun _ => kept_low hk) (by simp) (by simp) (by simp)
    · split
      all_goals exact tg_tk _ _ _ _ _ _ (by simp) (by simp) (by simp) (by simp) (by simp)
  · split
    · exact tg_tk _ _ _ _ _ _ (by simp) (by simp) (by simp) (by simp) (by simp)
    · split
      · unfold numV
        split
        · exact tg_bad _ _
        · split
          · unfold wholeV
            split
            · exact tg_bad _ _
            · split
              · exact tg_bad _ _
              · exact tg_tk _ _ _ _ _ _ (by simp) (by simp) (by simp) (by simp) (by simp)
          · unfold floatV
            split
            · exact tg_bad _ _
            · exact tg_tk _ _ _ _ _ _ (by simp) (by simp) (by simp) (by simp) (by simp)
      · split
        · unfold bitsV
          split
          · split
            · exact tg_tk _ _ _ _ _ _ (by simp) (by simp) (by simp) (by simp) (by simp)
            · exact tg_bad _ _
          · exact tg_bad _ _
        · split
          · unfold quoteV
            split
            · split
              · exact tg_atom _ _
              · exact tg_tk _ _ _ _ _ _ (by simp) (by simp) (by simp) (by simp) (by simp)
            · exact tg_bad _ _
          · cases h : signAt s i with
            | none => exact tg_tk _ _ _ _ _ _ (by simp) (by simp) (by simp) (by simp) (by simp)
            | some l => exact tg_tk _ _ _ _ _ _ (fun _ => sign_low h) (by simp) (by simp) (by simp) (by simp)
theorem toks_tg (s : ByteArray) : ∀ (k p : Nat) (done l : List Tk), toks s k p done = .inl l → (∀ t ∈ done, Tg t) → ∀ t ∈ l, Tg t
  | 0, _, _, _, h, _ => by cases h
  | k + 1, p, done, l, h, hd => by
    unfold toks at h
    split at h
    · split at h
      · exact toks_tg s k _ done l h hd
      · split at h
        · exact toks_tg s k _ _ l h (by
            intro t ht
            rcases List.mem_append.1 ht with ht | ht
            · exact hd t ht
            · simp at ht; subst ht; exact tg_tok _ _ _)
        · cases h
    · cases h
      intro t ht
      rcases List.mem_append.1 ht with ht | ht
      · exact hd t ht
      · simp at ht; subst ht; exact ⟨by simp, by simp, by simp, by simp, by simp⟩
theorem allT_tg (s : ByteArray) {l : List Tk} (h : allT s = .inl l) : (∀ t ∈ l, Tg t) ∧ End l := by
  unfold allT at h
  split at h
  · cases h
  · exact ⟨toks_tg s _ _ _ l h (by simp), (toks_ends s _ _ _ l h (by simp)).1⟩
end Rf
end Go.Proofs.YthdljnakmekhkaaGreatDoor


/- The reference's small functions. -/
namespace Go.Proofs.YthdljnakmekhkaaGreatDoor
open Go.RowKit Go.Lib
attribute [local go_sem] store_float f64bits
attribute [local go_sem ↓] Go.wp_at_zero Go.wp_at_succ

theorem rdigit_any (n : Nat) (w : World) : Calls Tryz.prog 56 #[.int .u8 (n : Int)] w fun e w' => e = .returned (.bool (pDigit n)) ∧ w' = w := by
  unfold pDigit
  by_cases h1 : 48 ≤ n <;> by_cases h2 : n ≤ 57 <;> (have i1 : ((48 : Int) ≤ (n : Int)) = (48 ≤ n) := by (apply propext; omega)) <;> (have i2 : ((n : Int) ≤ 57) = (n ≤ 57) := by (apply propext; omega)) <;> (go_enter Tryz.func56, Tryz.ntmps56; go_wp2; go_ret; refine ⟨?_, rfl⟩; simp [h1, h2]) <;> omega

theorem rletter_any (n : Nat) (w : World) : Calls Tryz.prog 80 #[.int .u8 (n : Int)] w fun e w' => e = .returned (.bool (pName n)) ∧ w' = w := by
  go_enter Tryz.func80, Tryz.ntmps80
  go_wp2
  all_goals (go_ret; refine ⟨congrArg (fun b => Ending.returned (Value.bool b)) ?_, rfl⟩; simp only [pName, pSmall, pCapital, pDigit]; rw [Bool.eq_iff_iff]; simp; omega)

theorem rhexed_any (n : Nat) (w : World) : Calls Tryz.prog 83 #[.int .u8 (n : Int)] w fun e w' => e = .returned (.int .i64 (match hexd n with | some d => (d : Int) | none => -1)) ∧ w' = w := by
  have cD := rdigit_any n w
  unfold hexd
  cases hd : pDigit n <;> rw [hd] at cD
  · simp only [Bool.false_eq_true, if_false]
    by_cases h1 : 97 ≤ n
    · have i1 : (97 : Int) ≤ (n : Int) := by omega
      by_cases h2 : n ≤ 102
      · have i2 : (n : Int) ≤ 102 := by omega
        rw [if_pos ⟨h1, h2⟩]
        go_enter Tryz.func83, Tryz.ntmps83
        go_wp2_with (go_at_call 56; refine cD.mono ?_; rintro e w' ⟨rfl, hw'⟩; obtain rfl := hw'.symm)
        go_ret
        exact ⟨congrArg (fun b => Ending.returned (Value.int .i64 b)) (by omega), rfl⟩
      · have i2 : ¬ (n : Int) ≤ 102 := by omega
        rw [if_neg (by omega)]
        go_enter Tryz.func83, Tryz.ntmps83
        go_wp2_with (go_at_call 56; refine cD.mono ?_; rintro e w' ⟨rfl, hw'⟩; obtain rfl := hw'.symm)
        go_ret
        exact ⟨rfl, rfl⟩
    · have i1 : ¬ (97 : Int) ≤ (n : Int) := by omega
      rw [if_neg (by omega)]
      go_enter Tryz.func83, Tryz.ntmps83
      go_wp2_with (go_at_call 56; refine cD.mono ?_; rintro e w' ⟨rfl, hw'⟩; obtain rfl := hw'.symm)
      go_ret
      exact ⟨rfl, rfl⟩
  · simp only [if_true]
    simp [pDigit] at hd
    have i1 : (48 : Int) ≤ (n : Int) := by omega
    have i2 : (n : Int) ≤ 57 := by omega
    go_enter Tryz.func83, Tryz.ntmps83
    go_wp2_with (go_at_call 56; refine cD.mono ?_; rintro e w' ⟨rfl, hw'⟩; obtain rfl := hw'.symm)
    go_ret
    exact ⟨congrArg (fun b => Ending.returned (Value.int .i64 b)) (by omega), rfl⟩

theorem at_byte (s : ByteArray) (p : Nat) (h : p < s.size) : (s[p]'h).toNat = bt s p := by unfold bt; rw [get_of_lt _ _ h]

set_option maxHeartbeats 1000000 in
theorem rword_any (s : ByteArray) (i : Nat) (hi : i ≤ s.size) (hs : s.size ≤ 65536) (w : World) : Calls Tryz.prog 54 #[.string s, .int .i64 (i : Int)] w fun e w' => e = .returned (.int .i64 (goes pName s i : Nat)) ∧ w' = w := by
  go_enter Tryz.func54, Tryz.ntmps54
  go_wp2_with fail
  go_loopg [1] (s.size - i) (fun gf s1 wx => ∃ p : Nat, s1 = .int .i64 (p : Int) ∧ p ≤ s.size ∧ p + gf = s.size ∧ goes pName s p = goes pName s i ∧ wx = w)
  case atStart => exact ⟨i, rfl, hi, by omega, rfl, rfl⟩
  case round =>
    obtain ⟨p, rfl, hp, hgf, hgo, hwx⟩ := hrel
    obtain rfl := hwx.symm
    by_cases hlt : p < s.size
    · obtain ⟨g', rfl⟩ : ∃ g', gk = g' + 1 := ⟨gk - 1, by omega⟩
      have i0 : (0 : Int) ≤ (p : Int) := by omega
      have i1 : (p : Int) < (s.size : Int) := by omega
      have hb := fun h => at_byte s p h
      have cL := rletter_any (bt s p)
      have h1 := goes_on (p := pName) hlt
      have h2 := goes_stop (p := pName) (s := s) (i := p)
      obtain ⟨c, hc⟩ : ∃ c, bt s p = c := ⟨_, rfl⟩
      rw [hc] at cL h1 h2
      simp only [hc] at hb
      cases hn : pName c <;> rw [hn] at cL
      · have hg := h2 hn
        clear h1 h2 hc
        go_wp2_with (first | (go_at_call 80; refine (cL _).mono ?_; rintro e w' ⟨rfl, hw'⟩; obtain rfl := hw'.symm))
        go_ret
        refine ⟨?_, rfl⟩
        rw [← hgo, hg]
        rfl
      · have hg := h1 hn
        clear h1 h2 hc
        go_wp2_with (first | (go_at_call 80; refine (cL _).mono ?_; rintro e w' ⟨rfl, hw'⟩; obtain rfl := hw'.symm))
        go_roundg g'
        case measure => omega
        case rel => exact ⟨p + 1, by simp, by omega, by omega, by rw [← hg]; exact hgo, rfl⟩
    · have i1 : ¬ (p : Int) < (s.size : Int) := by omega
      go_wp2_with fail
      go_ret
      refine ⟨?_, rfl⟩
      rw [← hgo, goes_end (by omega)]
      rfl

set_option maxHeartbeats 1000000 in
theorem rwhole_any (D : ByteArray) (h : Digs D) (hs : D.size ≤ 18) (w : World) : Calls Tryz.prog 82 #[.string D] w fun e w' => e = .returned (.int .i64 (wor D D.size : Nat)) ∧ w' = w := by
  go_enter Tryz.func82, Tryz.ntmps82
  go_wp2_with fail
  go_loopg [3, 4] D.size (fun gf s3 s4 wx => ∃ pos : Nat, s3 = .int .i64 (wor D pos : Nat) ∧ s4 = .int .i64 (pos : Int) ∧ pos + gf = D.size ∧ wx = w)
  case atStart => exact ⟨0, rfl, rfl, by omega, rfl⟩
  case round =>
    obtain ⟨pos, rfl, rfl, hgf, hwx⟩ := hrel
    obtain rfl := hwx.symm
    by_cases hlt : pos < D.size
    · obtain ⟨g', rfl⟩ : ∃ g', gk = g' + 1 := ⟨gk - 1, by omega⟩
      have i0 : (0 : Int) ≤ (pos : Int) := by omega
      have i1 : (pos : Int) < (D.size : Int) := by omega
      have hd := h pos hlt
      simp [pDigit] at hd
      have hb := fun h => at_byte D pos h
      have hv : wor D pos < 100000000000000000 := by
        have h1 := wor_lt D h pos (by omega)
        have h2 : 10 ^ pos ≤ 10 ^ 17 := Nat.pow_le_pow_right (by omega) (by omega)
        omega
      have hsu : wor D (pos + 1) = wor D pos * 10 + (bt D pos - 48) := rfl
      obtain ⟨V, hV⟩ : ∃ V, wor D pos = V := ⟨_, rfl⟩
      obtain ⟨c, hc⟩ : ∃ c, bt D pos = c := ⟨_, rfl⟩
      rw [hV] at hv hsu ⊢
      rw [hc] at hd hsu
      obtain ⟨X, hX⟩ : ∃ X : Int, (V : Int) = X := ⟨_, rfl⟩
      obtain ⟨Y, hY⟩ : ∃ Y : Int, (c : Int) = Y := ⟨_, rfl⟩
      have hb2 : ∀ h, (((D[pos]'h).toNat : Nat) : Int) = Y := fun h => by rw [hb h, hc, hY]
      rw [hX]
      have x0 : 0 ≤ X := by omega
      have x1 : X < 100000000000000000 := by omega
      have y0 : 48 ≤ Y := by omega
      have y1 : Y ≤ 57 := by omega
      have u1 : IntKind.u8.wrap (Y - 48) = Y - 48 := by rw [IntKind.wrap_u8]; omega
      have HR : Hid ((wor D (pos + 1) : Int) = 10 * X + (Y - 48)) := hidb (by omega)
      clear hv hsu hX hY hd hV hc hb
      go_wp2_with fail
      go_roundg g'
      case measure => omega
      case rel => exact ⟨pos + 1, by rw [HR.out], by simp, by omega, rfl⟩
    · obtain rfl : pos = D.size := by omega
      have i1 : ¬ (D.size : Int) < (D.size : Int) := by omega
      go_wp2_with fail
      go_ret
      exact ⟨rfl, rfl⟩
end Go.Proofs.YthdljnakmekhkaaGreatDoor


/- The reference's numbers. -/
namespace Go.Proofs.YthdljnakmekhkaaGreatDoor
open Go.RowKit Go.Lib
attribute [local go_sem] store_float f64bits
attribute [local go_sem ↓] Go.wp_at_zero Go.wp_at_succ

/-- A token as the reference tells it. -/
def rV (v : Value) (i E : Nat) : Value :=
  match v with
  | .tuple #[.agg #[a, b, c, d, _], .int _ e] => if e = 0 then .tuple #[.agg #[a, b, c, d, .int .i64 (i : Int)], .int .i64 (E : Int), .int .i64 0] else .tuple #[.agg #[.int .i64 (0), .string (⟨#[]⟩), .int .i64 (0), .float .f64 (0), .int .i64 (0)], .int .i64 0, .int .i64 e]
  | v => v
theorem rV_tk (k : Int) (x : ByteArray) (n : Int) (f : Nat) (i E : Nat) : rV (.tuple #[.agg #[.int .i64 (k), .string (x), .int .i64 (n), .float .f64 (f), .int .i64 (0)], .int .i64 0]) i E = .tuple #[.agg #[.int .i64 (k), .string (x), .int .i64 (n), .float .f64 (f), .int .i64 ((i : Int))], .int .i64 (E : Int), .int .i64 0] := rfl
theorem rV_bad (e : Int) (he : e ≠ 0) (i E : Nat) : rV (badV e) i E = .tuple #[.agg #[.int .i64 (0), .string (⟨#[]⟩), .int .i64 (0), .float .f64 (0), .int .i64 (0)], .int .i64 0, .int .i64 e] := by
  show (if e = 0 then _ else _) = _
  rw [if_neg he]

set_option maxHeartbeats 1000000 in
theorem rbits_any (s : ByteArray) (i : Nat) (hi : i < s.size) (hs : s.size ≤ 65536) (w : World) : Calls Tryz.prog 58 #[.string s, .int .i64 (i : Int)] w fun e w' => e = .returned (rV (bitsV s i) i (i + 17)) ∧ Below w.heap.size w w' := by
  unfold bitsV
  obtain ⟨o, ho⟩ : ∃ o, hexN s 16 (i + 1) 0 = o := ⟨_, rfl⟩
  rw [ho]
  have hf := f64frombits
  by_cases hlong : s.size < i + 17
  · have i3 : (s.size : Int) < (i : Int) + 17 := by omega
    obtain rfl : none = o := by
      cases o with
      | none => rfl
      | some v => have := hexN_in s 15 (i + 1) 0 v ho; omega
    rw [rV_bad 22 (by decide)]
    go_enter Tryz.func58, Tryz.ntmps58
    go_wp2_with fail
    exact bodyPost_ret (v := .tuple #[.agg #[.int .i64 (0), .string (⟨#[]⟩), .int .i64 (0), .float .f64 (0), .int .i64 (0)], .int .i64 0, .int .i64 22]) (by simp [results, Tryz.results58, go_sem]) rfl ⟨rfl, by (repeat (first | exact Below.refl _ _ | assumption | refine Below.drew ?_ | refine below_drewN ?_ _ | refine Below.setCell ?_ (by simp) _ | refine Below.alloc ?_ (by (first | exact Nat.le_refl _ | (simp; done) | (simp; omega) | omega)) _ | refine Below.trans ?_ (Below.mono (by assumption) (by first | exact Nat.le_refl _ | (simp; done) | (simp; omega) | omega))))⟩
  · have i3 : ¬ (s.size : Int) < (i : Int) + 17 := by omega
    go_enter Tryz.func58, Tryz.ntmps58
    go_wp2_with fail
    go_loopg [7, 8] 16 (fun gf s7 s8 wx => ∃ m V : Nat, s7 = .int .u64 (V : Int) ∧ s8 = .int .i64 ((i + 1 + m : Nat) : Int) ∧ m + gf = 16 ∧ hexN s gf (i + 1 + m) V = o ∧ V < 16 ^ m ∧ wx = wbox w)
    case atStart => exact ⟨0, 0, rfl, by simp, rfl, ho, by simp, rfl⟩
    case round =>
      obtain ⟨m, V, rfl, rfl, hgf, hx, hV, hwx⟩ := hrel
      obtain rfl := hwx.symm
      by_cases hm : m < 16
      · obtain ⟨g', rfl⟩ : ∃ g', gk = g' + 1 := ⟨gk - 1, by omega⟩
        have hps : i + 1 + m < s.size := by omega
        obtain ⟨q, hq⟩ : ∃ q, i + 1 + m = q := ⟨_, rfl⟩
        have hxa : hexAt s q = hexd (bt s q) := by unfold hexAt; rw [if_pos (by omega)]
        have i0 : (0 : Int) ≤ (q : Int) := by omega
        have i1 : (q : Int) < (s.size : Int) := by omega
        have i2 : (q : Int) < (i : Int) + 17 := by omega
        have hb := fun h => at_byte s q h
        have cH := rhexed_any (bt s q)
        rw [hq] at hx ⊢
        obtain ⟨c, hc⟩ : ∃ c, bt s q = c := ⟨_, rfl⟩
        rw [hc] at cH hxa
        simp only [hc] at hb
        have hV60 : V < 1152921504606846976 := by
          have h1 : 16 ^ m ≤ 16 ^ 15 := Nat.pow_le_pow_right (by omega) (by omega)
          omega
        have H16 : Hid (16 ^ (m + 1) = 16 ^ m * 16) := hidb (Nat.pow_succ _ _)
        cases hd : hexd c with
        | none =>
          rw [hd] at cH hxa
          rw [hexN_none _ _ _ _ hxa] at hx
          subst hx
          clear hxa hc hd
          go_wp2_with (first | (go_at_call 83; refine (cH _).mono ?_; rintro e w' ⟨rfl, hw'⟩; obtain rfl := hw'.symm))
          exact bodyPost_ret (v := .tuple #[.agg #[.int .i64 (0), .string (⟨#[]⟩), .int .i64 (0), .float .f64 (0), .int .i64 (0)], .int .i64 0, .int .i64 22]) (by simp [results, Tryz.results58, go_sem]) rfl ⟨rfl, by (repeat (first | exact Below.refl _ _ | assumption | refine Below.drew ?_ | refine below_drewN ?_ _ | refine Below.setCell ?_ (by simp) _ | refine Below.alloc ?_ (by (first | exact Nat.le_refl _ | (simp; done) | (simp; omega) | omega)) _ | refine Below.trans ?_ (Below.mono (by assumption) (by first | exact Nat.le_refl _ | (simp; done) | (simp; omega) | omega))))⟩
        | some d =>
          have hd16 := hexd_lt hd
          rw [hd] at cH hxa
          rw [hexN_some _ _ _ _ _ hxa] at hx
          obtain ⟨X, hX⟩ : ∃ X : Int, (V : Int) = X := ⟨_, rfl⟩
          obtain ⟨Y, hY⟩ : ∃ Y : Int, (d : Int) = Y := ⟨_, rfl⟩
          rw [hX]
          simp only [hY] at cH
          have x0 : 0 ≤ X := by omega
          have x1 : X < 1152921504606846976 := by omega
          have y0 : 0 ≤ Y := by omega
          have y1 : Y < 16 := by omega
          have y2 : ¬ Y < 0 := by omega
          have e1 : IntKind.u64.wrap (X * 16) = X * 16 := by rw [IntKind.wrap_u64]; omega
          have e2 := or16 X Y x0 x1 y0 y1
          have HRR : Hid (X * 16 + Y = ((V * 16 + d : Nat) : Int)) := hidb (by omega)
          have HV : Hid (V * 16 + d < 16 ^ (m + 1)) := hidb (by rw [H16.out]; omega)
          have HX := hidb hx
          clear hxa hc hd hX hY hV60 hx hV H16 hd16
          go_wp2_with (first | (go_at_call 83; refine (cH _).mono ?_; rintro e w' ⟨rfl, hw'⟩; obtain rfl := hw'.symm))
          go_roundg g'
          case measure => omega
          case rel => exact ⟨m + 1, V * 16 + d, by rw [HRR.out], by rw [← hq]; simp; omega, by omega, by rw [← HX.out, ← hq]; rfl, HV.out, rfl⟩
      · obtain rfl : m = 16 := by omega
        obtain rfl : gk = 0 := by omega
        obtain rfl : some V = o := hx
        have i2 : ¬ (((i + 1 + 16 : Nat) : Int) < (i : Int) + 17) := by omega
        have hV64 : V < 18446744073709551616 := by omega
        have cF := refFinite_any V
        cases hfin : Flt.fin V <;> rw [hfin] at cF
        · go_wp2_with (first | (go_at_call 85; refine (cF _).mono ?_; rintro e w1 ⟨rfl, hb1⟩; have HB1 := hidb hb1; obtain ⟨z0, z1, z2, z3, z4, y0, y1, y2, y3, y4, _⟩ := (wbox_box w).keep hb1))
          exact bodyPost_ret (v := .tuple #[.agg #[.int .i64 (0), .string (⟨#[]⟩), .int .i64 (0), .float .f64 (0), .int .i64 (0)], .int .i64 0, .int .i64 22]) (by simp [results, Tryz.results58, go_sem, z0, z1, z2, z3, z4]) rfl ⟨rfl, below_set5 ((wbox_below w).trans (HB1.out.mono (wbox_below w).size)) (Nat.le_refl _) _ _ _ _ _⟩
        · go_wp2_with (first | (go_at_call 85; refine (cF _).mono ?_; rintro e w1 ⟨rfl, hb1⟩; have HB1 := hidb hb1; obtain ⟨z0, z1, z2, z3, z4, y0, y1, y2, y3, y4, _⟩ := (wbox_box w).keep hb1))
          exact bodyPost_ret (v := .tuple #[.agg #[.int .i64 (4), .string (⟨#[]⟩), .int .i64 (0), .float .f64 (V), .int .i64 ((i : Int))], .int .i64 ((i + 17 : Nat) : Int), .int .i64 0]) (by simp [results, Tryz.results58, go_sem, z0, z1, z2, z3, z4]) rfl ⟨rfl, below_set5 ((wbox_below w).trans (HB1.out.mono (wbox_below w).size)) (Nat.le_refl _) _ _ _ _ _⟩
end Go.Proofs.YthdljnakmekhkaaGreatDoor


