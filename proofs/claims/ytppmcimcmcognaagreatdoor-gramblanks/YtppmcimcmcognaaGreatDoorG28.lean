import Derived.Test.YtppmcimcmcognaaGreatDoorLxI
import Derived.Test.YtppmcimcmcognaaGreatDoorG26
/- Tokens. -/
namespace Go.Proofs.YtppmcimcmcognaaGreatDoor
open Go.RowKit Go.Lib
attribute [local go_sem] store_float f64bits
attribute [local go_sem ↓] Go.wp_at_zero Go.wp_at_succ

/-- All tokens of a source, or the first fault. -/
def allT (s : ByteArray) : Res := if 65536 < s.size then .inr (3, 0) else toks s (s.size + 1) 0 []

theorem own_base {w : World} {B B' e size n : Nat} {v : Value} {xs : List Value} (h : w.ownsRow B e size v n xs) (hB : B' ≤ B) : w.ownsRow B' e size v n xs := by
  refine ⟨h.1, ?_⟩
  rcases h.2 with h0 | ⟨g, cap, cur, hv, hg, rest⟩
  · exact .inl h0
  · exact .inr ⟨g, cap, cur, hv, Nat.le_trans hB hg, rest⟩

/-- The cells of a row. -/
theorem own_cell {w : World} {B e size n : Nat} {v : Value} {xs : List Value} (h : w.ownsRow B e size v n xs) (hn : 0 < n) : ∃ g cap, v = .slice (some ⟨g, 0, none⟩) n cap ∧ B ≤ g ∧ n ≤ cap ∧ ∀ k u, xs[k]? = some u → w.cell? ⟨g, k, none⟩ = some u := by
  rcases h.2 with ⟨_, h0⟩ | ⟨g, cap, cur, hv, hg, hh, hc, hm, hz, ht⟩
  · omega
  · refine ⟨g, cap, hv, hg, hc, fun k u hk => ?_⟩
    rw [← ht, List.getElem?_take] at hk
    split at hk
    · simp only [World.cell?, hh]
      simpa using hk
    · cases hk

set_option maxHeartbeats 1000000 in
theorem Tokens_any (s : ByteArray) (w : World) (hT : LexTab w) :
    Calls Tryz.prog 13 #[.string s] w fun e w' => TP w.heap.size (allT s) e w' ∧ Below w.heap.size w w' := by
  unfold allT
  by_cases hl : 65536 < s.size
  · have h1 : (65536 : Int) < (s.size : Int) := by omega
    rw [if_pos hl]
    go_enter Tryz.func13, Tryz.ntmps13
    go_wp2_with fail
    exact bodyPost_ret (v := .tuple #[.slice none 0 0, .agg #[.int .i64 3, .int .i64 0]]) (by simp [results, Tryz.results13, go_sem]) rfl ⟨.inr ⟨3, 0, rfl, rfl⟩, (Below.refl _ _).alloc (Nat.le_refl _) _⟩
  · have h1 : ¬ (65536 : Int) < (s.size : Int) := by omega
    rw [if_neg hl]
    have hB2 : Below w.heap.size w ((w.alloc (Obj.cells #[Value.int IntKind.i64 0, Value.int IntKind.i64 0] 28)).alloc (Obj.cells #[Value.string s, Value.int IntKind.i64 0] 55)) := ((Below.refl _ _).alloc (Nat.le_refl _) _).alloc (by simp) _
    have hF : Duo ((w.alloc (Obj.cells #[Value.int IntKind.i64 0, Value.int IntKind.i64 0] 28)).alloc (Obj.cells #[Value.string s, Value.int IntKind.i64 0] 55)) w.heap.size (.int .i64 0) (.int .i64 0) := (Duo.new w _ _ _).keep (below_new _ _)
    have hS : Sc ((w.alloc (Obj.cells #[Value.int IntKind.i64 0, Value.int IntKind.i64 0] 28)).alloc (Obj.cells #[Value.string s, Value.int IntKind.i64 0] 55)) (w.heap.size + 1) s 0 := by
      have := Duo.new (w.alloc (Obj.cells #[Value.int IntKind.i64 0, Value.int IntKind.i64 0] 28)) 55 (.string s) (.int .i64 0)
      simpa [Sc] using this
    have hgw : 7 ≤ w.heap.size := by
      have := cell_lt ((hT.u.2 0 (by omega)).1)
      exact this
    have cT := tokens_any s (w.heap.size + 1) (by omega) _ hS (hT.but (But.of_below (S := fun _ => False) hB2) (fun _ e => e.elim)) (by unfold GB; omega)
    obtain ⟨R, hR⟩ : ∃ R, toks s (s.size + 1) 0 [] = R := ⟨_, rfl⟩
    rw [hR] at cT ⊢
    have hsz : ((w.alloc (Obj.cells #[Value.int IntKind.i64 0, Value.int IntKind.i64 0] 28)).alloc (Obj.cells #[Value.string s, Value.int IntKind.i64 0] 55)).heap.size = w.heap.size + 2 := by simp
    rw [hsz] at cT
    clear hR hT
    go_enter Tryz.func13, Tryz.ntmps13
    go_wp2_with fail
    refine cT.mono ?_
    rintro e w2 ⟨hTP, hbt⟩
    have hbl : Below w.heap.size w w2 := hB2.trans (hbt.below (by rw [hsz]; omega) (fun k hk => by omega))
    obtain ⟨q0, q1, qf0, qf1, _⟩ := hF.but hbt (by omega)
    have HB := hidb hbl
    clear cT hbt hbl hF hS hB2
    rcases hTP with ⟨l, V, rfl, rfl, how⟩ | ⟨er, p, rfl, rfl⟩
    · go_wp2_with fail
      refine bodyPost_ret (v := .tuple #[V, .agg #[.int .i64 0, .int .i64 0]]) (by simp [results, Tryz.results13, go_sem, q0, q1]) rfl ⟨.inl ⟨l, V, rfl, rfl, ?_⟩, (HB.out.setCell (p := ⟨w.heap.size, 0, none⟩) (Nat.le_refl _) _).setCell (p := ⟨w.heap.size, 1, none⟩) (Nat.le_refl _) _⟩
      exact own_base (own_but how (((But.refl (fun k => k = w.heap.size) w2).setCell (p := ⟨w.heap.size, 0, none⟩) (fun _ => rfl) _).setCell (p := ⟨w.heap.size, 1, none⟩) (fun _ => rfl) _) (fun k hk => by omega)) (by omega)
    · go_wp2_with fail
      exact bodyPost_ret (v := .tuple #[.slice none 0 0, .agg #[.int .i64 er, .int .i64 (p : Int)]]) (by simp [results, Tryz.results13, go_sem, q0, q1]) rfl ⟨.inr ⟨er, p, rfl, rfl⟩, (HB.out.setCell (p := ⟨w.heap.size, 0, none⟩) (Nat.le_refl _) _).setCell (p := ⟨w.heap.size, 1, none⟩) (Nat.le_refl _) _⟩
end Go.Proofs.YtppmcimcmcognaaGreatDoor


/- Parse. -/
namespace Go.Proofs.YtppmcimcmcognaaGreatDoor
open Go.RowKit Go.Lib
attribute [local go_sem] store_float f64bits
attribute [local go_sem ↓] Go.wp_at_zero Go.wp_at_succ

theorem tkOf_k (k n e : Int) (x : ByteArray) (f p : Nat) (hk : k ≠ 8) : (tkOf (.tuple #[.agg #[.int .i64 (k), .string (x), .int .i64 (n), .float .f64 (f), .int .i64 (0)], .int .i64 e]) p).k ≠ 8 := hk
theorem badV_k (e : Int) (p : Nat) : (tkOf (badV e) p).k ≠ 8 := tkOf_k 0 0 e ⟨#[]⟩ 0 p (by decide)
theorem atomV_k (x : ByteArray) (p : Nat) : (tkOf (atomV x) p).k ≠ 8 := by
  unfold atomV
  split
  · exact badV_k _ _
  · exact tkOf_k _ _ _ _ _ _ (by decide)
theorem tokV_k (s : ByteArray) (i p : Nat) : (tkOf (tokV s i) p).k ≠ 8 := by
  unfold tokV
  split
  · unfold wordV
    repeat' split
    all_goals exact tkOf_k _ _ _ _ _ _ (by decide)
  · split
    · exact tkOf_k _ _ _ _ _ _ (by decide)
    · split
      · unfold numV
        split
        · exact badV_k _ _
        · split
          · unfold wholeV
            split
            · exact badV_k _ _
            · split
              · exact badV_k _ _
              · exact tkOf_k _ _ _ _ _ _ (by decide)
          · unfold floatV
            split
            · exact badV_k _ _
            · exact tkOf_k _ _ _ _ _ _ (by decide)
      · split
        · unfold bitsV
          split
          · split
            · exact tkOf_k _ _ _ _ _ _ (by decide)
            · exact badV_k _ _
          · exact badV_k _ _
        · split
          · unfold quoteV
            split
            · split
              · exact atomV_k _ _
              · exact tkOf_k _ _ _ _ _ _ (by decide)
            · exact badV_k _ _
          · cases signAt s i with
            | none => exact tkOf_k _ _ _ _ _ _ (by decide)
            | some l => exact tkOf_k _ _ _ _ _ _ (by decide)

theorem toks_ends (s : ByteArray) : ∀ (k p : Nat) (done l : List Tk), toks s k p done = .inl l → (∀ t ∈ done, t.k ≠ 8) → (∃ a t, l = a ++ [t] ∧ t.k = 8 ∧ ∀ u ∈ a, u.k ≠ 8) ∧ l.length ≤ done.length + k
  | 0, _, _, _, h, _ => by cases h
  | k + 1, p, done, l, h, hd => by
    unfold toks at h
    split at h
    · split at h
      · have := toks_ends s k _ done l h hd
        exact ⟨this.1, by omega⟩
      · split at h
        · have := toks_ends s k _ _ l h (by
            intro t ht
            rcases List.mem_append.1 ht with ht | ht
            · exact hd t ht
            · simp at ht; subst ht; exact tokV_k _ _ _)
          exact ⟨this.1, by have h2 := this.2; simp at h2; omega⟩
        · cases h
    · cases h
      exact ⟨⟨done, _, rfl, rfl, hd⟩, by simp⟩

theorem okV_er (s : ByteArray) (i : Nat) (h : erOf (tokV s i) = 0) : okV (tokV s i) = true := by
  obtain ⟨k, x, n, f, e, hv⟩ := tokV_tk s i
  rw [hv] at h ⊢
  exact decide_eq_true h
/-- The fuel is enough: a fault has a number. -/
theorem toks_err (s : ByteArray) : ∀ (k p : Nat) (done : List Tk) (er : Int) (q : Nat), p ≤ s.size → s.size < k + p → toks s k p done = .inr (er, q) → er ≠ 0
  | 0, p, _, _, _, hp, hk, _ => by omega
  | k + 1, p, done, er, q, hp, hk, h => by
    have h1 := goes_ge pBlank s p
    have h2 := goes_le pBlank s p hp
    unfold toks at h
    split at h
    · rename_i hlt
      split at h
      · rename_i h37
        have h3 := goes_ge pLine s (goes pBlank s p)
        have h4 := goes_le pLine s (goes pBlank s p) h2
        have h5 : goes pBlank s p < goes pLine s (goes pBlank s p) := by
          rcases Nat.lt_or_ge (goes pBlank s p) (goes pLine s (goes pBlank s p)) with hh | hh
          · exact hh
          · have he : goes pLine s (goes pBlank s p) = goes pBlank s p := by omega
            have hn := goes_not pLine s (goes pBlank s p) (by omega)
            rw [he, h37] at hn
            simp [pLine] at hn
        exact toks_err s k _ done er q h4 (by omega) h
      · split at h
        · rename_i he
          obtain ⟨h3, h4⟩ := tokE_in s _ hlt (okV_er s _ he)
          exact toks_err s k _ _ er q h4 (by omega) h
        · rename_i he
          cases h
          exact he
    · cases h

theorem tks_of {w : World} {q : Nat} : ∀ (l : List Tk) (i : Nat), (∀ k u, (tkCells l)[k]? = some u → w.cell? ⟨q, i + k, none⟩ = some u) → Tks w q i l
  | [], _, _ => trivial
  | t :: r, i, h => by
    have hc : tkCells (t :: r) = t.cells ++ tkCells r := rfl
    rw [hc] at h
    refine ⟨⟨h 0 _ rfl, h 1 _ rfl, h 2 _ rfl, h 3 _ rfl, h 4 _ rfl⟩, tks_of r (i + 5) fun k u hk => ?_⟩
    have := h (5 + k) u (by rw [List.getElem?_append_right (by simp [Tk.cells])]; simpa [Tk.cells] using hk)
    rw [← Nat.add_assoc] at this
    exact this

/-- The tree of a source: the root and the state that holds the nodes, or the fault. -/
def parseP (s : ByteArray) : Except (Int × Nat) (Nat × PS) := match allT s with
  | .inr e => .error e
  | .inl l => treeP l

/-- What Parse has told. -/
def ParseR (w : World) (R : Except (Int × Nat) (Nat × PS)) (e : Ending) (w' : World) : Prop :=
  Below w.heap.size w w' ∧
  ((∃ er p, R = .error (er, p) ∧ e = .returned (.tuple #[.agg #[.slice none 0 0, .int .i64 0], .agg #[.int .i64 er, .int .i64 ((p : Nat) : Int)]])) ∨
   (∃ r s V, R = .ok (r, s) ∧ e = .returned (.tuple #[.agg #[V, iv r], .agg #[.int .i64 0, .int .i64 0]]) ∧ Nodes w' w.heap.size V s.ns))

theorem allT_ends (s : ByteArray) {l : List Tk} (h : allT s = .inl l) : Ne ⟨l, [], 0⟩ ∧ l.length ≤ 100000 := by
  unfold allT at h
  split at h
  · cases h
  · obtain ⟨⟨a, t, h1, h2, h3⟩, h4⟩ := toks_ends s _ _ _ l h (by simp)
    exact ⟨⟨a, t, h1, h2, h3⟩, by simp at h4; omega⟩
theorem allT_err (s : ByteArray) {er : Int} {p : Nat} (h : allT s = .inr (er, p)) : er ≠ 0 := by
  unfold allT at h
  split at h
  · cases h; decide
  · exact toks_err s _ _ _ er p (Nat.zero_le _) (by omega) h

theorem nodes_sl {w : World} {B : Nat} {V : Value} {ns : List Nd} (h : Nodes w B V ns) : ∃ a m c, V = .slice a m c := by
  obtain ⟨⟨vs, _, ho, _⟩, _⟩ := h
  rcases ho.2 with ⟨hv, _⟩ | ⟨q, cap, cur, hv, _⟩
  · exact ⟨_, _, _, hv⟩
  · exact ⟨_, _, _, hv⟩

set_option maxHeartbeats 2000000 in
set_option maxRecDepth 100000 in
theorem Parse_any (s : ByteArray) (w : World) (hT : LexTab w) : Calls Tryz.prog 10 #[.string s] w fun e w' => ParseR w (parseP s) e w' := by
  obtain ⟨W2, hW2⟩ : ∃ W2, ((w.alloc (.cells #[.slice none 0 0, .int .i64 0] 25)).alloc (.cells #[.int .i64 0, .int .i64 0] 28)) = W2 := ⟨_, rfl⟩
  have hB2 : Below w.heap.size w W2 := by rw [← hW2]; exact ((Below.refl _ _).alloc (Nat.le_refl _) _).alloc (by simp) _
  have hZ2 : W2.heap.size = w.heap.size + 1 + 1 := by rw [← hW2]; simp
  have hD1 : Duo W2 w.heap.size (.slice none 0 0) (.int .i64 0) := by rw [← hW2]; exact (Duo.new w _ _ _).keep (below_new _ _)
  have hD2 : Duo W2 (w.heap.size + 1) (.int .i64 0) (.int .i64 0) := by
    rw [← hW2]
    have := Duo.new (w.alloc (.cells #[.slice none 0 0, .int .i64 0] 25)) 28 (.int .i64 0) (.int .i64 0)
    simpa using this
  have cT := Tokens_any s W2 (hT.but (But.of_below (S := fun _ => False) hB2) (fun _ e => e.elim))
  have HW2 := hidb hW2
  have HB2 := hidb hB2
  have HD1 := hidb hD1
  have HD2 := hidb hD2
  clear hW2 hB2 hD1 hD2 hT
  cases hA : allT s with
  | inr q =>
    obtain ⟨er, p⟩ := q
    have hR : parseP s = .error (er, p) := by unfold parseP; rw [hA]
    have her := allT_err s hA
    rw [hR]
    rw [hA] at cT
    clear hA hR
    go_enter Tryz.func10, Tryz.ntmps10
    go_wp2_with (go_at_call 13; rw [HW2.out]; refine cT.mono ?_; rintro r1 w1 ⟨⟨l, V, hl, rfl, ho⟩ | ⟨er', p', hl, rfl⟩, hb⟩ <;> first | (cases hl; have HB := hidb hb; obtain ⟨y0, y1, z0, z1, q1⟩ := HD1.out.keep hb; obtain ⟨y2, y3, z2, z3, q2⟩ := HD2.out.keep hb; clear hb) | cases hl)
    go_region_law (fail)
    all_goals (
      go_wp2_with fail
      obtain ⟨e1, e2, e3⟩ := put4_all (HD1.out.keep HB.out) (HD2.out.keep HB.out) (by omega) (.slice none 0 0) (.int .i64 0) (.int .i64 er) (.int .i64 (p : Int))
      have hb6 : Below w.heap.size w1 (put4 w1 w.heap.size (w.heap.size + 1) (.slice none 0 0) (.int .i64 0) (.int .i64 er) (.int .i64 (p : Int))) := e3.below (by omega) (fun k hk => by omega)
      have e5 := e1.keep (Below.drew (below_new _ (.cells #[.int .i64 er, .int .i64 (p : Int)] 28)))
      have e6 := e2.keep (Below.drew (below_new _ (.cells #[.int .i64 er, .int .i64 (p : Int)] 28)))
      have hb7 := ((HB2.out.trans (HB.out.mono (by omega))).trans hb6).trans ((Below.drew (below_new _ (.cells #[.int .i64 er, .int .i64 (p : Int)] 28))).mono (by have := hb6.size; omega))
      have k0 := e5.c0; have k1 := e5.c1; have k2 := e6.c0; have k3 := e6.c1
      simp only [put4] at k0 k1 k2 k3
      exact bodyPost_ret (v := .tuple #[.agg #[.slice none 0 0, .int .i64 0], .agg #[.int .i64 er, .int .i64 (p : Int)]]) (by simp [results, Tryz.results10, go_sem, k0, k1, k2, k3]) rfl ⟨hb7, .inl ⟨er, p, rfl, rfl⟩⟩)
  | inl l =>
    have hR : parseP s = treeP l := by unfold parseP; rw [hA]
    obtain ⟨hne, hlen⟩ := allT_ends s hA
    rw [hR]
    rw [hA] at cT
    have HNE := hidb hne
    clear hA hR hne
    go_enter Tryz.func10, Tryz.ntmps10
    go_wp2_with (first | (go_at_call 16; refine (treeOf_any (HTK.out.but (But.of_below (S := fun _ => False) (below_new w1 _)) HQL.out (fun h => h)) hqc (Nat.lt_of_lt_of_le HQL.out (below_new w1 _).size) HNE.out hlen).mono ?_; rintro r1 w2 ⟨hb, ⟨er, p, hq, rfl⟩ | ⟨r, s1, V1, hq, rfl, hn⟩⟩ <;> first | (have HN := hidb hn; obtain ⟨va, vm, vc, rfl⟩ := nodes_sl hn; have HQ := hidb hq; have HB5 := hidb hb; obtain ⟨x0, x1, u0, u1, -⟩ := (HD1.out.keep (HB.out.trans ((below_new w1 _).mono HB.out.size))).keep hb; obtain ⟨x2, x3, u2, u3, -⟩ := (HD2.out.keep (HB.out.trans ((below_new w1 _).mono HB.out.size))).keep hb; clear hb hq hn) | (have HQ := hidb hq; have HB5 := hidb hb; obtain ⟨x0, x1, u0, u1, -⟩ := (HD1.out.keep (HB.out.trans ((below_new w1 _).mono HB.out.size))).keep hb; obtain ⟨x2, x3, u2, u3, -⟩ := (HD2.out.keep (HB.out.trans ((below_new w1 _).mono HB.out.size))).keep hb; clear hb hq)) | (go_at_call 13; rw [HW2.out]; refine cT.mono ?_; rintro r1 w1 ⟨⟨l2, V, hl, rfl, ho⟩ | ⟨er', p', hl, rfl⟩, hb⟩ <;> first | (cases hl; have HB := hidb hb; obtain ⟨q, cap, rfl, hqB, hqc, hcs⟩ := own_cell ho (by obtain ⟨a, t, ha, _⟩ := HNE.out; simp only at ha; rw [ha]; simp); have HQL := hidb (cell_lt (hcs 0 _ (by obtain ⟨r, hr⟩ := Gm.ne_hd HNE.out; simp only at hr; rw [hr]; rfl))); have HTK := hidb (tks_of l 0 (fun k u hk => by rw [Nat.zero_add]; exact hcs k u hk)); obtain ⟨y0, y1, z0, z1, q1⟩ := HD1.out.keep hb; obtain ⟨y2, y3, z2, z3, q2⟩ := HD2.out.keep hb; clear hb ho hcs) | cases hl))
    · obtain ⟨e1, e2, e3⟩ := put4_all ((HD1.out.keep (HB.out.trans ((below_new w1 (.cells #[.int .i64 0, .int .i64 0] 28)).mono HB.out.size))).keep HB5.out) ((HD2.out.keep (HB.out.trans ((below_new w1 (.cells #[.int .i64 0, .int .i64 0] 28)).mono HB.out.size))).keep HB5.out) (by omega) (.slice none 0 0) (.int .i64 0) (.int .i64 er) (.int .i64 (p : Int))
      have hz1 := HB.out.size
      have hz5 := HB5.out.size
      have hza : (w1.alloc (.cells #[.int .i64 0, .int .i64 0] 28)).heap.size = w1.heap.size + 1 := by simp
      have hb6 : Below w.heap.size w2 (put4 w2 w.heap.size (w.heap.size + 1) (.slice none 0 0) (.int .i64 0) (.int .i64 er) (.int .i64 (p : Int))) := e3.below (by omega) (fun k hk => by omega)
      have hb7 := (((HB2.out.trans (HB.out.mono (by omega))).trans ((below_new w1 (.cells #[.int .i64 0, .int .i64 0] 28)).mono (by omega))).trans (HB5.out.mono (by omega))).trans hb6
      have k0 := e1.c0; have k1 := e1.c1; have k2 := e2.c0; have k3 := e2.c1
      simp only [put4] at k0 k1 k2 k3
      exact bodyPost_ret (v := .tuple #[.agg #[.slice none 0 0, .int .i64 0], .agg #[.int .i64 er, .int .i64 (p : Int)]]) (by simp [results, Tryz.results10, go_sem, k0, k1, k2, k3]) rfl ⟨hb7, .inl ⟨er, p, HQ.out, rfl⟩⟩
    · obtain ⟨e1, e2, e3⟩ := put4_all ((HD1.out.keep (HB.out.trans ((below_new w1 (.cells #[.int .i64 0, .int .i64 0] 28)).mono HB.out.size))).keep HB5.out) ((HD2.out.keep (HB.out.trans ((below_new w1 (.cells #[.int .i64 0, .int .i64 0] 28)).mono HB.out.size))).keep HB5.out) (by omega) (.slice va vm vc) (iv r) (.int .i64 0) (.int .i64 0)
      have hz1 := HB.out.size
      have hz5 := HB5.out.size
      have hza : (w1.alloc (.cells #[.int .i64 0, .int .i64 0] 28)).heap.size = w1.heap.size + 1 := by simp
      have hb6 : Below w.heap.size w2 (put4 w2 w.heap.size (w.heap.size + 1) (.slice va vm vc) (iv r) (.int .i64 0) (.int .i64 0)) := e3.below (by omega) (fun k hk => by omega)
      have hb7 := (((HB2.out.trans (HB.out.mono (by omega))).trans ((below_new w1 (.cells #[.int .i64 0, .int .i64 0] 28)).mono (by omega))).trans (HB5.out.mono (by omega))).trans hb6
      have hnd := (HN.out.but e3 (fun k hk => by omega)).base (B' := w.heap.size) (by omega)
      have k0 := e1.c0; have k1 := e1.c1; have k2 := e2.c0; have k3 := e2.c1
      simp only [put4] at k0 k1 k2 k3
      exact bodyPost_ret (v := .tuple #[.agg #[.slice va vm vc, iv r], .agg #[.int .i64 0, .int .i64 0]]) (by simp [results, Tryz.results10, go_sem, k0, k1, k2, k3]) rfl ⟨hb7, .inr ⟨r, s1, _, HQ.out, rfl, hnd⟩⟩
end Go.Proofs.YtppmcimcmcognaaGreatDoor


