import Derived.Test.YtmijabhnbmmmfaaGreatG32
import Derived.Test.YtmijabhnbmmmfaaGreatG29
/- Right terms: told by words and depth; the same elsewhere. -/
namespace Go.Proofs.YtmijabhnbmmmfaaGreat
open Go.RowKit Go.Deep

/-- The words of a good node itself, and its elements'. -/
theorem good_own {k n : Int} {f : Nat} {s : ByteArray} {a : Option Addr} {c : Nat} {kids : List Tr} (hg1 : goodT (.mk k n f s a c kids) = true) : (wN (.mk k n f s a c kids) : Int) = own k kids.length + wAll kids ∧ kids.length ≤ wN (.mk k n f s a c kids) := by
  simp only [wN]
  by_cases h1 : k = 1
  · have e0 : kids = [] := by
      subst h1; simp [goodT] at hg1; exact List.length_eq_zero_iff.1 (rightB_cases0 hg1).2.1
    simp [h1, e0, own, wAll]
  by_cases h6 : k = 6
  · have e0 : kids = [] := by subst h6; simp [goodT] at hg1; exact hg1.2.2
    simp [h6, e0, own, wAll]
  by_cases h3 : k = 3
  · have e0 : kids = [] := by subst h3; simp [goodT] at hg1; exact hg1.2.2
    simp [h3, e0, own, wAll]
  by_cases h8 : k = 8
  · subst h8; simp [own]; omega
  by_cases h2 : k = 2
  · have e0 : kids = [] := by
      subst h2; simp [goodT] at hg1; exact List.length_eq_zero_iff.1 (rightB_cases0 hg1).2.1
    subst h2; subst e0; simp [own, wAll, front]
  by_cases h4 : k = 4
  · have e0 : kids = [] := by subst h4; simp [goodT] at hg1; exact hg1.2.2
    subst h4; subst e0; simp [own, wAll, front]
  by_cases h5 : k = 5
  · subst h5; simp [own, front]; omega
  simp only [own, front, h1, h2, h3, h4, h5, h6, h8, if_false, or_self, List.length_cons, List.length_nil]
  omega

theorem meas_ok : ∀ t : Tr, allT goodT t = true → ∀ d most : Int, (deepN t : Int) ≤ d → (wN t : Int) ≤ most → meas t d most = wN t := by
  refine Tr.ind fun k n f s a c kids hk hg d most hd hm => ?_
  simp only [allT, Bool.and_eq_true] at hg
  obtain ⟨hg1, hg2⟩ := hg
  obtain ⟨ho, _⟩ := good_own hg1
  have hn := own_nonneg k kids.length
  simp only [deepN] at hd
  have hle := deepNs_le kids 1
  have hall : ∀ (l : List Tr), (∀ t, t ∈ l → t ∈ kids) → ∀ x : Int, 0 ≤ x → x + wAll l ≤ most → measAll l (d - 1) most x = x + wAll l := by
    intro l
    induction l with
    | nil => intro _ x _ _; simp [measAll, wAll]
    | cons t r ih =>
      intro hl x h0 hx
      simp only [wAll] at hx
      have ht := hl t (List.mem_cons_self ..)
      have e := hk t ht (good_kids hg2 ht) (d - 1) (most - x) (by have := hle.2 t ht; omega) (by omega)
      simp only [measAll, wAll]
      rw [e, if_neg (by omega), ih (fun u hu => hl u (List.mem_cons_of_mem _ hu)) _ (by omega) (by omega)]
      omega
  simp only [meas]
  rw [if_neg (by omega), hall kids (fun t h => h) _ hn (by omega)]
  omega

theorem err_of {t : Tr} (hg : allT goodT t = true) (hd : deepN t ≤ 200) (hw : wN t ≤ 65536) : errT t = 0 := by
  unfold errT
  rw [meas_ok t hg 200 65536 (by omega) (by omega), if_neg (by omega), if_pos hg]

theorem small_of : ∀ t : Tr, allT goodT t = true → wN t ≤ 65536 → Small t := by
  refine Tr.ind fun k n f s a c kids hk hg hw => ?_
  simp only [allT, Bool.and_eq_true] at hg
  obtain ⟨hg1, hg2⟩ := hg
  obtain ⟨ho, hl⟩ := good_own hg1
  have hn := own_nonneg k kids.length
  unfold Small
  refine ⟨by omega, ?_⟩
  have hall : ∀ (l : List Tr), (∀ t, t ∈ l → t ∈ kids) → wAll l ≤ 65536 → SmallAll l := by
    intro l
    induction l with
    | nil => intro _ _; unfold SmallAll; trivial
    | cons t r ih =>
      intro hl' hx
      simp only [wAll] at hx
      have ht := hl' t (List.mem_cons_self ..)
      unfold SmallAll
      exact ⟨hk t ht (good_kids hg2 ht) (by omega), ih (fun u hu => hl' u (List.mem_cons_of_mem _ hu)) (by omega)⟩
  exact hall kids (fun t h => h) (by omega)

/-- The same elsewhere: as right, as many words, as deep. -/
theorem same_like : ∀ t t' : Tr, Same t t' → allT goodT t' = allT goodT t ∧ wN t' = wN t ∧ deepN t' = deepN t := by
  refine Tr.ind fun k n f s a c kids hk t' h => ?_
  obtain ⟨k', n', f', s', a', c', kids'⟩ := t'
  unfold Same at h
  obtain ⟨rfl, rfl, rfl, rfl, hs⟩ := h
  have hall : ∀ (l l' : List Tr), (∀ t, t ∈ l → t ∈ kids) → SameAll l l' → allAll goodT l' = allAll goodT l ∧ wAll l' = wAll l ∧ ∀ m, deepNs l' m = deepNs l m := by
    intro l
    induction l with
    | nil =>
      intro l' _ h
      cases l' with
      | nil => exact ⟨rfl, rfl, fun _ => rfl⟩
      | cons x y => unfold SameAll at h; exact h.elim
    | cons t r ih =>
      intro l' hl h
      cases l' with
      | nil => unfold SameAll at h; exact h.elim
      | cons x y =>
        unfold SameAll at h
        obtain ⟨e1, e2, e3⟩ := hk t (hl t (List.mem_cons_self ..)) x h.1
        obtain ⟨i1, i2, i3⟩ := ih y (fun u hu => hl u (List.mem_cons_of_mem _ hu)) h.2
        simp only [allAll, wAll, deepNs, e1, e2, e3, i1, i2, i3]
        exact ⟨trivial, trivial, fun _ => trivial⟩
  obtain ⟨e1, e2, e3⟩ := hall kids kids' (fun t h => h) hs
  have hl := sameAll_len _ _ hs
  refine ⟨?_, ?_, ?_⟩
  · simp only [allT, e1]
    congr 1
    simp only [goodT, hl]
  · simp only [wN, e2, hl]
  · simp only [deepN, e3]
end Go.Proofs.YtmijabhnbmmmfaaGreat


/- Blocks, whatever words lie there. -/
namespace Go.Proofs.YtmijabhnbmmmfaaGreat
open Go.RowKit Go.Deep
attribute [local go_sem] store_float f64bits f64frombits
attribute [local go_sem ↓] Go.wp_at_zero Go.wp_at_succ

set_option maxHeartbeats 1600000 in
set_option maxRecDepth 100000 in
theorem alone_no {w : World} {hb : Nat} (u : Int) (h0 : 0 ≤ u) (h1 : u ≤ 18446744073709551615) (hr : wRightB u = false ∨ ¬ (tagI u = 1 ∨ tagI u = 2 ∨ tagI u = 3 ∨ tagI u = 4)) :
    Calls Tryz.prog 52 #[.pointer (some ⟨hb, 0, none⟩), .int .u64 u] w fun e w' => e = .returned (.tuple #[.agg #[.int .i64 0, .int .i64 0, .float .f64 0, .string ⟨#[]⟩, .slice none 0 0], .bool false]) ∧ Below w.heap.size w w' := by
  have RT := hidb (right_any u h0 h1)
  have TG := hidb (tag_any u h0 h1)
  generalize wRightB u = R at *
  generalize tagI u = T at *
  cases R with
  | false =>
    clear hr
    go_enter Tryz.func52, Tryz.ntmps52
    go_wp2_with (first | (go_at_call 82; refine (RT.out _).mono ?_; rintro e w' ⟨rfl, rfl⟩) | (go_at_call 81; refine (TG.out _).mono ?_; rintro e w' ⟨rfl, rfl⟩))
    exact bodyPost_ret (v := .tuple #[.agg #[.int .i64 0, .int .i64 0, .float .f64 0, .string ⟨#[]⟩, .slice none 0 0], .bool false]) (by simp [results, Tryz.results52, go_sem]) rfl ⟨rfl, below_new w _⟩
  | true =>
    have hn : ¬ (T = 1 ∨ T = 2 ∨ T = 3 ∨ T = 4) := by
      rcases hr with h | h
      · cases h
      · exact h
    have n1 : ¬ T = 1 := fun h => hn (.inl h)
    have n2 : ¬ T = 2 := fun h => hn (.inr (.inl h))
    have n3 : ¬ T = 3 := fun h => hn (.inr (.inr (.inl h)))
    have n4 : ¬ T = 4 := fun h => hn (.inr (.inr (.inr h)))
    clear hr hn
    go_enter Tryz.func52, Tryz.ntmps52
    go_wp2_with (first | (go_at_call 82; refine (RT.out _).mono ?_; rintro e w' ⟨rfl, rfl⟩) | (go_at_call 81; refine (TG.out _).mono ?_; rintro e w' ⟨rfl, rfl⟩))
    exact bodyPost_ret (v := .tuple #[.agg #[.int .i64 0, .int .i64 0, .float .f64 0, .string ⟨#[]⟩, .slice none 0 0], .bool false]) (by simp [results, Tryz.results52, go_sem]) rfl ⟨rfl, below_new w _⟩

set_option maxHeartbeats 1000000 in
theorem hcut_no {w : World} {hb ab most : Nat} {ws : List Int} {L : List ByteArray} {F : List Nat} {a : Option Addr} {c : Nat} (h : HP w hb ab most ws L F a c) (p : Int) (n : Nat) (hp : p ≤ 1152921504606846976) (hn : n ≤ 100000) (hl : (ws.length : Int) - (n : Int) < p) :
    Calls Tryz.prog 97 #[.pointer (some ⟨hb, 0, none⟩), .int .i64 p, .int .i64 n] w fun e w' => e = .returned (.tuple #[.slice none 0 0, .bool false]) ∧ w' = w := by
  obtain ⟨c0, c1, c2, f0, f1, f2, hlt⟩ := h.tri
  have hsm := h.small
  have hft := h.fits
  clear h
  have hw : IntKind.i64.wrap ((ws.length : Int) - (n : Int)) = (ws.length : Int) - (n : Int) := by rw [IntKind.wrap_i64]; omega
  go_enter Tryz.func97, Tryz.ntmps97
  go_wp2
  exact bodyPost_ret (v := .tuple #[.slice none 0 0, .bool false]) (by simp [results, Tryz.results97, go_sem]) rfl ⟨rfl, rfl⟩

set_option maxHeartbeats 1600000 in
set_option maxRecDepth 100000 in
theorem block_gen (hb : Nat) (u : Int) (p : Int) (A B : Option Addr) (n n' m c f : Nat) (k N y : Int) (is : Bool) (h0 : 0 ≤ u) (h1 : u ≤ 18446744073709551615) (hB : bodyI u = p) (w : World)
    (h : (tagI u = 6 ∧ ∀ w', Below w.heap.size w w' → Calls Tryz.prog 84 #[.pointer (some ⟨hb, 0, none⟩), .int .i64 p] w' fun e w'' => e = .returned (.tuple #[.agg #[.slice A n n', .int .i64 k, .int .i64 N, .float .f64 f, .string ⟨#[]⟩, .slice none 0 0, .slice B m c, .int .u64 y], .bool is]) ∧ Below w'.heap.size w' w'') ∨
      (tagI u = 5 ∧ ∀ w', Below w.heap.size w w' → Calls Tryz.prog 85 #[.pointer (some ⟨hb, 0, none⟩), .int .i64 p] w' fun e w'' => e = .returned (.tuple #[.agg #[.slice A n n', .int .i64 k, .int .i64 N, .float .f64 f, .string ⟨#[]⟩, .slice none 0 0, .slice B m c, .int .u64 y], .bool is]) ∧ Below w'.heap.size w' w'')) :
    Calls Tryz.prog 53 #[.pointer (some ⟨hb, 0, none⟩), .int .u64 u] w fun e w' => e = .returned (.tuple #[.agg #[.slice A n n', .int .i64 k, .int .i64 N, .float .f64 f, .string ⟨#[]⟩, .slice none 0 0, .slice B m c, .int .u64 y], .bool is]) ∧ Below w.heap.size w w' := by
  have TG := hidb (tag_any u h0 h1)
  have BD := hidb (body_any u h0 h1)
  rw [hB] at BD
  clear hB
  rcases h with ⟨ht, h⟩ | ⟨ht, h⟩
  · skip
    have H := hidb h
    rw [ht] at TG
    clear h ht
    go_enter Tryz.func53, Tryz.ntmps53
    go_wp2_with (first | (go_at_call 81; refine (TG.out _).mono ?_; rintro e w' ⟨rfl, rfl⟩) | (go_at_call 78; refine (BD.out _).mono ?_; rintro e w' ⟨rfl, rfl⟩) | (go_at_call 84; refine (H.out _ (below_new w _)).mono ?_; rintro e w1 ⟨rfl, hb1⟩; have HB := hidb (below_in hb1); obtain ⟨o0, o1, o2, o3, o4, o5, o6, o7, s0, s1, s2, s3, s4, s5, s6, s7, _⟩ := (Oct.new w 129 (.slice none 0 0) (.int .i64 0) (.int .i64 0) (.float .f64 0) (.string ⟨#[]⟩) (.slice none 0 0) (.slice none 0 0) (.int .u64 0)).keep hb1))
    exact bodyPost_ret (v := .tuple #[.agg #[.slice A n n', .int .i64 k, .int .i64 N, .float .f64 f, .string ⟨#[]⟩, .slice none 0 0, .slice B m c, .int .u64 y], .bool is]) (by simp [results, Tryz.results53, go_sem, o0, o1, o2, o3, o4, o5, o6, o7]) rfl
      ⟨rfl, (((((((HB.out.setCell (Nat.le_refl _) _).setCell (Nat.le_refl _) _).setCell (Nat.le_refl _) _).setCell (Nat.le_refl _) _).setCell (Nat.le_refl _) _).setCell (Nat.le_refl _) _).setCell (Nat.le_refl _) _).setCell (Nat.le_refl _) _⟩
  · skip
    have H := hidb h
    rw [ht] at TG
    clear h ht
    go_enter Tryz.func53, Tryz.ntmps53
    go_wp2_with (first | (go_at_call 81; refine (TG.out _).mono ?_; rintro e w' ⟨rfl, rfl⟩) | (go_at_call 78; refine (BD.out _).mono ?_; rintro e w' ⟨rfl, rfl⟩) | (go_at_call 85; refine (H.out _ (below_new w _)).mono ?_; rintro e w1 ⟨rfl, hb1⟩; have HB := hidb (below_in hb1); obtain ⟨o0, o1, o2, o3, o4, o5, o6, o7, s0, s1, s2, s3, s4, s5, s6, s7, _⟩ := (Oct.new w 129 (.slice none 0 0) (.int .i64 0) (.int .i64 0) (.float .f64 0) (.string ⟨#[]⟩) (.slice none 0 0) (.slice none 0 0) (.int .u64 0)).keep hb1))
    exact bodyPost_ret (v := .tuple #[.agg #[.slice A n n', .int .i64 k, .int .i64 N, .float .f64 f, .string ⟨#[]⟩, .slice none 0 0, .slice B m c, .int .u64 y], .bool is]) (by simp [results, Tryz.results53, go_sem, o0, o1, o2, o3, o4, o5, o6, o7]) rfl
      ⟨rfl, (((((((HB.out.setCell (Nat.le_refl _) _).setCell (Nat.le_refl _) _).setCell (Nat.le_refl _) _).setCell (Nat.le_refl _) _).setCell (Nat.le_refl _) _).setCell (Nat.le_refl _) _).setCell (Nat.le_refl _) _).setCell (Nat.le_refl _) _⟩
set_option maxHeartbeats 1600000 in
set_option maxRecDepth 100000 in
theorem box_gen {w : World} {hb ab most : Nat} {ws : List Int} {L : List ByteArray} {F : List Nat} {a : Option Addr} {c : Nat} (h : HP w hb ab most ws L F a c) (g : Nat) (ha : a = some ⟨g, 0, none⟩) (p n sz : Nat) (hd k N : Int) (f : Nat)
    (hw : ws[p]? = some hd) (d0 : 0 ≤ hd) (d1 : hd ≤ 18446744073709551615) (hB : isB hd = true) (hk : hkI hd = k) (hs : hsI hd = sz) (hl : lnN k sz = n) (hlb : lnB k sz = true) (hn : p + n ≤ ws.length) (hfn : frN k ≤ n) (hszl : sz ≤ 65536)
    (hf : f < 18446744073709551616) (hNw : (Lit.int .i64 N).wf = true) (hkw : (Lit.int .i64 k).wf = true)
    (hbr : ∀ w', Below w.heap.size w w' → Calls Tryz.prog 99 #[.int .i64 k, .slice (some ⟨g, p, none⟩) n n] w' fun e w'' => e = .returned (.agg #[.int .i64 (k), .int .i64 (N), .float .f64 (f), .string ⟨#[]⟩, .slice none 0 0]) ∧ Below w'.heap.size w' w'') :
    Calls Tryz.prog 85 #[.pointer (some ⟨hb, 0, none⟩), .int .i64 p] w fun e w' => e = .returned (.tuple #[blkV g p n (frN k) k N f, .bool (errT (.mk k N f ⟨#[]⟩ none 0 []) == 0)]) ∧ Below w.heap.size w w' := by
  have hfr : frN k = 1 ∨ frN k = 2 := by unfold frN; split <;> simp
  have hszw := h.tri.lt
  have C1 := hidb (fun w' (hb' : Below w.heap.size w w') => hcut_in (h.keep hb') g ha p 1 (by omega) (by omega))
  have C2 := hidb (fun w' (hb' : Below w.heap.size w w') => hcut_in (h.keep hb') g ha p n (by omega) hn)
  have WH := hidb (whead_any hd d0 d1)
  rw [hB, hk, hs] at WH
  have LN := hidb (lengthOf_any k sz (by omega) (by omega))
  rw [hl, hlb] at LN
  have hcell : w.cell? ⟨g, p, none⟩ = some (.int .u64 hd) := by
    rcases h.row with ⟨e, _, _⟩ | ⟨g', cs, e, h1, h2, h3, h4⟩
    · rw [ha] at e; simp at e
    · rw [ha] at e
      obtain rfl : g = g' := by simpa using e
      have hp : p < ws.length := by
        rcases Nat.lt_or_ge p ws.length with h | h
        · exact h
        · rw [List.getElem?_eq_none h] at hw; simp at hw
      have := (h1 p (by omega)).1
      rwa [h3 p hd hw] at this
  have BR := hidb hbr
  have FRO := hidb (frontOf_any k)
  have CK := hidb (fun w' => check_t (.mk k N f ⟨#[]⟩ none 0 []) w' (by
    unfold Tr.In
    exact ⟨⟨hkw, hNw, by simpa [Lit.wf] using hf, by show 0 ≤ maxLen; omega, by simp, by simp, fun _ => rfl⟩, fun ad h => by simp at h⟩) (by unfold Small SmallAll; exact ⟨by simp, trivial⟩))
  generalize errT (.mk k N f ⟨#[]⟩ none 0 []) = E at *
  have HH := hidb h
  unfold blkV
  generalize hFn : frN k = fn at *
  clear h hbr hw hFn hl hlb hk hs hB
  go_enter Tryz.func85, Tryz.ntmps85
  go_wp2_with fail
  refine (C1.out _ (below_new w _)).mono ?_
  rintro e w' ⟨rfl, rfl⟩
  have hg : g < w.heap.size := cell_lt hcell
  have hc1 : ∀ o, (w.alloc o).cell? ⟨g, p, none⟩ = some (.int .u64 hd) := fun o => by rw [World.cell?_alloc_lt _ _ _ hg]; exact hcell
  go_wp2_with (go_at_call 86; refine (WH.out _).mono ?_; rintro e w' ⟨rfl, rfl⟩)
  refine (LN.out _).mono ?_
  rintro e w' ⟨rfl, rfl⟩
  go_wp2_with fail
  refine (C2.out _ (below_new w _)).mono ?_
  rintro e w' ⟨rfl, rfl⟩
  go_wp2_with fail
  refine (BR.out _ (below_new w _)).mono ?_
  rintro e w1 ⟨rfl, hb1⟩
  have HB := hidb (below_in hb1)
  have HO := hidb ((Oct.new w 129 (.slice none 0 0) (.int .i64 0) (.int .i64 0) (.float .f64 0) (.string ⟨#[]⟩) (.slice none 0 0) (.slice none 0 0) (.int .u64 0)).keep hb1)
  clear hb1 BR C1 C2 LN WH hc1
  have hBx := Box.new w1 44 (.int .i64 k) (.int .i64 N) (.float .f64 f) (.string ⟨#[]⟩) (.slice none 0 0)
  have HBX := hidb hBx
  obtain ⟨d0', d1', d2', d3', d4', _, _, _, _, _, _⟩ := hBx
  have HO1 := hidb (HO.out.keep (below_new w1 (.cells #[.int .i64 k, .int .i64 N, .float .f64 f, .string ⟨#[]⟩, .slice none 0 0] 44)))
  have hszb : w.heap.size < w1.heap.size := by have := HO.out.lt; omega
  have hneb : ¬ w.heap.size = w1.heap.size := by omega
  have hneb2 : ¬ w1.heap.size = w.heap.size := by omega
  have q1 : ((fn : Nat) : Int) ≤ (n : Int) := by omega
  have q2 : (0 : Int) ≤ ((fn : Nat) : Int) := by omega
  have q3 : ((fn : Nat) : Int).toNat = fn := by omega
  go_wp2_with fail
  by_cases hnf : n = fn
  · skip
    go_region_held3 (fun w' => w'.cell? ⟨w1.heap.size, 0, none⟩ = some (.int .i64 k) ∧ w'.cell? ⟨w1.heap.size, 1, none⟩ = some (.int .i64 N) ∧ w'.cell? ⟨w1.heap.size, 2, none⟩ = some (.float .f64 f) ∧ w'.cell? ⟨w1.heap.size, 3, none⟩ = some (.string ⟨#[]⟩) ∧ w'.cell? ⟨w1.heap.size, 4, none⟩ = some (.slice none 0 0))
      (first | with_reducible exact ⟨z0, z1, z2, z3, z4⟩ | go_keep)
      (first | (go_at_call 87; refine (FRO.out _).mono ?_; rintro e w' ⟨rfl, rfl⟩) | (go_at_call 58; refine (hof_any 4 0 (by omega) _).mono ?_; rintro e w' ⟨rfl, rfl⟩) | (go_at_call 27; refine (CK.out _).mono ?_; rintro e wz ⟨rfl, hbz⟩; have HBZ := hidb (undrew hbz); obtain ⟨z0, z1, z2, z3, z4, _, _, _, _, _, _⟩ := HBX.out.keep (undrew hbz); obtain ⟨o0, o1, o2, o3, o4, o5, o6, o7, s0, s1, s2, s3, s4, s5, s6, s7, _⟩ := HO1.out.keep (undrew hbz)))
    go_wp2
    have hBz := (HB.out.alloc HB.out.size (.cells #[.int .i64 k, .int .i64 N, .float .f64 f, .string ⟨#[]⟩, .slice none 0 0] 44)).trans (HBZ.out.mono (by have := HB.out.size; simp; omega))
    exact bodyPost_ret (v := .tuple #[.agg #[.slice (some ⟨g, p, none⟩) fn fn, .int .i64 k, .int .i64 N, .float .f64 f, .string ⟨#[]⟩, .slice none 0 0, .slice (some ⟨g, p, none⟩) (fn - fn) (fn - fn), .int .u64 (ofW 4 0)], .bool (E == 0)]) (by simp [results, Tryz.results85, go_sem, o0, o1, o2, o3, o4, o5, o6, o7]) rfl
      ⟨by simp, (((((((hBz.setCell (Nat.le_refl _) _).setCell (Nat.le_refl _) _).setCell (Nat.le_refl _) _).setCell (Nat.le_refl _) _).setCell (Nat.le_refl _) _).setCell (Nat.le_refl _) _).setCell (Nat.le_refl _) _).setCell (Nat.le_refl _) _⟩
  · skip
    go_region_held3 (fun w' => w'.cell? ⟨w1.heap.size, 0, none⟩ = some (.int .i64 k) ∧ w'.cell? ⟨w1.heap.size, 1, none⟩ = some (.int .i64 N) ∧ w'.cell? ⟨w1.heap.size, 2, none⟩ = some (.float .f64 f) ∧ w'.cell? ⟨w1.heap.size, 3, none⟩ = some (.string ⟨#[]⟩) ∧ w'.cell? ⟨w1.heap.size, 4, none⟩ = some (.slice none 0 0))
      (first | with_reducible exact ⟨z0, z1, z2, z3, z4⟩ | go_keep)
      (first | (go_at_call 87; refine (FRO.out _).mono ?_; rintro e w' ⟨rfl, rfl⟩) | (go_at_call 58; refine (hof_any 4 0 (by omega) _).mono ?_; rintro e w' ⟨rfl, rfl⟩) | (go_at_call 27; refine (CK.out _).mono ?_; rintro e wz ⟨rfl, hbz⟩; have HBZ := hidb (undrew hbz); obtain ⟨z0, z1, z2, z3, z4, _, _, _, _, _, _⟩ := HBX.out.keep (undrew hbz); obtain ⟨o0, o1, o2, o3, o4, o5, o6, o7, s0, s1, s2, s3, s4, s5, s6, s7, _⟩ := HO1.out.keep (undrew hbz)))
    go_wp2
    have hBz := (HB.out.alloc HB.out.size (.cells #[.int .i64 k, .int .i64 N, .float .f64 f, .string ⟨#[]⟩, .slice none 0 0] 44)).trans (HBZ.out.mono (by have := HB.out.size; simp; omega))
    exact bodyPost_ret (v := .tuple #[.agg #[.slice (some ⟨g, p, none⟩) n n, .int .i64 k, .int .i64 N, .float .f64 f, .string ⟨#[]⟩, .slice none 0 0, .slice (some ⟨g, p + fn, none⟩) (n - fn) (n - fn), .int .u64 (ofW 4 0)], .bool (E == 0)]) (by simp [results, Tryz.results85, go_sem, o0, o1, o2, o3, o4, o5, o6, o7]) rfl
      ⟨by simp, (((((((hBz.setCell (Nat.le_refl _) _).setCell (Nat.le_refl _) _).setCell (Nat.le_refl _) _).setCell (Nat.le_refl _) _).setCell (Nat.le_refl _) _).setCell (Nat.le_refl _) _).setCell (Nat.le_refl _) _).setCell (Nat.le_refl _) _⟩

set_option maxHeartbeats 1000000 in
theorem bare_nn (k : Int) (hk : k = 4 ∨ k = 5) (g p n : Nat) (x N : Int) (w : World) (hn : 1 < n) (x0 : 0 ≤ x) (x1 : x ≤ 18446744073709551615) (hN : N = if x < 9223372036854775808 then x else x - 18446744073709551616) (hx : w.cell? ⟨g, p + 1, none⟩ = some (.int .u64 x)) : Calls Tryz.prog 99 #[.int .i64 k, .slice (some ⟨g, p, none⟩) n n] w fun e w' => e = .returned (.agg #[.int .i64 (k), .int .i64 (N), .float .f64 (0), .string ⟨#[]⟩, .slice none 0 0]) ∧ Below w.heap.size w w' := by
  have q : (1 : Int) < (n : Int) := by omega
  have hg : g < w.heap.size := cell_lt hx
  have hx2 : ∀ o1 o2, ((w.alloc o1).alloc o2).cell? ⟨g, p + 1, none⟩ = some (.int .u64 x) := fun o1 o2 => by
    rw [World.cell?_alloc_lt _ _ _ (by simp; omega), World.cell?_alloc_lt _ _ _ hg]
    exact hx
  have hwr : IntKind.i64.wrap x = N := by rw [IntKind.wrap_i64, hN]; split <;> omega
  clear hN x0 x1
  rcases hk with rfl | rfl
  all_goals
    go_enter Tryz.func99, Tryz.ntmps99
    go_wp2
  · exact bodyPost_ret (v := .agg #[.int .i64 4, .int .i64 N, .float .f64 0, .string ⟨#[]⟩, .slice none 0 0]) (by simp [results, Tryz.results99, go_sem]) rfl ⟨rfl, ((below_new w _).alloc (by simp) _)⟩
  · exact bodyPost_ret (v := .agg #[.int .i64 5, .int .i64 N, .float .f64 0, .string ⟨#[]⟩, .slice none 0 0]) (by simp [results, Tryz.results99, go_sem]) rfl ⟨rfl, ((below_new w _).alloc (by simp) _)⟩
end Go.Proofs.YtmijabhnbmmmfaaGreat


