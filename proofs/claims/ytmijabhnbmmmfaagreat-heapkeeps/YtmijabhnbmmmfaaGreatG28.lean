import Derived.Test.YtmijabhnbmmmfaaGreatG27
/- The gauge over what says a term. -/
namespace Go.Proofs.YtmijabhnbmmmfaaGreat
open Go.RowKit Go.Deep
attribute [local go_sem] store_float f64bits f64frombits
attribute [local go_sem ↓] Go.wp_at_zero Go.wp_at_succ

set_option maxHeartbeats 1000000 in
theorem bare_n (k : Int) (hk : k = 4 ∨ k = 5) (g p n : Nat) (x : Int) (w : World) (hn : 1 < n) (x0 : 0 ≤ x) (x1 : x ≤ 1099511627776) (hx : w.cell? ⟨g, p + 1, none⟩ = some (.int .u64 x)) : Calls Tryz.prog 99 #[.int .i64 k, .slice (some ⟨g, p, none⟩) n n] w fun e w' => e = .returned (.agg #[.int .i64 (k), .int .i64 (x), .float .f64 (0), .string ⟨#[]⟩, .slice none 0 0]) ∧ Below w.heap.size w w' := by
  have q : (1 : Int) < (n : Int) := by omega
  have hg : g < w.heap.size := cell_lt hx
  have hx2 : ∀ o1 o2, ((w.alloc o1).alloc o2).cell? ⟨g, p + 1, none⟩ = some (.int .u64 x) := fun o1 o2 => by
    rw [World.cell?_alloc_lt _ _ _ (by simp; omega), World.cell?_alloc_lt _ _ _ hg]
    exact hx
  rcases hk with rfl | rfl
  all_goals
    go_enter Tryz.func99, Tryz.ntmps99
    go_wp2
  · exact bodyPost_ret (v := .agg #[.int .i64 4, .int .i64 x, .float .f64 0, .string ⟨#[]⟩, .slice none 0 0]) (by simp [results, Tryz.results99, go_sem]) rfl ⟨rfl, ((below_new w _).alloc (by simp) _)⟩
  · exact bodyPost_ret (v := .agg #[.int .i64 5, .int .i64 x, .float .f64 0, .string ⟨#[]⟩, .slice none 0 0]) (by simp [results, Tryz.results99, go_sem]) rfl ⟨rfl, ((below_new w _).alloc (by simp) _)⟩

mutual
/-- How deep a term is. -/
def deepN : Tr → Nat
  | .mk _ _ _ _ _ _ kids => deepNs kids 1
def deepNs : List Tr → Nat → Nat
  | [], m => m
  | t :: r, m => deepNs r (max m (deepN t + 1))
end

theorem deepNs_map (l : List Tr) : ∀ m, deepNs l m = deepest (l.map deepN) m := by
  induction l with
  | nil => intro m; rfl
  | cons t r ih => intro m; simp only [deepNs, List.map_cons, deepest, ih]

theorem deepNs_le (l : List Tr) : ∀ m, m ≤ deepNs l m ∧ ∀ t, t ∈ l → deepN t + 1 ≤ deepNs l m := by
  induction l with
  | nil => intro m; simp [deepNs]
  | cons u r ih =>
    intro m
    have g := ih (max m (deepN u + 1))
    simp only [deepNs]
    refine ⟨by omega, fun t ht => ?_⟩
    rcases List.mem_cons.1 ht with rfl | ht
    · omega
    · exact g.2 t ht

theorem deepN_pos (t : Tr) : 1 ≤ deepN t := by
  cases t with | mk k n f s a c kids => simp only [deepN]; exact (deepNs_le kids 1).1

/-- How deep a list is, pair by pair. -/
def deepL : List Tr → Nat
  | [] => 1
  | t :: r => max (deepL r) (deepN t + 1)

theorem deepNs_max (l : List Tr) : ∀ m, deepNs l m = max m (deepNs l 1) ∨ m = 0 := by
  induction l with
  | nil => intro m; simp only [deepNs]; omega
  | cons t r ih =>
    intro m
    simp only [deepNs]
    have p := deepN_pos t
    rcases ih (max m (deepN t + 1)) with h1 | h1
    · rcases ih (max 1 (deepN t + 1)) with h2 | h2
      · omega
      · omega
    · omega

theorem deepL_is (l : List Tr) : deepL l = deepNs l 1 := by
  induction l with
  | nil => rfl
  | cons t r ih =>
    simp only [deepL, deepNs, ih]
    have p := deepN_pos t
    rcases deepNs_max r (max 1 (deepN t + 1)) with h | h <;> omega

theorem sum_wAll (l : List Tr) : (l.map wN).sum = wAll l := by
  induction l with
  | nil => rfl
  | cons t r ih => simp only [List.map_cons, List.sum_cons, wAll, ih]

/-- The elements' words, one by one. -/
theorem repAll_words {ws : List Int} {L : List ByteArray} : ∀ (l : List Tr) (q : Nat), RepAll ws L l q → ∃ vs : List Int, vs.length = l.length ∧ ∀ (j : Nat) (t : Tr), l[j]? = some t → ∃ x, vs[j]? = some x ∧ ws[q + j]? = some x ∧ Rep ws L t x := by
  intro l
  induction l with
  | nil => intro q _; exact ⟨[], rfl, fun j t h => by simp at h⟩
  | cons t r ih =>
    intro q h
    unfold RepAll at h
    obtain ⟨⟨x, hx, hr⟩, h2⟩ := h
    obtain ⟨vs, hl, hv⟩ := ih (q + 1) h2
    refine ⟨x :: vs, by simp [hl], fun j u hj => ?_⟩
    rcases j with _ | j
    · obtain rfl : t = u := by simpa using hj
      exact ⟨x, rfl, hx, hr⟩
    · obtain ⟨y, y1, y2, y3⟩ := hv j u (by simpa using hj)
      refine ⟨y, by simpa using y1, ?_, y3⟩
      have e : q + (j + 1) = q + 1 + j := by omega
      rw [e]; exact y2

theorem hd_made {k s : Int} (hk : hdB k = true) (h0 : 0 ≤ s) (h1 : s ≤ 65536) : 0 ≤ hdW k s ∧ hdW k s ≤ 18446744073709551615 ∧ isB (hdW k s) = true ∧ hkI (hdW k s) = k ∧ hsI (hdW k s) = s := by
  have hs : szB s = true := by simp [szB]; omega
  have e : hdW k s = (s * 16 + k) * 16 + 7 := by simp [hdW, hk, hs]
  have hk' := hdB_cases hk
  have hb : isB (hdW k s) = true := by
    rw [e]
    unfold isB
    have e1 : ((s * 16 + k) * 16 + 7) % 16 = 7 := by omega
    have e2 : ((s * 16 + k) * 16 + 7) / 16 % 16 = k := by omega
    have e3 : ((s * 16 + k) * 16 + 7) / 256 = s := by omega
    rw [e1, e2, e3]
    simp [hk, hs]
  refine ⟨by rw [e]; omega, by rw [e]; omega, hb, ?_, ?_⟩
  · unfold hkI; rw [if_pos hb, e]; omega
  · unfold hsI; rw [if_pos hb, e]; omega
end Go.Proofs.YtmijabhnbmmmfaaGreat


/- Any term that words say is held for one, and measured. -/
namespace Go.Proofs.YtmijabhnbmmmfaaGreat
open Go.RowKit Go.Deep

/-- A heap, a gauge beside it. -/
structure Ctx (hb ab most gb : Nat) (ws : List Int) (L : List ByteArray) (F : List Nat) (a : Option Addr) (c g : Nat) : Prop where
  ha : a = some ⟨g, 0, none⟩
  h1 : gb ≠ hb
  h2 : gb ∉ F
  h3 : gb ≠ g
  hL : L.length ≤ 100000
  hs : ws.length ≤ 16777216

theorem nil_made : tagI (ofW 4 0) = 4 ∧ bodyI (ofW 4 0) = 0 ∧ 0 ≤ ofW 4 0 ∧ ofW 4 0 ≤ 18446744073709551615 ∧ wRightB (ofW 4 0) = true := of_made (by decide) (by decide) (by decide)

theorem over_nil {hb ab most gb : Nat} {ws : List Int} {L : List ByteArray} {F : List Nat} {a : Option Addr} {c : Nat} {d : Nat} (hd : d ≤ 200) : OverOk hb ab most gb ws L F a c (ofW 4 0) d 1 0 := by
  obtain ⟨h1, _, h3, h4, h5⟩ := nil_made
  exact over_alone h3 h4 h5 (by omega) (by unfold aloneB; rw [h1]; rfl) hd

theorem cons_made {p : Nat} (h : p ≤ 16777216) : tagI (ofW 6 p) = 6 ∧ bodyI (ofW 6 p) = p ∧ 0 ≤ ofW 6 p ∧ ofW 6 p ≤ 18446744073709551615 ∧ wRightB (ofW 6 p) = true := of_made (by decide) (by decide) (by simp [mayB]; omega)
theorem box_made {p : Nat} (h : p ≤ 16777216) : tagI (ofW 5 p) = 5 ∧ bodyI (ofW 5 p) = p ∧ 0 ≤ ofW 5 p ∧ ofW 5 p ≤ 18446744073709551615 ∧ wRightB (ofW 5 p) = true := of_made (by decide) (by decide) (by simp [mayB]; omega)

/-- A list, pair by pair. -/
theorem list_over {hb ab most gb : Nat} {ws : List Int} {L : List ByteArray} {F : List Nat} {a : Option Addr} {c g : Nat} (cx : Ctx hb ab most gb ws L F a c g) : ∀ (l : List Tr), (∀ t, t ∈ l → ∀ u d, Rep ws L t u → d + deepN t ≤ 201 → deepN t ≤ 1000 ∧ OverOk hb ab most gb ws L F a c u d (deepN t) (wN t)) →
    ∀ u d, RepL ws L l u → d + deepL l ≤ 201 → OverOk hb ab most gb ws L F a c u d (deepL l) (2 * l.length + wAll l) := by
  intro l
  induction l with
  | nil =>
    intro _ u d h hd
    unfold RepL at h
    subst h
    simp only [deepL] at hd
    exact over_nil (by omega)
  | cons t r ih =>
    intro hk u d h hd
    unfold RepL at h
    obtain ⟨p, rfl, hp, ⟨x, hx, hrx⟩, y, hy, hry⟩ := h
    simp only [deepL] at hd
    have hpos := deepN_pos t
    obtain ⟨m1, m2, m3, m4, m5⟩ := cons_made hp
    have hyt : (tagI y = 4 ∨ tagI y = 6) ∧ 0 ≤ y ∧ y ≤ 18446744073709551615 := by
      cases r with
      | nil => unfold RepL at hry; subst hry; have := nil_made; exact ⟨Or.inl this.1, this.2.2.1, this.2.2.2.1⟩
      | cons t2 r2 =>
        unfold RepL at hry
        obtain ⟨p2, rfl, hp2, _⟩ := hry
        have := cons_made hp2
        exact ⟨Or.inr this.1, this.2.2.1, this.2.2.2.1⟩
    have hR := ih (fun v hv => hk v (List.mem_cons_of_mem _ hv)) y d hry (by omega)
    obtain ⟨hd1, hT⟩ := hk t (List.mem_cons_self ..) x (d + 1) hrx (by omega)
    have hrl : 1 ≤ deepL r := by rw [deepL_is]; exact (deepNs_le r 1).1
    have hI := into_ok (hb := hb) (ab := ab) (most := most) (gb := gb) (ws := ws) (L := L) (F := F) (a := a) (c := c) (u := ofW 6 p) (y := y) (d := d) (n := 2) (cc := 2) (fl := 0) (dR := deepL r) (nR := 2 * r.length + wAll r) (g := g) (q := p) (A := ⟨g, p, none⟩) (k := 8) (Nn := 0) [(x, deepN t, wN t)] cx.ha (by rw [m2]; omega) m3 m4 cx.h1 cx.h2 cx.h3
      (fun w hp' => block_of hb (ofW 6 p) p ⟨g, p, none⟩ ⟨g, p, none⟩ 2 1 2 0 8 0 y m3 m4 m2 w (Or.inl ⟨m1, fun w' hb' => pair_ok (hp'.keep hb') g p cx.ha y hy hyt.2.1 hyt.2.2 hyt.1⟩))
      (by omega) hR (fun j z hj => by
        rcases j with _ | j
        · obtain rfl : (x, deepN t, wN t) = z := by simpa using hj
          exact ⟨hx, by simp only; omega, by simp only; omega, hT⟩
        · simp at hj) (by omega) (by omega) (by simp)
    have hO := over_into m3 m4 (by rw [m2]; omega) (Or.inr m1) (by omega) hI
    simp only [List.map_cons, List.map_nil, deepest, List.sum_cons, List.sum_nil, Nat.add_zero] at hO
    simp only [deepL, List.length_cons, wAll]
    have e : 2 * (r.length + 1) + (wN t + wAll r) = 2 + (2 * r.length + wAll r) + wN t := by omega
    rw [e]
    exact hO
end Go.Proofs.YtmijabhnbmmmfaaGreat


