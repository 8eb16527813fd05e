/- The chapter's first example. -/
import Derived.Test.YtapjnnbcphpokaaGreatEe3
import Derived.Test.YtapjnnbcphpokaaGreatEf2
namespace Go.Proofs.YtapjnnbcphpokaaGreat
open Go.RowKit Go.Lib Go.Maps
attribute [local go_sem] store_float f64bits
attribute [local go_sem ↓] Go.wp_at_zero Go.wp_at_succ

theorem newE (w : World) : Calls Tryz.prog 6 #[] w fun e w' => e = .returned (.pointer (some ⟨w.heap.size, 0, none⟩)) ∧ w' = w.alloc (.cells #[.map none, .int .i64 0] 55) := by
  go_enter Tryz.func6, Tryz.ntmps6
  go_wp2
  go_ret
  exact ⟨rfl, rfl⟩

theorem eo_new (w0 w : World) (hB : Below w0.heap.size w0 w) : EO w0 (w.alloc (.cells #[.map none, .int .i64 0] 55)) w.heap.size (.map none) (fun _ _ => none) 0 0 :=
  ⟨Duo.new _ _ _ _, .inl ⟨rfl, fun _ _ => rfl⟩, hB.size, fun a b l h => (by cases h), fun a b l a' b' l' h => (by cases h), hB.alloc hB.size _⟩

theorem kn_3 (l1 l2 l3 : Lane) : updL (updL (updL (fun _ _ => none) 1 2 (some l1)) 3 2 (some l2)) 1 2 (some l3) 3 2 = some l2 := by simp [updL]
theorem kn_only (l1 l2 l3 : Lane) (a b : Int) (h : (updL (updL (updL (fun _ _ => none) 1 2 (some l1)) 3 2 (some l2)) 1 2 (some l3) a b).isSome = true) : (a = 1 ∨ a = 3) ∧ b = 2 := by
  unfold updL at h
  by_cases c1 : a = 1 ∧ b = 2
  · omega
  · by_cases c2 : a = 3 ∧ b = 2
    · omega
    · simp [c1, c2] at h
theorem kn_x {l1 l2 l3 : Lane} (h1 : l1.xs = oldx (fun _ _ => none) 1 2 ++ sgl 1 2 2 0) (h3 : l3.xs = oldx (updL (updL (fun _ _ => none) 1 2 (some l1)) 3 2 (some l2)) 1 2 ++ sgl 1 2 3 5) : l3.xs = sgl 1 2 2 0 ++ sgl 1 2 3 5 := by
  have e : oldx (updL (updL (fun _ _ => none) 1 2 (some l1)) 3 2 (some l2)) 1 2 = l1.xs := by simp [oldx, updL]
  rw [h3, e, h1]
  simp [oldx]
theorem kn_k {l1 l2 l3 : Lane} (h1 : l1.k = oldk (fun _ _ => none) 1 2 + 1) (h3 : l3.k = oldk (updL (updL (fun _ _ => none) 1 2 (some l1)) 3 2 (some l2)) 1 2 + 1) : l3.k = 0 + 1 + 1 := by
  have e : oldk (updL (updL (fun _ _ => none) 1 2 (some l1)) 3 2 (some l2)) 1 2 = l1.k := by simp [oldk, updL]
  rw [h3, e, h1]
  simp [oldk]

theorem kn_far {w0 w : World} {eb all N g q : Nat} {mv : Value} {f : Int → Int → Option Lane} {i j : Int} {l : Lane} (h : EO w0 w eb mv f all N) (hl : f i j = some l) (hg : w.heap.size ≤ g) (hq : q = eb ∨ foot l q) (e : q = g) : False := by
  rcases hq with e2 | e2
  · have := h.duo.lt; omega
  · have := (h.foot_lt hl e2).1; omega

set_option maxHeartbeats 4000000 in
set_option maxRecDepth 100000 in
theorem known11_of (PO : PopOk) (w : World) : Calls Tryz.prog 5 #[] w fun e w' => e = .returned (.bool true) ∧ Below w.heap.size w w' := by
  have C2 := hidb (fun x0 x1 w' h0 h1 h2 h3 => check2 x0 x1 w' h0 h1 h2 h3)
  have HE0 := hidb (eo_new w w (Below.refl _ _))
  go_enter Tryz.func5, Tryz.ntmps5
  go_wp2_with (first
    | (go_at_call 6; refine (newE _).mono ?_; rintro e w1 ⟨rfl, rfl⟩)
    | (go_at_call 7; refine (put_ok wf1 wf2 HE0.out (by omega) (by omega) (fun w' => C2.out 1 2 w' (by omega) (by omega) (by omega) (by omega))).mono ?_; rintro e w2 ⟨rfl, mv1, l1, h1, hx1, hk1, -⟩; have HE1 := hidb h1; have HX1 := hidb hx1; have HK1 := hidb hk1; clear h1 hx1 hk1 HE0)
    | (go_at_call 7; refine (put_ok wf3 wf2 HE1.out (by omega) (by omega) (fun w' => C2.out 3 2 w' (by omega) (by omega) (by omega) (by omega))).mono ?_; rintro e w3 ⟨rfl, mv2, l2, h2, hx2, hk2, -⟩; have HE2 := hidb h2; have HX2 := hidb hx2; have HK2 := hidb hk2; clear h2 hx2 hk2 HE1)
    | (go_at_call 7; refine (put_ok wf1 wf2 HE2.out (by omega) (by omega) (fun w' => check3 1 2 5 w' (by omega) (by omega) (by omega) (by omega) (by omega) (by omega))).mono ?_; rintro e w4 ⟨rfl, mv3, l3, h3, hx3, hk3, -⟩; have HE3 := hidb h3; have HX3 := hidb hx3; have HK3 := hidb hk3; clear h3 hx3 hk3 HE2)
    | (go_at_call 7; refine (put_refused HE3.out 1 rfl (fun w' => check2bad 1 2 w' (by omega) (by omega) (by omega) (by omega))).mono ?_; rintro e w5 ⟨rfl, h4⟩; have HE4 := hidb h4; have HXX := hidb (kn_x HX1.out HX3.out); have HKK := hidb (kn_k HK1.out HK3.out); clear h4 HE3)
    | (go_at_call 17; refine (ready2 HE4.out (updL_same _ _ _ _) (kn_3 l1 l2 l3) (kn_only l1 l2 l3)).mono ?_; rintro e w6 ⟨g, cap, rfl, hrow, hb6⟩; have HE5 := hidb (HE4.out.keep hb6); have HROW := hidb hrow; have HGE : Hid (∀ q, q = w.heap.size ∨ foot l3 q → q ≠ g) := hidb (fun q hq e => kn_far HE4.out (updL_same _ _ _ _) (row_lt hrow g rfl).2 hq e); clear hrow hb6)
    | (go_at_call 8; refine (take_more PO wf1 wf2 HE5.out (updL_same _ _ _ _) HXX.out HKK.out (by omega) (by omega) (by omega)).mono ?_; rintro e w7 ⟨rfl, ⟨V7, h7, -⟩, hb7⟩; have HE7 := hidb h7; have HR7 := hidb (row_but HROW.out hb7 (fun q hq hS => HGE.out q hS (by simpa [Value.ownBlock] using hq.symm))); have q0 : w7.cell? ⟨g, 0, none⟩ = some (.int .i64 1) := HR7.out.cellAt 0 (by omega); have q1 : w7.cell? ⟨g, 1, none⟩ = some (.int .i64 3) := HR7.out.cellAt 1 (by omega); have hgl := (row_lt HR7.out g rfl).1; have HE8 := hidb (HE7.out.keep (below_new w7 (.cells #[.int .i64 1, .int .i64 2, .int .i64 2, .int .i64 0, .int .i64 0, .bool false, .string ⟨#[]⟩, .int .i64 0, .int .i64 0, .float .f64 0, .string ⟨#[]⟩, .slice none 0 0] ST))); clear h7 hb7)
    | (go_at_call 11; refine (all_any HE8.out).mono ?_; rintro e w8 ⟨rfl, rfl⟩))
  go_ret
  exact ⟨rfl, HE8.out.bel⟩
end Go.Proofs.YtapjnnbcphpokaaGreat
