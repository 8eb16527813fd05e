import Derived.Test.YtmijabhnbmmmfaaGreatG29
/- holds. -/
namespace Go.Proofs.YtmijabhnbmmmfaaGreat
open Go.RowKit Go.Deep
attribute [local go_sem] store_float f64bits f64frombits
attribute [local go_sem ↓] Go.wp_at_zero Go.wp_at_succ

theorem deepN_deep : ∀ t : Tr, (deepN t : Int) = deep t := by
  refine Tr.ind fun k n f s a c kids hk => ?_
  simp only [deepN, deep]
  have hall : ∀ (l : List Tr), (∀ t, t ∈ l → t ∈ kids) → ∀ (m : Nat) (M : Int), 1 ≤ m → (m : Int) = M + 1 → (deepNs l m : Int) = deepAll l M + 1 := by
    intro l
    induction l with
    | nil => intro _ m M _ h; simp only [deepNs, deepAll]; exact h
    | cons t r ih =>
      intro hl m M h1 h
      simp only [deepNs, deepAll]
      have e := hk t (hl t (List.mem_cons_self ..))
      refine ih (fun v hv => hl v (List.mem_cons_of_mem _ hv)) _ _ (by omega) ?_
      split <;> omega
  exact hall kids (fun t h => h) 1 0 (Nat.le_refl _) rfl

/-- A right term is at most so deep. -/
theorem right_deep {t : Tr} (h : errT t = 0) : deepN t ≤ 200 := by
  have e := deepN_deep t
  have h' := h
  unfold errT at h'
  rcases agree_start goodT t with ⟨q, _⟩ | ⟨_, _, q, _⟩
  · rw [if_pos q] at h'; omega
  · omega

set_option maxHeartbeats 1000000 in
theorem holds_ok {hb ab most gb : Nat} {ws : List Int} {L : List ByteArray} {F : List Nat} {a : Option Addr} {c : Nat} {u : Int} {D N W : Nat} (w : World) (hp : HP w hb ab most ws L F a c) (hg : Tri w gb (.pointer (some ⟨hb, 0, none⟩)) (.int .i64 W) (.slice none 0 0)) (hgh : gb ≠ hb) (hgF : gb ∉ F) (hgg : ∀ g, a = some ⟨g, 0, none⟩ → gb ≠ g) (h : OverOk hb ab most gb ws L F a c u 1 D N) (hD : 0 < D) (hN : N ≤ 65536) :
    Calls Tryz.prog 37 #[.pointer (some ⟨gb, 0, none⟩), .int .u64 u] w fun e w' => e = .returned (.bool true) ∧ But (· = gb) w w' := by
  have hg2 := hg.set1 (.int .i64 0)
  have hb2 : But (· = gb) w (w.setCell ⟨gb, 1, none⟩ (.int .i64 0)) := (But.refl (· = gb) w).setCell (p := ⟨gb, 1, none⟩) (fun _ => rfl) _
  have OV := hidb (h 0 _ (hp.but hb2 (fun e => hgh e.symm) (fun x hx e => hgF (e ▸ hx)) (fun g hg' e => hgg g hg' e.symm)) hg2 (by omega))
  have HB2 := hidb hb2
  obtain ⟨c0, c1, c2, f0, f1, f2, hlt⟩ := hg
  clear hp h hg2 hb2
  have hDD : (0 : Int) < (D : Int) := by omega
  go_enter Tryz.func37, Tryz.ntmps37
  go_wp2_with fail
  refine OV.out.mono ?_
  rintro e w1 ⟨rfl, _, hb1⟩
  have HB := hidb (HB2.out.trans hb1)
  clear hb1 OV
  go_wp2
  go_ret
  exact ⟨rfl, HB.out⟩
end Go.Proofs.YtmijabhnbmmmfaaGreat


/- Grow at terms. -/
namespace Go.Proofs.YtmijabhnbmmmfaaGreat
open Go.RowKit Go.Deep
attribute [local go_sem] store_float f64bits f64frombits
attribute [local go_sem ↓] Go.wp_at_zero Go.wp_at_succ

theorem infoT : (Tryz.prog.info? 44).map (fun i => (i.zero, i.size, i.bytes)) = some (some (.agg #[.int .i64 (0), .int .i64 (0), .float .f64 (0), .string ⟨#[]⟩, .slice none 0 0]), 5, 64) := by kernel_rfl

def zT : Array Value := #[.int .i64 0, .int .i64 0, .float .f64 0, .string ⟨#[]⟩, .slice none 0 0]

set_option maxHeartbeats 2000000 in
set_option maxRecDepth 100000 in
theorem tgrow_room (base : Option Addr) (l c n : Nat) (w : World) (hlc : l ≤ c) (hc63 : c ≤ 9223372036854775807) (hn : n ≤ 65536) (hroom : l + n ≤ c) :
    Calls Tryz.prog 54 #[.slice base l c, .int .i64 n] w fun e w' => e = .returned (.slice base l c) ∧ w' = w := by
  have h1 : ¬ ((n : Int) < 0) := by omega
  have h4 : ¬ ((n : Int) - ((c : Int) - (l : Int)) > 0) := by omega
  go_enter Tryz.func54, Tryz.ntmps54
  go_wp2
  go_ret
  exact ⟨rfl, rfl⟩

set_option maxHeartbeats 4000000 in
set_option maxRecDepth 100000 in
theorem tgrow_grow (base : Option Addr) (l c n : Nat) (cs : List Value) (w : World) (hlc : l ≤ c) (hn : n ≤ 65536) (hl : l ≤ 16777216) (hroom : c < l + n) (hcl : cs.length = c * 5) (hnil : base = none → c = 0) (hcs : ∀ a, base = some a → ∀ j v, cs[j]? = some v → w.cell? (a.add j) = some v) :
    Calls Tryz.prog 54 #[.slice base l c, .int .i64 n] w fun e w' => ∃ G, l + n ≤ G ∧ G ≤ maxLen ∧ e = .returned (.slice (some ⟨w.heap.size, 0, none⟩) l G) ∧
      w' = w.drew.alloc (.cells (cs.toArray ++ Builtin.zeroCells zT (l + n - c) ++ Builtin.zeroCells zT (G - (l + n))) 44) := by
  obtain ⟨i0, hi0, hz0, hs0, hb0⟩ : ∃ i0, Tryz.prog.info? 44 = some i0 ∧ i0.zero = some (.agg #[.int .i64 (0), .int .i64 (0), .float .f64 (0), .string ⟨#[]⟩, .slice none 0 0]) ∧ i0.size = 5 ∧ i0.bytes = 64 := by
    cases h : Tryz.prog.info? 44 with
    | none => have := infoT; rw [h] at this; simp at this
    | some i => have := infoT; rw [h] at this; simp at this; exact ⟨i, rfl, this⟩
  have hck : c + (l + n - c) = l + n := by omega
  have hold : (Builtin.firstCells i0.size c (.slice base c c)).run Tryz.prog w.drew = .ok cs.toArray w.drew := by
    cases base with
    | none =>
      have h0 := hnil rfl
      subst h0
      have hc0 : cs = [] := List.length_eq_zero_iff.1 (by simpa using hcl)
      rw [hc0]
      exact run_firstCells_none w.drew i0.size 0 0 0
    | some a => exact run_firstCells_some w.drew i0.size c a c c cs (by rw [hs0]; exact hcl) (fun j v hj => hcs a rfl j v hj)
  have hrz : ∀ ty, (Builtin.append_ #[42, 3] ty #[.slice base c c, .int .i64 ((n : Int) - ((c : Int) - (l : Int)))]).run Tryz.prog w =
      .ok (.slice (some ⟨w.heap.size, 0, none⟩) (l + n) (grownCap w (l + n) c 44)) (w.drew.alloc (.cells (cs.toArray ++ Builtin.zeroCells zT (l + n - c) ++ Builtin.zeroCells zT (grownCap w (l + n) c 44 - (l + n))) 44)) := fun ty => by
    have h := Lib.run_append_grow_zeros w 42 3 ty 44 i0 (.agg #[.int .i64 (0), .int .i64 (0), .float .f64 (0), .string ⟨#[]⟩, .slice none 0 0]) .i64 .i64 Tryz.underlying42 Tryz.underlying3 hi0 hz0 base c c cs hold (l + n - c) (by omega) (by omega) (by omega) (by omega)
      (by rw [hb0]; omega) (by rw [hck, hb0]; exact growslice_fits hroom (by omega))
    rw [hck] at h
    rw [show (n : Int) - ((c : Int) - (l : Int)) = ((l + n - c : Nat) : Int) by omega]
    exact h
  have hGn : l + n ≤ grownCap w (l + n) c 44 := grownCap_ge w _ _ _
  have hG63 : grownCap w (l + n) c 44 ≤ maxLen := grownCap_le_maxLen w (l + n) c 44 (by unfold maxLen; omega)
  generalize grownCap w (l + n) c 44 = G at hrz hGn hG63
  have h1 : ¬ ((n : Int) < 0) := by omega
  have h4 : (n : Int) - ((c : Int) - (l : Int)) > 0 := by omega
  have hG2 : G ≤ 9223372036854775807 := by unfold maxLen at hG63; omega
  have HG3 := hidb hG63
  generalize zT = zz at *
  clear hold hck hcs hcl hi0 hz0 hs0 hb0 hG63
  go_enter Tryz.func54, Tryz.ntmps54
  cases base with
  | none =>
    have h0 := hnil rfl
    subst h0
    obtain rfl : l = 0 := by omega
    go_wp2_with (at_builtin; refine Lib.wpList_append_run _ rfl _ _ _ _ rfl _ _ rfl rfl _ _ (hrz _) ?_)
    all_goals (go_ret; exact ⟨G, by omega, HG3.out, rfl, by simp⟩)
  | some a =>
    obtain ⟨ab, ao, asp⟩ := a
    go_wp2_with (at_builtin; refine Lib.wpList_append_run _ rfl _ _ _ _ rfl _ _ rfl rfl _ _ (hrz _) ?_)
    all_goals (go_ret; exact ⟨G, hGn, HG3.out, rfl, rfl⟩)
end Go.Proofs.YtmijabhnbmmmfaaGreat


