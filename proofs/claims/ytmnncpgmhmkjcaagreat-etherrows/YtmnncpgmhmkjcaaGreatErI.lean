/- A queue of whole numbers: NewRow, Len, All, Push, Pop. -/
import Derived.Test.YtmnncpgmhmkjcaaGreatEr0
namespace Go.Proofs.YtmnncpgmhmkjcaaGreat
open Go.RowKit Go.Lib
attribute [local go_sem] store_float f64bits
attribute [local go_sem ↓] Go.wp_at_zero Go.wp_at_succ

theorem infoI : ∃ i0, Tryz.prog.info? IT = some i0 ∧ i0.zero = some (.int .i64 0) ∧ i0.size = 1 ∧ i0.bytes = 8 := by
  obtain ⟨i0, hi, hz0, hz1, hz2⟩ := info_parts (P := Tryz.prog) (e := IT) (z := (.int .i64 0)) (size := 1) (bytes := 8) (by kernel_rfl)
  exact ⟨i0, hi, hz0, hz1, hz2⟩

theorem newI (w : World) : Calls Tryz.prog 32 #[] w fun e w' => e = .returned (.pointer (some ⟨w.heap.size, 0, none⟩)) ∧ w' = w.alloc (.cells #[.slice none 0 0, .int .i64 0] 97) := by
  go_enter Tryz.func32, Tryz.ntmps32
  go_wp2
  go_ret
  exact ⟨rfl, rfl⟩

theorem lenI_of {w : World} {B rb gone n : Nat} {V : Value} {items : List Value} (h : RW IT 1 w B rb V gone items n) (hN : n ≤ 1000000) : Calls Tryz.prog 35 #[.pointer (some ⟨rb, 0, none⟩)] w fun e w' => e = .returned (.int .i64 (n - gone : Nat)) ∧ Below w.heap.size w w' := by
  obtain ⟨c0, c1, -, -, -⟩ := h.duo
  have own := h.own.2
  have hgl := h.le
  obtain ⟨k, hn⟩ : ∃ k, n = gone + k := ⟨n - gone, by omega⟩
  obtain rfl : n - gone = k := by omega
  have hw : IntKind.i64.wrap ((n : Int) - (gone : Int)) = ((n - gone : Nat) : Int) := by rw [IntKind.wrap_i64]; omega
  generalize n - gone = k at hw hn ⊢
  clear h hN
  rcases own with ⟨rfl, hn0⟩ | ⟨g, cap, cur, rfl, -⟩
  · obtain rfl : k = 0 := by omega
    obtain rfl : gone = 0 := by omega
    clear hw hn hn0 hgl
    go_enter Tryz.func35, Tryz.ntmps35
    go_wp2_with fail
    go_quiet (fail)
    go_wp2_with fail
    go_ret
    exact ⟨rfl, below_drewN (Below.refl _ _) _⟩
  · clear hn hgl
    go_enter Tryz.func35, Tryz.ntmps35
    go_wp2_with fail
    go_quiet (fail)
    go_wp2_with fail
    go_ret
    exact ⟨by simp, below_drewN (Below.refl _ _) _⟩

theorem lenI_any {w : World} {B rb k N : Nat} {V : Value} {xs : List Value} (h : Rw IT 1 w B rb V xs k N) (hN : N ≤ 1000000) : Calls Tryz.prog 35 #[.pointer (some ⟨rb, 0, none⟩)] w fun e w' => e = .returned (.int .i64 (k : Int)) ∧ Below w.heap.size w w' := by
  obtain ⟨gone, items, n, h, hx, hn, hle⟩ := h
  have := lenI_of h (by omega)
  rw [show n - gone = k by omega] at this
  exact this

set_option maxHeartbeats 1000000 in
theorem allI_of {w : World} {B rb gone n : Nat} {V : Value} {items : List Value} (h : RW IT 1 w B rb V gone items n) (hN : n ≤ 1000000) :
    Calls Tryz.prog 36 #[.pointer (some ⟨rb, 0, none⟩)] w fun e w' => ∃ v, e = .returned v ∧ w'.ownsRow w.heap.size IT 1 v (n - gone) (items.drop (gone * 1)) ∧ Below w.heap.size w w' := by
  obtain ⟨c0, c1, -, -, -⟩ := h.duo
  have hown := h.own
  have h1 := h.one
  have hgl := h.le
  obtain ⟨k, hn⟩ : ∃ k, n = gone + k := ⟨n - gone, by omega⟩
  obtain ⟨i0, hi, hz0, hz1, hz2⟩ := infoI
  clear h
  rcases hown.2 with ⟨rfl, hn0⟩ | ⟨g, cap, cur, rfl, hB, hb, hcap, hcm, hcs, htk⟩
  · obtain rfl : k = 0 := by omega
    obtain rfl : gone = 0 := by omega
    obtain rfl : n = 0 := by omega
    have hl := hown.1
    obtain rfl : items = [] := List.eq_nil_of_length_eq_zero (by omega)
    clear hown hn hn0 hgl hl h1
    go_enter Tryz.func36, Tryz.ntmps36
    go_wp2_with fail
    go_region_law (first
      | (refine step_app0 rfl _ _ 50 rfl w.heap.size IT i0 1 Tryz.underlying50 hi _ _ _ rfl (World.ownsRow_nil _ _ _ _) rfl ?_))
    all_goals go_wp2_with fail
    all_goals go_ret
    all_goals exact ⟨_, rfl, World.ownsRow_nil _ _ _ _, (Below.refl _ _).drew⟩
  · subst hn
    have hlen : (items.drop (gone * 1)).length = k * 1 := by rw [List.length_drop, hown.1, Nat.add_mul]; omega
    obtain ⟨ad, had⟩ : ∃ ad : Addr, (if cap = gone then some (⟨g, 0, none⟩ : Addr) else some ⟨g, gone, none⟩) = some ad := by
      by_cases hc : cap = gone
      · exact ⟨_, if_pos hc⟩
      · exact ⟨_, if_neg hc⟩
    have hnews : ∀ (w' : World), w'.heap = w.heap → ∀ j u, (items.drop (gone * 1))[j]? = some u → w'.cell? (ad.add j) = some u := by
      intro w' hw' j u hj
      by_cases hc : cap = gone
      · obtain rfl : k = 0 := by omega
        rw [List.eq_nil_of_length_eq_zero (by omega : (items.drop (gone * 1)).length = 0)] at hj
        simp at hj
      · rw [if_neg hc] at had
        obtain rfl : (⟨g, gone, none⟩ : Addr) = ad := by simpa using had
        rw [List.getElem?_drop] at hj
        have hcell := hown.cells (g := g) rfl _ _ hj
        rw [World.cell?_of_block (w := w) (w' := w') (by rw [hw'])]
        have e1 : (⟨g, gone, none⟩ : Addr).add j = ⟨g, gone * 1 + j, none⟩ := by unfold Addr.add; split <;> simp_all
        have e2 : (⟨g, 0, none⟩ : Addr).add (gone * 1 + j) = ⟨g, gone * 1 + j, none⟩ := by unfold Addr.add; split <;> simp_all
        rw [e1, ← e2]
        exact hcell
    have h1' : ∀ u ∈ items.drop (gone * 1), u.oneCell' = true := fun u hu => h1 u (List.mem_of_mem_drop hu)
    have hgi : (gone : Int) ≤ (gone : Int) + (k : Int) := by omega
    have z1 : 0 + k ≤ maxLen := by unfold maxLen; omega
    have z2 : (0 + k) * 8 ≤ 140737488355328 := by omega
    have hsub : gone + k - gone = k := by omega
    rw [hsub]
    generalize items.drop (gone * 1) = X at *
    clear hB hb hcm hcs htk h1 hown hsub hgl hN hcap
    go_enter Tryz.func36, Tryz.ntmps36
    go_wp2_with fail
    go_region_law (first
      | (refine step_app rfl _ _ 50 rfl w.heap.size IT i0 (.int .i64 0) 1 8 Tryz.underlying50 hi hz0 hz1 hz2 rfl (by decide) (.slice none 0 0) _ _ rfl (World.ownsRow_nil _ _ _ _) ad k (cap - gone) X rfl hlen (hnews _ rfl) h1' z1 z2 (Nat.le_refl _) ?_; intro v' w3 hown' hgrow hat; have HG := hidb hgrow; have HO := hidb hown'; clear hown' hgrow hat))
    all_goals go_wp2_with fail
    all_goals go_ret
    all_goals (
      have ho := HO.out
      rw [Nat.zero_add, List.nil_append] at ho
      exact ⟨_, rfl, ho, grown_up (Below.drew (Below.refl _ _)) HG.out (fun k hk => by simp [Value.ownBlock] at hk)⟩)

theorem allI_any {w : World} {B rb k N : Nat} {V : Value} {xs : List Value} (h : Rw IT 1 w B rb V xs k N) (hN : N ≤ 1000000) : Calls Tryz.prog 36 #[.pointer (some ⟨rb, 0, none⟩)] w fun e w' => ∃ v, e = .returned v ∧ w'.ownsRow w.heap.size IT 1 v k xs ∧ Below w.heap.size w w' := by
  obtain ⟨gone, items, n, h, hx, hn, hle⟩ := h
  have := allI_of h (by omega)
  rw [show n - gone = k by omega, hx] at this
  exact this

set_option maxHeartbeats 1000000 in
theorem pushI_of {w : World} {B rb gone n : Nat} {V : Value} {items : List Value} (x : Int) (h : RW IT 1 w B rb V gone items n) (hB : B ≤ w.heap.size) (hN : n ≤ 1000000) :
    Calls Tryz.prog 34 #[.pointer (some ⟨rb, 0, none⟩), .int .i64 x] w fun e w' => e = .returned (.tuple #[]) ∧ ∃ V', RW IT 1 w' B rb V' gone (items ++ [.int .i64 x]) (n + 1) ∧ But (fun k => k = rb ∨ V.ownBlock = some k) w w' ∧ Stays w V V' := by
  obtain ⟨c0, c1, f0, f1, hlt⟩ := h.duo
  obtain ⟨q, cap, rfl⟩ := own_sl h.own
  obtain ⟨i0, hi, hz0, hz1, hz2⟩ := infoI
  have HH := hidb h
  have hone : ∀ u ∈ ([.int .i64 x] : List Value), u.oneCell' = true := by intro u hu; simp at hu; subst hu; rfl
  clear h
  go_enter Tryz.func34, Tryz.ntmps34
  go_wp2_with (at_builtin; refine wpList_append_own_at _ rfl _ _ 50 rfl B IT i0 (.int .i64 0) 1 8 Tryz.underlying50 hi hz0 hz1 hz2 rfl (by decide) (.slice q n cap) n items rfl ?e1 ⟨w.heap.size, 0, none⟩ 1 1 [.int .i64 x] rfl rfl ?e2 hone ?e3 ?e4 ?e5 ?_)
  case e1 => exact HH.out.own.alloc _
  case e2 => exact cell_one_new _ _ _
  case e3 => unfold maxLen; omega
  case e4 => omega
  case e5 => simp; omega
  intro v' w1 hown' hgrow hnil hat
  obtain ⟨a', c', rfl⟩ := own_sl hown'
  obtain ⟨k1, k2, k3⟩ := push_done HH.out (below_new w _) hgrow hown' hat (by simp) hone
  have hd := (HH.out.duo.but (But.of_below (below_new w _))  (S := fun k => (Value.slice q n cap).ownBlock = some k) HH.out.ne).but (grown_but hgrow) HH.out.ne
  have d0 := hd.c0
  have e0 := hd.f0
  have K1 := hidb k1
  have K2 := hidb k2
  have K3 := hidb k3
  clear hd k1 k2 k3 hown' hgrow hnil hat HH c0 c1 f0 f1
  go_wp2_with fail
  exact bodyPost_end (by simp [results, Tryz.results34]) rfl ⟨rfl, _, K1.out, K2.out, K3.out⟩

theorem pushI_any {w : World} {B rb k N : Nat} {V : Value} {xs : List Value} (x : Int) (h : Rw IT 1 w B rb V xs k N) (hB : B ≤ w.heap.size) (hN : N ≤ 1000000) :
    Calls Tryz.prog 34 #[.pointer (some ⟨rb, 0, none⟩), .int .i64 x] w fun e w' => e = .returned (.tuple #[]) ∧ ∃ V', Rw IT 1 w' B rb V' (xs ++ [.int .i64 x]) (k + 1) (N + 1) ∧ But (fun k => k = rb ∨ V.ownBlock = some k) w w' ∧ Stays w V V' := by
  obtain ⟨gone, items, n, h, hx, hn, hle⟩ := h
  refine (pushI_of x h hB (by omega)).mono ?_
  rintro e w' ⟨rfl, V', h', hb, hs⟩
  refine ⟨rfl, V', ⟨gone, _, _, h', ?_, by omega, by omega⟩, hb, hs⟩
  rw [List.drop_append_of_le_length (by rw [h.own.1]; exact Nat.mul_le_mul_right _ h.le), hx]
end Go.Proofs.YtmnncpgmhmkjcaaGreat
