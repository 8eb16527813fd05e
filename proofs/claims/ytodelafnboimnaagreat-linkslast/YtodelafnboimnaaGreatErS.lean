/- A queue of signals: NewRow, Len, All, Push, Pop. -/
import Derived.Test.YtodelafnboimnaaGreatEr0
namespace Go.Proofs.YtodelafnboimnaaGreat
open Go.RowKit Go.Lib
attribute [local go_sem] store_float f64bits
attribute [local go_sem ↓] Go.wp_at_zero Go.wp_at_succ

theorem infoS : ∃ i0, Tryz.prog.info? ST = some i0 ∧ i0.zero = some (.agg #[.int .i64 0, .int .i64 0, .int .i64 0, .int .i64 0, .int .i64 0, .bool false, .string ⟨#[]⟩, .int .i64 0, .int .i64 0, .float .f64 0, .string ⟨#[]⟩, .slice none 0 0]) ∧ i0.size = 12 ∧ i0.bytes = 128 := by
  obtain ⟨i0, hi, hz0, hz1, hz2⟩ := info_parts (P := Tryz.prog) (e := ST) (z := (.agg #[.int .i64 0, .int .i64 0, .int .i64 0, .int .i64 0, .int .i64 0, .bool false, .string ⟨#[]⟩, .int .i64 0, .int .i64 0, .float .f64 0, .string ⟨#[]⟩, .slice none 0 0])) (size := 12) (bytes := 128) (by kernel_rfl)
  exact ⟨i0, hi, hz0, hz1, hz2⟩

theorem newS (w : World) : Calls Tryz.prog 52 #[] w fun e w' => e = .returned (.pointer (some ⟨w.heap.size, 0, none⟩)) ∧ w' = w.alloc (.cells #[.slice none 0 0, .int .i64 0] 107) := by
  go_enter Tryz.func52, Tryz.ntmps52
  go_wp2
  go_ret
  exact ⟨rfl, rfl⟩

theorem lenS_of {w : World} {B rb gone n : Nat} {V : Value} {items : List Value} (h : RW ST 12 w B rb V gone items n) (hN : n ≤ 1000000) : Calls Tryz.prog 36 #[.pointer (some ⟨rb, 0, none⟩)] w fun e w' => e = .returned (.int .i64 (n - gone : Nat)) ∧ Below w.heap.size w w' := by
  obtain ⟨c0, c1, -, -, -⟩ := h.duo
  have own := h.own.2
  have hgl := h.le
  obtain ⟨k, hn⟩ : ∃ k, n = gone + k := ⟨n - gone, by omega⟩
  obtain rfl : n - gone = k := by omega
  have hw : IntKind.i64.wrap ((n : Int) - (gone : Int)) = ((n - gone : Nat) : Int) := by rw [IntKind.wrap_i64]; omega
  generalize n - gone = k at hw hn ⊢
  clear h hN
  rcases own with ⟨rfl, hn0⟩ | ⟨g, cap, cur, rfl, -⟩
  · obtain rfl : k = 0 := by omega
    obtain rfl : gone = 0 := by omega
    clear hw hn hn0 hgl
    go_enter Tryz.func36, Tryz.ntmps36
    go_wp2_with fail
    go_quiet (fail)
    go_wp2_with fail
    go_ret
    exact ⟨rfl, below_drewN (Below.refl _ _) _⟩
  · clear hn hgl
    go_enter Tryz.func36, Tryz.ntmps36
    go_wp2_with fail
    go_quiet (fail)
    go_wp2_with fail
    go_ret
    exact ⟨by simp, below_drewN (Below.refl _ _) _⟩

theorem lenS_any {w : World} {B rb k N : Nat} {V : Value} {xs : List Value} (h : Rw ST 12 w B rb V xs k N) (hN : N ≤ 1000000) : Calls Tryz.prog 36 #[.pointer (some ⟨rb, 0, none⟩)] w fun e w' => e = .returned (.int .i64 (k : Int)) ∧ Below w.heap.size w w' := by
  obtain ⟨gone, items, n, h, hx, hn, hle⟩ := h
  have := lenS_of h (by omega)
  rw [show n - gone = k by omega] at this
  exact this

set_option maxHeartbeats 1000000 in
theorem allS_of {w : World} {B rb gone n : Nat} {V : Value} {items : List Value} (h : RW ST 12 w B rb V gone items n) (hN : n ≤ 1000000) :
    Calls Tryz.prog 45 #[.pointer (some ⟨rb, 0, none⟩)] w fun e w' => ∃ v, e = .returned v ∧ w'.ownsRow w.heap.size ST 12 v (n - gone) (items.drop (gone * 12)) ∧ Below w.heap.size w w' := by
  obtain ⟨c0, c1, -, -, -⟩ := h.duo
  have hown := h.own
  have h1 := h.one
  have hgl := h.le
  obtain ⟨k, hn⟩ : ∃ k, n = gone + k := ⟨n - gone, by omega⟩
  obtain ⟨i0, hi, hz0, hz1, hz2⟩ := infoS
  clear h
  rcases hown.2 with ⟨rfl, hn0⟩ | ⟨g, cap, cur, rfl, hB, hb, hcap, hcm, hcs, htk⟩
  · obtain rfl : k = 0 := by omega
    obtain rfl : gone = 0 := by omega
    obtain rfl : n = 0 := by omega
    have hl := hown.1
    obtain rfl : items = [] := List.eq_nil_of_length_eq_zero (by omega)
    clear hown hn hn0 hgl hl h1
    go_enter Tryz.func45, Tryz.ntmps45
    go_wp2_with fail
    go_region_law (first
      | (refine step_app0 rfl _ _ 44 rfl w.heap.size ST i0 12 Tryz.underlying44 hi _ _ _ rfl (World.ownsRow_nil _ _ _ _) rfl ?_))
    all_goals go_wp2_with fail
    all_goals go_ret
    all_goals exact ⟨_, rfl, World.ownsRow_nil _ _ _ _, (Below.refl _ _).drew⟩
  · subst hn
    have hlen : (items.drop (gone * 12)).length = k * 12 := by rw [List.length_drop, hown.1, Nat.add_mul]; omega
    obtain ⟨ad, had⟩ : ∃ ad : Addr, (if cap = gone then some (⟨g, 0, none⟩ : Addr) else some ⟨g, gone * 12, none⟩) = some ad := by
      by_cases hc : cap = gone
      · exact ⟨_, if_pos hc⟩
      · exact ⟨_, if_neg hc⟩
    have hnews : ∀ (w' : World), w'.heap = w.heap → ∀ j u, (items.drop (gone * 12))[j]? = some u → w'.cell? (ad.add j) = some u := by
      intro w' hw' j u hj
      by_cases hc : cap = gone
      · obtain rfl : k = 0 := by omega
        rw [List.eq_nil_of_length_eq_zero (by omega : (items.drop (gone * 12)).length = 0)] at hj
        simp at hj
      · rw [if_neg hc] at had
        obtain rfl : (⟨g, gone * 12, none⟩ : Addr) = ad := by simpa using had
        rw [List.getElem?_drop] at hj
        have hcell := hown.cells (g := g) rfl _ _ hj
        rw [World.cell?_of_block (w := w) (w' := w') (by rw [hw'])]
        have e1 : (⟨g, gone * 12, none⟩ : Addr).add j = ⟨g, gone * 12 + j, none⟩ := by unfold Addr.add; split <;> simp_all
        have e2 : (⟨g, 0, none⟩ : Addr).add (gone * 12 + j) = ⟨g, gone * 12 + j, none⟩ := by unfold Addr.add; split <;> simp_all
        rw [e1, ← e2]
        exact hcell
    have h1' : ∀ u ∈ items.drop (gone * 12), u.oneCell' = true := fun u hu => h1 u (List.mem_of_mem_drop hu)
    have hgi : (gone : Int) ≤ (gone : Int) + (k : Int) := by omega
    have z1 : 0 + k ≤ maxLen := by unfold maxLen; omega
    have z2 : (0 + k) * 128 ≤ 140737488355328 := by omega
    have hsub : gone + k - gone = k := by omega
    rw [hsub]
    generalize items.drop (gone * 12) = X at *
    clear hB hb hcm hcs htk h1 hown hsub hgl hN hcap
    go_enter Tryz.func45, Tryz.ntmps45
    go_wp2_with fail
    go_region_law (first
      | (refine step_app rfl _ _ 44 rfl w.heap.size ST i0 (.agg #[.int .i64 0, .int .i64 0, .int .i64 0, .int .i64 0, .int .i64 0, .bool false, .string ⟨#[]⟩, .int .i64 0, .int .i64 0, .float .f64 0, .string ⟨#[]⟩, .slice none 0 0]) 12 128 Tryz.underlying44 hi hz0 hz1 hz2 rfl (by decide) (.slice none 0 0) _ _ rfl (World.ownsRow_nil _ _ _ _) ad k (cap - gone) X rfl hlen (hnews _ rfl) h1' z1 z2 (Nat.le_refl _) ?_; intro v' w3 hown' hgrow hat; have HG := hidb hgrow; have HO := hidb hown'; clear hown' hgrow hat))
    all_goals go_wp2_with fail
    all_goals go_ret
    all_goals (
      have ho := HO.out
      rw [Nat.zero_add, List.nil_append] at ho
      exact ⟨_, rfl, ho, grown_up (Below.drew (Below.refl _ _)) HG.out (fun k hk => by simp [Value.ownBlock] at hk)⟩)

theorem allS_any {w : World} {B rb k N : Nat} {V : Value} {xs : List Value} (h : Rw ST 12 w B rb V xs k N) (hN : N ≤ 1000000) : Calls Tryz.prog 45 #[.pointer (some ⟨rb, 0, none⟩)] w fun e w' => ∃ v, e = .returned v ∧ w'.ownsRow w.heap.size ST 12 v k xs ∧ Below w.heap.size w w' := by
  obtain ⟨gone, items, n, h, hx, hn, hle⟩ := h
  have := allS_of h (by omega)
  rw [show n - gone = k by omega, hx] at this
  exact this

def sgObj (x0 x1 x2 x3 x4 : Int) (lk : Bool) (nm : ByteArray) (tk tn : Int) (tf : Nat) (ts : ByteArray) (ta : Option Addr) (tl tc : Nat) : Obj := .cells #[.int .i64 x0, .int .i64 x1, .int .i64 x2, .int .i64 x3, .int .i64 x4, .bool lk, .string nm, .int .i64 tk, .int .i64 tn, .float .f64 tf, .string ts, .slice ta tl tc] ST

set_option maxHeartbeats 2000000 in
set_option maxRecDepth 100000 in
theorem pushS_of {w : World} {B rb gone n : Nat} {V : Value} {items : List Value} (x0 x1 x2 x3 x4 : Int) (lk : Bool) (nm : ByteArray) (tk tn : Int) (tf : Nat) (ts : ByteArray) (ta : Option Addr) (tl tc : Nat) (h : RW ST 12 w B rb V gone items n) (hB : B ≤ w.heap.size) (hN : n ≤ 1000000) :
    Calls Tryz.prog 34 #[.pointer (some ⟨rb, 0, none⟩), .agg #[.int .i64 x0, .int .i64 x1, .int .i64 x2, .int .i64 x3, .int .i64 x4, .bool lk, .string nm, .int .i64 tk, .int .i64 tn, .float .f64 tf, .string ts, .slice ta tl tc]] w fun e w' => e = .returned (.tuple #[]) ∧ ∃ V', RW ST 12 w' B rb V' gone (items ++ [.int .i64 x0, .int .i64 x1, .int .i64 x2, .int .i64 x3, .int .i64 x4, .bool lk, .string nm, .int .i64 tk, .int .i64 tn, .float .f64 tf, .string ts, .slice ta tl tc]) (n + 1) ∧ But (fun k => k = rb ∨ V.ownBlock = some k) w w' ∧ Stays w V V' := by
  obtain ⟨c0, c1, f0, f1, hlt⟩ := h.duo
  obtain ⟨q, cap, rfl⟩ := own_sl h.own
  obtain ⟨i0, hi, hz0, hz1, hz2⟩ := infoS
  have HH := hidb h
  have hone : ∀ u ∈ ([.int .i64 x0, .int .i64 x1, .int .i64 x2, .int .i64 x3, .int .i64 x4, .bool lk, .string nm, .int .i64 tk, .int .i64 tn, .float .f64 tf, .string ts, .slice ta tl tc] : List Value), u.oneCell' = true := by intro u hu; simp at hu; rcases hu with rfl | rfl | rfl | rfl | rfl | rfl | rfl | rfl | rfl | rfl | rfl | rfl <;> rfl
  have hX : Below w.heap.size w ((w.alloc (sgObj x0 x1 x2 x3 x4 lk nm tk tn tf ts ta tl tc)).alloc (sgObj x0 x1 x2 x3 x4 lk nm tk tn tf ts ta tl tc)).drew := Below.drew (((Below.refl _ w).alloc (Nat.le_refl _) _).alloc (by simp) _)
  have ow : (((w.alloc (sgObj x0 x1 x2 x3 x4 lk nm tk tn tf ts ta tl tc)).alloc (sgObj x0 x1 x2 x3 x4 lk nm tk tn tf ts ta tl tc)).drew).ownsRow B ST 12 (.slice q n cap) n items := ((h.own.alloc _).alloc _).drew
  have nw : ∀ j u, [.int .i64 x0, .int .i64 x1, .int .i64 x2, .int .i64 x3, .int .i64 x4, .bool lk, .string nm, .int .i64 tk, .int .i64 tn, .float .f64 tf, .string ts, .slice ta tl tc][j]? = some u → (((w.alloc (sgObj x0 x1 x2 x3 x4 lk nm tk tn tf ts ta tl tc)).alloc (sgObj x0 x1 x2 x3 x4 lk nm tk tn tf ts ta tl tc)).drew).cell? ((⟨w.heap.size + 1, 0, none⟩ : Addr).add j) = some u := by
    have hb : (((w.alloc (sgObj x0 x1 x2 x3 x4 lk nm tk tn tf ts ta tl tc)).alloc (sgObj x0 x1 x2 x3 x4 lk nm tk tn tf ts ta tl tc)).drew).heap[w.heap.size + 1]? = some (sgObj x0 x1 x2 x3 x4 lk nm tk tn tf ts ta tl tc) := by
      show ((w.alloc (sgObj x0 x1 x2 x3 x4 lk nm tk tn tf ts ta tl tc)).alloc (sgObj x0 x1 x2 x3 x4 lk nm tk tn tf ts ta tl tc)).heap[w.heap.size + 1]? = _
      have := (MapKept.heap_alloc (w.alloc (sgObj x0 x1 x2 x3 x4 lk nm tk tn tf ts ta tl tc)) (sgObj x0 x1 x2 x3 x4 lk nm tk tn tf ts ta tl tc)).1
      simpa using this
    exact World.news_of_block hb
  have z1 : n + 1 ≤ maxLen := by unfold maxLen; omega
  have z2 : (n + 1) * 128 ≤ 140737488355328 := by omega
  have z4 : B ≤ (((w.alloc (sgObj x0 x1 x2 x3 x4 lk nm tk tn tf ts ta tl tc)).alloc (sgObj x0 x1 x2 x3 x4 lk nm tk tn tf ts ta tl tc)).drew).heap.size := by simp; omega
  unfold sgObj at hX ow nw z4
  have HX := hidb hX
  clear h hX
  go_enter Tryz.func34, Tryz.ntmps34
  go_wp2_with fail
  go_region_law (first
    | (refine step_app rfl (.tmp 8) (.tmp 10) 44 rfl B ST i0 (.agg #[.int .i64 0, .int .i64 0, .int .i64 0, .int .i64 0, .int .i64 0, .bool false, .string ⟨#[]⟩, .int .i64 0, .int .i64 0, .float .f64 0, .string ⟨#[]⟩, .slice none 0 0]) 12 128 Tryz.underlying44 hi hz0 hz1 hz2 rfl (by decide) (.slice q n cap) n items rfl ow ⟨w.heap.size + 1, 0, none⟩ 1 1 [.int .i64 x0, .int .i64 x1, .int .i64 x2, .int .i64 x3, .int .i64 x4, .bool lk, .string nm, .int .i64 tk, .int .i64 tn, .float .f64 tf, .string ts, .slice ta tl tc] rfl rfl nw hone z1 z2 z4 ?_; intro v' w1 hown' hgrow hat; obtain ⟨a', c', rfl⟩ := own_sl hown'; have hd := (HH.out.duo.but (But.of_below HX.out) (S := fun k => (Value.slice q n cap).ownBlock = some k) HH.out.ne).but (grown_but hgrow) HH.out.ne; have d0 := hd.c0; have e0 := hd.f0; have K := hidb (push_done HH.out HX.out hgrow hown' hat (by simp) hone); clear hd hown' hgrow hat))
  all_goals go_wp2_with fail
  all_goals exact bodyPost_end (by simp [results, Tryz.results34]) rfl ⟨rfl, _, K.out.1, K.out.2.1, K.out.2.2⟩

theorem pushS_any {w : World} {B rb k N : Nat} {V : Value} {xs : List Value} (x0 x1 x2 x3 x4 : Int) (lk : Bool) (nm : ByteArray) (tk tn : Int) (tf : Nat) (ts : ByteArray) (ta : Option Addr) (tl tc : Nat) (h : Rw ST 12 w B rb V xs k N) (hB : B ≤ w.heap.size) (hN : N ≤ 1000000) :
    Calls Tryz.prog 34 #[.pointer (some ⟨rb, 0, none⟩), .agg #[.int .i64 x0, .int .i64 x1, .int .i64 x2, .int .i64 x3, .int .i64 x4, .bool lk, .string nm, .int .i64 tk, .int .i64 tn, .float .f64 tf, .string ts, .slice ta tl tc]] w fun e w' => e = .returned (.tuple #[]) ∧ ∃ V', Rw ST 12 w' B rb V' (xs ++ [.int .i64 x0, .int .i64 x1, .int .i64 x2, .int .i64 x3, .int .i64 x4, .bool lk, .string nm, .int .i64 tk, .int .i64 tn, .float .f64 tf, .string ts, .slice ta tl tc]) (k + 1) (N + 1) ∧ But (fun k => k = rb ∨ V.ownBlock = some k) w w' ∧ Stays w V V' := by
  obtain ⟨gone, items, n, h, hx, hn, hle⟩ := h
  refine (pushS_of x0 x1 x2 x3 x4 lk nm tk tn tf ts ta tl tc h hB (by omega)).mono ?_
  rintro e w' ⟨rfl, V', h', hb, hs⟩
  refine ⟨rfl, V', ⟨gone, _, _, h', ?_, by omega, by omega⟩, hb, hs⟩
  rw [List.drop_append_of_le_length (by rw [h.own.1]; exact Nat.mul_le_mul_right _ h.le), hx]
end Go.Proofs.YtodelafnboimnaaGreat
