import Derived.Test.YtliebilpddmhkaaGreatG14
/- What the dead answer. -/
namespace Go.Proofs.YtliebilpddmhkaaGreat
open Go.RowKit Go.Lib
attribute [local go_sem] store_float f64bits
attribute [local go_sem ↓] Go.wp_at_zero Go.wp_at_succ
attribute [local go_sem] ta_link_link ta_link_unlink ta_link_monitor ta_link_exit ta_link_down ta_unlink_link ta_unlink_unlink ta_unlink_monitor ta_unlink_exit ta_unlink_down ta_exit_link ta_exit_unlink ta_exit_monitor ta_exit_exit ta_exit_down ta_monitor_link ta_monitor_unlink ta_monitor_monitor ta_monitor_exit ta_monitor_down ta_down_link ta_down_unlink ta_down_monitor ta_down_exit ta_down_down ta_nil_link ta_nil_unlink ta_nil_monitor ta_nil_exit ta_nil_down

set_option maxHeartbeats 1000000 in
theorem linkedExit_leaf (p q : Int) (k n : Int) (f : Nat) (st : ByteArray) (a : Option Addr) (c : Nat) (w : World) : Calls Tryz.prog 46 #[.int .i64 p, .int .i64 q, .agg #[.int .i64 k, .int .i64 n, .float .f64 f, .string st, .slice a 0 c]] w fun e w' => e = .returned (.agg #[.int .i64 p, .int .i64 q, .int .i64 5, .int .i64 0, .int .i64 0, .bool true, .string ⟨#[]⟩, .int .i64 k, .int .i64 n, .float .f64 f, .string st, .slice none 0 0]) ∧ Below w.heap.size w w' := by
  have CL := hidb (fun w' => copy_leaf w' k n f st a c)
  have HR : Hid ((((w.alloc (.cells #[.int .i64 k, .int .i64 n, .float .f64 f, .string st, .slice a 0 c] TT)).alloc (.cells #[.int .i64 0, .int .i64 0, .int .i64 0, .int .i64 0, .int .i64 0, .bool false, .string ⟨#[]⟩, .int .i64 0, .int .i64 0, .float .f64 0, .string ⟨#[]⟩, .slice none 0 0] ST)).heap[w.heap.size + 1]? = some (.cells #[.int .i64 0, .int .i64 0, .int .i64 0, .int .i64 0, .int .i64 0, .bool false, .string ⟨#[]⟩, .int .i64 0, .int .i64 0, .float .f64 0, .string ⟨#[]⟩, .slice none 0 0] ST))) := hidb (by have := at_new (w.alloc (.cells #[.int .i64 k, .int .i64 n, .float .f64 f, .string st, .slice a 0 c] TT)) (.cells #[.int .i64 0, .int .i64 0, .int .i64 0, .int .i64 0, .int .i64 0, .bool false, .string ⟨#[]⟩, .int .i64 0, .int .i64 0, .float .f64 0, .string ⟨#[]⟩, .slice none 0 0] ST); simpa using this)
  have HB : Hid (Below w.heap.size w ((w.alloc (.cells #[.int .i64 k, .int .i64 n, .float .f64 f, .string st, .slice a 0 c] TT)).alloc (.cells #[.int .i64 0, .int .i64 0, .int .i64 0, .int .i64 0, .int .i64 0, .bool false, .string ⟨#[]⟩, .int .i64 0, .int .i64 0, .float .f64 0, .string ⟨#[]⟩, .slice none 0 0] ST))) := hidb ((below_new w _).alloc (by simp) _)
  go_enter Tryz.func46, Tryz.ntmps46
  go_wp2_with (first
    | (go_at_call 39; refine (CL.out _).mono ?_; rintro e w1 ⟨rfl, hb1⟩; obtain ⟨r0, r1, r2, r3, r4, r5, r6, r7, r8, r9, r10, r11⟩ := box12 (at_keep HR.out hb1); obtain ⟨g0, g1, g2, g3, g4, g5, g6, g7, g8, g9, g10, g11⟩ := fro12 (at_keep HR.out hb1); have HB1 := hidb (HB.out.trans (hb1.mono HB.out.size)); clear hb1 HR HB))
  exact bodyPost_ret (v := .agg #[.int .i64 p, .int .i64 q, .int .i64 5, .int .i64 0, .int .i64 0, .bool true, .string ⟨#[]⟩, .int .i64 k, .int .i64 n, .float .f64 f, .string st, .slice none 0 0]) (by simp [results, Tryz.results46, go_sem, r0, r1, r2, r3, r4, r5, r6, r7, r8, r9, r10, r11]) rfl ⟨rfl, by (repeat (refine Below.setCell ?_ (by simp) _)); exact HB1.out⟩

set_option maxHeartbeats 1000000 in
theorem downSignal_leaf (p q r : Int) (k n : Int) (f : Nat) (st : ByteArray) (a : Option Addr) (c : Nat) (w : World) : Calls Tryz.prog 47 #[.int .i64 p, .int .i64 q, .int .i64 r, .agg #[.int .i64 k, .int .i64 n, .float .f64 f, .string st, .slice a 0 c]] w fun e w' => e = .returned (.agg #[.int .i64 p, .int .i64 q, .int .i64 8, .int .i64 0, .int .i64 r, .bool false, .string ⟨#[]⟩, .int .i64 k, .int .i64 n, .float .f64 f, .string st, .slice none 0 0]) ∧ Below w.heap.size w w' := by
  have CL := hidb (fun w' => copy_leaf w' k n f st a c)
  have HR : Hid ((((w.alloc (.cells #[.int .i64 k, .int .i64 n, .float .f64 f, .string st, .slice a 0 c] TT)).alloc (.cells #[.int .i64 0, .int .i64 0, .int .i64 0, .int .i64 0, .int .i64 0, .bool false, .string ⟨#[]⟩, .int .i64 0, .int .i64 0, .float .f64 0, .string ⟨#[]⟩, .slice none 0 0] ST)).heap[w.heap.size + 1]? = some (.cells #[.int .i64 0, .int .i64 0, .int .i64 0, .int .i64 0, .int .i64 0, .bool false, .string ⟨#[]⟩, .int .i64 0, .int .i64 0, .float .f64 0, .string ⟨#[]⟩, .slice none 0 0] ST))) := hidb (by have := at_new (w.alloc (.cells #[.int .i64 k, .int .i64 n, .float .f64 f, .string st, .slice a 0 c] TT)) (.cells #[.int .i64 0, .int .i64 0, .int .i64 0, .int .i64 0, .int .i64 0, .bool false, .string ⟨#[]⟩, .int .i64 0, .int .i64 0, .float .f64 0, .string ⟨#[]⟩, .slice none 0 0] ST); simpa using this)
  have HB : Hid (Below w.heap.size w ((w.alloc (.cells #[.int .i64 k, .int .i64 n, .float .f64 f, .string st, .slice a 0 c] TT)).alloc (.cells #[.int .i64 0, .int .i64 0, .int .i64 0, .int .i64 0, .int .i64 0, .bool false, .string ⟨#[]⟩, .int .i64 0, .int .i64 0, .float .f64 0, .string ⟨#[]⟩, .slice none 0 0] ST))) := hidb ((below_new w _).alloc (by simp) _)
  go_enter Tryz.func47, Tryz.ntmps47
  go_wp2_with (first
    | (go_at_call 39; refine (CL.out _).mono ?_; rintro e w1 ⟨rfl, hb1⟩; obtain ⟨r0, r1, r2, r3, r4, r5, r6, r7, r8, r9, r10, r11⟩ := box12 (at_keep HR.out hb1); obtain ⟨g0, g1, g2, g3, g4, g5, g6, g7, g8, g9, g10, g11⟩ := fro12 (at_keep HR.out hb1); have HB1 := hidb (HB.out.trans (hb1.mono HB.out.size)); clear hb1 HR HB))
  exact bodyPost_ret (v := .agg #[.int .i64 p, .int .i64 q, .int .i64 8, .int .i64 0, .int .i64 r, .bool false, .string ⟨#[]⟩, .int .i64 k, .int .i64 n, .float .f64 f, .string st, .slice none 0 0]) (by simp [results, Tryz.results47, go_sem, r0, r1, r2, r3, r4, r5, r6, r7, r8, r9, r10, r11]) rfl ⟨rfl, by (repeat (refine Below.setCell ?_ (by simp) _)); exact HB1.out⟩
end Go.Proofs.YtliebilpddmhkaaGreat


/- What the dead answer, by kind. -/
namespace Go.Proofs.YtliebilpddmhkaaGreat
open Go.RowKit Go.Lib
attribute [local go_sem] store_float f64bits
attribute [local go_sem ↓] Go.wp_at_zero Go.wp_at_succ
attribute [local go_sem] ta_link_link ta_link_unlink ta_link_monitor ta_link_exit ta_link_down ta_unlink_link ta_unlink_unlink ta_unlink_monitor ta_unlink_exit ta_unlink_down ta_exit_link ta_exit_unlink ta_exit_monitor ta_exit_exit ta_exit_down ta_monitor_link ta_monitor_unlink ta_monitor_monitor ta_monitor_exit ta_monitor_down ta_down_link ta_down_unlink ta_down_monitor ta_down_exit ta_down_down ta_nil_link ta_nil_unlink ta_nil_monitor ta_nil_exit ta_nil_down

set_option maxRecDepth 100000 in
set_option maxHeartbeats 4000000 in
theorem deadAnswer_link (p q : Int) (w : World) : Calls Tryz.prog 48 #[.iface 93 (.agg #[.int .i64 p, .int .i64 q])] w fun e w' => e = .returned (.tuple #[.agg #[.int .i64 q, .int .i64 p, .int .i64 5, .int .i64 0, .int .i64 0, .bool true, .string ⟨#[]⟩, .int .i64 3, .int .i64 0, .float .f64 0, .string ⟨#[110, 111, 112, 114, 111, 99]⟩, .slice none 0 0], .bool true]) ∧ Below w.heap.size w w' := by
  have AT := hidb (fun w => atom_val ⟨#[110, 111, 112, 114, 111, 99]⟩ w)
  have LE := hidb (fun w => linkedExit_leaf q p 3 0 0 ⟨#[110, 111, 112, 114, 111, 99]⟩ none 0 w)
  obtain ⟨W1, hW1⟩ : ∃ W1, (w.alloc (.cells #[.int .i64 0, .int .i64 0, .int .i64 0, .int .i64 0, .int .i64 0, .bool false, .string ⟨#[]⟩, .int .i64 0, .int .i64 0, .float .f64 0, .string ⟨#[]⟩, .slice none 0 0] 27)).alloc (.cells #[.int .i64 p, .int .i64 q] 93) = W1 := ⟨_, rfl⟩
  have hb1 : Below w.heap.size w W1 := hW1 ▸ ((below_new w _).alloc (by simp) _)
  have hz1 : W1.heap.size = w.heap.size + 1 + 1 := by rw [← hW1]; simp
  have h1 : W1.heap[w.heap.size]? = some (.cells #[.int .i64 0, .int .i64 0, .int .i64 0, .int .i64 0, .int .i64 0, .bool false, .string ⟨#[]⟩, .int .i64 0, .int .i64 0, .float .f64 0, .string ⟨#[]⟩, .slice none 0 0] 27) := by rw [← hW1]; exact at_keep (at_new w _) (below_new _ _)
  have h2 : W1.heap[w.heap.size + 1]? = some (.cells #[.int .i64 p, .int .i64 q] 93) := by
    have := at_new (w.alloc (.cells #[.int .i64 0, .int .i64 0, .int .i64 0, .int .i64 0, .int .i64 0, .bool false, .string ⟨#[]⟩, .int .i64 0, .int .i64 0, .float .f64 0, .string ⟨#[]⟩, .slice none 0 0] 27)) (.cells #[.int .i64 p, .int .i64 q] 93)
    rw [hW1] at this
    simpa using this
  have HS0 : Hid (W1.drew.cell? ⟨w.heap.size + 1, 0, none⟩ = some (.int .i64 p) ∧ W1.drew.cell? ⟨w.heap.size + 1, 1, none⟩ = some (.int .i64 q)) := hidb ⟨by show W1.cell? _ = _; rw [cell_of_row W1 _ _ _ _ _ h2]; rfl, by show W1.cell? _ = _; rw [cell_of_row W1 _ _ _ _ _ h2]; rfl⟩
  have HR : Hid (W1.drew.heap[w.heap.size]? = some (.cells #[.int .i64 0, .int .i64 0, .int .i64 0, .int .i64 0, .int .i64 0, .bool false, .string ⟨#[]⟩, .int .i64 0, .int .i64 0, .float .f64 0, .string ⟨#[]⟩, .slice none 0 0] 27)) := hidb h1
  have HB : Hid (Below w.heap.size w W1.drew) := hidb hb1.drew
  have HZ : Hid (W1.drew.heap.size = w.heap.size + 1 + 1) := hidb hz1
  clear hb1 h1 h2 hz1
  go_enter Tryz.func48, Tryz.ntmps48
  go_wp2_with fail
  try rw [hW1]
  clear hW1
  go_region_held3 (fun w' => w'.cell? ⟨w.heap.size + 1, 0, none⟩ = some (.int .i64 p) ∧ w'.cell? ⟨w.heap.size + 1, 1, none⟩ = some (.int .i64 q)) (first | with_reducible exact HS0.out | with_reducible exact HS1.out | with_reducible exact HS2.out | (simp only [cell_past (ne_up _)]; with_reducible exact HS2.out)) (first
    | (go_at_call 41; refine (AT.out _).mono ?_; rintro e w4 ⟨rfl, hb4⟩; have hz4 := hb4.size; have HS1 : Hid (w4.cell? ⟨w.heap.size + 1, 0, none⟩ = some (.int .i64 p) ∧ w4.cell? ⟨w.heap.size + 1, 1, none⟩ = some (.int .i64 q)) := hidb ⟨(hb4.cell (p := ⟨w.heap.size + 1, 0, none⟩) (by have := HZ.out; simp only; omega)).trans HS0.out.1, (hb4.cell (p := ⟨w.heap.size + 1, 1, none⟩) (by have := HZ.out; simp only; omega)).trans HS0.out.2⟩; have HB4 := hidb (HB.out.trans (hb4.mono HB.out.size)); have HR4 := hidb (at_keep HR.out hb4); clear hb4)
    | (go_at_call 46; refine (LE.out _).mono ?_; rintro e w5 ⟨rfl, hb5⟩; have HS2 : Hid (w5.cell? ⟨w.heap.size + 1, 0, none⟩ = some (.int .i64 p) ∧ w5.cell? ⟨w.heap.size + 1, 1, none⟩ = some (.int .i64 q)) := hidb ⟨(hb5.cell (p := ⟨w.heap.size + 1, 0, none⟩) (by have := HZ.out; simp only; omega)).trans HS1.out.1, (hb5.cell (p := ⟨w.heap.size + 1, 1, none⟩) (by have := HZ.out; simp only; omega)).trans HS1.out.2⟩; have HB5 := hidb (HB4.out.trans (hb5.mono HB4.out.size)); obtain ⟨r0, r1, r2, r3, r4, r5, r6, r7, r8, r9, r10, r11⟩ := box12 (at_keep HR4.out hb5); obtain ⟨g0, g1, g2, g3, g4, g5, g6, g7, g8, g9, g10, g11⟩ := fro12 (at_keep HR4.out hb5); clear hb5))
  go_wp2_with fail
  exact bodyPost_ret (v := .tuple #[.agg #[.int .i64 q, .int .i64 p, .int .i64 5, .int .i64 0, .int .i64 0, .bool true, .string ⟨#[]⟩, .int .i64 3, .int .i64 0, .float .f64 0, .string ⟨#[110, 111, 112, 114, 111, 99]⟩, .slice none 0 0], .bool true]) (by simp [results, Tryz.results48, go_sem, r0, r1, r2, r3, r4, r5, r6, r7, r8, r9, r10, r11]) rfl ⟨rfl, by (repeat (refine Below.setCell ?_ (by simp) _)); exact HB5.out⟩

set_option maxRecDepth 100000 in
set_option maxHeartbeats 4000000 in
theorem deadAnswer_monitor (p q r : Int) (w : World) : Calls Tryz.prog 48 #[.iface 97 (.agg #[.int .i64 p, .int .i64 q, .int .i64 r])] w fun e w' => e = .returned (.tuple #[.agg #[.int .i64 q, .int .i64 p, .int .i64 8, .int .i64 0, .int .i64 r, .bool false, .string ⟨#[]⟩, .int .i64 3, .int .i64 0, .float .f64 0, .string ⟨#[110, 111, 112, 114, 111, 99]⟩, .slice none 0 0], .bool true]) ∧ Below w.heap.size w w' := by
  have AT := hidb (fun w => atom_val ⟨#[110, 111, 112, 114, 111, 99]⟩ w)
  have LE := hidb (fun w => downSignal_leaf q p r 3 0 0 ⟨#[110, 111, 112, 114, 111, 99]⟩ none 0 w)
  obtain ⟨W1, hW1⟩ : ∃ W1, (w.alloc (.cells #[.int .i64 0, .int .i64 0, .int .i64 0, .int .i64 0, .int .i64 0, .bool false, .string ⟨#[]⟩, .int .i64 0, .int .i64 0, .float .f64 0, .string ⟨#[]⟩, .slice none 0 0] 27)).alloc (.cells #[.int .i64 p, .int .i64 q, .int .i64 r] 97) = W1 := ⟨_, rfl⟩
  have hb1 : Below w.heap.size w W1 := hW1 ▸ ((below_new w _).alloc (by simp) _)
  have hz1 : W1.heap.size = w.heap.size + 1 + 1 := by rw [← hW1]; simp
  have h1 : W1.heap[w.heap.size]? = some (.cells #[.int .i64 0, .int .i64 0, .int .i64 0, .int .i64 0, .int .i64 0, .bool false, .string ⟨#[]⟩, .int .i64 0, .int .i64 0, .float .f64 0, .string ⟨#[]⟩, .slice none 0 0] 27) := by rw [← hW1]; exact at_keep (at_new w _) (below_new _ _)
  have h2 : W1.heap[w.heap.size + 1]? = some (.cells #[.int .i64 p, .int .i64 q, .int .i64 r] 97) := by
    have := at_new (w.alloc (.cells #[.int .i64 0, .int .i64 0, .int .i64 0, .int .i64 0, .int .i64 0, .bool false, .string ⟨#[]⟩, .int .i64 0, .int .i64 0, .float .f64 0, .string ⟨#[]⟩, .slice none 0 0] 27)) (.cells #[.int .i64 p, .int .i64 q, .int .i64 r] 97)
    rw [hW1] at this
    simpa using this
  have HS0 : Hid (W1.drew.cell? ⟨w.heap.size + 1, 0, none⟩ = some (.int .i64 p) ∧ W1.drew.cell? ⟨w.heap.size + 1, 1, none⟩ = some (.int .i64 q) ∧ W1.drew.cell? ⟨w.heap.size + 1, 2, none⟩ = some (.int .i64 r)) := hidb ⟨by show W1.cell? _ = _; rw [cell_of_row W1 _ _ _ _ _ h2]; rfl, by show W1.cell? _ = _; rw [cell_of_row W1 _ _ _ _ _ h2]; rfl, by show W1.cell? _ = _; rw [cell_of_row W1 _ _ _ _ _ h2]; rfl⟩
  have HR : Hid (W1.drew.heap[w.heap.size]? = some (.cells #[.int .i64 0, .int .i64 0, .int .i64 0, .int .i64 0, .int .i64 0, .bool false, .string ⟨#[]⟩, .int .i64 0, .int .i64 0, .float .f64 0, .string ⟨#[]⟩, .slice none 0 0] 27)) := hidb h1
  have HB : Hid (Below w.heap.size w W1.drew) := hidb hb1.drew
  have HZ : Hid (W1.drew.heap.size = w.heap.size + 1 + 1) := hidb hz1
  clear hb1 h1 h2 hz1
  go_enter Tryz.func48, Tryz.ntmps48
  go_wp2_with fail
  try rw [hW1]
  clear hW1
  go_region_held3 (fun w' => w'.cell? ⟨w.heap.size + 1, 0, none⟩ = some (.int .i64 p) ∧ w'.cell? ⟨w.heap.size + 1, 1, none⟩ = some (.int .i64 q) ∧ w'.cell? ⟨w.heap.size + 1, 2, none⟩ = some (.int .i64 r)) (first | with_reducible exact HS0.out | with_reducible exact HS1.out | with_reducible exact HS2.out | (simp only [cell_past (ne_up _)]; with_reducible exact HS2.out)) (first
    | (go_at_call 41; refine (AT.out _).mono ?_; rintro e w4 ⟨rfl, hb4⟩; have hz4 := hb4.size; have HS1 : Hid (w4.cell? ⟨w.heap.size + 1, 0, none⟩ = some (.int .i64 p) ∧ w4.cell? ⟨w.heap.size + 1, 1, none⟩ = some (.int .i64 q) ∧ w4.cell? ⟨w.heap.size + 1, 2, none⟩ = some (.int .i64 r)) := hidb ⟨(hb4.cell (p := ⟨w.heap.size + 1, 0, none⟩) (by have := HZ.out; simp only; omega)).trans HS0.out.1, (hb4.cell (p := ⟨w.heap.size + 1, 1, none⟩) (by have := HZ.out; simp only; omega)).trans HS0.out.2.1, (hb4.cell (p := ⟨w.heap.size + 1, 2, none⟩) (by have := HZ.out; simp only; omega)).trans HS0.out.2.2⟩; have HB4 := hidb (HB.out.trans (hb4.mono HB.out.size)); have HR4 := hidb (at_keep HR.out hb4); clear hb4)
    | (go_at_call 47; refine (LE.out _).mono ?_; rintro e w5 ⟨rfl, hb5⟩; have HS2 : Hid (w5.cell? ⟨w.heap.size + 1, 0, none⟩ = some (.int .i64 p) ∧ w5.cell? ⟨w.heap.size + 1, 1, none⟩ = some (.int .i64 q) ∧ w5.cell? ⟨w.heap.size + 1, 2, none⟩ = some (.int .i64 r)) := hidb ⟨(hb5.cell (p := ⟨w.heap.size + 1, 0, none⟩) (by have := HZ.out; simp only; omega)).trans HS1.out.1, (hb5.cell (p := ⟨w.heap.size + 1, 1, none⟩) (by have := HZ.out; simp only; omega)).trans HS1.out.2.1, (hb5.cell (p := ⟨w.heap.size + 1, 2, none⟩) (by have := HZ.out; simp only; omega)).trans HS1.out.2.2⟩; have HB5 := hidb (HB4.out.trans (hb5.mono HB4.out.size)); obtain ⟨r0, r1, r2, r3, r4, r5, r6, r7, r8, r9, r10, r11⟩ := box12 (at_keep HR4.out hb5); obtain ⟨g0, g1, g2, g3, g4, g5, g6, g7, g8, g9, g10, g11⟩ := fro12 (at_keep HR4.out hb5); clear hb5))
  go_wp2_with fail
  exact bodyPost_ret (v := .tuple #[.agg #[.int .i64 q, .int .i64 p, .int .i64 8, .int .i64 0, .int .i64 r, .bool false, .string ⟨#[]⟩, .int .i64 3, .int .i64 0, .float .f64 0, .string ⟨#[110, 111, 112, 114, 111, 99]⟩, .slice none 0 0], .bool true]) (by simp [results, Tryz.results48, go_sem, r0, r1, r2, r3, r4, r5, r6, r7, r8, r9, r10, r11]) rfl ⟨rfl, by (repeat (refine Below.setCell ?_ (by simp) _)); exact HB5.out⟩

set_option maxHeartbeats 2000000 in
theorem deadAnswer_unlink (p q d : Int) (w : World) : Calls Tryz.prog 48 #[.iface 95 (.agg #[.int .i64 p, .int .i64 q, .int .i64 d])] w fun e w' => e = .returned (.tuple #[.agg #[.int .i64 q, .int .i64 p, .int .i64 4, .int .i64 d, .int .i64 0, .bool false, .string ⟨#[]⟩, .int .i64 0, .int .i64 0, .float .f64 0, .string ⟨#[]⟩, .slice none 0 0], .bool true]) ∧ Below w.heap.size w w' := by
  go_enter Tryz.func48, Tryz.ntmps48
  go_wp2_with fail
  exact bodyPost_ret (v := .tuple #[.agg #[.int .i64 q, .int .i64 p, .int .i64 4, .int .i64 d, .int .i64 0, .bool false, .string ⟨#[]⟩, .int .i64 0, .int .i64 0, .float .f64 0, .string ⟨#[]⟩, .slice none 0 0], .bool true]) (by simp [results, Tryz.results48, go_sem]) rfl ⟨rfl, by (repeat (first | exact Below.refl _ _ | assumption | refine Below.drew ?_ | refine below_drewN ?_ _ | refine Below.setCell ?_ (by simp) _ | refine Below.alloc ?_ (by (first | exact Nat.le_refl _ | (simp; done) | (simp; omega) | omega)) _ | refine Below.trans ?_ (Below.mono (by assumption) (by first | exact Nat.le_refl _ | (simp; done) | (simp; omega) | omega))))⟩

set_option maxHeartbeats 2000000 in
theorem deadAnswer_exit (v : Value) (w : World) : Calls Tryz.prog 48 #[.iface 90 v] w fun e w' => e = .returned (.tuple #[.agg #[.int .i64 0, .int .i64 0, .int .i64 0, .int .i64 0, .int .i64 0, .bool false, .string ⟨#[]⟩, .int .i64 0, .int .i64 0, .float .f64 0, .string ⟨#[]⟩, .slice none 0 0], .bool false]) ∧ Below w.heap.size w w' := by
  go_enter Tryz.func48, Tryz.ntmps48
  go_wp2_with fail
  exact bodyPost_ret (v := .tuple #[.agg #[.int .i64 0, .int .i64 0, .int .i64 0, .int .i64 0, .int .i64 0, .bool false, .string ⟨#[]⟩, .int .i64 0, .int .i64 0, .float .f64 0, .string ⟨#[]⟩, .slice none 0 0], .bool false]) (by simp [results, Tryz.results48, go_sem]) rfl ⟨rfl, by (repeat (first | exact Below.refl _ _ | assumption | refine Below.drew ?_ | refine below_drewN ?_ _ | refine Below.setCell ?_ (by simp) _ | refine Below.alloc ?_ (by (first | exact Nat.le_refl _ | (simp; done) | (simp; omega) | omega)) _ | refine Below.trans ?_ (Below.mono (by assumption) (by first | exact Nat.le_refl _ | (simp; done) | (simp; omega) | omega))))⟩

set_option maxHeartbeats 2000000 in
theorem deadAnswer_down (v : Value) (w : World) : Calls Tryz.prog 48 #[.iface 99 v] w fun e w' => e = .returned (.tuple #[.agg #[.int .i64 0, .int .i64 0, .int .i64 0, .int .i64 0, .int .i64 0, .bool false, .string ⟨#[]⟩, .int .i64 0, .int .i64 0, .float .f64 0, .string ⟨#[]⟩, .slice none 0 0], .bool false]) ∧ Below w.heap.size w w' := by
  go_enter Tryz.func48, Tryz.ntmps48
  go_wp2_with fail
  exact bodyPost_ret (v := .tuple #[.agg #[.int .i64 0, .int .i64 0, .int .i64 0, .int .i64 0, .int .i64 0, .bool false, .string ⟨#[]⟩, .int .i64 0, .int .i64 0, .float .f64 0, .string ⟨#[]⟩, .slice none 0 0], .bool false]) (by simp [results, Tryz.results48, go_sem]) rfl ⟨rfl, by (repeat (first | exact Below.refl _ _ | assumption | refine Below.drew ?_ | refine below_drewN ?_ _ | refine Below.setCell ?_ (by simp) _ | refine Below.alloc ?_ (by (first | exact Nat.le_refl _ | (simp; done) | (simp; omega) | omega)) _ | refine Below.trans ?_ (Below.mono (by assumption) (by first | exact Nat.le_refl _ | (simp; done) | (simp; omega) | omega))))⟩

set_option maxHeartbeats 2000000 in
theorem deadAnswer_nil (w : World) : Calls Tryz.prog 48 #[.nilIface] w fun e w' => e = .returned (.tuple #[.agg #[.int .i64 0, .int .i64 0, .int .i64 0, .int .i64 0, .int .i64 0, .bool false, .string ⟨#[]⟩, .int .i64 0, .int .i64 0, .float .f64 0, .string ⟨#[]⟩, .slice none 0 0], .bool false]) ∧ Below w.heap.size w w' := by
  go_enter Tryz.func48, Tryz.ntmps48
  go_wp2_with fail
  exact bodyPost_ret (v := .tuple #[.agg #[.int .i64 0, .int .i64 0, .int .i64 0, .int .i64 0, .int .i64 0, .bool false, .string ⟨#[]⟩, .int .i64 0, .int .i64 0, .float .f64 0, .string ⟨#[]⟩, .slice none 0 0], .bool false]) (by simp [results, Tryz.results48, go_sem]) rfl ⟨rfl, by (repeat (first | exact Below.refl _ _ | assumption | refine Below.drew ?_ | refine below_drewN ?_ _ | refine Below.setCell ?_ (by simp) _ | refine Below.alloc ?_ (by (first | exact Nat.le_refl _ | (simp; done) | (simp; omega) | omega)) _ | refine Below.trans ?_ (Below.mono (by assumption) (by first | exact Nat.le_refl _ | (simp; done) | (simp; omega) | omega))))⟩
end Go.Proofs.YtliebilpddmhkaaGreat


