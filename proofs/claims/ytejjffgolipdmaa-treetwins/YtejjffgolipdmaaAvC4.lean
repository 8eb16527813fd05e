/- How few keys a tree of a height has, as the document reckons it; the chapter's example. -/
import Derived.Test.YtejjffgolipdmaaAvC
namespace Go.Proofs.Ytejjffgolipdmaa
open Go.RowKit Go.Lib
attribute [local go_sem ↓] Go.wp_at_zero Go.wp_at_succ

set_option maxRecDepth 100000 in
set_option maxHeartbeats 4000000 in
theorem known13_any (w : World) : Calls Try.prog 4 #[] w fun e w' => e = .returned (.bool true) ∧ Below w.heap.size w w' := by
  go_enter Try.func4, Try.ntmps4
  go_wp2_with (first
    | (go_at_call 5; refine (new_any _).mono ?_; rintro e w1 ⟨rfl, ht1, hb1, -⟩; have HT1 := hidb ht1; have HB1 := hidb hb1; clear ht1 hb1)
    | (go_at_call 10; refine (put_any HT1.out (by decide) 1 7 (by decide)).mono ?_; rintro e w2 ⟨he, ht2, hb2⟩; obtain rfl : e = .returned (.bool true) := he; have HT2 : Hid (TB w2 w.heap.size _ [(1, 7)]) := hidb ht2; have HB2 := hidb hb2; clear ht2 hb2 HT1)
    | (go_at_call 10; refine (put_any HT2.out (by decide) 1 8 (by decide)).mono ?_; rintro e w3 ⟨he, ht3, hb3⟩; obtain rfl : e = .returned (.bool false) := he; have HT3 : Hid (TB w3 w.heap.size _ [(1, 8)]) := hidb ht3; have HB3 := hidb hb3; clear ht3 hb3 HT2)
    | (go_at_call 11; refine (get_any HT3.out 1).mono ?_; rintro e w4 ⟨he, rfl⟩; obtain rfl : e = .returned (.tuple #[.int .i64 8, .bool true]) := he)
    | (go_at_call 12; refine (drop_any HT3.out (by decide) 1).mono ?_; rintro e w5 ⟨he, ht5, hb5⟩; obtain rfl : e = .returned (.bool true) := he; have HT5 : Hid (TB w5 w.heap.size _ []) := hidb ht5; have HB5 := hidb hb5; clear ht5 hb5 HT3)
    | (go_at_call 12; refine (drop_any HT5.out (by decide) 1).mono ?_; rintro e w6 ⟨he, ht6, hb6⟩; obtain rfl : e = .returned (.bool false) := he; have HT6 : Hid (TB w6 w.heap.size _ []) := hidb ht6; have HB6 := hidb hb6; clear ht6 hb6 HT5)
    | (go_at_call 13; refine (len_any HT6.out).mono ?_; rintro e w7 ⟨rfl, rfl⟩)
    | (go_at_call 14; refine (hgt_any HT6.out).mono ?_; rintro e w8 ⟨h, rfl, rfl, -, hh⟩; obtain rfl : h = 0 := (by simp at hh; omega); clear hh))
  go_ret
  have hb := HB1.out
  have hq : But (fun k => k = w.heap.size) w1 w8 := ((HB2.out.trans HB3.out).trans HB5.out).trans HB6.out
  exact ⟨rfl, hb.trans (hq.below hb.size (fun k e => by omega))⟩


end Go.Proofs.Ytejjffgolipdmaa
