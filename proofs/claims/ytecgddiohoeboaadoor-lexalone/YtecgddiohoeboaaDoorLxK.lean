/- The chapter's first example. -/
import Derived.Test.YtecgddiohoeboaaDoorLxJ
namespace Go.Proofs.YtecgddiohoeboaaDoor
open Go.RowKit Go.Lib
attribute [local go_sem] store_float f64bits
attribute [local go_sem ↓] Go.wp_at_zero Go.wp_at_succ

def KS : ByteArray := ⟨#[102, 40, 88, 41, 45, 62, 88, 43, 49, 46, 53, 46, 37, 101]⟩
def KT : List Tk := [⟨1, ⟨#[102]⟩, 0, 0, 0⟩, ⟨6, ⟨#[40]⟩, 0, 0, 1⟩, ⟨2, ⟨#[88]⟩, 0, 0, 2⟩, ⟨6, ⟨#[41]⟩, 0, 0, 3⟩, ⟨6, ⟨#[45, 62]⟩, 0, 0, 4⟩, ⟨2, ⟨#[88]⟩, 0, 0, 6⟩, ⟨6, ⟨#[43]⟩, 0, 0, 7⟩, ⟨4, ⟨#[]⟩, 0, 4609434218613702656, 8⟩, ⟨6, ⟨#[46]⟩, 0, 0, 11⟩, ⟨8, ⟨#[]⟩, 0, 0, 14⟩]

theorem KS_toks : allT KS = .inl KT := by kernel_rfl

set_option maxHeartbeats 1000000 in
set_option maxRecDepth 1000000 in
theorem known_any (w : World) (hT : LexTab w) : Calls Tryd.prog 9 #[] w fun e w' => e = .returned (.bool true) ∧ Below w.heap.size w w' := by
  have cT := fun W h => Tokens_any KS W h
  rw [KS_toks] at cT
  have k1 : kept ⟨#[101, 110, 100]⟩ = true := by kernel_rfl
  have k2 : kept ⟨#[101, 110, 100, 115]⟩ = false := by kernel_rfl
  go_enter Tryd.func9, Tryd.ntmps9
  go_wp2_with fail
  refine (cT _ hT).mono ?_
  rintro e w1 ⟨hTP, hb⟩
  rcases hTP with ⟨l, V, hl, rfl, how⟩ | ⟨er, p, hl, _⟩
  case inr => cases hl
  obtain rfl : KT = l := Sum.inl.inj hl
  obtain ⟨g, cap, rfl, hg, hcap, hce⟩ := own_cell how (by decide)
  have hgl : g < w1.heap.size := cell_lt (hce 0 _ rfl)
  have x35 := hce 35 _ rfl
  have x38 := hce 38 _ rfl
  have x45 := hce 45 _ rfl
  have x49 := hce 49 _ rfl
  have hlen : KT.length = 10 := rfl
  rw [hlen]
  have HB := hidb hb
  clear hce how hb hcap cT hl hlen
  go_wp2_with fail
  refine (kept_any _ _).mono ?_
  rintro e w' ⟨rfl, hw'⟩
  obtain rfl := hw'.symm
  rw [k1]
  go_wp2_with fail
  refine (kept_any _ _).mono ?_
  rintro e w' ⟨rfl, hw'⟩
  obtain rfl := hw'.symm
  rw [k2]
  go_wp2_with fail
  go_ret
  exact ⟨rfl, HB.out.alloc HB.out.size _⟩

set_option maxHeartbeats 1000000 in
theorem LexKept_walk (s : ByteArray) (w : World) (hT : LexTab w) : Calls Tryd.prog 5 #[.string s] w fun e w' => e = .returned (.bool true) ∧ Below w.heap.size w w' := by
  have cK := known_any w hT
  by_cases hl : 16384 < s.size
  · have h1 : (16384 : Int) < (s.size : Int) := by omega
    go_enter Tryd.func5, Tryd.ntmps5
    go_wp2_with (first
      | (go_at_call 9; refine cK.mono ?_; rintro e w1 ⟨rfl, hb1⟩))
    go_ret
    exact ⟨rfl, hb1⟩
  · have h1 : ¬ (16384 : Int) < (s.size : Int) := by omega
    go_enter Tryd.func5, Tryd.ntmps5
    go_wp2_with (first
      | (go_at_call 9; refine cK.mono ?_; rintro e w1 ⟨rfl, hb1⟩)
      | (go_at_call 13; refine (kept_any _ _).mono ?_; rintro e w' ⟨rfl, hw'⟩; obtain rfl := hw'.symm)
      | (go_at_call 14; refine (refKept5_any _ _).mono ?_; rintro e w' ⟨rfl, hw'⟩; obtain rfl := hw'.symm))
    go_ret
    exact ⟨by simp, hb1⟩
end Go.Proofs.YtecgddiohoeboaaDoor
