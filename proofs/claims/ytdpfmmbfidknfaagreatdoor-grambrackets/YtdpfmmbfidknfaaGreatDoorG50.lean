import Derived.Test.YtdpfmmbfidknfaaGreatDoorG49
import Derived.Test.YtdpfmmbfidknfaaGreatDoorG46
import Derived.Test.YtdpfmmbfidknfaaGreatDoorG45
import Derived.Test.YtdpfmmbfidknfaaGreatDoorG20
import Derived.Deep.LoopGhost
/- A region that draws its order: operations with a guard. -/
namespace Go.Proofs.YtdpfmmbfidknfaaGreatDoor
section
variable {P : Program} {md : Region.Mode} {Q : Exit → Act → World → Prop} {S : World → Prop} {D : List Nat}
/-- A guarded operation that is wanted. -/
theorem wpAnyD_takeG {l : List Oper} {i : Nat} {oi : Oper} {v : Value} {fuel : Nat} {listed : Array Bool} {a : Act} {w : World} (hi : l[i]? = some oi)
    (hs : Region.noSelect l.toArray = true) (hf : Region.free md l.toArray listed i = true) (hr : (Region.ready md l.toArray listed).contains i = true) (hD : D.all (waitsB md l.toArray i) = true)
    (hQ : ∀ c a w, Q (.panic c) (a.put oi.dst v) w → Q (.panic c) a w) (hS : S w) (hw : Region.wanted oi (yielded l.toArray a.tmps) = true) (hy : ∀ w, S w → (execOp a.eval oi).run P w = .ok (.value v) w)
    (h : wpAnyD P md l.toArray Q S D fuel (listed.setIfInBounds i true) (a.put oi.dst v) w) : wpAnyD P md l.toArray Q S D (fuel + 1) listed a w :=
  wpAnyD_take (by simpa using hi) hs hf hr hD hQ hS (.inl ⟨hw, hy⟩) h
/-- One that is not. -/
theorem wpAnyD_skipG {l : List Oper} {i : Nat} {oi : Oper} {fuel : Nat} {listed : Array Bool} {a : Act} {w : World} (hi : l[i]? = some oi)
    (hs : Region.noSelect l.toArray = true) (hf : Region.free md l.toArray listed i = true) (hr : (Region.ready md l.toArray listed).contains i = true) (hD : D.all (waitsB md l.toArray i) = true)
    (hQ : ∀ c a w, Q (.panic c) (a.put oi.dst undef) w → Q (.panic c) a w) (hS : S w) (hw : Region.wanted oi (yielded l.toArray a.tmps) = false)
    (h : wpAnyD P md l.toArray Q S D fuel (listed.setIfInBounds i true) (a.put oi.dst undef) w) : wpAnyD P md l.toArray Q S D (fuel + 1) listed a w :=
  wpAnyD_take (by simpa using hi) hs hf hr hD hQ hS (.inr ⟨hw, rfl⟩) h
end
end Go.Proofs.YtdpfmmbfidknfaaGreatDoor


/- GramBrackets: is there the byte that begins a comment. -/
namespace Go.Proofs.YtdpfmmbfidknfaaGreatDoor
open Go.RowKit Go.Lib
attribute [local go_sem] store_float f64bits
attribute [local go_sem ↓] Go.wp_at_zero Go.wp_at_succ

set_option maxHeartbeats 1000000 in
theorem comment_any (s : ByteArray) (hs : s.size ≤ 65536) (hc : ∃ c ∈ s.data.toList, c = 37) (w : World) : Calls Tryz.prog 7 #[.string s] w fun e w' => e = .returned (.bool true) ∧ w' = w := by
  obtain ⟨k, hk, hb37⟩ : ∃ k, k < s.size ∧ bt s k = 37 := by
    obtain ⟨c, hm, rfl⟩ := hc
    obtain ⟨k, hk⟩ := List.getElem?_of_mem hm
    obtain ⟨hl, he⟩ := List.getElem?_eq_some_iff.1 hk
    have hl' : k < s.size := by have h := hl; rw [Array.length_toList] at h; exact h
    refine ⟨k, hl', ?_⟩
    rw [bt, get_of_lt s k hl']
    have : s[k]'hl' = 37 := by
      rw [← he]
      rfl
    rw [this]
    rfl
  go_enter Tryz.func7, Tryz.ntmps7
  go_wp2_with fail
  go_loopg [3] s.size (fun gf s1 wx => ∃ p : Nat, s1 = .int .i64 (p : Int) ∧ p ≤ k ∧ s.size - p ≤ gf ∧ wx = w)
  case atStart => exact ⟨0, rfl, by omega, by omega, rfl⟩
  case round =>
    obtain ⟨p, rfl, hp, hgf, hwx⟩ := hrel
    obtain rfl := hwx.symm
    obtain ⟨g', rfl⟩ : ∃ g', gk = g' + 1 := ⟨gk - 1, by omega⟩
    have i0 : (0 : Int) ≤ (p : Int) := by omega
    have i1 : (p : Int) < (s.size : Int) := by omega
    have hb := fun h => at_byte s p h
    have hne : bt s p ≠ 37 → p ≠ k := fun h e => h (e ▸ hb37)
    obtain ⟨c, hc⟩ : ∃ c, bt s p = c := ⟨_, rfl⟩
    simp only [hc] at hb
    rw [hc] at hne
    clear hb37 hc
    by_cases h37 : c = 37
    · subst h37
      go_wp2_with fail
      go_ret
      exact ⟨rfl, rfl⟩
    · have hpk := hne h37
      have j37 : ¬ (c : Int) = 37 := by omega
      clear hne
      go_wp2_with fail
      go_roundg g'
      case measure => omega
      case rel => exact ⟨p + 1, by simp, by omega, by omega, rfl⟩
end Go.Proofs.YtdpfmmbfidknfaaGreatDoor


