/- take: a scanner goes on over a class. -/
import Derived.Test.YtecgddiohoeboaaDoorBtw
import Derived.Test.YtecgddiohoeboaaDoorLx0
import Derived.Lib.OthersKept
import Derived.Deep.LoopGhost
import Derived.Deep.DeepMust
import Derived.RegionTactic
import Derived.Deep.RegionHeld3
import Derived.Deep.DrawnRows
import Derived.Shelf.Abstract
namespace Go.Proofs.YtecgddiohoeboaaDoor
open Go.RowKit Go.Lib
attribute [local go_sem] store_float f64bits
attribute [local go_sem ↓] Go.wp_at_zero Go.wp_at_succ

/-- A scanner: its source, and where it is. -/
def Sc (w : World) (b : Nat) (s : ByteArray) (i : Nat) : Prop := Duo w b (.string s) (.int .i64 i)

def FnAt (g : Nat) (lb : Array Value) (p : Nat → Bool) (w : World) : Prop :=
  ∀ (W : World) (x : Nat), x ≤ 1114111 → Below w.heap.size w W → Calls Tryd.prog g (#[.int .i32 (x : Int)] ++ lb) W fun e W' => e = .returned (.bool (p x)) ∧ W' = W

set_option maxHeartbeats 1000000 in
set_option maxRecDepth 1000000 in
theorem take_any (g : Nat) (lb : Array Value) (eg : ∀ args w, (callFunc g args).run Tryd.prog w = .ok (.enter g args) w) (p : Nat → Bool) (c : Bool) (hf : Flat p c) (s : ByteArray) (i b : Nat) (hi : i ≤ s.size) (hs : s.size ≤ 65536) (w : World) (h : Sc w b s i) (hp : FnAt g lb p w) :
    Calls Tryd.prog 30 #[.pointer (some ⟨b, 0, none⟩), .func (.func g) #[] lb] w fun e w' => e = .returned (.string (s.extract i (goes p s i))) ∧ Sc w' b s (goes p s i) ∧ But (· = b) w w' := by
  have c0 := h.c0; have c1 := h.c1; have f1 := h.f1
  go_enter Tryd.func30, Tryd.ntmps30
  have h0 : (0 : Int) ≤ (i : Int) := by omega
  have h1 : (i : Int) ≤ (s.size : Int) := by omega
  go_wp2_with fail
  go_region_held3 (fun w' => w'.cell? ⟨b, 0, none⟩ = some (.string s) ∧ w'.cell? ⟨b, 1, none⟩ = some (.int .i64 i)) (go_keep) (fail)
  go_wp2_with fail
  have hb0 : Below w.heap.size w (w.drew.iter (s.extract i s.size) 0) := (Below.drew (Below.refl _ _)).alloc (Nat.le_refl _) _
  have hsz : (s.extract i s.size).size = s.size - i := by rw [size_ext]; omega
  have hit0 := World.iter_heap w.drew (s.extract i s.size) 0
  have hdec : ∀ j, Utf8.decode (s.extract i s.size) j = Utf8.decode s (i + j) := decode_ext s i
  have hcut : ∀ j, j ≤ s.size - i → (s.extract i s.size).extract 0 j = s.extract i (i + j) := fun j hj => ext_ext s i j hi hj
  obtain ⟨R, hR⟩ : ∃ R, s.extract i s.size = R := ⟨_, rfl⟩
  rw [hR] at hsz hit0 hb0 ⊢
  simp only [hR] at hdec hcut
  go_loopg [] (s.size - i) (fun gf wx => ∃ pos, wx.heap[w.heap.size]? = some (.stringIter R pos) ∧ Below w.heap.size w wx ∧ pos ≤ R.size ∧ goes p s (i + pos) = goes p s i ∧ R.size - pos ≤ gf)
  case atStart => exact ⟨0, hit0, hb0, Nat.zero_le _, rfl, by omega⟩
  case round =>
    obtain ⟨pos, hit, hbw, hps, hgo, hgf⟩ := hrel
    by_cases hlt : pos < R.size
    · obtain ⟨g', rfl⟩ : ∃ g', gk = g' + 1 := ⟨gk - 1, by omega⟩
      have hnx : ∀ ty, (Instr.next (.pointer (some ⟨w.heap.size, 0, none⟩)) true ty).run Tryd.prog wr = _ := fun ty => Lib.run_next_any_at wr w.heap.size R pos ty hit hlt
      have hin := decode_in s (i + pos) (by omega)
      have hwp := Lib.width_pos s (i + pos)
      have hle := Lib.rune_le s (i + pos)
      have hr1 := fun h => goes_rune (s := s) (i := i + pos) hf (by omega) h
      have hr2 := fun h => goes_rune_not (s := s) (i := i + pos) hf (by omega) h
      rw [hdec] at hnx
      obtain ⟨r, hr⟩ : ∃ r, (Utf8.decode s (i + pos)).1 = r := ⟨_, rfl⟩
      obtain ⟨K, hK⟩ : ∃ K, (Utf8.decode s (i + pos)).2 = K := ⟨_, rfl⟩
      rw [hr] at hnx hle hr1 hr2
      rw [hK] at hnx hin hwp hr1
      have hit2 := Lib.iterAt_heap wr w.heap.size R pos (pos + K) hit
      have hbw2 := Lib.below_iterAt hbw (k := w.heap.size) (Nat.le_refl _) R (pos + K)
      obtain ⟨W, hWd⟩ : ∃ W, wr.iterAt w.heap.size R (pos + K) = W := ⟨_, rfl⟩
      rw [hWd] at hnx hit2 hbw2
      have cS := hp W r hle hbw2
      have hD : Duo W b (.string s) (.int .i64 i) := h.keep hbw2
      have d0 := hD.c0; have d1 := hD.c1; have d2 := hD.f1
      clear hp hit hbw hr hK hWd c0 c1 f1
      cases hpr : p r <;> rw [hpr] at cS
      · have hgs := hr2 hpr
        have hcp := hcut pos (by omega)
        have ha : (0 : Int) ≤ (pos : Int) := by omega
        have hb : (pos : Int) ≤ (R.size : Int) := by omega
        have hw : wrap64 ((i : Int) + (pos : Int)) = ((i + pos : Nat) : Int) := by unfold wrap64; omega
        clear hr1 hr2 hcut hdec
        go_wp2_with (go_at_fn g; go_must (refine cS.mono ?_; rintro e W' ⟨rfl, hW'⟩; obtain rfl := hW'.symm))
        have hg : goes p s i = i + pos := hgo.symm.trans hgs
        go_ret
        refine ⟨by rw [hg]; rfl, ?_, ?_⟩
        · rw [hg]
          have := hD.set1 (.int .i64 ((i : Int) + (pos : Int)))
          simpa [Sc] using this
        · exact (But.of_below (S := (· = b)) hbw2).setCell (fun _ => rfl) _
      · have hgs := hr1 hpr
        clear hr1 hr2 hcut hdec
        go_wp2_with (go_at_fn g; go_must (refine cS.mono ?_; rintro e W' ⟨rfl, hW'⟩; obtain rfl := hW'.symm))
        go_roundg g'
        case measure => omega
        case rel => exact ⟨pos + K, hit2, hbw2, by omega, by rw [← Nat.add_assoc, ← hgs]; exact hgo, by omega⟩
    · obtain rfl : pos = R.size := by omega
      have hnx : ∀ ty, (Instr.next (.pointer (some ⟨w.heap.size, 0, none⟩)) true ty).run Tryd.prog wr = _ := fun ty => Lib.run_next_end_at wr w.heap.size R R.size ty hit hlt
      have hD : Duo wr b (.string s) (.int .i64 i) := h.keep hbw
      have d0 := hD.c0; have d1 := hD.c1; have d2 := hD.f1
      clear hp c0 c1 f1
      go_wp2_with fail
      have hg : goes p s i = s.size := by rw [← hgo, goes_end (by omega)]; omega
      go_ret
      refine ⟨by rw [hg, hR]; rfl, ?_, ?_⟩
      · rw [hg]
        exact hD.set1 (.int .i64 (s.size : Int))
      · exact (But.of_below (S := (· = b)) hbw).setCell (fun _ => rfl) _
end Go.Proofs.YtecgddiohoeboaaDoor
