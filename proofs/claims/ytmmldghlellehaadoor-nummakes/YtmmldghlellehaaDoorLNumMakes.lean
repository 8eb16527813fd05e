/- The walk of NumMakes: it returns true, and nothing that was there has turned. -/
import Derived.Test.YtmmldghlellehaaDoorK1
namespace Go.Proofs.YtmmldghlellehaaDoor
open Go.RowKit
attribute [local go_sem] store_float

set_option maxHeartbeats 2000000 in
theorem numMakes_any (n : Int) (u : Nat) (hu : u < 18446744073709551616) (w : World) (ht : w.cell? ⟨4, 15, none⟩ = some (.int .u8 4)) :
    Calls Tryd.prog 3 #[.int .i64 n, .int .u64 u] w fun e w' => e = .returned (.bool true) ∧ Below w.heap.size w w' := by
  have hfb := f64frombits
  go_enter Tryd.func3, Tryd.ntmps3
  go_wp2_with fail
  refine (known_any _ ht).mono ?_
  rintro e w1 ⟨rfl, hb1⟩
  clear ht
  go_wp2_with fail
  refine (numInt_any _ _).mono ?_
  rintro e w2 ⟨rfl, hb2⟩
  have hW2 : Below w.heap.size w w2 := bthen hb1 hb2
  clear hb1 hb2
  go_wp2_with fail
  refine (refInt_any _ _).mono ?_
  rintro e w3 ⟨rfl, hb3⟩
  obtain ⟨BA, hk, hW3⟩ := boxStep hW2 hb3
  have hlA := hW2.size
  clear hb3 hk hW2
  generalize w2.heap.size = A at *
  have BA' := BA
  obtain ⟨a0, a1, a2, a3, a4, _, _, _, _, _, al⟩ := BA'
  have HBA := hid BA
  clear BA
  go_wp2_with fail
  refine (same_true _ _ _ _).mono ?_
  rintro e w4 ⟨rfl, hb4⟩
  clear a0 a1 a2 a3 a4 al
  obtain ⟨BB, hk, hW4⟩ := boxStep hW3 hb4
  have BA4 := HBA.out.keep hk
  have hlB := hW3.size
  have hne : A ≠ w3.heap.size := Nat.ne_of_lt HBA.out.lt
  clear hb4 hk hW3 HBA
  generalize w3.heap.size = B at *
  have HBA := hid BA4
  have HBB := hid BB
  have HNE := hid hne
  clear BA4 BB hne
  go_wp2_with fail
  refine (numFloat_any u hu _).mono ?_
  rintro e w5 ⟨rfl, hb5⟩
  have BA5 := HBA.out.keep hb5
  have BB5 := HBB.out.keep hb5
  have hW5 : Below w.heap.size w w5 := bthen hW4 hb5
  clear hb5 HBA HBB hW4
  have HBB := hid BB5
  have HBA := hid BA5
  obtain ⟨a0, a1, a2, a3, a4, f0, f1, f2, f3, f4, al⟩ := BA5
  clear BB5
  go_wp2_with fail
  refine (refFloat_any u _).mono ?_
  rintro e w6 ⟨rfl, hb6⟩
  have BA6 := (HBA.out.set _ _ _ _ _).keep hb6
  have BB6 := (HBB.out.other HNE.out _ _ _ _ _).keep hb6
  have hW6 : Below w.heap.size w w6 := bthen (below_set5 hW5 hlA _ _ _ _ _) hb6
  clear a0 a1 a2 a3 a4 f0 f1 f2 f3 f4 al hb6 HBA HBB hW5
  have HBA := hid BA6
  have HBB := hid BB6
  obtain ⟨a0, a1, a2, a3, a4, _, _, _, _, _, al⟩ := BA6
  obtain ⟨b0, b1, b2, b3, b4, f0, f1, f2, f3, f4, bl⟩ := BB6
  have hne1 : ¬ A = B := HNE.out
  have hne2 : ¬ B = A := fun h => HNE.out h.symm
  go_wp2_with fail
  refine (same_true _ _ _ _).mono ?_
  rintro e w7 ⟨rfl, hb7⟩
  have BA7 := (HBA.out.other (Ne.symm HNE.out) _ _ _ _ _).keep hb7
  have BB7 := (HBB.out.set _ _ _ _ _).keep hb7
  have hW7 : Below w.heap.size w w7 := bthen (below_set5 hW6 hlB _ _ _ _ _) hb7
  clear a0 a1 a2 a3 a4 al b0 b1 b2 b3 b4 f0 f1 f2 f3 f4 bl hb7 HBA HBB hW6
  have HBA := hid BA7
  have HBB := hid BB7
  clear BA7 BB7
  go_wp2_with fail
  refine (numBits_any u hu _).mono ?_
  rintro e w8 ⟨rfl, hb8⟩
  have BA8 := HBA.out.keep hb8
  have BB8 := HBB.out.keep hb8
  have hW8 : Below w.heap.size w w8 := bthen hW7 hb8
  clear hb8 HBA HBB hW7
  obtain ⟨a0, a1, a2, a3, a4, f0, f1, f2, f3, f4, al⟩ := BA8
  obtain ⟨b0, b1, b2, b3, b4, _, _, _, _, _, bl⟩ := BB8
  go_wp2_with fail
  refine (same_true _ _ _ _).mono ?_
  rintro e w9 ⟨rfl, hb9⟩
  have hW9 : Below w.heap.size w w9 := bthen (below_set5 hW8 hlA _ _ _ _ _) hb9
  clear a0 a1 a2 a3 a4 al b0 b1 b2 b3 b4 f0 f1 f2 f3 f4 bl hb9
  go_wp2
  go_ret
  exact ⟨rfl, hW9⟩
end Go.Proofs.YtmmldghlellehaaDoor
