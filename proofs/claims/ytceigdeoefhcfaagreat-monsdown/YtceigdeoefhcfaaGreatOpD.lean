import Derived.Test.YtceigdeoefhcfaaGreatG37
import Derived.Test.YtceigdeoefhcfaaGreatRows
import Derived.ChangeSlices
import Derived.ProofKit
import Derived.OpenShut
/- A row of moves that is handed in, opened. -/
namespace Go.Proofs.YtceigdeoefhcfaaGreat
open Go.ChangeShapes Go.WideShapes Go.ChangeAt Go.WideMaps Go.WideElems Go.RowKit

theorem add_plain (b o m : Nat) : (⟨b, o, none⟩ : Addr).add m = ⟨b, o + m, none⟩ := by unfold Addr.add; split <;> simp_all

theorem mov_size : Tryz.prog.cellsOf 34 = 2 := by kernel_rfl
theorem int_size : Tryz.prog.cellsOf 3 = 1 := by kernel_rfl

set_option maxRecDepth 100000 in
theorem open_mov {H : Type} {enc : TypeId × Value → H} {w : World} {base : Nat} {spare : Nat → Bool} {held : Bool} {fuel : Nat} {cs : List Value} {x : DataW H × List MemPlace} (h : DataW.trod enc Tryz.prog w base spare held fuel 34 cs = some x) :
    ∃ t : Int × Int, cs = [.int .i64 t.1, .int .i64 t.2] := by
  obtain ⟨xs, n, hn, hx, hlen, hxl, hf⟩ := DataW.trod_struct Tryz.underlying34 h
  rw [mov_size] at hlen
  match xs, hxl, cs, hlen with
  | [y0, y1], _, [v0, v1], _ =>
    have g0 := hf 0 _ rfl
    have g1 := hf 1 _ rfl
    simp [int_size] at g0 g1
    obtain ⟨k, e0, _, w0⟩ := DataW.trod_int Tryz.underlying3 g0
    obtain ⟨m, e1, _, w1⟩ := DataW.trod_int Tryz.underlying3 g1
    obtain rfl : v0 = .int .i64 k := by simpa using e0
    obtain rfl : v1 = .int .i64 m := by simpa using e1
    exact ⟨(k, m), rfl⟩

theorem open_mrow {H : Type} {enc : TypeId × Value → H} {w : World} {base : Nat} {spare : Nat → Bool} {held : Bool} {fuel : Nat} {cs : List Value} {x : DataW H × List MemPlace} (h : DataW.trod enc Tryz.prog w base spare held fuel 22 cs = some x) :
    ∃ (q : Option Addr) (c : Nat) (l : List (Int × Int)), cs = [.slice q l.length c] ∧ MC w (.slice q l.length c) l := by
  rcases DataW.trod_slice Tryz.underlying22 h with ⟨e4, _⟩ | ⟨a, len, cap, elems, rest, q, hq, e4, hy4, hb, hl, hm, hel, hx4, _, _⟩
  · exact ⟨none, 0, [], e4, none, 0, rfl, fun j x hj => by simp at hj⟩
  · have each : ∀ i, i < len → ∃ t : Int × Int, (∀ j, j < 2 → w.cell? ((a.add (i * 2)).add j) = [Value.int .i64 t.1, .int .i64 t.2][j]?) := by
      intro i hi
      have hb := hx4 i hi
      have hsome : elems[i]? = some (elems[i]'(by omega)) := List.getElem?_eq_getElem (by omega)
      rw [hsome, mov_size, Option.bind_eq_some_iff] at hb
      obtain ⟨cs', hc, ht⟩ := hb
      obtain ⟨t, ht1⟩ := open_mov ht
      refine ⟨t, fun j hj => ?_⟩
      have := (World.cells?_some hc).2.2 j hj
      rw [this, ht1]
    obtain ⟨tf, htf⟩ : ∃ tf : Nat → Int × Int, ∀ i, i < len → (∀ j, j < 2 → w.cell? ((a.add (i * 2)).add j) = [Value.int .i64 (tf i).1, .int .i64 (tf i).2][j]?) := by
      refine ⟨fun i => if h : i < len then Classical.choose (each i h) else (0, 0), fun i hi => ?_⟩
      simp only [hi, dif_pos]
      exact Classical.choose_spec (each i hi)
    refine ⟨some a, cap, (List.range len).map tf, by rw [e4]; simp, some a, cap, rfl, fun j t hj => ?_⟩
    have hj' : j < len := by
      rcases Nat.lt_or_ge j len with h | h
      · exact h
      · rw [List.getElem?_eq_none (by simpa using h)] at hj; simp at hj
    rw [List.getElem?_map, List.getElem?_range hj'] at hj
    obtain rfl : tf j = t := by simpa using hj
    have c0 := (htf j hj') 0 (by omega)
    have c1 := (htf j hj') 1 (by omega)
    simp only [List.getElem?_cons_zero, List.getElem?_cons_succ] at c0 c1
    have z0 := (htf 0 (by omega)) 0 (by omega)
    simp only [List.getElem?_cons_zero] at z0
    have hsp := World.cell?_spot z0
    obtain ⟨blk, off, spot⟩ := a
    have hspot : spot = none := by simpa [Addr.add] using hsp
    subst hspot
    rw [add_plain, add_plain] at c0 c1
    exact ⟨blk, off, rfl, c0, c1⟩
end Go.Proofs.YtceigdeoefhcfaaGreat


