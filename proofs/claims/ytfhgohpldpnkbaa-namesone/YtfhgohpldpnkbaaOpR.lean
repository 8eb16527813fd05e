/- A row of acts with a name and a pid that is handed in, opened. -/
import Derived.Test.YtfhgohpldpnkbaaNq0
import Derived.Test.YtfhgohpldpnkbaaRows
import Derived.ChangeSlices
import Derived.ProofKit
import Derived.OpenShut
namespace Go.Proofs.Ytfhgohpldpnkbaa
open Go.ChangeShapes Go.WideShapes Go.ChangeAt Go.WideMaps Go.WideElems Go.RowKit

theorem add_plain (b o m : Nat) : (⟨b, o, none⟩ : Addr).add m = ⟨b, o + m, none⟩ := by unfold Addr.add; split <;> simp_all
theorem act_size : Try.prog.cellsOf 32 = 3 := by kernel_rfl
theorem int_size : Try.prog.cellsOf 3 = 1 := by kernel_rfl
theorem str_size : Try.prog.cellsOf 9 = 1 := by kernel_rfl

theorem open_act {H : Type} {enc : TypeId × Value → H} {w : World} {base : Nat} {spare : Nat → Bool} {held : Bool} {fuel : Nat} {cs : List Value} {x : DataW H × List MemPlace} (h : DataW.trod enc Try.prog w base spare held fuel 32 cs = some x) :
    ∃ t : Act3, cs = [.int .i64 t.op, .string t.nm, .int .i64 t.pid] ∧ OkA t := by
  obtain ⟨xs, n, hn, hx, hlen, hxl, hf⟩ := DataW.trod_struct Try.underlying32 h
  rw [act_size] at hlen
  match xs, hxl, cs, hlen with
  | [y0, y1, y2], _, [v0, v1, v2], _ =>
    have g0 := hf 0 _ rfl
    have g1 := hf 1 _ rfl
    have g2 := hf 2 _ rfl
    simp [int_size, str_size] at g0 g1 g2
    obtain ⟨k, e0, _, w0⟩ := DataW.trod_int Try.underlying3 g0
    obtain ⟨z, e1, _, w1⟩ := DataW.trod_string Try.underlying9 g1
    obtain ⟨f, e2, _, w2⟩ := DataW.trod_int Try.underlying3 g2
    obtain rfl : v0 = .int .i64 k := by simpa using e0
    obtain rfl : v1 = .string z := by simpa using e1
    obtain rfl : v2 = .int .i64 f := by simpa using e2
    exact ⟨⟨k, z, f⟩, rfl, w1, w2⟩

theorem open_arow {H : Type} {enc : TypeId × Value → H} {w : World} {base : Nat} {spare : Nat → Bool} {held : Bool} {fuel : Nat} {cs : List Value} {x : DataW H × List MemPlace} (h : DataW.trod enc Try.prog w base spare held fuel 22 cs = some x) :
    ∃ (q : Option Addr) (c : Nat) (l : List Act3), cs = [.slice q l.length c] ∧ AC w (.slice q l.length c) l ∧ ∀ t ∈ l, OkA t := by
  rcases DataW.trod_slice Try.underlying22 h with ⟨e4, _⟩ | ⟨a, len, cap, elems, rest, q, hq, e4, hy4, hb, hl, hm, hel, hx4, _, _⟩
  · exact ⟨none, 0, [], e4, ⟨none, 0, rfl, fun j x hj => by simp at hj⟩, fun x hx => by simp at hx⟩
  · have each : ∀ i, i < len → ∃ t : Act3, (∀ j, j < 3 → w.cell? ((a.add (i * 3)).add j) = [Value.int .i64 t.op, .string t.nm, .int .i64 t.pid][j]?) ∧ OkA t := by
      intro i hi
      have hb := hx4 i hi
      have hsome : elems[i]? = some (elems[i]'(by omega)) := List.getElem?_eq_getElem (by omega)
      rw [hsome, act_size, Option.bind_eq_some_iff] at hb
      obtain ⟨cs', hc, ht⟩ := hb
      obtain ⟨t, ht1, ht2⟩ := open_act ht
      refine ⟨t, fun j hj => ?_, ht2⟩
      have := (World.cells?_some hc).2.2 j hj
      rw [this, ht1]
    obtain ⟨tf, htf⟩ : ∃ tf : Nat → Act3, ∀ i, i < len → (∀ j, j < 3 → w.cell? ((a.add (i * 3)).add j) = [Value.int .i64 (tf i).op, .string (tf i).nm, .int .i64 (tf i).pid][j]?) ∧ OkA (tf i) := by
      refine ⟨fun i => if h : i < len then Classical.choose (each i h) else ⟨0, ⟨#[]⟩, 0⟩, fun i hi => ?_⟩
      simp only [hi, dif_pos]
      exact Classical.choose_spec (each i hi)
    refine ⟨some a, cap, (List.range len).map tf, by rw [e4]; simp, ⟨some a, cap, rfl, fun j t hj => ?_⟩, fun t ht => ?_⟩
    · have hj' : j < len := by
        rcases Nat.lt_or_ge j len with h | h
        · exact h
        · rw [List.getElem?_eq_none (by simpa using h)] at hj; simp at hj
      rw [List.getElem?_map, List.getElem?_range hj'] at hj
      obtain rfl : tf j = t := by simpa using hj
      have c0 := (htf j hj').1 0 (by omega)
      have c1 := (htf j hj').1 1 (by omega)
      have c2 := (htf j hj').1 2 (by omega)
      simp only [List.getElem?_cons_zero, List.getElem?_cons_succ] at c0 c1 c2
      have z0 := (htf 0 (by omega)).1 0 (by omega)
      simp only [List.getElem?_cons_zero] at z0
      have hsp := World.cell?_spot z0
      obtain ⟨blk, off, spot⟩ := a
      have hspot : spot = none := by simpa [Addr.add] using hsp
      subst hspot
      rw [add_plain, add_plain] at c0 c1 c2
      exact ⟨blk, off, rfl, c0, c1, c2⟩
    · obtain ⟨i, hi, rfl⟩ := List.mem_map.1 ht
      exact (htf i (by simpa using hi)).2
end Go.Proofs.Ytfhgohpldpnkbaa
