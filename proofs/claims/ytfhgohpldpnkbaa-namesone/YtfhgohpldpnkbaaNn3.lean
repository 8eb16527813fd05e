/- The document's registry: Register. -/
import Derived.Test.YtfhgohpldpnkbaaNn2
import Derived.Test.YtfhgohpldpnkbaaNm5
namespace Go.Proofs.Ytfhgohpldpnkbaa
open Go.RowKit Go.Lib Go.Maps

theorem ntl {R : List NP} {n i : Nat} (h : R.length = n) (hi : i ≤ n) : (nms (R.take i)).length = i * 1 := by simp; omega
theorem ptl {R : List NP} {n i : Nat} (h : R.length = n) (hi : i ≤ n) : (pds (R.take i)).length = i * 1 := by simp; omega
theorem ndl {R : List NP} {n i : Nat} (h : R.length = n) (_ : i ≤ n) : (nms (R.drop i)).length = (n - i) * 1 := by simp; omega
theorem pdl {R : List NP} {n i : Nat} (h : R.length = n) (_ : i ≤ n) : (pds (R.drop i)).length = (n - i) * 1 := by simp; omega
theorem But.of_grown1 {w w' : World} {row : Option Nat} (h : w.grownBy w' row) : But (fun k => row = some k) w w' := ⟨h.os, h.tape, h.output, h.size, fun k hk hs => h.block k hk (fun e => hs e.symm)⟩
theorem after5 {w Y4 Y5 : World} {B m4 : Nat} {V2 V4 V5 : Value} {xs4 : List Value} (h4 : Y4.ownsRow B IT 1 V4 m4 xs4) (hb : Below w.heap.size w Y4) (hlt : ∀ k, V2.ownBlock = some k → w.heap.size ≤ k ∧ k < B) (hg : Y4.grownBy Y5 V2.ownBlock) (hat : V5.ownBlock = V2.ownBlock ∨ V5.ownBlock = some Y4.heap.size) :
    Below w.heap.size w Y5 ∧ Y5.ownsRow B IT 1 V4 m4 xs4 ∧ ∀ k, V5.ownBlock = some k → V4.ownBlock ≠ some k := by
  refine ⟨hb.grown hg hb.size (fun k e => (hlt k e).1), row_but h4 (But.of_grown1 hg) (fun k e e' => ?_), fun k e e' => ?_⟩
  · have := (hlt k e').2
    have := (h4.lt k e).1
    omega
  · have h1 := h4.lt k e'
    rcases hat with a | a
    · rw [a] at e
      have := (hlt k e).2
      omega
    · rw [a] at e
      simp at e
      omega
theorem rn_end {w Z5 Y6 : World} {r B n0 n1 nn : Nat} {V1 V4 V5 V6 : Value} {xs ys ys1 : List Value} {E : Nat → Prop} {R' : List NP} (hr : r < w.heap.size) (hB : w.heap.size ≤ B) (hF : Fd Z5 r V5 V1 n0 nn xs ys) (hbt : But (fun k => k = r) w Z5) (hg5 : ∀ k, V5.ownBlock = some k → w.heap.size ≤ k ∧ k < Z5.heap.size)
    (hV4 : ∀ k, V4.ownBlock = some k → B ≤ k) (hsep : ∀ k, V5.ownBlock = some k → V4.ownBlock ≠ some k) (hg : Z5.grownBy Y6 V4.ownBlock) (h6 : Y6.ownsRow B IT 1 V6 n1 ys1) (e0 : xs = nms R') (e1 : ys1 = pds R') :
    RU w (Y6.setCell ⟨r, 1, none⟩ V6) r E R' ∧ Y6.cell? ⟨r, 1, none⟩ = some V1 ∧ Y6.frozen? ⟨r, 1, none⟩ = false := by
  subst e0 e1
  have hb := But.of_grown1 hg
  have hd : Duo Y6 r V5 V1 := hF.duo.but hb (fun e => by have := hV4 r e; omega)
  have hs : But (fun k => k = r) Y6 (Y6.setCell ⟨r, 1, none⟩ V6) := (But.refl (fun k => k = r) Y6).setCell (p := ⟨r, 1, none⟩) (fun _ => rfl) _
  have l0 : n0 = R'.length := by have := hF.o0.1; simpa using this.symm
  have l1 : n1 = R'.length := by have := h6.1; simpa using this.symm
  have hsz := hg.size
  have hs1 := hbt.size
  have ho0 := row_but (row_but hF.o0 hb (fun k e e' => hsep k e e')) hs (fun k e e' => hF.d0 (e' ▸ e))
  have ho1 := row_base (row_but h6 hs (fun k e e' => by have := (h6.lt k e).1; omega)) (Nat.zero_le _)
  refine ⟨⟨⟨hs.os.trans (hb.os.trans hbt.os), hs.tape.trans (hb.tape.trans hbt.tape), hs.output.trans (hb.output.trans hbt.output), Nat.le_trans hs1 (Nat.le_trans hsz hs.size), fun k hk hn => ?_⟩, V5, V6, hd.set1 _, by rw [← l0]; exact ho0, by rw [← l1]; exact ho1, fun k e => ⟨.inr ⟨(hg5 k e).1, by have := (hg5 k e).2; simp; omega⟩, fun e' => hF.d0 (e' ▸ e)⟩, fun k e => ⟨.inr ⟨by have := (h6.lt k e).1; omega, by have := (h6.lt k e).2; simp; omega⟩, fun e' => by have := (h6.lt k e).1; omega⟩⟩, hd.c1, hd.f1⟩
  exact (hs.block k (by omega) hn).trans ((hb.block k (by omega) (fun e => by have := hV4 k e; omega)).trans (hbt.block k hk hn))
theorem ins_names (R : List NP) (s : ByteArray) (p : Int) : nms (R.take (plc R s)) ++ [.string s] ++ nms (R.drop (plc R s)) = nms (insN R s p) := by
  unfold insN; simp
theorem ins_pids (R : List NP) (s : ByteArray) (p : Int) : pds (R.take (plc R s)) ++ [.int .i64 p] ++ pds (R.drop (plc R s)) = pds (insN R s p) := by
  unfold insN; simp
theorem plc_hit {R : List NP} {s : ByteArray} {i : Nat} {y : NP} (h : i ≤ plc R s) (hy : R[i]? = some y) (hl : ltT y.1 s = false) : plc R s = i := (idx_hit (f := fun x : NP => !ltT x.1 s) h hy (by simp [hl])).1
theorem plc_miss {R : List NP} {s : ByteArray} {i : Nat} {y : NP} (h : i ≤ plc R s) (hy : R[i]? = some y) (hl : ltT y.1 s = true) : i + 1 ≤ plc R s := idx_miss (f := fun x : NP => !ltT x.1 s) h hy (by simp [hl])

end Go.Proofs.Ytfhgohpldpnkbaa
