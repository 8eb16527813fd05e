/- The walk of NumFinite. -/
import Derived.Test.YtihkabgoaejcgaaDoorF2
import Derived.Test.YtihkabgoaejcgaaDoorFA
import Derived.LoopTactic
import Derived.OwnWalk
import Derived.Deep.DeepCutAuto
import Derived.Deep.CutRange
import Derived.Deep.DrawnRows
import Derived.Deep.RegionHeld3
namespace Go.Proofs.YtihkabgoaejcgaaDoor
open Go.RowKit Go.Sort
attribute [local go_sem] store_float
attribute [local go_sem ↓] Go.wp_at_zero Go.wp_at_succ

/-- a row of right numbers in memory -/
structure Row (W : World) (g len : Nat) : Prop where
  lt : g < W.heap.size
  at_ : ∀ j, j < len → ∃ (k n : Int) (f : Nat), Num k n f ∧ W.cell? ⟨g, j * 5, none⟩ = some (.int .i64 k) ∧ W.cell? ⟨g, j * 5 + 1, none⟩ = some (.int .i64 n) ∧ W.cell? ⟨g, j * 5 + 2, none⟩ = some (.float .f64 f) ∧ W.cell? ⟨g, j * 5 + 3, none⟩ = some (.string ⟨#[]⟩) ∧ W.cell? ⟨g, j * 5 + 4, none⟩ = some (.slice none 0 0)

/-- the signs in memory -/
structure Signs (W : World) (g : Nat) : Prop where
  lt : g < W.heap.size
  at_ : ∀ s, s < 6 → ∃ b : ByteArray, W.cell? ⟨g, s, none⟩ = some (.string b) ∧ ((b = ⟨#[43]⟩ ∨ b = ⟨#[42]⟩) ∨ ((b.toList == [43]) = false ∧ (b.toList == [42]) = false ∧ (b = ⟨#[45]⟩ ∨ b = ⟨#[47]⟩ ∨ b = ⟨#[100, 105, 118]⟩ ∨ b = ⟨#[114, 101, 109]⟩)))

theorem Row.keep {W w' : World} {g len : Nat} (h : Row W g len) (hb : Below W.heap.size W w') : Row w' g len :=
  ⟨Nat.lt_of_lt_of_le h.lt hb.size, fun j hj => by
    obtain ⟨k, n, f, hn, c0, c1, c2, c3, c4⟩ := h.at_ j hj
    exact ⟨k, n, f, hn, (hb.cell h.lt).trans c0, (hb.cell h.lt).trans c1, (hb.cell h.lt).trans c2, (hb.cell h.lt).trans c3, (hb.cell h.lt).trans c4⟩⟩

theorem Signs.keep {W w' : World} {g : Nat} (h : Signs W g) (hb : Below W.heap.size W w') : Signs w' g :=
  ⟨Nat.lt_of_lt_of_le h.lt hb.size, fun s hs => by
    obtain ⟨b, c0, hh⟩ := h.at_ s hs
    exact ⟨b, (hb.cell h.lt).trans c0, hh⟩⟩

/-- what Op tells of two numbers of the row -/
theorem tells_same {b : ByteArray} {ka na kb nb : Int} {fa fb : Nat} (h : b = ⟨#[43]⟩ ∨ b = ⟨#[42]⟩) (ha : Num ka na fa) (hb : Num kb nb fb) : ∃ r, Told r ∧ (∀ w, Calls Tryd.prog 17 #[.string b, .agg #[.int .i64 (ka), .int .i64 (na), .float .f64 (fa), .string ⟨#[]⟩, .slice none 0 0], .agg #[.int .i64 (kb), .int .i64 (nb), .float .f64 (fb), .string ⟨#[]⟩, .slice none 0 0]] w fun e w' => e = .returned (.tuple #[.agg #[.int .i64 (r.k), .int .i64 (r.n), .float .f64 (r.f), .string ⟨#[]⟩, .slice none 0 0], .int .i64 r.e]) ∧ Below w.heap.size w w') ∧ (∀ w, Calls Tryd.prog 17 #[.string b, .agg #[.int .i64 (kb), .int .i64 (nb), .float .f64 (fb), .string ⟨#[]⟩, .slice none 0 0], .agg #[.int .i64 (ka), .int .i64 (na), .float .f64 (fa), .string ⟨#[]⟩, .slice none 0 0]] w fun e w' => e = .returned (.tuple #[.agg #[.int .i64 (r.k), .int .i64 (r.n), .float .f64 (r.f), .string ⟨#[]⟩, .slice none 0 0], .int .i64 r.e]) ∧ Below w.heap.size w w') := by
  rcases h with rfl | rfl
  · exact tells_0 ha hb
  · exact tells_2 ha hb

theorem tells_other {b : ByteArray} {ka na kb nb : Int} {fa fb : Nat} (h : b = ⟨#[45]⟩ ∨ b = ⟨#[47]⟩ ∨ b = ⟨#[100, 105, 118]⟩ ∨ b = ⟨#[114, 101, 109]⟩) (ha : Num ka na fa) (hb : Num kb nb fb) : ∃ r, Told r ∧ (∀ w, Calls Tryd.prog 17 #[.string b, .agg #[.int .i64 (ka), .int .i64 (na), .float .f64 (fa), .string ⟨#[]⟩, .slice none 0 0], .agg #[.int .i64 (kb), .int .i64 (nb), .float .f64 (fb), .string ⟨#[]⟩, .slice none 0 0]] w fun e w' => e = .returned (.tuple #[.agg #[.int .i64 (r.k), .int .i64 (r.n), .float .f64 (r.f), .string ⟨#[]⟩, .slice none 0 0], .int .i64 r.e]) ∧ Below w.heap.size w w') := by
  rcases h with rfl | rfl | rfl | rfl
  · exact tells_1 ha hb
  · exact tells_3 ha hb
  · exact tells_4 ha hb
  · exact tells_5 ha hb

theorem right_told {r : R} (h : (r.k = 1 ∧ whB r.n = true ∧ r.f = 0) ∨ (r.k = 2 ∧ r.n = 0 ∧ Flt.fin r.f = true)) (w : World) : Calls Tryd.prog 41 #[.agg #[.int .i64 (r.k), .int .i64 (r.n), .float .f64 (r.f), .string ⟨#[]⟩, .slice none 0 0]] w fun e w' => e = .returned (.bool true) ∧ Below w.heap.size w w' := by
  rcases h with ⟨h1, h2, _⟩ | ⟨h1, _, h2⟩
  · rw [h1]; exact right_1y r.n r.f ⟨#[]⟩ none 0 0 h2 w
  · rw [h1]; exact right_2y r.n r.f ⟨#[]⟩ none 0 0 h2 w

theorem box_less {W w' : World} {o : Obj} (hb : Below (W.alloc o).heap.size (W.alloc o) w') : Below W.heap.size W w' := (below_new W o).trans (hb.mono (by simp))

theorem signs_new (W : World) : Signs (W.alloc (.cells #[.string ⟨#[43]⟩, .string ⟨#[45]⟩, .string ⟨#[42]⟩, .string ⟨#[47]⟩, .string ⟨#[100, 105, 118]⟩, .string ⟨#[114, 101, 109]⟩] 9)) W.heap.size := by
  refine ⟨by simp, fun s hs => ?_⟩
  match s, hs with
  | 0, _ => exact ⟨⟨#[43]⟩, by rw [World.cell?_alloc_new]; rfl, Or.inl (Or.inl rfl)⟩
  | 1, _ => exact ⟨⟨#[45]⟩, by rw [World.cell?_alloc_new]; rfl, Or.inr ⟨by rw [ByteArray.toList_eq]; rfl, by rw [ByteArray.toList_eq]; rfl, Or.inl rfl⟩⟩
  | 2, _ => exact ⟨⟨#[42]⟩, by rw [World.cell?_alloc_new]; rfl, Or.inl (Or.inr rfl)⟩
  | 3, _ => exact ⟨⟨#[47]⟩, by rw [World.cell?_alloc_new]; rfl, Or.inr ⟨by rw [ByteArray.toList_eq]; rfl, by rw [ByteArray.toList_eq]; rfl, Or.inr (Or.inl rfl)⟩⟩
  | 4, _ => exact ⟨⟨#[100, 105, 118]⟩, by rw [World.cell?_alloc_new]; rfl, Or.inr ⟨by rw [ByteArray.toList_eq]; rfl, by rw [ByteArray.toList_eq]; rfl, Or.inr (Or.inr (Or.inl rfl))⟩⟩
  | 5, _ => exact ⟨⟨#[114, 101, 109]⟩, by rw [World.cell?_alloc_new]; rfl, Or.inr ⟨by rw [ByteArray.toList_eq]; rfl, by rw [ByteArray.toList_eq]; rfl, Or.inr (Or.inr (Or.inr rfl))⟩⟩

theorem drewF {w1 w2 : World} (hb : Below w1.drew.heap.size w1.drew w2) : Below w1.heap.size w1 w2 := ⟨hb.os, hb.tape, hb.output, hb.size, hb.block⟩

theorem stepA {wr wz : World} {o : Obj} (hbz : Below wr.drew.heap.size wr.drew wz) : Below wr.heap.size wr (wz.alloc o) :=
  Below.alloc (⟨hbz.os, hbz.tape, hbz.output, hbz.size, hbz.block⟩ : Below wr.heap.size wr wz) hbz.size o

theorem stepC {wr wz : World} {o1 : Obj} (hbz : Below (wr.alloc o1).drew.heap.size (wr.alloc o1).drew wz) : Below wr.heap.size wr wz :=
  ((below_new wr o1).drew).trans (hbz.mono (by simp))

theorem stepB {wr wz : World} {t : TypeId} {v0 v1 v2 v3 v4 : Value} (hbz : Below (wr.alloc (.cells #[v0, v1, v2, v3, v4] t)).drew.heap.size (wr.alloc (.cells #[v0, v1, v2, v3, v4] t)).drew wz) (u0 u1 u2 u3 u4 : Value) :
    Box (((((wz.setCell ⟨wr.heap.size, 0, none⟩ u0).setCell ⟨wr.heap.size, 1, none⟩ u1).setCell ⟨wr.heap.size, 2, none⟩ u2).setCell ⟨wr.heap.size, 3, none⟩ u3).setCell ⟨wr.heap.size, 4, none⟩ u4) wr.heap.size u0 u1 u2 u3 u4 ∧ Below wr.heap.size wr (((((wz.setCell ⟨wr.heap.size, 0, none⟩ u0).setCell ⟨wr.heap.size, 1, none⟩ u1).setCell ⟨wr.heap.size, 2, none⟩ u2).setCell ⟨wr.heap.size, 3, none⟩ u3).setCell ⟨wr.heap.size, 4, none⟩ u4) :=
  ⟨((Box.drew (Box.new wr t v0 v1 v2 v3 v4)).keep hbz).set _ _ _ _ _, below_set5 (stepC hbz) (Nat.le_refl _) _ _ _ _ _⟩

/-- the cells of a row of numbers -/
def cellsL (L : List (Int × Int × Nat)) : List Value := L.flatMap fun x => [.int .i64 x.1, .int .i64 x.2.1, .float .f64 x.2.2, .string ⟨#[]⟩, .slice none 0 0]

theorem cellsL_length : ∀ L, (cellsL L).length = L.length * 5
  | [] => rfl
  | x :: L => by
    have := cellsL_length L
    simp only [cellsL, List.flatMap_cons, List.length_append, List.length_cons, List.length_nil] at this ⊢
    omega

theorem cellsL_at (L : List (Int × Int × Nat)) (j : Nat) (hj : j < L.length) : (cellsL L)[j * 5]? = some (.int .i64 L[j].1) ∧ (cellsL L)[j * 5 + 1]? = some (.int .i64 L[j].2.1) ∧ (cellsL L)[j * 5 + 2]? = some (.float .f64 L[j].2.2) ∧ (cellsL L)[j * 5 + 3]? = some (.string ⟨#[]⟩) ∧ (cellsL L)[j * 5 + 4]? = some (.slice none 0 0) := by
  induction L generalizing j with
  | nil => simp at hj
  | cons x L ih =>
    cases j with
    | zero => simp [cellsL]
    | succ j =>
      have := ih j (by simpa using hj)
      have e : ∀ c, (cellsL (x :: L))[(j + 1) * 5 + c]? = (cellsL L)[j * 5 + c]? := fun c => by
        have : cellsL (x :: L) = [.int .i64 x.1, .int .i64 x.2.1, .float .f64 x.2.2, .string ⟨#[]⟩, .slice none 0 0] ++ cellsL L := by simp [cellsL]
        rw [this, List.getElem?_append_right (by simp; omega)]
        congr 1
        simp
        omega
      have e0 := e 0
      simp only [Nat.add_zero] at e0
      rw [e0, e 1, e 2, e 3, e 4]
      simpa using this

theorem row_of {W : World} {base : Nat} {g len cap : Nat} {L : List (Int × Int × Nat)} (h : W.ownsRow base 27 5 (.slice (some ⟨g, 0, none⟩) len cap) L.length (cellsL L)) (hL : ∀ x ∈ L, Num x.1 x.2.1 x.2.2) (h0 : 0 < L.length) : Row W g len ∧ len = L.length := by
  obtain ⟨h1, ⟨h2, h3⟩ | ⟨g', cap', cur, he, hg, hh, hn, hc, hs, ht⟩⟩ := h
  · omega
  · injection he with e1 e2 e3
    injection e1 with e1
    injection e1 with e1
    subst e1 e2
    refine ⟨⟨?_, fun j hj => ?_⟩, rfl⟩
    · rcases Nat.lt_or_ge g W.heap.size with h | h
      · exact h
      · rw [Array.getElem?_eq_none h] at hh; cases hh
    · obtain ⟨c0, c1, c2, c3, c4⟩ := cellsL_at L j hj
      have rd : ∀ i v, i < L.length * 5 → (cellsL L)[i]? = some v → W.cell? ⟨g, i, none⟩ = some v := fun i v hi hv => by
        rw [← ht, List.getElem?_take_of_lt hi] at hv
        unfold World.cell?
        simp only [hh]
        simpa using hv
      exact ⟨L[j].1, L[j].2.1, L[j].2.2, hL _ (List.getElem_mem hj), rd _ _ (by omega) c0, rd _ _ (by omega) c1, rd _ _ (by omega) c2, rd _ _ (by omega) c3, rd _ _ (by omega) c4⟩

theorem own3 {W : World} {base : Nat} (N M : Int) (hb : base ≤ W.heap.size) : (W.alloc (.cells #[.int .i64 1, .int .i64 N, .float .f64 0, .string ⟨#[]⟩, .slice none 0 0, .int .i64 1, .int .i64 M, .float .f64 0, .string ⟨#[]⟩, .slice none 0 0, .int .i64 2, .int .i64 0, .float .f64 0, .string ⟨#[]⟩, .slice none 0 0] 27)).ownsRow base 27 5 (.slice (some ⟨W.heap.size, 0, none⟩) 3 3) 3 (cellsL [(1, N, 0), (1, M, 0), (2, 0, 0)]) := by
  refine ⟨by simp [cellsL], Or.inr ⟨W.heap.size, 3, #[.int .i64 1, .int .i64 N, .float .f64 0, .string ⟨#[]⟩, .slice none 0 0, .int .i64 1, .int .i64 M, .float .f64 0, .string ⟨#[]⟩, .slice none 0 0, .int .i64 2, .int .i64 0, .float .f64 0, .string ⟨#[]⟩, .slice none 0 0], rfl, hb, ?_, by omega, by unfold maxLen; omega, rfl, by simp [cellsL]⟩⟩
  show (W.heap.push _)[W.heap.size]? = _
  simp

theorem own_keep {W w' : World} {base : Nat} {v : Value} {n : Nat} {xs : List Value} (h : W.ownsRow base 27 5 v n xs) (hb : Below W.heap.size W w') : w'.ownsRow base 27 5 v n xs := by
  obtain ⟨h1, ⟨h2, h3⟩ | ⟨g', cap', cur, he, hg, hh, hn, hc, hs, ht⟩⟩ := h
  · exact ⟨h1, Or.inl ⟨h2, h3⟩⟩
  · refine ⟨h1, Or.inr ⟨g', cap', cur, he, hg, ?_, hn, hc, hs, ht⟩⟩
    have hlt : g' < W.heap.size := by
      rcases Nat.lt_or_ge g' W.heap.size with h | h
      · exact h
      · rw [Array.getElem?_eq_none h] at hh; cases hh
    rw [hb.block g' hlt]
    exact hh

theorem infoT : (Tryd.prog.info? 27).map (fun i => (i.zero, i.size, i.bytes)) = some (some (.agg #[.int .i64 (0), .int .i64 (0), .float .f64 (0), .string ⟨#[]⟩, .slice none 0 0]), 5, 64) := by kernel_rfl

theorem grow_step {w W w1 : World} {v : Value} {n : Nat} {xs : List Value} {o : Obj} (hown : W.ownsRow w.heap.size 27 5 v n xs) (hbel : Below w.heap.size w W) (hgrow : (W.alloc o).grownBy w1 v.ownBlock) : Below w.heap.size w w1 := by
  have hrow : ∀ b, v.ownBlock = some b → w.heap.size ≤ b := by
    obtain ⟨_, ⟨rfl, _⟩ | ⟨g, cap, cur, rfl, hg, _⟩⟩ := hown
    · intro b hb; cases hb
    · intro b hb; cases hb; exact hg
  have h2 : Below w.heap.size w (W.alloc o) := hbel.alloc hbel.size o
  exact ⟨hgrow.os.trans h2.os, hgrow.tape.trans h2.tape, hgrow.output.trans h2.output, Nat.le_trans h2.size hgrow.size, fun b hb => (hgrow.block b (Nat.lt_of_lt_of_le hb h2.size) (fun h => by have := hrow b h.symm; omega)).trans (h2.block b hb)⟩

theorem own_form {W : World} {base : Nat} {v : Value} {n : Nat} {xs : List Value} (h : W.ownsRow base 27 5 v n xs) (h0 : 0 < n) : ∃ g cap, v = .slice (some ⟨g, 0, none⟩) n cap := by
  obtain ⟨h1, ⟨h2, h3⟩ | ⟨g', cap', cur, he, _⟩⟩ := h
  · omega
  · exact ⟨g', cap', he⟩

end Go.Proofs.YtihkabgoaejcgaaDoor
