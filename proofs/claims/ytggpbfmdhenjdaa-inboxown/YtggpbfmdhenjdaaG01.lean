import Derived.Test.YtggpbfmdhenjdaaG00
import Derived.Below
import Derived.Laws.World
/- A box of five cells (a term in memory): what it holds, and that it is kept. -/
namespace Go.Proofs.Ytggpbfmdhenjdaa
open Go.RowKit

structure Box (w : World) (b : Nat) (v0 v1 v2 v3 v4 : Value) : Prop where
  c0 : w.cell? ⟨b, 0, none⟩ = some v0
  c1 : w.cell? ⟨b, 1, none⟩ = some v1
  c2 : w.cell? ⟨b, 2, none⟩ = some v2
  c3 : w.cell? ⟨b, 3, none⟩ = some v3
  c4 : w.cell? ⟨b, 4, none⟩ = some v4
  f0 : w.frozen? ⟨b, 0, none⟩ = false
  f1 : w.frozen? ⟨b, 1, none⟩ = false
  f2 : w.frozen? ⟨b, 2, none⟩ = false
  f3 : w.frozen? ⟨b, 3, none⟩ = false
  f4 : w.frozen? ⟨b, 4, none⟩ = false
  lt : b < w.heap.size

theorem Box.new (w : World) (t : TypeId) (v0 v1 v2 v3 v4 : Value) : Box (w.alloc (.cells #[v0, v1, v2, v3, v4] t)) w.heap.size v0 v1 v2 v3 v4 :=
  ⟨by rw [World.cell?_alloc_new]; rfl, by rw [World.cell?_alloc_new]; rfl, by rw [World.cell?_alloc_new]; rfl, by rw [World.cell?_alloc_new]; rfl, by rw [World.cell?_alloc_new]; rfl, World.frozen?_alloc_new _ _ _ _, World.frozen?_alloc_new _ _ _ _, World.frozen?_alloc_new _ _ _ _, World.frozen?_alloc_new _ _ _ _, World.frozen?_alloc_new _ _ _ _, by simp⟩

theorem Box.keep {W w' : World} {b : Nat} {v0 v1 v2 v3 v4 : Value} (h : Box W b v0 v1 v2 v3 v4) (hb : Below W.heap.size W w') : Box w' b v0 v1 v2 v3 v4 :=
  ⟨(hb.cell h.lt).trans h.c0, (hb.cell h.lt).trans h.c1, (hb.cell h.lt).trans h.c2, (hb.cell h.lt).trans h.c3, (hb.cell h.lt).trans h.c4, (hb.frozen h.lt).trans h.f0, (hb.frozen h.lt).trans h.f1, (hb.frozen h.lt).trans h.f2, (hb.frozen h.lt).trans h.f3, (hb.frozen h.lt).trans h.f4, Nat.lt_of_lt_of_le h.lt hb.size⟩

theorem Box.alloc {w : World} {b : Nat} {v0 v1 v2 v3 v4 : Value} (h : Box w b v0 v1 v2 v3 v4) (o : Obj) : Box (w.alloc o) b v0 v1 v2 v3 v4 := h.keep (below_new w o)

def set5 (w : World) (b : Nat) (u0 u1 u2 u3 u4 : Value) : World := ((((w.setCell ⟨b, 0, none⟩ u0).setCell ⟨b, 1, none⟩ u1).setCell ⟨b, 2, none⟩ u2).setCell ⟨b, 3, none⟩ u3).setCell ⟨b, 4, none⟩ u4

theorem set5_size (w : World) (b : Nat) (u0 u1 u2 u3 u4 : Value) : (set5 w b u0 u1 u2 u3 u4).heap.size = w.heap.size := by simp [set5, World.setCell]

theorem ne_off (b i j : Nat) (h : i ≠ j) : (⟨b, i, none⟩ : Addr) ≠ ⟨b, j, none⟩ := by intro e; injection e with _ e2 _; exact h e2
theorem ne_blk (b c i j : Nat) (h : b ≠ c) : (⟨b, i, none⟩ : Addr) ≠ ⟨c, j, none⟩ := by intro e; injection e with e2 _ _; exact h e2

theorem set5_other (w : World) (b : Nat) (u0 u1 u2 u3 u4 : Value) (a : Nat) (j : Nat) (h : b ≠ a) : (set5 w b u0 u1 u2 u3 u4).cell? ⟨a, j, none⟩ = w.cell? ⟨a, j, none⟩ := by
  unfold set5
  rw [World.cell?_setCell_other _ _ _ _ (ne_blk _ _ _ _ h), World.cell?_setCell_other _ _ _ _ (ne_blk _ _ _ _ h), World.cell?_setCell_other _ _ _ _ (ne_blk _ _ _ _ h), World.cell?_setCell_other _ _ _ _ (ne_blk _ _ _ _ h), World.cell?_setCell_other _ _ _ _ (ne_blk _ _ _ _ h)]

theorem set5_frozen (w : World) (b : Nat) (u0 u1 u2 u3 u4 : Value) (p : Addr) : (set5 w b u0 u1 u2 u3 u4).frozen? p = w.frozen? p := by
  unfold set5; simp [World.frozen?_setCell]

theorem Box.other {w : World} {b c : Nat} {v0 v1 v2 v3 v4 : Value} (h : Box w b v0 v1 v2 v3 v4) (hne : c ≠ b) (u0 u1 u2 u3 u4 : Value) : Box (set5 w c u0 u1 u2 u3 u4) b v0 v1 v2 v3 v4 :=
  ⟨(set5_other _ _ _ _ _ _ _ _ _ hne).trans h.c0, (set5_other _ _ _ _ _ _ _ _ _ hne).trans h.c1, (set5_other _ _ _ _ _ _ _ _ _ hne).trans h.c2, (set5_other _ _ _ _ _ _ _ _ _ hne).trans h.c3, (set5_other _ _ _ _ _ _ _ _ _ hne).trans h.c4, (set5_frozen _ _ _ _ _ _ _ _).trans h.f0, (set5_frozen _ _ _ _ _ _ _ _).trans h.f1, (set5_frozen _ _ _ _ _ _ _ _).trans h.f2, (set5_frozen _ _ _ _ _ _ _ _).trans h.f3, (set5_frozen _ _ _ _ _ _ _ _).trans h.f4, by rw [set5_size]; exact h.lt⟩

theorem Box.set {w : World} {b : Nat} {v0 v1 v2 v3 v4 : Value} (h : Box w b v0 v1 v2 v3 v4) (u0 u1 u2 u3 u4 : Value) : Box (set5 w b u0 u1 u2 u3 u4) b u0 u1 u2 u3 u4 := by
  have d0 : (w.setCell ⟨b, 0, none⟩ u0).cell? ⟨b, 0, none⟩ = some u0 := World.cell?_setCell_same _ _ _ h.c0
  have d1 : ((w.setCell ⟨b, 0, none⟩ u0).setCell ⟨b, 1, none⟩ u1).cell? ⟨b, 1, none⟩ = some u1 := World.cell?_setCell_same _ _ _ (u := v1) (by rw [World.cell?_setCell_other _ _ _ _ (ne_off _ _ _ (by decide))]; exact h.c1)
  have d2 : (((w.setCell ⟨b, 0, none⟩ u0).setCell ⟨b, 1, none⟩ u1).setCell ⟨b, 2, none⟩ u2).cell? ⟨b, 2, none⟩ = some u2 := World.cell?_setCell_same _ _ _ (u := v2) (by rw [World.cell?_setCell_other _ _ _ _ (ne_off _ _ _ (by decide)), World.cell?_setCell_other _ _ _ _ (ne_off _ _ _ (by decide))]; exact h.c2)
  have d3 : ((((w.setCell ⟨b, 0, none⟩ u0).setCell ⟨b, 1, none⟩ u1).setCell ⟨b, 2, none⟩ u2).setCell ⟨b, 3, none⟩ u3).cell? ⟨b, 3, none⟩ = some u3 := World.cell?_setCell_same _ _ _ (u := v3) (by rw [World.cell?_setCell_other _ _ _ _ (ne_off _ _ _ (by decide)), World.cell?_setCell_other _ _ _ _ (ne_off _ _ _ (by decide)), World.cell?_setCell_other _ _ _ _ (ne_off _ _ _ (by decide))]; exact h.c3)
  have d4 : (set5 w b u0 u1 u2 u3 u4).cell? ⟨b, 4, none⟩ = some u4 := World.cell?_setCell_same _ _ _ (u := v4) (by rw [World.cell?_setCell_other _ _ _ _ (ne_off _ _ _ (by decide)), World.cell?_setCell_other _ _ _ _ (ne_off _ _ _ (by decide)), World.cell?_setCell_other _ _ _ _ (ne_off _ _ _ (by decide)), World.cell?_setCell_other _ _ _ _ (ne_off _ _ _ (by decide))]; exact h.c4)
  refine ⟨?_, ?_, ?_, ?_, d4, (set5_frozen _ _ _ _ _ _ _ _).trans h.f0, (set5_frozen _ _ _ _ _ _ _ _).trans h.f1, (set5_frozen _ _ _ _ _ _ _ _).trans h.f2, (set5_frozen _ _ _ _ _ _ _ _).trans h.f3, (set5_frozen _ _ _ _ _ _ _ _).trans h.f4, by rw [set5_size]; exact h.lt⟩
  · unfold set5; rw [World.cell?_setCell_other _ _ _ _ (ne_off _ _ _ (by decide)), World.cell?_setCell_other _ _ _ _ (ne_off _ _ _ (by decide)), World.cell?_setCell_other _ _ _ _ (ne_off _ _ _ (by decide)), World.cell?_setCell_other _ _ _ _ (ne_off _ _ _ (by decide))]; exact d0
  · unfold set5; rw [World.cell?_setCell_other _ _ _ _ (ne_off _ _ _ (by decide)), World.cell?_setCell_other _ _ _ _ (ne_off _ _ _ (by decide)), World.cell?_setCell_other _ _ _ _ (ne_off _ _ _ (by decide))]; exact d1
  · unfold set5; rw [World.cell?_setCell_other _ _ _ _ (ne_off _ _ _ (by decide)), World.cell?_setCell_other _ _ _ _ (ne_off _ _ _ (by decide))]; exact d2
  · unfold set5; rw [World.cell?_setCell_other _ _ _ _ (ne_off _ _ _ (by decide))]; exact d3

theorem below_set5 {B : Nat} {a w : World} (h : Below B a w) {b : Nat} (hb : B ≤ b) (u0 u1 u2 u3 u4 : Value) : Below B a (set5 w b u0 u1 u2 u3 u4) :=
  ((((h.setCell (p := ⟨b, 0, none⟩) hb u0).setCell (p := ⟨b, 1, none⟩) hb u1).setCell (p := ⟨b, 2, none⟩) hb u2).setCell (p := ⟨b, 3, none⟩) hb u3).setCell (p := ⟨b, 4, none⟩) hb u4

theorem sameB_self (k n : Int) (f : Nat) : sameB k n f ⟨#[]⟩ 0 k n f ⟨#[]⟩ 0 = true := by simp [sameB]

/-- three cells that are only read (a number as the program keeps it) -/
structure Box3 (w : World) (b : Nat) (v0 v1 v2 : Value) : Prop where
  c0 : w.cell? ⟨b, 0, none⟩ = some v0
  c1 : w.cell? ⟨b, 1, none⟩ = some v1
  c2 : w.cell? ⟨b, 2, none⟩ = some v2
  lt : b < w.heap.size

theorem Box3.new (w : World) (t : TypeId) (v0 v1 v2 : Value) : Box3 (w.alloc (.cells #[v0, v1, v2] t)) w.heap.size v0 v1 v2 :=
  ⟨by rw [World.cell?_alloc_new]; rfl, by rw [World.cell?_alloc_new]; rfl, by rw [World.cell?_alloc_new]; rfl, by simp⟩

theorem Box3.keep {W w' : World} {b : Nat} {v0 v1 v2 : Value} (h : Box3 W b v0 v1 v2) (hb : Below W.heap.size W w') : Box3 w' b v0 v1 v2 :=
  ⟨(hb.cell h.lt).trans h.c0, (hb.cell h.lt).trans h.c1, (hb.cell h.lt).trans h.c2, Nat.lt_of_lt_of_le h.lt hb.size⟩

theorem Box3.alloc {w : World} {b : Nat} {v0 v1 v2 : Value} (h : Box3 w b v0 v1 v2) (o : Obj) : Box3 (w.alloc o) b v0 v1 v2 := h.keep (below_new w o)

/-- behind a function's first call: two boxed arguments, the result's box -/
theorem after3 {w w1 : World} {o1 : Obj} {t2 t3 : TypeId} {b0 b1 b2 b3 b4 r0 r1 r2 r3 r4 : Value}
    (hb : Below (((w.alloc o1).alloc (.cells #[b0, b1, b2, b3, b4] t2)).alloc (.cells #[r0, r1, r2, r3, r4] t3)).heap.size (((w.alloc o1).alloc (.cells #[b0, b1, b2, b3, b4] t2)).alloc (.cells #[r0, r1, r2, r3, r4] t3)) w1) :
    Box w1 (w.heap.size + 1) b0 b1 b2 b3 b4 ∧ Box w1 (w.heap.size + 1 + 1) r0 r1 r2 r3 r4 ∧ Below w.heap.size w w1 := by
  have e1 : (w.alloc o1).heap.size = w.heap.size + 1 := by simp
  have e2 : ((w.alloc o1).alloc (.cells #[b0, b1, b2, b3, b4] t2)).heap.size = w.heap.size + 1 + 1 := by simp
  refine ⟨?_, ?_, ?_⟩
  · rw [← e1]; exact ((Box.new _ _ _ _ _ _ _).alloc _).keep hb
  · rw [← e2]; exact (Box.new _ _ _ _ _ _ _).keep hb
  · exact ((((below_new w o1).alloc (by simp) _).alloc (by simp; omega) _)).trans (hb.mono (by simp; omega))

theorem Box.drew {w : World} {b : Nat} {v0 v1 v2 v3 v4 : Value} (h : Box w b v0 v1 v2 v3 v4) : Box w.drew b v0 v1 v2 v3 v4 := h.keep ((Below.refl _ _).drew)

theorem keepR {w w2 w3 : World} {o1 o2 o3 : Obj} {b : Nat} {v0 v1 v2 v3 v4 : Value} (h : Box w2 b v0 v1 v2 v3 v4) (hW : Below w.heap.size w w2)
    (hb : Below (((w2.alloc o1).alloc o2).alloc o3).drew.heap.size (((w2.alloc o1).alloc o2).alloc o3).drew w3) : Box w3 b v0 v1 v2 v3 v4 ∧ Below w.heap.size w w3 :=
  ⟨((((h.alloc o1).alloc o2).alloc o3).drew).keep hb,
    ((((hW.alloc hW.size o1).alloc (by have := hW.size; simp; omega) o2).alloc (by have := hW.size; simp; omega) o3).drew).trans (hb.mono (by have := hW.size; simp; omega))⟩

/-- behind a later call: what was laid last, and what is kept -/
theorem later3 {w w1 w2 : World} {t : TypeId} {x0 x1 x2 : Value} (hW : Below w.heap.size w w1)
    (hb : Below (w1.alloc (.cells #[x0, x1, x2] t)).heap.size (w1.alloc (.cells #[x0, x1, x2] t)) w2) :
    Box3 w2 w1.heap.size x0 x1 x2 ∧ Below w1.heap.size w1 w2 ∧ Below w.heap.size w w2 :=
  ⟨(Box3.new _ _ _ _ _).keep hb, (below_new _ _).trans (hb.mono (by simp)), (hW.alloc hW.size _).trans (hb.mono (by have := hW.size; simp; omega))⟩
end Go.Proofs.Ytggpbfmdhenjdaa


/- A world that is as another one but for some of its blocks. -/
namespace Go.Proofs.Ytggpbfmdhenjdaa
open Go.RowKit

theorem hidb {p : Prop} (h : p) : Hid p := h

/-- Of the blocks that there were only those of S have turned. -/
structure But (S : Nat → Prop) (w w' : World) : Prop where
  os : w'.os = w.os
  tape : w'.tape = w.tape
  output : w'.output = w.output
  size : w.heap.size ≤ w'.heap.size
  block : ∀ k, k < w.heap.size → ¬ S k → w'.heap[k]? = w.heap[k]?

theorem But.refl (S : Nat → Prop) (w : World) : But S w w := ⟨rfl, rfl, rfl, Nat.le_refl _, fun _ _ _ => rfl⟩

theorem But.trans {S : Nat → Prop} {a b c : World} (h : But S a b) (k : But S b c) : But S a c :=
  ⟨k.os.trans h.os, k.tape.trans h.tape, k.output.trans h.output, Nat.le_trans h.size k.size, fun i hi hs => (k.block i (Nat.lt_of_lt_of_le hi h.size) hs).trans (h.block i hi hs)⟩

theorem But.of_below {S : Nat → Prop} {w w' : World} (h : Below w.heap.size w w') : But S w w' := ⟨h.os, h.tape, h.output, h.size, fun k hk _ => h.block k hk⟩

theorem But.mono {S S' : Nat → Prop} {w w' : World} (h : But S w w') (hS : ∀ k, k < w.heap.size → S k → S' k) : But S' w w' :=
  ⟨h.os, h.tape, h.output, h.size, fun k hk hs => h.block k hk fun hk' => hs (hS k hk hk')⟩

theorem But.alloc {S : Nat → Prop} {a w : World} (h : But S a w) (o : Obj) : But S a (w.alloc o) :=
  h.trans ⟨rfl, rfl, rfl, by simp, fun k hk _ => Below.heap_alloc _ _ _ hk⟩

theorem But.setCell {S : Nat → Prop} {a w : World} (h : But S a w) {p : Addr} (hp : p.block < a.heap.size → S p.block) (u : Value) : But S a (w.setCell p u) :=
  ⟨h.os, h.tape, h.output, by simp [World.setCell]; exact h.size, fun k hk hs => (Below.heap_setCell w p u k (fun e => hs (e ▸ hp (e ▸ hk)))).trans (h.block k hk hs)⟩

theorem But.drew {S : Nat → Prop} {a w : World} (h : But S a w) : But S a w.drew := ⟨h.os, h.tape, h.output, h.size, h.block⟩

theorem But.below {S : Nat → Prop} {B : Nat} {w w' : World} (h : But S w w') (hB : B ≤ w.heap.size) (hS : ∀ k, S k → B ≤ k) : Below B w w' :=
  ⟨h.os, h.tape, h.output, h.size, fun k hk => h.block k (Nat.lt_of_lt_of_le hk hB) fun hs => absurd (hS k hs) (by omega)⟩

theorem But.cell {S : Nat → Prop} {w w' : World} (h : But S w w') {p : Addr} (hp : p.block < w.heap.size) (hs : ¬ S p.block) : w'.cell? p = w.cell? p := World.cell?_of_block (w := w) (h.block p.block hp hs)

theorem But.frozen {S : Nat → Prop} {w w' : World} (h : But S w w') {p : Addr} (hp : p.block < w.heap.size) (hs : ¬ S p.block) : w'.frozen? p = w.frozen? p := World.frozen?_of_block (w := w) (h.block p.block hp hs)

theorem undrew {w w' : World} (h : Below w.drew.heap.size w.drew w') : Below w.heap.size w w' := ⟨h.os, h.tape, h.output, h.size, h.block⟩

/-- Three cells of a block, not frozen. -/
structure Tri (w : World) (b : Nat) (v0 v1 v2 : Value) : Prop where
  c0 : w.cell? ⟨b, 0, none⟩ = some v0
  c1 : w.cell? ⟨b, 1, none⟩ = some v1
  c2 : w.cell? ⟨b, 2, none⟩ = some v2
  f0 : w.frozen? ⟨b, 0, none⟩ = false
  f1 : w.frozen? ⟨b, 1, none⟩ = false
  f2 : w.frozen? ⟨b, 2, none⟩ = false
  lt : b < w.heap.size

theorem Tri.new (w : World) (t : TypeId) (v0 v1 v2 : Value) : Tri (w.alloc (.cells #[v0, v1, v2] t)) w.heap.size v0 v1 v2 :=
  ⟨by rw [World.cell?_alloc_new]; rfl, by rw [World.cell?_alloc_new]; rfl, by rw [World.cell?_alloc_new]; rfl, World.frozen?_alloc_new _ _ _ _, World.frozen?_alloc_new _ _ _ _, World.frozen?_alloc_new _ _ _ _, by simp⟩

theorem Tri.but {S : Nat → Prop} {w w' : World} {b : Nat} {v0 v1 v2 : Value} (h : Tri w b v0 v1 v2) (hb : But S w w') (hs : ¬ S b) : Tri w' b v0 v1 v2 :=
  ⟨(hb.cell h.lt hs).trans h.c0, (hb.cell h.lt hs).trans h.c1, (hb.cell h.lt hs).trans h.c2, (hb.frozen h.lt hs).trans h.f0, (hb.frozen h.lt hs).trans h.f1, (hb.frozen h.lt hs).trans h.f2, Nat.lt_of_lt_of_le h.lt hb.size⟩

theorem Tri.keep {w w' : World} {b : Nat} {v0 v1 v2 : Value} (h : Tri w b v0 v1 v2) (hb : Below w.heap.size w w') : Tri w' b v0 v1 v2 :=
  h.but (But.of_below (S := fun _ => False) hb) (fun h => h)

theorem ne_off3 (b i j : Nat) (h : i ≠ j) : (⟨b, i, none⟩ : Addr) ≠ ⟨b, j, none⟩ := by intro e; injection e with _ e2 _; exact h e2

theorem Tri.set0 {w : World} {b : Nat} {v0 v1 v2 : Value} (h : Tri w b v0 v1 v2) (u : Value) : Tri (w.setCell ⟨b, 0, none⟩ u) b u v1 v2 :=
  ⟨World.cell?_setCell_same _ _ _ h.c0, by rw [World.cell?_setCell_other _ _ _ _ (ne_off3 _ _ _ (by decide))]; exact h.c1, by rw [World.cell?_setCell_other _ _ _ _ (ne_off3 _ _ _ (by decide))]; exact h.c2, by rw [World.frozen?_setCell]; exact h.f0, by rw [World.frozen?_setCell]; exact h.f1, by rw [World.frozen?_setCell]; exact h.f2, by simp [World.setCell]; exact h.lt⟩
theorem Tri.set1 {w : World} {b : Nat} {v0 v1 v2 : Value} (h : Tri w b v0 v1 v2) (u : Value) : Tri (w.setCell ⟨b, 1, none⟩ u) b v0 u v2 :=
  ⟨by rw [World.cell?_setCell_other _ _ _ _ (ne_off3 _ _ _ (by decide))]; exact h.c0, World.cell?_setCell_same _ _ _ h.c1, by rw [World.cell?_setCell_other _ _ _ _ (ne_off3 _ _ _ (by decide))]; exact h.c2, by rw [World.frozen?_setCell]; exact h.f0, by rw [World.frozen?_setCell]; exact h.f1, by rw [World.frozen?_setCell]; exact h.f2, by simp [World.setCell]; exact h.lt⟩
theorem Tri.set2 {w : World} {b : Nat} {v0 v1 v2 : Value} (h : Tri w b v0 v1 v2) (u : Value) : Tri (w.setCell ⟨b, 2, none⟩ u) b v0 v1 u :=
  ⟨by rw [World.cell?_setCell_other _ _ _ _ (ne_off3 _ _ _ (by decide))]; exact h.c0, by rw [World.cell?_setCell_other _ _ _ _ (ne_off3 _ _ _ (by decide))]; exact h.c1, World.cell?_setCell_same _ _ _ h.c2, by rw [World.frozen?_setCell]; exact h.f0, by rw [World.frozen?_setCell]; exact h.f1, by rw [World.frozen?_setCell]; exact h.f2, by simp [World.setCell]; exact h.lt⟩

theorem ne_blk3 (b c i j : Nat) (h : b ≠ c) : (⟨b, i, none⟩ : Addr) ≠ ⟨c, j, none⟩ := by intro e; injection e with e2 _ _; exact h e2

theorem Box.other1 {w : World} {b c i : Nat} {v0 v1 v2 v3 v4 : Value} (h : Box w b v0 v1 v2 v3 v4) (hne : c ≠ b) (u : Value) : Box (w.setCell ⟨c, i, none⟩ u) b v0 v1 v2 v3 v4 :=
  ⟨(World.cell?_setCell_other _ _ _ _ (ne_blk3 _ _ _ _ hne)).trans h.c0, (World.cell?_setCell_other _ _ _ _ (ne_blk3 _ _ _ _ hne)).trans h.c1, (World.cell?_setCell_other _ _ _ _ (ne_blk3 _ _ _ _ hne)).trans h.c2, (World.cell?_setCell_other _ _ _ _ (ne_blk3 _ _ _ _ hne)).trans h.c3, (World.cell?_setCell_other _ _ _ _ (ne_blk3 _ _ _ _ hne)).trans h.c4, by rw [World.frozen?_setCell]; exact h.f0, by rw [World.frozen?_setCell]; exact h.f1, by rw [World.frozen?_setCell]; exact h.f2, by rw [World.frozen?_setCell]; exact h.f3, by rw [World.frozen?_setCell]; exact h.f4, by simp [World.setCell]; exact h.lt⟩

theorem Box.but {S : Nat → Prop} {w w' : World} {b : Nat} {v0 v1 v2 v3 v4 : Value} (h : Box w b v0 v1 v2 v3 v4) (hb : But S w w') (hs : ¬ S b) : Box w' b v0 v1 v2 v3 v4 :=
  ⟨(hb.cell h.lt hs).trans h.c0, (hb.cell h.lt hs).trans h.c1, (hb.cell h.lt hs).trans h.c2, (hb.cell h.lt hs).trans h.c3, (hb.cell h.lt hs).trans h.c4, (hb.frozen h.lt hs).trans h.f0, (hb.frozen h.lt hs).trans h.f1, (hb.frozen h.lt hs).trans h.f2, (hb.frozen h.lt hs).trans h.f3, (hb.frozen h.lt hs).trans h.f4, Nat.lt_of_lt_of_le h.lt hb.size⟩

/-- Two cells of a block, not frozen. -/
structure Duo (w : World) (b : Nat) (v0 v1 : Value) : Prop where
  c0 : w.cell? ⟨b, 0, none⟩ = some v0
  c1 : w.cell? ⟨b, 1, none⟩ = some v1
  f0 : w.frozen? ⟨b, 0, none⟩ = false
  f1 : w.frozen? ⟨b, 1, none⟩ = false
  lt : b < w.heap.size

theorem Duo.new (w : World) (t : TypeId) (v0 v1 : Value) : Duo (w.alloc (.cells #[v0, v1] t)) w.heap.size v0 v1 :=
  ⟨by rw [World.cell?_alloc_new]; rfl, by rw [World.cell?_alloc_new]; rfl, World.frozen?_alloc_new _ _ _ _, World.frozen?_alloc_new _ _ _ _, by simp⟩

theorem Duo.but {S : Nat → Prop} {w w' : World} {b : Nat} {v0 v1 : Value} (h : Duo w b v0 v1) (hb : But S w w') (hs : ¬ S b) : Duo w' b v0 v1 :=
  ⟨(hb.cell h.lt hs).trans h.c0, (hb.cell h.lt hs).trans h.c1, (hb.frozen h.lt hs).trans h.f0, (hb.frozen h.lt hs).trans h.f1, Nat.lt_of_lt_of_le h.lt hb.size⟩

theorem Duo.keep {w w' : World} {b : Nat} {v0 v1 : Value} (h : Duo w b v0 v1) (hb : Below w.heap.size w w') : Duo w' b v0 v1 :=
  h.but (But.of_below (S := fun _ => False) hb) (fun h => h)

theorem Duo.set0 {w : World} {b : Nat} {v0 v1 : Value} (h : Duo w b v0 v1) (u : Value) : Duo (w.setCell ⟨b, 0, none⟩ u) b u v1 :=
  ⟨World.cell?_setCell_same _ _ _ h.c0, by rw [World.cell?_setCell_other _ _ _ _ (ne_off3 _ _ _ (by decide))]; exact h.c1, by rw [World.frozen?_setCell]; exact h.f0, by rw [World.frozen?_setCell]; exact h.f1, by simp [World.setCell]; exact h.lt⟩
theorem Duo.set1 {w : World} {b : Nat} {v0 v1 : Value} (h : Duo w b v0 v1) (u : Value) : Duo (w.setCell ⟨b, 1, none⟩ u) b v0 u :=
  ⟨by rw [World.cell?_setCell_other _ _ _ _ (ne_off3 _ _ _ (by decide))]; exact h.c0, World.cell?_setCell_same _ _ _ h.c1, by rw [World.frozen?_setCell]; exact h.f0, by rw [World.frozen?_setCell]; exact h.f1, by simp [World.setCell]; exact h.lt⟩
end Go.Proofs.Ytggpbfmdhenjdaa


