/- A world that is as another one but for some of its blocks. -/
import Derived.Test.YtfhgohpldpnkbaaBox
import Derived.Below
import Derived.Laws.World
namespace Go.Proofs.Ytfhgohpldpnkbaa
open Go.RowKit

theorem hidb {p : Prop} (h : p) : Hid p := h

/-- Of the blocks that there were only those of S have turned. -/
structure But (S : Nat → Prop) (w w' : World) : Prop where
  os : w'.os = w.os
  tape : w'.tape = w.tape
  output : w'.output = w.output
  size : w.heap.size ≤ w'.heap.size
  block : ∀ k, k < w.heap.size → ¬ S k → w'.heap[k]? = w.heap[k]?

theorem But.refl (S : Nat → Prop) (w : World) : But S w w := ⟨rfl, rfl, rfl, Nat.le_refl _, fun _ _ _ => rfl⟩

theorem But.trans {S : Nat → Prop} {a b c : World} (h : But S a b) (k : But S b c) : But S a c :=
  ⟨k.os.trans h.os, k.tape.trans h.tape, k.output.trans h.output, Nat.le_trans h.size k.size, fun i hi hs => (k.block i (Nat.lt_of_lt_of_le hi h.size) hs).trans (h.block i hi hs)⟩

theorem But.of_below {S : Nat → Prop} {w w' : World} (h : Below w.heap.size w w') : But S w w' := ⟨h.os, h.tape, h.output, h.size, fun k hk _ => h.block k hk⟩

theorem But.mono {S S' : Nat → Prop} {w w' : World} (h : But S w w') (hS : ∀ k, k < w.heap.size → S k → S' k) : But S' w w' :=
  ⟨h.os, h.tape, h.output, h.size, fun k hk hs => h.block k hk fun hk' => hs (hS k hk hk')⟩

theorem But.alloc {S : Nat → Prop} {a w : World} (h : But S a w) (o : Obj) : But S a (w.alloc o) :=
  h.trans ⟨rfl, rfl, rfl, by simp, fun k hk _ => Below.heap_alloc _ _ _ hk⟩

theorem But.setCell {S : Nat → Prop} {a w : World} (h : But S a w) {p : Addr} (hp : p.block < a.heap.size → S p.block) (u : Value) : But S a (w.setCell p u) :=
  ⟨h.os, h.tape, h.output, by simp [World.setCell]; exact h.size, fun k hk hs => (Below.heap_setCell w p u k (fun e => hs (e ▸ hp (e ▸ hk)))).trans (h.block k hk hs)⟩

theorem But.drew {S : Nat → Prop} {a w : World} (h : But S a w) : But S a w.drew := ⟨h.os, h.tape, h.output, h.size, h.block⟩

theorem But.below {S : Nat → Prop} {B : Nat} {w w' : World} (h : But S w w') (hB : B ≤ w.heap.size) (hS : ∀ k, S k → B ≤ k) : Below B w w' :=
  ⟨h.os, h.tape, h.output, h.size, fun k hk => h.block k (Nat.lt_of_lt_of_le hk hB) fun hs => absurd (hS k hs) (by omega)⟩

theorem But.cell {S : Nat → Prop} {w w' : World} (h : But S w w') {p : Addr} (hp : p.block < w.heap.size) (hs : ¬ S p.block) : w'.cell? p = w.cell? p := World.cell?_of_block (w := w) (h.block p.block hp hs)

theorem But.frozen {S : Nat → Prop} {w w' : World} (h : But S w w') {p : Addr} (hp : p.block < w.heap.size) (hs : ¬ S p.block) : w'.frozen? p = w.frozen? p := World.frozen?_of_block (w := w) (h.block p.block hp hs)

theorem undrew {w w' : World} (h : Below w.drew.heap.size w.drew w') : Below w.heap.size w w' := ⟨h.os, h.tape, h.output, h.size, h.block⟩

/-- Three cells of a block, not frozen. -/
structure Tri (w : World) (b : Nat) (v0 v1 v2 : Value) : Prop where
  c0 : w.cell? ⟨b, 0, none⟩ = some v0
  c1 : w.cell? ⟨b, 1, none⟩ = some v1
  c2 : w.cell? ⟨b, 2, none⟩ = some v2
  f0 : w.frozen? ⟨b, 0, none⟩ = false
  f1 : w.frozen? ⟨b, 1, none⟩ = false
  f2 : w.frozen? ⟨b, 2, none⟩ = false
  lt : b < w.heap.size

theorem Tri.new (w : World) (t : TypeId) (v0 v1 v2 : Value) : Tri (w.alloc (.cells #[v0, v1, v2] t)) w.heap.size v0 v1 v2 :=
  ⟨by rw [World.cell?_alloc_new]; rfl, by rw [World.cell?_alloc_new]; rfl, by rw [World.cell?_alloc_new]; rfl, World.frozen?_alloc_new _ _ _ _, World.frozen?_alloc_new _ _ _ _, World.frozen?_alloc_new _ _ _ _, by simp⟩

theorem Tri.but {S : Nat → Prop} {w w' : World} {b : Nat} {v0 v1 v2 : Value} (h : Tri w b v0 v1 v2) (hb : But S w w') (hs : ¬ S b) : Tri w' b v0 v1 v2 :=
  ⟨(hb.cell h.lt hs).trans h.c0, (hb.cell h.lt hs).trans h.c1, (hb.cell h.lt hs).trans h.c2, (hb.frozen h.lt hs).trans h.f0, (hb.frozen h.lt hs).trans h.f1, (hb.frozen h.lt hs).trans h.f2, Nat.lt_of_lt_of_le h.lt hb.size⟩

theorem Tri.keep {w w' : World} {b : Nat} {v0 v1 v2 : Value} (h : Tri w b v0 v1 v2) (hb : Below w.heap.size w w') : Tri w' b v0 v1 v2 :=
  h.but (But.of_below (S := fun _ => False) hb) (fun h => h)

theorem ne_off3 (b i j : Nat) (h : i ≠ j) : (⟨b, i, none⟩ : Addr) ≠ ⟨b, j, none⟩ := by intro e; injection e with _ e2 _; exact h e2

theorem Tri.set0 {w : World} {b : Nat} {v0 v1 v2 : Value} (h : Tri w b v0 v1 v2) (u : Value) : Tri (w.setCell ⟨b, 0, none⟩ u) b u v1 v2 :=
  ⟨World.cell?_setCell_same _ _ _ h.c0, by rw [World.cell?_setCell_other _ _ _ _ (ne_off3 _ _ _ (by decide))]; exact h.c1, by rw [World.cell?_setCell_other _ _ _ _ (ne_off3 _ _ _ (by decide))]; exact h.c2, by rw [World.frozen?_setCell]; exact h.f0, by rw [World.frozen?_setCell]; exact h.f1, by rw [World.frozen?_setCell]; exact h.f2, by simp [World.setCell]; exact h.lt⟩
theorem Tri.set1 {w : World} {b : Nat} {v0 v1 v2 : Value} (h : Tri w b v0 v1 v2) (u : Value) : Tri (w.setCell ⟨b, 1, none⟩ u) b v0 u v2 :=
  ⟨by rw [World.cell?_setCell_other _ _ _ _ (ne_off3 _ _ _ (by decide))]; exact h.c0, World.cell?_setCell_same _ _ _ h.c1, by rw [World.cell?_setCell_other _ _ _ _ (ne_off3 _ _ _ (by decide))]; exact h.c2, by rw [World.frozen?_setCell]; exact h.f0, by rw [World.frozen?_setCell]; exact h.f1, by rw [World.frozen?_setCell]; exact h.f2, by simp [World.setCell]; exact h.lt⟩
theorem Tri.set2 {w : World} {b : Nat} {v0 v1 v2 : Value} (h : Tri w b v0 v1 v2) (u : Value) : Tri (w.setCell ⟨b, 2, none⟩ u) b v0 v1 u :=
  ⟨by rw [World.cell?_setCell_other _ _ _ _ (ne_off3 _ _ _ (by decide))]; exact h.c0, by rw [World.cell?_setCell_other _ _ _ _ (ne_off3 _ _ _ (by decide))]; exact h.c1, World.cell?_setCell_same _ _ _ h.c2, by rw [World.frozen?_setCell]; exact h.f0, by rw [World.frozen?_setCell]; exact h.f1, by rw [World.frozen?_setCell]; exact h.f2, by simp [World.setCell]; exact h.lt⟩

theorem ne_blk3 (b c i j : Nat) (h : b ≠ c) : (⟨b, i, none⟩ : Addr) ≠ ⟨c, j, none⟩ := by intro e; injection e with e2 _ _; exact h e2

theorem Box.other1 {w : World} {b c i : Nat} {v0 v1 v2 v3 v4 : Value} (h : Box w b v0 v1 v2 v3 v4) (hne : c ≠ b) (u : Value) : Box (w.setCell ⟨c, i, none⟩ u) b v0 v1 v2 v3 v4 :=
  ⟨(World.cell?_setCell_other _ _ _ _ (ne_blk3 _ _ _ _ hne)).trans h.c0, (World.cell?_setCell_other _ _ _ _ (ne_blk3 _ _ _ _ hne)).trans h.c1, (World.cell?_setCell_other _ _ _ _ (ne_blk3 _ _ _ _ hne)).trans h.c2, (World.cell?_setCell_other _ _ _ _ (ne_blk3 _ _ _ _ hne)).trans h.c3, (World.cell?_setCell_other _ _ _ _ (ne_blk3 _ _ _ _ hne)).trans h.c4, by rw [World.frozen?_setCell]; exact h.f0, by rw [World.frozen?_setCell]; exact h.f1, by rw [World.frozen?_setCell]; exact h.f2, by rw [World.frozen?_setCell]; exact h.f3, by rw [World.frozen?_setCell]; exact h.f4, by simp [World.setCell]; exact h.lt⟩

theorem Box.but {S : Nat → Prop} {w w' : World} {b : Nat} {v0 v1 v2 v3 v4 : Value} (h : Box w b v0 v1 v2 v3 v4) (hb : But S w w') (hs : ¬ S b) : Box w' b v0 v1 v2 v3 v4 :=
  ⟨(hb.cell h.lt hs).trans h.c0, (hb.cell h.lt hs).trans h.c1, (hb.cell h.lt hs).trans h.c2, (hb.cell h.lt hs).trans h.c3, (hb.cell h.lt hs).trans h.c4, (hb.frozen h.lt hs).trans h.f0, (hb.frozen h.lt hs).trans h.f1, (hb.frozen h.lt hs).trans h.f2, (hb.frozen h.lt hs).trans h.f3, (hb.frozen h.lt hs).trans h.f4, Nat.lt_of_lt_of_le h.lt hb.size⟩

/-- Two cells of a block, not frozen. -/
structure Duo (w : World) (b : Nat) (v0 v1 : Value) : Prop where
  c0 : w.cell? ⟨b, 0, none⟩ = some v0
  c1 : w.cell? ⟨b, 1, none⟩ = some v1
  f0 : w.frozen? ⟨b, 0, none⟩ = false
  f1 : w.frozen? ⟨b, 1, none⟩ = false
  lt : b < w.heap.size

theorem Duo.new (w : World) (t : TypeId) (v0 v1 : Value) : Duo (w.alloc (.cells #[v0, v1] t)) w.heap.size v0 v1 :=
  ⟨by rw [World.cell?_alloc_new]; rfl, by rw [World.cell?_alloc_new]; rfl, World.frozen?_alloc_new _ _ _ _, World.frozen?_alloc_new _ _ _ _, by simp⟩

theorem Duo.but {S : Nat → Prop} {w w' : World} {b : Nat} {v0 v1 : Value} (h : Duo w b v0 v1) (hb : But S w w') (hs : ¬ S b) : Duo w' b v0 v1 :=
  ⟨(hb.cell h.lt hs).trans h.c0, (hb.cell h.lt hs).trans h.c1, (hb.frozen h.lt hs).trans h.f0, (hb.frozen h.lt hs).trans h.f1, Nat.lt_of_lt_of_le h.lt hb.size⟩

theorem Duo.keep {w w' : World} {b : Nat} {v0 v1 : Value} (h : Duo w b v0 v1) (hb : Below w.heap.size w w') : Duo w' b v0 v1 :=
  h.but (But.of_below (S := fun _ => False) hb) (fun h => h)

theorem Duo.set0 {w : World} {b : Nat} {v0 v1 : Value} (h : Duo w b v0 v1) (u : Value) : Duo (w.setCell ⟨b, 0, none⟩ u) b u v1 :=
  ⟨World.cell?_setCell_same _ _ _ h.c0, by rw [World.cell?_setCell_other _ _ _ _ (ne_off3 _ _ _ (by decide))]; exact h.c1, by rw [World.frozen?_setCell]; exact h.f0, by rw [World.frozen?_setCell]; exact h.f1, by simp [World.setCell]; exact h.lt⟩
theorem Duo.set1 {w : World} {b : Nat} {v0 v1 : Value} (h : Duo w b v0 v1) (u : Value) : Duo (w.setCell ⟨b, 1, none⟩ u) b v0 u :=
  ⟨by rw [World.cell?_setCell_other _ _ _ _ (ne_off3 _ _ _ (by decide))]; exact h.c0, World.cell?_setCell_same _ _ _ h.c1, by rw [World.frozen?_setCell]; exact h.f0, by rw [World.frozen?_setCell]; exact h.f1, by simp [World.setCell]; exact h.lt⟩
end Go.Proofs.Ytfhgohpldpnkbaa
