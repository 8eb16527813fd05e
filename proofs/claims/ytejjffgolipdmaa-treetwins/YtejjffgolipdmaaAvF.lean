/- The document's tree: Put. -/
import Derived.Test.YtejjffgolipdmaaAvE
namespace Go.Proofs.Ytejjffgolipdmaa
open Go.RowKit Go.Lib
attribute [local go_sem ↓] Go.wp_at_zero Go.wp_at_succ

/-- Two rows behind a box of two cells, all apart. -/
structure Fld (w : World) (rb : Nat) (V1 V2 : Value) (ks vs : List Int) (n1 n2 : Nat) : Prop where
  duo : Duo w rb V1 V2
  o1 : w.ownsRow 0 IT 1 V1 n1 (ivs ks)
  o2 : w.ownsRow 0 IT 1 V2 n2 (ivs vs)
  d1 : V1.ownBlock ≠ some rb
  d2 : V2.ownBlock ≠ some rb
  d3 : ∀ g, V1.ownBlock = some g → V2.ownBlock ≠ some g

theorem Fld.of {w : World} {rb : Nat} {E : Nat → Prop} {L : List KV} (h : RB w rb E L) : ∃ V1 V2, Fld w rb V1 V2 (keysOf L) (valsOf L) L.length L.length ∧ (∀ g, V1.ownBlock = some g → E g) ∧ (∀ g, V2.ownBlock = some g → E g) := by
  obtain ⟨V1, V2, h1, h2, h3, h4, h5⟩ := h
  exact ⟨V1, V2, ⟨h1, h2, h3, fun e => (h4 rb e).2.1 rfl, fun e => (h5 rb e).2 rfl, fun g e => (h4 g e).2.2⟩, fun g e => (h4 g e).1, fun g e => (h5 g e).1⟩

theorem Fld.rb {w : World} {rb : Nat} {E : Nat → Prop} {L : List KV} {V1 V2 : Value} (h : Fld w rb V1 V2 (keysOf L) (valsOf L) L.length L.length) (h1 : ∀ g, V1.ownBlock = some g → E g) (h2 : ∀ g, V2.ownBlock = some g → E g) : RB w rb E L :=
  ⟨V1, V2, h.duo, h.o1, h.o2, fun g e => ⟨h1 g e, fun e' => h.d1 (e' ▸ e), h.d3 g e⟩, fun g e => ⟨h2 g e, fun e' => h.d2 (e' ▸ e)⟩⟩

theorem Fld.keep {w w' : World} {rb : Nat} {V1 V2 : Value} {ks vs : List Int} {n1 n2 : Nat} (h : Fld w rb V1 V2 ks vs n1 n2) (hb : Below w.heap.size w w') : Fld w' rb V1 V2 ks vs n1 n2 :=
  ⟨h.duo.keep hb, row_but h.o1 (But.of_below (S := fun _ => False) hb) (fun _ _ h => h), row_but h.o2 (But.of_below (S := fun _ => False) hb) (fun _ _ h => h), h.d1, h.d2, h.d3⟩

theorem Fld.app1 {w Y : World} {rb : Nat} {V1 V2 V1' : Value} {ks vs : List Int} {n1 n2 m : Nat} {zs : List Int} {o : Obj} (h : Fld w rb V1 V2 ks vs n1 n2) (hg : (w.alloc o).grownBy Y V1.ownBlock) (ho : Y.ownsRow 0 IT 1 V1' m (ivs zs)) (hat : V1'.ownBlock = V1.ownBlock ∨ V1'.ownBlock = some (w.alloc o).heap.size) :
    Duo Y rb V1 V2 ∧ Fld (Y.setCell ⟨rb, 0, none⟩ V1') rb V1' V2 zs vs m n2 ∧ But (fun k => k = rb ∨ V1.ownBlock = some k) w (Y.setCell ⟨rb, 0, none⟩ V1') ∧ (∀ g, V1'.ownBlock = some g → V1.ownBlock = some g ∨ w.heap.size ≤ g) := by
  have hb : But (fun k => V1.ownBlock = some k) w Y := ((But.refl _ _).alloc o).trans (But.of_grown hg (fun g e => e))
  have hd := h.duo.but hb h.d1
  have hlt := h.duo.lt
  have h4 : ∀ g, V1'.ownBlock = some g → V1.ownBlock = some g ∨ w.heap.size ≤ g := fun g e => by
    rcases hat with h | h
    · left; rw [← h]; exact e
    · right; rw [h] at e; simp only [World.size_alloc, Option.some.injEq] at e; omega
  have hs : But (fun k => k = rb) Y (Y.setCell ⟨rb, 0, none⟩ V1') := (But.refl (fun k => k = rb) Y).setCell (p := ⟨rb, 0, none⟩) (fun _ => rfl) _
  have hrb : V1'.ownBlock ≠ some rb := fun e => by
    rcases h4 rb e with h' | h'
    · exact h.d1 h'
    · omega
  refine ⟨hd, ⟨hd.set0 _, row_but ho hs (fun g e e' => hrb (e' ▸ e)), row_but (row_but h.o2 hb (fun g e e' => h.d3 g e' e)) hs (fun g e e' => h.d2 (e' ▸ e)), hrb, h.d2, fun g e e' => ?_⟩, (hb.mono (fun k _ h => .inr h)).trans (hs.mono (fun k _ h => .inl h)), h4⟩
  rcases h4 g e with h' | h'
  · exact h.d3 g h' e'
  · have := (h.o2.lt g e').2; omega

theorem Fld.app2 {w Y : World} {rb : Nat} {V1 V2 V2' : Value} {ks vs : List Int} {n1 n2 m : Nat} {zs : List Int} {o : Obj} (h : Fld w rb V1 V2 ks vs n1 n2) (hg : (w.alloc o).grownBy Y V2.ownBlock) (ho : Y.ownsRow 0 IT 1 V2' m (ivs zs)) (hat : V2'.ownBlock = V2.ownBlock ∨ V2'.ownBlock = some (w.alloc o).heap.size) :
    Duo Y rb V1 V2 ∧ Fld (Y.setCell ⟨rb, 1, none⟩ V2') rb V1 V2' ks zs n1 m ∧ But (fun k => k = rb ∨ V2.ownBlock = some k) w (Y.setCell ⟨rb, 1, none⟩ V2') ∧ (∀ g, V2'.ownBlock = some g → V2.ownBlock = some g ∨ w.heap.size ≤ g) := by
  have hb : But (fun k => V2.ownBlock = some k) w Y := ((But.refl _ _).alloc o).trans (But.of_grown hg (fun g e => e))
  have hd := h.duo.but hb h.d2
  have hlt := h.duo.lt
  have h4 : ∀ g, V2'.ownBlock = some g → V2.ownBlock = some g ∨ w.heap.size ≤ g := fun g e => by
    rcases hat with h | h
    · left; rw [← h]; exact e
    · right; rw [h] at e; simp only [World.size_alloc, Option.some.injEq] at e; omega
  have hs : But (fun k => k = rb) Y (Y.setCell ⟨rb, 1, none⟩ V2') := (But.refl (fun k => k = rb) Y).setCell (p := ⟨rb, 1, none⟩) (fun _ => rfl) _
  have hrb : V2'.ownBlock ≠ some rb := fun e => by
    rcases h4 rb e with h' | h'
    · exact h.d2 h'
    · omega
  refine ⟨hd, ⟨hd.set1 _, row_but (row_but h.o1 hb (fun g e e' => h.d3 g e e')) hs (fun g e e' => h.d1 (e' ▸ e)), row_but ho hs (fun g e e' => hrb (e' ▸ e)), h.d1, hrb, fun g e e' => ?_⟩, (hb.mono (fun k _ h => .inr h)).trans (hs.mono (fun k _ h => .inl h)), h4⟩
  rcases h4 g e' with h' | h'
  · exact h.d3 g e h'
  · have := (h.o1.lt g e).2; omega

theorem ivs_set (l : List Int) (j : Nat) (x : Int) : ivs (l.set j x) = (ivs l).set j (.int .i64 x) := by simp [ivs, List.map_set]

theorem Fld.set1 {w : World} {rb g c n1 n2 : Nat} {V2 : Value} {ks vs : List Int} (h : Fld w rb (.slice (some ⟨g, 0, none⟩) n1 c) V2 ks vs n1 n2) (j : Nat) (x : Int) :
    Fld (w.setCell ⟨g, j, none⟩ (.int .i64 x)) rb (.slice (some ⟨g, 0, none⟩) n1 c) V2 (ks.set j x) vs n1 n2 ∧ But (fun k => k = g) w (w.setCell ⟨g, j, none⟩ (.int .i64 x)) := by
  have hs : But (fun k => k = g) w (w.setCell ⟨g, j, none⟩ (.int .i64 x)) := (But.refl (fun k => k = g) w).setCell (p := ⟨g, j, none⟩) (fun _ => rfl) _
  refine ⟨⟨h.duo.but hs (fun e => h.d1 (by rw [e]; rfl)), ?_, row_but h.o2 hs (fun q e e' => h.d3 g rfl (e' ▸ e)), h.d1, h.d2, h.d3⟩, hs⟩
  rw [ivs_set]; exact (h.o1.stored j _).1

theorem Fld.set2 {w : World} {rb g c n1 n2 : Nat} {V1 : Value} {ks vs : List Int} (h : Fld w rb V1 (.slice (some ⟨g, 0, none⟩) n2 c) ks vs n1 n2) (j : Nat) (x : Int) :
    Fld (w.setCell ⟨g, j, none⟩ (.int .i64 x)) rb V1 (.slice (some ⟨g, 0, none⟩) n2 c) ks (vs.set j x) n1 n2 ∧ But (fun k => k = g) w (w.setCell ⟨g, j, none⟩ (.int .i64 x)) := by
  have hs : But (fun k => k = g) w (w.setCell ⟨g, j, none⟩ (.int .i64 x)) := (But.refl (fun k => k = g) w).setCell (p := ⟨g, j, none⟩) (fun _ => rfl) _
  refine ⟨⟨h.duo.but hs (fun e => h.d2 (by rw [e]; rfl)), row_but h.o1 hs (fun q e e' => h.d3 q e (by rw [e']; rfl)), ?_, h.d1, h.d2, h.d3⟩, hs⟩
  rw [ivs_set]; exact (h.o2.stored j _).1

/-- A row whose places behind k are those ahead of them. -/
def sh (l : List Int) (k : Nat) : List Int := (l ++ [0]).take (k + 1) ++ l.drop k

theorem sh_length (l : List Int) (k : Nat) : (sh l k).length = min (k + 1) (l.length + 1) + (l.length - k) := by simp [sh]
theorem row_free {w : World} {g c n : Nat} {xs : List Value} (h : w.ownsRow 0 IT 1 (.slice (some ⟨g, 0, none⟩) n c) n xs) (j : Nat) : w.frozen? ⟨g, j, none⟩ = false := by
  rcases h.2 with ⟨h0, _⟩ | ⟨g', cap, cur, h0, _, hg', _⟩
  · cases h0
  · obtain ⟨rfl, _⟩ : g = g' ∧ c = cap := by simpa using h0
    simp [World.frozen?, hg']

theorem sh_start (l : List Int) : sh l l.length = l ++ [0] := by unfold sh; rw [List.drop_length, List.append_nil, List.take_of_length_le (by simp)]
theorem sh_get {l : List Int} {k : Nat} {x : Int} (hk : 0 < k) (hl : k ≤ l.length) (h : l[k - 1]? = some x) : (sh l k)[k - 1]? = some x := by
  unfold sh
  rw [List.getElem?_append_left (by simp; omega), List.getElem?_take, if_pos (by omega), List.getElem?_append_left (by omega)]
  exact h
theorem sh_step {l : List Int} {k : Nat} {x : Int} (hk : 0 < k) (hl : k ≤ l.length) (h : l[k - 1]? = some x) : (sh l k).set k x = sh l (k - 1) := by
  obtain ⟨k, rfl⟩ : ∃ j, k = j + 1 := ⟨k - 1, by omega⟩
  simp only [Nat.add_sub_cancel] at h ⊢
  unfold sh
  have hlen : ((l ++ [0]).take (k + 1 + 1)).length = k + 2 := by simp; omega
  rw [List.set_append_left _ _ (by omega)]
  have h1 : (l ++ [0]).take (k + 1 + 1) = (l ++ [0]).take (k + 1) ++ [(l ++ [0])[k + 1]'(by simp; omega)] := by rw [List.take_add_one, List.getElem?_eq_getElem (by simp; omega)]; rfl
  rw [h1, List.set_append_right _ _ (by simp; omega)]
  have h2 : l.drop k = x :: l.drop (k + 1) := by
    have hlt : k < l.length := (List.getElem?_eq_some_iff.1 h).1
    rw [List.drop_eq_getElem_cons hlt]
    congr 1
    rw [List.getElem?_eq_getElem hlt] at h
    simpa using h
  rw [h2]
  have h3 : ((l ++ [0]).take (k + 1)).length = k + 1 := by simp; omega
  rw [h3]
  simp
theorem sh_end {a b : List Int} (x : Int) : (sh (a ++ b) a.length).set a.length x = a ++ x :: b := by
  unfold sh
  have h1 : (a ++ b ++ [0]).take (a.length + 1) = a ++ [(b ++ [0])[0]'(by simp)] := by
    rw [List.append_assoc, List.take_append, List.take_of_length_le (by omega)]
    congr 1
    rw [show a.length + 1 - a.length = 1 by omega]
    cases b <;> rfl
  rw [h1, List.drop_left, List.append_assoc, List.set_append_right _ _ (Nat.le_refl _)]
  simp

end Go.Proofs.Ytejjffgolipdmaa
