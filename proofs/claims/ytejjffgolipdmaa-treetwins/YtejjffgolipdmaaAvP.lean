/- A tree and the document's, side by side, apart. -/
import Derived.Test.YtejjffgolipdmaaAvJ
namespace Go.Proofs.Ytejjffgolipdmaa
open Go.RowKit Go.Shelf

/-- A tree and the document's tree, both from block B on, apart, and none of X. -/
def PR (w : World) (B : Nat) (X : Nat → Prop) (tb rb : Nat) (L1 L2 : List KV) : Prop :=
  ∃ D E : Nat → Prop, TB w tb D L1 ∧ RB w rb E L2 ∧ (∀ k, D k → B ≤ k ∧ k < w.heap.size ∧ k ≠ rb ∧ ¬ E k) ∧ (∀ k, E k → B ≤ k ∧ k < w.heap.size ∧ k ≠ tb ∧ ¬ X k) ∧ tb ≠ rb ∧ B ≤ tb ∧ B ≤ rb ∧ ¬ X tb ∧ ¬ X rb ∧ ∀ k, X k → k < w.heap.size

variable {w w' : World} {B tb rb : Nat} {X : Nat → Prop} {L1 L2 : List KV}

theorem PR.rise1 (h : PR w B X tb rb L1 L2) : Rise L1 := by obtain ⟨D, E, h1, _⟩ := h; exact h1.rise
theorem PR.tree (h : PR w B X tb rb L1 L2) : ∃ D, TB w tb D L1 := by obtain ⟨D, E, h1, _⟩ := h; exact ⟨D, h1⟩
theorem PR.ref (h : PR w B X tb rb L1 L2) : ∃ E, RB w rb E L2 := by obtain ⟨D, E, _, h2, _⟩ := h; exact ⟨E, h2⟩
theorem PR.keep (h : PR w B X tb rb L1 L2) (hb : Below w.heap.size w w') : PR w' B X tb rb L1 L2 := by
  obtain ⟨D, E, h1, h2, h3, h4, h5, h6, h7, h8, h9, h10⟩ := h
  have hs := hb.size
  exact ⟨D, E, h1.keep hb, h2.keep hb, fun k hk => by obtain ⟨a, b, c⟩ := h3 k hk; exact ⟨a, by omega, c⟩, fun k hk => by obtain ⟨a, b, c⟩ := h4 k hk; exact ⟨a, by omega, c⟩, h5, h6, h7, h8, h9, fun k hk => by have := h10 k hk; omega⟩
theorem PR.turn {Y : Nat → Prop} (h : PR w B X tb rb L1 L2) (hb : Below w.heap.size w w') (hY : ∀ k, Y k → w.heap.size ≤ k ∧ k < w'.heap.size) : PR w' B Y tb rb L1 L2 := by
  obtain ⟨D, E, h1, h2, h3, h4, h5, h6, h7, h8, h9, h10⟩ := h
  have hs := hb.size
  have ht := h1.lt
  have hr := h2.lt
  exact ⟨D, E, h1.keep hb, h2.keep hb, fun k hk => by obtain ⟨a, b, c, d⟩ := h3 k hk; exact ⟨a, by omega, c, d⟩, fun k hk => by obtain ⟨a, b, c, _⟩ := h4 k hk; exact ⟨a, by omega, c, fun y => by have := hY k y; omega⟩, h5, h6, h7, fun y => by have := hY _ y; omega, fun y => by have := hY _ y; omega, fun k hk => (hY k hk).2⟩


theorem PR.first {L1' : List KV} {D E : Nat → Prop} (h2 : RB w rb E L2) (h3 : ∀ k, D k → B ≤ k ∧ k < w.heap.size ∧ k ≠ rb ∧ ¬ E k) (h4 : ∀ k, E k → B ≤ k ∧ k < w.heap.size ∧ k ≠ tb ∧ ¬ X k) (h5 : tb ≠ rb) (h6 : B ≤ tb) (h7 : B ≤ rb) (h8 : ¬ X tb) (h9 : ¬ X rb) (h10 : ∀ k, X k → k < w.heap.size) (_ : B ≤ w.heap.size)
    (ht : TB w' tb (Nw D w w') L1') (hb : But (fun k => k = tb) w w') : PR w' B X tb rb L1' L2 ∧ But (fun k => B ≤ k ∧ ¬ X k) w w' := by
  have hs := hb.size
  have hr := h2.lt
  refine ⟨⟨Nw D w w', E, ht, h2.but hb (by simpa using h5.symm) (fun k hk e => (h4 k hk).2.2.1 e), fun k hk => ?_, fun k hk => by obtain ⟨a, b, c⟩ := h4 k hk; exact ⟨a, by omega, c⟩, h5, h6, h7, h8, h9, fun k hk => by have := h10 k hk; omega⟩, hb.mono (fun k _ e => by subst e; exact ⟨h6, h8⟩)⟩
  rcases hk with hk | ⟨ha, hc⟩
  · obtain ⟨a, b, c⟩ := h3 k hk; exact ⟨a, by omega, c⟩
  · exact ⟨by omega, hc, by omega, fun e => by have := (h4 k e).2.1; omega⟩

theorem PR.second {L2' : List KV} {D E : Nat → Prop} (h1 : TB w tb D L1) (h3 : ∀ k, D k → B ≤ k ∧ k < w.heap.size ∧ k ≠ rb ∧ ¬ E k) (h4 : ∀ k, E k → B ≤ k ∧ k < w.heap.size ∧ k ≠ tb ∧ ¬ X k) (h5 : tb ≠ rb) (h6 : B ≤ tb) (h7 : B ≤ rb) (h8 : ¬ X tb) (h9 : ¬ X rb) (h10 : ∀ k, X k → k < w.heap.size) (_ : B ≤ w.heap.size)
    (ht : RB w' rb (Ne E w w') L2') (hb : But (fun k => k = rb ∨ E k) w w') : PR w' B X tb rb L1 L2' ∧ But (fun k => B ≤ k ∧ ¬ X k) w w' := by
  have hs := hb.size
  have hr := h1.lt
  refine ⟨⟨D, Ne E w w', h1.but hb (fun k hk e => by obtain ⟨a, b, c, d⟩ := h3 k hk; rcases e with e | e; exact c e; exact d e) (fun e => by rcases e with e | e; exact h5 e; exact (h4 _ e).2.2.1 rfl), ht, fun k hk => ?_, fun k hk => ?_, h5, h6, h7, h8, h9, fun k hk => by have := h10 k hk; omega⟩, hb.mono (fun k _ e => by rcases e with rfl | e; exact ⟨h7, h9⟩; exact ⟨(h4 k e).1, (h4 k e).2.2.2⟩)⟩
  · obtain ⟨a, b, c, d⟩ := h3 k hk
    exact ⟨a, by omega, c, fun x => by rcases x with x | x; exact d x; omega⟩
  · rcases hk with hk | ⟨ha, hc⟩
    · obtain ⟨a, b, c⟩ := h4 k hk; exact ⟨a, by omega, c⟩
    · exact ⟨by omega, hc, by omega, fun e => by have := h10 k e; omega⟩

theorem PR.put (h : PR w B X tb rb L1 L2) (hN : L1.length < 10000000) (key v : Int) (hk : -9223372036854775808 ≤ key) :
    Calls Try.prog 10 #[.pointer (some ⟨tb, 0, none⟩), .int .i64 key, .int .i64 v] w fun e w' => e = .returned (.bool (!(getL key L1).isSome)) ∧ PR w' B X tb rb (insL key v L1) L2 ∧ But (fun k => B ≤ k ∧ ¬ X k) w w' := by
  obtain ⟨D, E, h1, h2, h3, h4, h5, h6, h7, h8, h9, h10⟩ := h
  exact (put_any h1 hN key v hk).mono (fun e w' ⟨a, b, c⟩ => ⟨a, PR.first h2 h3 h4 h5 h6 h7 h8 h9 h10 (by have := h1.lt; omega) b c⟩)
theorem PR.drop (h : PR w B X tb rb L1 L2) (hN : L1.length < 10000000) (key : Int) :
    Calls Try.prog 12 #[.pointer (some ⟨tb, 0, none⟩), .int .i64 key] w fun e w' => e = .returned (.bool (getL key L1).isSome) ∧ PR w' B X tb rb (delL key L1) L2 ∧ But (fun k => B ≤ k ∧ ¬ X k) w w' := by
  obtain ⟨D, E, h1, h2, h3, h4, h5, h6, h7, h8, h9, h10⟩ := h
  exact (drop_any h1 hN key).mono (fun e w' ⟨a, b, c⟩ => ⟨a, PR.first h2 h3 h4 h5 h6 h7 h8 h9 h10 (by have := h1.lt; omega) b c⟩)
theorem PR.rput (h : PR w B X tb rb L1 L2) (hr : Rise L2) (hN : L2.length ≤ 90000) (key v : Int) :
    Calls Try.prog 15 #[.pointer (some ⟨rb, 0, none⟩), .int .i64 key, .int .i64 v] w fun e w' => e = .returned (.bool (!(getL key L2).isSome)) ∧ PR w' B X tb rb L1 (insL key v L2) ∧ But (fun k => B ≤ k ∧ ¬ X k) w w' := by
  obtain ⟨D, E, h1, h2, h3, h4, h5, h6, h7, h8, h9, h10⟩ := h
  exact (rput_any h2 hr key v hN).mono (fun e w' ⟨a, b, c⟩ => ⟨a, PR.second h1 h3 h4 h5 h6 h7 h8 h9 h10 (by have := h1.lt; omega) b c⟩)
theorem PR.rdrop (h : PR w B X tb rb L1 L2) (hr : Rise L2) (hN : L2.length ≤ 90000) (key : Int) :
    Calls Try.prog 16 #[.pointer (some ⟨rb, 0, none⟩), .int .i64 key] w fun e w' => e = .returned (.bool (getL key L2).isSome) ∧ PR w' B X tb rb L1 (delL key L2) ∧ But (fun k => B ≤ k ∧ ¬ X k) w w' := by
  obtain ⟨D, E, h1, h2, h3, h4, h5, h6, h7, h8, h9, h10⟩ := h
  exact (rdrop_any h2 hr key hN).mono (fun e w' ⟨a, b, c⟩ => ⟨a, PR.second h1 h3 h4 h5 h6 h7 h8 h9 h10 (by have := h1.lt; omega) b c⟩)
theorem PR.all {L : List KV} (h : PR w B X tb rb L L) (hN : L.length ≤ 90000) :
    Calls Try.prog 9 #[.pointer (some ⟨tb, 0, none⟩), .pointer (some ⟨rb, 0, none⟩)] w fun e w' => e = .returned (.bool true) ∧ Below w.heap.size w w' := by
  obtain ⟨D, E, h1, h2, h3, -⟩ := h
  exact all_law h1 h2 hN (fun k hk => (h3 k hk).2.1)
theorem PR.get (h : PR w B X tb rb L1 L2) (key : Int) :
    Calls Try.prog 11 #[.pointer (some ⟨tb, 0, none⟩), .int .i64 key] w fun e w' => e = .returned (.tuple #[.int .i64 ((getL key L1).getD 0), .bool (getL key L1).isSome]) ∧ w' = w := by
  obtain ⟨D, h1⟩ := h.tree
  exact get_any h1 key
/-- Put on both: they tell the same. -/
theorem PR.puts {L : List KV} {xb : Nat} {v1 v2 : Value} (h : PR w B X tb rb L L) (hN : L.length ≤ 90000) (key v : Int) (hk : -9223372036854775808 ≤ key) (hX : X xb) (k1 : w.cell? ⟨xb, 1, none⟩ = some v1) (k2 : w.cell? ⟨xb, 2, none⟩ = some v2) :
    ∃ bb : Bool, Calls Try.prog 10 #[.pointer (some ⟨tb, 0, none⟩), .int .i64 key, .int .i64 v] w fun e w' => e = .returned (.bool bb) ∧ Hid (w'.cell? ⟨xb, 1, none⟩ = some v1 ∧ w'.cell? ⟨xb, 2, none⟩ = some v2) ∧ Hid (Calls Try.prog 15 #[.pointer (some ⟨rb, 0, none⟩), .int .i64 key, .int .i64 v] w' fun e w' => ∃ M : List KV, e = .returned (.bool bb) ∧ Hid (w'.cell? ⟨xb, 1, none⟩ = some v1 ∧ w'.cell? ⟨xb, 2, none⟩ = some v2) ∧ Hid (PR w' B X tb rb M M ∧ M.length ≤ L.length + 1 ∧ But (fun k => B ≤ k ∧ ¬ X k) w w')) := by
  have hr := h.rise1
  have hlt : xb < w.heap.size := World.block_lt_of_cell? _ _ k1
  refine ⟨!(getL key L).isSome, (h.put (by omega) key v hk).mono ?_⟩
  rintro e w1 ⟨rfl, hP, hB⟩
  have c1 := (hB.cell (p := ⟨xb, 1, none⟩) hlt (fun z => z.2 hX)).trans k1
  have c2 := (hB.cell (p := ⟨xb, 2, none⟩) hlt (fun z => z.2 hX)).trans k2
  refine ⟨rfl, hidb ⟨c1, c2⟩, hidb ((hP.rput hr hN key v).mono ?_)⟩
  rintro e w2 ⟨rfl, hP2, hB2⟩
  have hlt1 : xb < w1.heap.size := World.block_lt_of_cell? _ _ c1
  exact ⟨_, rfl, hidb ⟨(hB2.cell (p := ⟨xb, 1, none⟩) hlt1 (fun z => z.2 hX)).trans c1, (hB2.cell (p := ⟨xb, 2, none⟩) hlt1 (fun z => z.2 hX)).trans c2⟩, hidb ⟨hP2, by rw [ins_len hr]; split <;> omega, hB.trans hB2⟩⟩
/-- Drop on both: they tell the same. -/
theorem PR.drops {L : List KV} {xb : Nat} {v1 v2 : Value} (h : PR w B X tb rb L L) (hN : L.length ≤ 90000) (key : Int) (hX : X xb) (k1 : w.cell? ⟨xb, 1, none⟩ = some v1) (k2 : w.cell? ⟨xb, 2, none⟩ = some v2) :
    ∃ bb : Bool, Calls Try.prog 12 #[.pointer (some ⟨tb, 0, none⟩), .int .i64 key] w fun e w' => e = .returned (.bool bb) ∧ Hid (w'.cell? ⟨xb, 1, none⟩ = some v1 ∧ w'.cell? ⟨xb, 2, none⟩ = some v2) ∧ Hid (Calls Try.prog 16 #[.pointer (some ⟨rb, 0, none⟩), .int .i64 key] w' fun e w' => ∃ M : List KV, e = .returned (.bool bb) ∧ Hid (w'.cell? ⟨xb, 1, none⟩ = some v1 ∧ w'.cell? ⟨xb, 2, none⟩ = some v2) ∧ Hid (PR w' B X tb rb M M ∧ M.length ≤ L.length + 1 ∧ But (fun k => B ≤ k ∧ ¬ X k) w w')) := by
  have hr := h.rise1
  have hlt : xb < w.heap.size := World.block_lt_of_cell? _ _ k1
  refine ⟨(getL key L).isSome, (h.drop (by omega) key).mono ?_⟩
  rintro e w1 ⟨rfl, hP, hB⟩
  have c1 := (hB.cell (p := ⟨xb, 1, none⟩) hlt (fun z => z.2 hX)).trans k1
  have c2 := (hB.cell (p := ⟨xb, 2, none⟩) hlt (fun z => z.2 hX)).trans k2
  refine ⟨rfl, hidb ⟨c1, c2⟩, hidb ((hP.rdrop hr hN key).mono ?_)⟩
  rintro e w2 ⟨rfl, hP2, hB2⟩
  have hlt1 : xb < w1.heap.size := World.block_lt_of_cell? _ _ c1
  exact ⟨_, rfl, hidb ⟨(hB2.cell (p := ⟨xb, 1, none⟩) hlt1 (fun z => z.2 hX)).trans c1, (hB2.cell (p := ⟨xb, 2, none⟩) hlt1 (fun z => z.2 hX)).trans c2⟩, hidb ⟨hP2, Nat.le_succ_of_le (List.length_filter_le _ _), hB.trans hB2⟩⟩
/-- Height, Len and Least, and how long the rows are. -/
theorem PR.tops {L : List KV} (h : PR w B X tb rb L L) (hN : L.length ≤ 90000) :
    Calls Try.prog 14 #[.pointer (some ⟨tb, 0, none⟩)] w fun e w' => ∃ (hv lv : Int) (N : Nat) (a : Option Addr) (c : Nat), e = .returned (.int .i64 hv) ∧ w' = w ∧ Hid (0 ≤ hv ∧ hv ≤ 64 ∧ lv ≤ (N : Int)) ∧ Hid (∀ w2, Calls Try.prog 19 #[.int .i64 hv] w2 fun e w' => e = .returned (.int .i64 lv) ∧ w' = w2) ∧
      Hid (Calls Try.prog 13 #[.pointer (some ⟨tb, 0, none⟩)] w.drew fun e w' => e = .returned (.int .i64 (N : Int)) ∧ w' = w.drew) ∧ Hid (w.drew.cell? ⟨rb, 0, none⟩ = some (.slice a N c)) := by
  obtain ⟨D, h1⟩ := h.tree
  obtain ⟨E, h2⟩ := h.ref
  obtain ⟨a1, c1, _, _, d0, -, -⟩ := h2.cells
  refine (hl_any h1 (by omega)).mono ?_
  rintro e w' ⟨hv, lv, rfl, rfl, HV, HL⟩
  obtain ⟨z1, z2, -, z4⟩ := HV.out
  exact ⟨hv, lv, L.length, a1, c1, rfl, rfl, hidb ⟨z1, z2, z4⟩, HL, hidb (len_any (h1.keep ((Below.refl _ _).drew))), hidb d0⟩

/-- A row of acts. -/
def AC (w : World) (v : Value) (l : List (Int × Int × Int)) : Prop :=
  ∃ q c, v = .slice q l.length c ∧ ∀ (j : Nat) x, l[j]? = some x → ∃ b o, q = some ⟨b, o, none⟩ ∧ w.cell? ⟨b, o + j * 3, none⟩ = some (.int .i64 x.1) ∧ w.cell? ⟨b, o + j * 3 + 1, none⟩ = some (.int .i64 x.2.1) ∧ w.cell? ⟨b, o + j * 3 + 2, none⟩ = some (.int .i64 x.2.2)

theorem RB.start (w : World) : RB (w.alloc (.cells #[.slice none 0 0, .slice none 0 0] 29)) w.heap.size (fun _ => False) [] :=
  ⟨.slice none 0 0, .slice none 0 0, Duo.new _ _ _ _, World.ownsRow_nil _ _ _ _, World.ownsRow_nil _ _ _ _, fun g h => by simp [Value.ownBlock] at h, fun g h => by simp [Value.ownBlock] at h⟩

theorem PR.new (h1 : TB w B (fun _ => False) []) (h2 : RB w (B + 1) (fun _ => False) []) : PR w B (fun _ => False) B (B + 1) [] [] :=
  ⟨_, _, h1, h2, fun _ h => h.elim, fun _ h => h.elim, by omega, Nat.le_refl _, by omega, id, id, fun _ h => h.elim⟩
end Go.Proofs.Ytejjffgolipdmaa
