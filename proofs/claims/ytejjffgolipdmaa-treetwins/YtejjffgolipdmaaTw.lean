/- A tree, its twin, the document's of both, what was, and a sequence: side by side while acts are done on either. -/
import Derived.Test.YtejjffgolipdmaaAvZ
namespace Go.Proofs.Ytejjffgolipdmaa
open Go.RowKit Go.Shelf

/-- Of a block: there, and none of the twin's own. -/
def Off (w : World) (ub sb : Nat) (Es : Nat → Prop) (k : Nat) : Prop := k < w.heap.size ∧ k ≠ ub ∧ k ≠ sb ∧ ¬ Es k

theorem Off.le {w w' : World} {ub sb : Nat} {Es : Nat → Prop} {k : Nat} (h : Off w ub sb Es k) (hs : w.heap.size ≤ w'.heap.size) : Off w' ub sb Es k := ⟨Nat.lt_of_lt_of_le h.1 hs, h.2⟩

/-- Ahead of both: n is the size of memory when the first acts were done. -/
structure TwA (w : World) (n B tb rb ub sb wb vb : Nat) (D E Es Ew Dq : Nat → Prop) (M : List KV) (f : Value) : Prop where
  t : TB w tb D M
  r : RB w rb E M
  u : TB w ub D M
  s : RB w sb Es M
  q : RB w wb Ew M
  v : w.cell? ⟨vb, 0, none⟩ = some (.pointer (some ⟨wb, 0, none⟩))
  sq : SQ w Dq f (-9223372036854775808) M
  hD : ∀ k, D k → B ≤ k ∧ k < n ∧ k ≠ rb ∧ ¬ E k
  hE : ∀ k, E k → B ≤ k ∧ k < n ∧ k ≠ tb
  htb : B ≤ tb ∧ tb < n
  hrb : B ≤ rb ∧ rb < n
  ne : tb ≠ rb
  hn : n ≤ w.heap.size
  hub : n ≤ ub ∧ ub < w.heap.size
  hsb : n ≤ sb ∧ sb < w.heap.size
  us : ub ≠ sb
  hEs : ∀ k, Es k → n ≤ k ∧ k < w.heap.size ∧ k ≠ ub
  hEw : ∀ k, Ew k → n ≤ k ∧ Off w ub sb Es k
  hDq : ∀ k, Dq k → (D k ∨ n ≤ k) ∧ Off w ub sb Es k
  hwb : n ≤ wb ∧ Off w ub sb Es wb
  hvb : n ≤ vb ∧ Off w ub sb Es vb

/-- Between both. -/
structure TwB (w : World) (B tb rb ub sb wb vb : Nat) (D Es Ew Dq : Nat → Prop) (M L : List KV) (f : Value) : Prop where
  t : ∃ D9, TB w tb D9 L ∧ ∀ k, D9 k → Off w ub sb Es k
  r : ∃ E9, RB w rb E9 L ∧ ∀ k, E9 k → Off w ub sb Es k
  u : TB w ub D M
  s : RB w sb Es M
  q : RB w wb Ew M
  v : w.cell? ⟨vb, 0, none⟩ = some (.pointer (some ⟨wb, 0, none⟩))
  sq : SQ w Dq f (-9223372036854775808) M
  hD : ∀ k, D k → B ≤ k ∧ k < w.heap.size ∧ k ≠ sb ∧ ¬ Es k
  hEs : ∀ k, Es k → B ≤ k ∧ k < w.heap.size ∧ k ≠ ub
  hub : B ≤ ub
  hsb : B ≤ sb
  us : ub ≠ sb
  htb : Off w ub sb Es tb
  hrb : Off w ub sb Es rb
  hEw : ∀ k, Ew k → Off w ub sb Es k
  hDq : ∀ k, Dq k → Off w ub sb Es k
  hwb : Off w ub sb Es wb
  hvb : Off w ub sb Es vb

/-- Behind both. -/
structure TwC (w : World) (tb rb ub sb wb vb : Nat) (Ew Dq : Nat → Prop) (M L R : List KV) (f : Value) : Prop where
  t : ∃ D9, TB w tb D9 L ∧ ∀ k, D9 k → k < w.heap.size
  r : ∃ E9, RB w rb E9 L
  u : ∃ D9, TB w ub D9 R ∧ ∀ k, D9 k → k < w.heap.size
  s : ∃ E9, RB w sb E9 R
  q : RB w wb Ew M
  v : w.cell? ⟨vb, 0, none⟩ = some (.pointer (some ⟨wb, 0, none⟩))
  sq : SQ w Dq f (-9223372036854775808) M
  hDq : ∀ k, Dq k → k < w.heap.size
  hEw : ∀ k, Ew k → k < w.heap.size

section
variable {w w' : World} {n B tb rb ub sb wb vb : Nat} {D E Es Ew Dq : Nat → Prop} {M L R : List KV} {f : Value}

def XA (w : World) (tb rb : Nat) (E : Nat → Prop) (k : Nat) : Prop := k < w.heap.size ∧ k ≠ tb ∧ k ≠ rb ∧ ¬ E k
def ZA (w : World) (D : Nat → Prop) (k : Nat) : Prop := k < w.heap.size ∧ ¬ D k

theorem TwA.pz (h : TwA w n B tb rb ub sb wb vb D E Es Ew Dq M f) : PZ w B (XA w tb rb E) (ZA w D) tb rb M M := by
  have hn := h.hn
  exact ⟨D, E, h.t, h.r, fun k hk => by obtain ⟨a, b, c, d⟩ := h.hD k hk; exact ⟨a, by omega, c, d⟩, fun k hk => by obtain ⟨a, b, c⟩ := h.hE k hk; exact ⟨a, by omega, c, fun x => x.2.2.2 hk⟩, h.ne, h.htb.1, h.hrb.1, fun x => x.2.1 rfl, fun x => x.2.2.1 rfl, fun k x => x.1, fun k hk z => z.2 hk, fun k z => z.1⟩

theorem TwA.next (h : TwA w n B tb rb ub sb wb vb D E Es Ew Dq M f) (hp : PZ w' B (XA w tb rb E) (ZA w D) tb rb L L) (hb : But (fun k => B ≤ k ∧ ¬ XA w tb rb E k) w w') : TwB w' B tb rb ub sb wb vb D Es Ew Dq M L f := by
  have hs := hb.size
  have hn := h.hn
  have htb := h.htb
  have hrb := h.hrb
  have hub := h.hub
  have hsb := h.hsb
  have hBn : B ≤ n := by omega
  -- what lies at n or above, and was there, stays
  have hi : ∀ k, n ≤ k → k < w.heap.size → ¬ (B ≤ k ∧ ¬ XA w tb rb E k) := fun k h1 h2 z => z.2 ⟨h2, by omega, by omega, fun e => by have := (h.hE k e).2.1; omega⟩
  have hd : ∀ k, D k → ¬ (B ≤ k ∧ ¬ XA w tb rb E k) := fun k hk z => by
    obtain ⟨a, b, c, d⟩ := h.hD k hk
    have htd : k ≠ tb := fun e => by subst e; obtain ⟨p, t, -, -, -, -, -, -, hx⟩ := h.t; exact hx hk
    exact z.2 ⟨by omega, htd, c, d⟩
  have lo : ∀ k, k < n → Off w' ub sb Es k := fun k hk => ⟨by omega, by omega, by omega, fun e => by have := (h.hEs k e).1; omega⟩
  have up : ∀ k, w.heap.size ≤ k → k < w'.heap.size → Off w' ub sb Es k := fun k h1 h2 => ⟨h2, by omega, by omega, fun e => by have := (h.hEs k e).2.1; omega⟩
  obtain ⟨D9, E9, g1, g2, g3, g4, -, -, -, -, -, g10, g11, g12⟩ := hp
  refine ⟨⟨D9, g1, fun k hk => ?_⟩, ⟨E9, g2, fun k hk => ?_⟩, h.u.but hb hd (hi ub hub.1 hub.2), h.s.but hb (hi sb hsb.1 hsb.2) (fun k hk => hi k (h.hEs k hk).1 (h.hEs k hk).2.1), h.q.but hb (hi wb h.hwb.1 h.hwb.2.1) (fun k hk => hi k (h.hEw k hk).1 (h.hEw k hk).2.1), (hb.cell (p := ⟨vb, 0, none⟩) h.hvb.2.1 (hi vb h.hvb.1 h.hvb.2.1)).trans h.v, h.sq.but hb (fun k hk => ?_), fun k hk => ?_, fun k hk => ?_, by omega, by omega, h.us, lo tb htb.2, lo rb hrb.2, fun k hk => (h.hEw k hk).2.le hs, fun k hk => (h.hDq k hk).2.le hs, h.hwb.2.le hs, h.hvb.2.le hs⟩
  · rcases Nat.lt_or_ge k w.heap.size with hlt | hge
    · by_cases hDk : D k
      · exact lo k (h.hD k hDk).2.1
      · exact absurd ⟨hlt, hDk⟩ (g11 k hk)
    · exact up k hge (g3 k hk).2.1
  · obtain ⟨a, b, c, d⟩ := g4 k hk
    rcases Nat.lt_or_ge k w.heap.size with hlt | hge
    · by_cases e1 : k = rb
      · subst e1; exact lo k hrb.2
      · by_cases e2 : E k
        · exact lo k (h.hE k e2).2.1
        · exact absurd ⟨hlt, c, e1, e2⟩ d
    · exact up k hge b
  · obtain ⟨a, b⟩ := h.hDq k hk
    rcases a with a | a
    · exact hd k a
    · exact hi k a b.1
  · obtain ⟨a, b, c, d⟩ := h.hD k hk
    exact ⟨a, by omega, by omega, fun e => by have := (h.hEs k e).1; omega⟩
  · obtain ⟨a, b, c⟩ := h.hEs k hk
    exact ⟨by omega, by omega, c⟩

theorem TwB.pz (h : TwB w B tb rb ub sb wb vb D Es Ew Dq M L f) : PZ w B (XA w ub sb Es) (fun _ => False) ub sb M M :=
  ⟨D, Es, h.u, h.s, h.hD, fun k hk => ⟨(h.hEs k hk).1, (h.hEs k hk).2.1, (h.hEs k hk).2.2, fun x => x.2.2.2 hk⟩, h.us, h.hub, h.hsb, fun x => x.2.1 rfl, fun x => x.2.2.1 rfl, fun _ x => x.1, fun _ _ z => z, fun _ z => z.elim⟩

theorem TwB.next (h : TwB w B tb rb ub sb wb vb D Es Ew Dq M L f) (hp : PZ w' B (XA w ub sb Es) (fun _ => False) ub sb R R) (hb : But (fun k => B ≤ k ∧ ¬ XA w ub sb Es k) w w') : TwC w' tb rb ub sb wb vb Ew Dq M L R f := by
  have hs := hb.size
  have of : ∀ k, Off w ub sb Es k → ¬ (B ≤ k ∧ ¬ XA w ub sb Es k) := fun k h z => z.2 h
  obtain ⟨D9, t1, t2⟩ := h.t
  obtain ⟨E9, r1, r2⟩ := h.r
  obtain ⟨D7, E7, g1, g2, g3, g4, -⟩ := hp
  exact ⟨⟨D9, t1.but hb (fun k hk => of k (t2 k hk)) (of _ h.htb), fun k hk => by have := (t2 k hk).1; omega⟩, ⟨E9, r1.but hb (of _ h.hrb) (fun k hk => of k (r2 k hk))⟩, ⟨D7, g1, fun k hk => (g3 k hk).2.1⟩, ⟨E7, g2⟩, h.q.but hb (of _ h.hwb) (fun k hk => of k (h.hEw k hk)), (hb.cell (p := ⟨vb, 0, none⟩) h.hvb.1 (of _ h.hvb)).trans h.v, h.sq.but hb (fun k hk => of k (h.hDq k hk)), fun k hk => by have := (h.hDq k hk).1; omega, fun k hk => by have := (h.hEw k hk).1; omega⟩
theorem TwC.keep (h : TwC w tb rb ub sb wb vb Ew Dq M L R f) (hb : Below w.heap.size w w') : TwC w' tb rb ub sb wb vb Ew Dq M L R f := by
  have hs := hb.size
  obtain ⟨D1, t1, t2⟩ := h.t
  obtain ⟨E1, r1⟩ := h.r
  obtain ⟨D2, u1, u2⟩ := h.u
  obtain ⟨E2, s1⟩ := h.s
  exact ⟨⟨D1, t1.keep hb, fun k hk => by have := t2 k hk; omega⟩, ⟨E1, r1.keep hb⟩, ⟨D2, u1.keep hb, fun k hk => by have := u2 k hk; omega⟩, ⟨E2, s1.keep hb⟩, h.q.keep hb, (hb.cell (p := ⟨vb, 0, none⟩) (World.block_lt_of_cell? _ _ h.v)).trans h.v, h.sq.keep hb, fun k hk => by have := h.hDq k hk; omega, fun k hk => by have := h.hEw k hk; omega⟩
end
end Go.Proofs.Ytejjffgolipdmaa
