/- Trees in memory: the program's nodes. -/
import Derived.Test.YtmnglaeaicicnaaBtw
import Derived.Test.YtmnglaeaicicnaaMv0
import Derived.Deep.DrawnRows
import Derived.Deep.LoopGhost
import Derived.Deep.RegionHeld3
import Derived.Deep.Cut
namespace Go.Proofs.Ytmnglaeaicicnaa
open Go.RowKit Go.Lib
namespace MV
attribute [local go_sem ↓] Go.wp_at_zero Go.wp_at_succ

/-- A node's block: seven cells. -/
structure Bxv (w : World) (b : Nat) (v0 v1 v2 v3 : Value) (v : Hf) : Prop where
  c0 : w.cell? ⟨b, 0, none⟩ = some v0
  c1 : w.cell? ⟨b, 1, none⟩ = some v1
  c2 : w.cell? ⟨b, 2, none⟩ = some v2
  c3 : w.cell? ⟨b, 3, none⟩ = some v3
  c4 : w.cell? ⟨b, 4, none⟩ = some (.int .i64 v.a)
  c5 : w.cell? ⟨b, 5, none⟩ = some (.int .i64 v.b)
  c6 : w.cell? ⟨b, 6, none⟩ = some (.string v.c)
  lt : b < w.heap.size
theorem Bxv.new (w : World) (t : TypeId) (v0 v1 v2 v3 : Value) (v : Hf) : Bxv (w.alloc (.cells #[v0, v1, v2, v3, .int .i64 v.a, .int .i64 v.b, .string v.c] t)) w.heap.size v0 v1 v2 v3 v :=
  ⟨by rw [World.cell?_alloc_new]; rfl, by rw [World.cell?_alloc_new]; rfl, by rw [World.cell?_alloc_new]; rfl, by rw [World.cell?_alloc_new]; rfl, by rw [World.cell?_alloc_new]; rfl, by rw [World.cell?_alloc_new]; rfl, by rw [World.cell?_alloc_new]; rfl, by simp⟩
theorem Bxv.but {S : Nat → Prop} {w w' : World} {b : Nat} {v0 v1 v2 v3 : Value} {v : Hf} (h : Bxv w b v0 v1 v2 v3 v) (hb : But S w w') (hs : ¬ S b) : Bxv w' b v0 v1 v2 v3 v :=
  ⟨(hb.cell h.lt hs).trans h.c0, (hb.cell h.lt hs).trans h.c1, (hb.cell h.lt hs).trans h.c2, (hb.cell h.lt hs).trans h.c3, (hb.cell h.lt hs).trans h.c4, (hb.cell h.lt hs).trans h.c5, (hb.cell h.lt hs).trans h.c6, Nat.lt_of_lt_of_le h.lt hb.size⟩
theorem Bxv.keep {w w' : World} {b : Nat} {v0 v1 v2 v3 : Value} {v : Hf} (h : Bxv w b v0 v1 v2 v3 v) (hb : Below w.heap.size w w') : Bxv w' b v0 v1 v2 v3 v := h.but (S := fun _ => False) (But.of_below hb) (fun h => h)

/-- A tree in memory, its nodes in blocks of D. -/
def IsT (w : World) (D : Nat → Prop) : Option Addr → Avt → Prop
  | p, .leaf => p = none
  | p, .node b l h k v r => ∃ pl pr, p = some ⟨b, 0, none⟩ ∧ D b ∧ Bxv w b (.pointer pl) (.pointer pr) (.int .i64 h) (.int .i64 k) v ∧ IsT w D pl l ∧ IsT w D pr r

theorem IsT.but {S D : Nat → Prop} {w w' : World} (hb : But S w w') (hs : ∀ k, D k → ¬ S k) : ∀ {p : Option Addr} {t : Avt}, IsT w D p t → IsT w' D p t
  | _, .leaf, h => h
  | _, .node _ _ _ _ _ _, ⟨pl, pr, hp, hd, hx, h1, h2⟩ => ⟨pl, pr, hp, hd, hx.but hb (hs _ hd), IsT.but hb hs h1, IsT.but hb hs h2⟩

theorem IsT.mono {D D' : Nat → Prop} {w : World} (hd : ∀ k, D k → D' k) : ∀ {p : Option Addr} {t : Avt}, IsT w D p t → IsT w D' p t
  | _, .leaf, h => h
  | _, .node _ _ _ _ _ _, ⟨pl, pr, hp, h0, hx, h1, h2⟩ => ⟨pl, pr, hp, hd _ h0, hx, IsT.mono hd h1, IsT.mono hd h2⟩

theorem IsT.keep {D : Nat → Prop} {w w' : World} (hb : Below w.heap.size w w') {p : Option Addr} {t : Avt} (h : IsT w D p t) : IsT w' D p t := h.but (S := fun _ => False) (But.of_below hb) (fun _ _ h => h)

theorem IsT.ptr {w : World} {D : Nat → Prop} {p : Option Addr} {t : Avt} (h : IsT w D p t) : (p = none ∧ t = .leaf) ∨ ∃ b, p = some ⟨b, 0, none⟩ ∧ b < w.heap.size := by
  cases t with
  | leaf => exact .inl ⟨h, rfl⟩
  | node b l hh k v r => obtain ⟨pl, pr, hp, _, hx, _⟩ := h; exact .inr ⟨b, hp, hx.lt⟩

set_option maxHeartbeats 1000000 in
theorem height_any {w : World} {D : Nat → Prop} {p : Option Addr} {t : Avt} (h : IsT w D p t) : Calls Try.prog 54 #[.pointer p] w fun e w' => e = .returned (.int .i64 t.ht) ∧ w' = w := by
  cases t with
  | leaf =>
    obtain rfl : p = none := h
    go_enter Try.func54, Try.ntmps54
    go_wp2_with fail
    go_ret
    exact ⟨rfl, rfl⟩
  | node b l hh k v r =>
    obtain ⟨pl, pr, rfl, hd, hx, h1, h2⟩ := h
    have c2 := hx.c2
    clear hx h1 h2
    go_enter Try.func54, Try.ntmps54
    go_wp2_with fail
    go_ret
    exact ⟨rfl, rfl⟩

set_option maxHeartbeats 1000000 in
theorem over_any {w : World} {D : Nat → Prop} {b : Nat} {x0 x1 x2 : Value} {k : Int} {v : Hf} (hx : Bxv w b x0 x1 x2 (.int .i64 k) v) {pl pr : Option Addr} {l r : Avt} (h1 : IsT w D pl l) (h2 : IsT w D pr r)
    (b1 : 0 ≤ l.ht ∧ l.ht ≤ 1000000000000) (b2 : 0 ≤ r.ht ∧ r.ht ≤ 1000000000000) :
    Calls Try.prog 55 #[.pointer (some ⟨b, 0, none⟩), .pointer pl, .pointer pr] w fun e w' => ∃ b', e = .returned (.pointer (some ⟨b', 0, none⟩)) ∧ w.heap.size ≤ b' ∧ Bxv w' b' (.pointer pl) (.pointer pr) (.int .i64 (1 + max l.ht r.ht)) (.int .i64 k) v ∧ Below w.heap.size w w' := by
  have H1 := hidb h1
  have H2 := hidb h2
  clear h1 h2
  have k3 := hx.c3
  have k4 := hx.c4; have k5 := hx.c5; have k6 := hx.c6
  clear hx
  have b1' := hidb b1
  have b2' := hidb b2
  clear b1 b2
  go_enter Try.func55, Try.ntmps55
  go_wp2_with (first | (go_at_call 54; refine (height_any H1.out).mono ?_; clear H1; rintro e w' ⟨rfl, rfl⟩) | (go_at_call 54; refine (height_any H2.out).mono ?_; clear H2; rintro e w' ⟨rfl, rfl⟩))
  all_goals
    have q1 := b1'.out
    have q2 := b2'.out
  · have e1 : wrap64 (1 + r.ht) = 1 + max l.ht r.ht := by unfold wrap64; omega
    rw [e1]
    clear e1 q1 q2
    go_region
    go_wp2_with fail
    go_ret
    exact ⟨_, rfl, Nat.le_refl _, (Bxv.new _ _ _ _ _ _ _).keep ((Below.refl _ _).drew), (below_new _ _).drew⟩
  · have e1 : wrap64 (1 + l.ht) = 1 + max l.ht r.ht := by unfold wrap64; omega
    rw [e1]
    clear e1 q1 q2
    go_region
    go_wp2_with fail
    go_ret
    exact ⟨_, rfl, Nat.le_refl _, (Bxv.new _ _ _ _ _ _ _).keep ((Below.refl _ _).drew), (below_new _ _).drew⟩

set_option maxHeartbeats 1000000 in
theorem find_any {w : World} {D : Nat → Prop} {p : Option Addr} {t : Avt} (h : IsT w D p t) (hr : Rise t.ord) (key : Int) :
    Calls Try.prog 43 #[.pointer p, .int .i64 key] w fun e w' => w' = w ∧ ∃ q, e = .returned (.pointer q) ∧
      ((q = none ∧ getL key t.ord = none) ∨ ∃ b v x0 x1 x2, q = some ⟨b, 0, none⟩ ∧ Bxv w b x0 x1 x2 (.int .i64 key) v ∧ getL key t.ord = some v) := by
  go_enter Try.func43, Try.ntmps43
  go_wp2_with fail
  go_loopg [0] t.ord.length (fun gk pv wr => ∃ p' t', pv = .pointer p' ∧ IsT w D p' t' ∧ t'.ord.length ≤ gk ∧ wr = w ∧ Rise t'.ord ∧ getL key t.ord = getL key t'.ord)
  case atStart => exact ⟨p, t, rfl, h, Nat.le_refl _, rfl, hr, rfl⟩
  case round =>
  obtain ⟨p', t', rfl, ht, hle, rfl, hr', hg⟩ := hrel
  have HG := hidb hg
  have HL := hidb hle
  clear hg hle
  cases t' with
  | leaf =>
    obtain rfl : p' = none := ht
    go_wp2_with fail
    go_ret
    exact ⟨rfl, _, rfl, .inl ⟨rfl, HG.out.trans rfl⟩⟩
  | node b l hh k v r =>
    obtain ⟨pl, pr, rfl, hd, hx, h1, h2⟩ := ht
    have HX := hidb hx
    have c0 := hx.c0
    have c1 := hx.c1
    have c3 := hx.c3
    clear hx
    have HR := hidb hr'
    clear hr'
    have hord : (Avt.node b l hh k v r).ord = l.ord ++ (k, v) :: r.ord := rfl
    rw [hord] at HG HL HR
    clear hord
    rcases Int.lt_trichotomy key k with hk | hk | hk
    · have n1 : ¬ k = key := by omega
      go_wp2_with fail
      go_roundg l.ord.length
      case measure => have := HL.out; simp at this; omega
      case rel => exact ⟨pl, l, rfl, h1, Nat.le_refl _, rfl, (rise_node HR.out).1, HG.out.trans (getL_left HR.out hk)⟩
    · subst hk
      go_wp2_with fail
      go_ret
      exact ⟨rfl, _, rfl, .inr ⟨b, v, _, _, _, rfl, HX.out, HG.out.trans (getL_here HR.out)⟩⟩
    · have n1 : ¬ k = key := by omega
      have n2 : ¬ key < k := by omega
      go_wp2_with fail
      go_roundg r.ord.length
      case measure => have := HL.out; simp at this; omega
      case rel => exact ⟨pr, r, rfl, h2, Nat.le_refl _, rfl, (rise_node HR.out).2.1, HG.out.trans (getL_right HR.out hk)⟩

end MV
end Go.Proofs.Ytmnglaeaicicnaa
