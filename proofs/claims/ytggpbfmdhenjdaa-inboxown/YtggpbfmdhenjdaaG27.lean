import Derived.Test.YtggpbfmdhenjdaaG07
import Derived.LoopN
import Derived.Test.YtggpbfmdhenjdaaG06
/- spoil: what a term has is written over. -/
namespace Go.Proofs.Ytggpbfmdhenjdaa
open Go.RowKit Go.Lib
attribute [local go_sem] store_float f64bits

/-- Five cells of a block from a place on, not frozen. -/
structure Fv (w : World) (g o : Nat) (v0 v1 v2 v3 v4 : Value) : Prop where
  c0 : w.cell? ⟨g, o, none⟩ = some v0
  c1 : w.cell? ⟨g, o + 1, none⟩ = some v1
  c2 : w.cell? ⟨g, o + 2, none⟩ = some v2
  c3 : w.cell? ⟨g, o + 3, none⟩ = some v3
  c4 : w.cell? ⟨g, o + 4, none⟩ = some v4
  f0 : w.frozen? ⟨g, o, none⟩ = false
  f1 : w.frozen? ⟨g, o + 1, none⟩ = false
  f2 : w.frozen? ⟨g, o + 2, none⟩ = false
  f3 : w.frozen? ⟨g, o + 3, none⟩ = false
  f4 : w.frozen? ⟨g, o + 4, none⟩ = false
theorem Fv.lt {w : World} {g o : Nat} {v0 v1 v2 v3 v4 : Value} (h : Fv w g o v0 v1 v2 v3 v4) : g < w.heap.size := World.block_lt_of_cell? _ _ h.c0
theorem Fv.but {S : Nat → Prop} {w w' : World} {g o : Nat} {v0 v1 v2 v3 v4 : Value} (h : Fv w g o v0 v1 v2 v3 v4) (hb : But S w w') (hs : ¬ S g) : Fv w' g o v0 v1 v2 v3 v4 :=
  ⟨(hb.cell h.lt hs).trans h.c0, (hb.cell h.lt hs).trans h.c1, (hb.cell h.lt hs).trans h.c2, (hb.cell h.lt hs).trans h.c3, (hb.cell h.lt hs).trans h.c4, (hb.frozen h.lt hs).trans h.f0, (hb.frozen h.lt hs).trans h.f1, (hb.frozen h.lt hs).trans h.f2, (hb.frozen h.lt hs).trans h.f3, (hb.frozen h.lt hs).trans h.f4⟩
def set5o (w : World) (g o : Nat) (u0 u1 u2 u3 u4 : Value) : World := ((((w.setCell ⟨g, o, none⟩ u0).setCell ⟨g, o + 1, none⟩ u1).setCell ⟨g, o + 2, none⟩ u2).setCell ⟨g, o + 3, none⟩ u3).setCell ⟨g, o + 4, none⟩ u4
theorem set5o_size (w : World) (g o : Nat) (u0 u1 u2 u3 u4 : Value) : (set5o w g o u0 u1 u2 u3 u4).heap.size = w.heap.size := by simp [set5o]
theorem set5o_frozen (w : World) (g o : Nat) (u0 u1 u2 u3 u4 : Value) (p : Addr) : (set5o w g o u0 u1 u2 u3 u4).frozen? p = w.frozen? p := by simp [set5o, World.frozen?_setCell]
theorem set5o_but (w : World) (g o : Nat) (u0 u1 u2 u3 u4 : Value) : But (fun k => k = g) w (set5o w g o u0 u1 u2 u3 u4) :=
  (((((But.refl (fun k => k = g) w).setCell (p := ⟨g, o, none⟩) (fun _ => rfl) _).setCell (p := ⟨g, o + 1, none⟩) (fun _ => rfl) _).setCell (p := ⟨g, o + 2, none⟩) (fun _ => rfl) _).setCell (p := ⟨g, o + 3, none⟩) (fun _ => rfl) _).setCell (p := ⟨g, o + 4, none⟩) (fun _ => rfl) _
theorem set5o_far {w : World} {g o : Nat} {u0 u1 u2 u3 u4 : Value} {x : Nat} (h : x < o ∨ o + 4 < x) : (set5o w g o u0 u1 u2 u3 u4).cell? ⟨g, x, none⟩ = w.cell? ⟨g, x, none⟩ := by
  unfold set5o
  rw [World.cell?_setCell_other _ _ _ _ (ne_off3 _ _ _ (by omega)), World.cell?_setCell_other _ _ _ _ (ne_off3 _ _ _ (by omega)), World.cell?_setCell_other _ _ _ _ (ne_off3 _ _ _ (by omega)), World.cell?_setCell_other _ _ _ _ (ne_off3 _ _ _ (by omega)), World.cell?_setCell_other _ _ _ _ (ne_off3 _ _ _ (by omega))]
theorem Fv.set {w : World} {g o : Nat} {v0 v1 v2 v3 v4 : Value} (h : Fv w g o v0 v1 v2 v3 v4) (u0 u1 u2 u3 u4 : Value) : Fv (set5o w g o u0 u1 u2 u3 u4) g o u0 u1 u2 u3 u4 := by
  have d0 : (w.setCell ⟨g, o, none⟩ u0).cell? ⟨g, o, none⟩ = some u0 := World.cell?_setCell_same _ _ _ h.c0
  have d1 : ((w.setCell ⟨g, o, none⟩ u0).setCell ⟨g, o + 1, none⟩ u1).cell? ⟨g, o + 1, none⟩ = some u1 := World.cell?_setCell_same _ _ _ (u := v1) (by rw [World.cell?_setCell_other _ _ _ _ (ne_off3 _ _ _ (by omega))]; exact h.c1)
  have d2 : (((w.setCell ⟨g, o, none⟩ u0).setCell ⟨g, o + 1, none⟩ u1).setCell ⟨g, o + 2, none⟩ u2).cell? ⟨g, o + 2, none⟩ = some u2 := World.cell?_setCell_same _ _ _ (u := v2) (by rw [World.cell?_setCell_other _ _ _ _ (ne_off3 _ _ _ (by omega)), World.cell?_setCell_other _ _ _ _ (ne_off3 _ _ _ (by omega))]; exact h.c2)
  have d3 : ((((w.setCell ⟨g, o, none⟩ u0).setCell ⟨g, o + 1, none⟩ u1).setCell ⟨g, o + 2, none⟩ u2).setCell ⟨g, o + 3, none⟩ u3).cell? ⟨g, o + 3, none⟩ = some u3 := World.cell?_setCell_same _ _ _ (u := v3) (by rw [World.cell?_setCell_other _ _ _ _ (ne_off3 _ _ _ (by omega)), World.cell?_setCell_other _ _ _ _ (ne_off3 _ _ _ (by omega)), World.cell?_setCell_other _ _ _ _ (ne_off3 _ _ _ (by omega))]; exact h.c3)
  have d4 : (set5o w g o u0 u1 u2 u3 u4).cell? ⟨g, o + 4, none⟩ = some u4 := World.cell?_setCell_same _ _ _ (u := v4) (by rw [World.cell?_setCell_other _ _ _ _ (ne_off3 _ _ _ (by omega)), World.cell?_setCell_other _ _ _ _ (ne_off3 _ _ _ (by omega)), World.cell?_setCell_other _ _ _ _ (ne_off3 _ _ _ (by omega)), World.cell?_setCell_other _ _ _ _ (ne_off3 _ _ _ (by omega))]; exact h.c4)
  refine ⟨?_, ?_, ?_, ?_, d4, (set5o_frozen ..).trans h.f0, (set5o_frozen ..).trans h.f1, (set5o_frozen ..).trans h.f2, (set5o_frozen ..).trans h.f3, (set5o_frozen ..).trans h.f4⟩
  · unfold set5o; rw [World.cell?_setCell_other _ _ _ _ (ne_off3 _ _ _ (by omega)), World.cell?_setCell_other _ _ _ _ (ne_off3 _ _ _ (by omega)), World.cell?_setCell_other _ _ _ _ (ne_off3 _ _ _ (by omega)), World.cell?_setCell_other _ _ _ _ (ne_off3 _ _ _ (by omega))]; exact d0
  · unfold set5o; rw [World.cell?_setCell_other _ _ _ _ (ne_off3 _ _ _ (by omega)), World.cell?_setCell_other _ _ _ _ (ne_off3 _ _ _ (by omega)), World.cell?_setCell_other _ _ _ _ (ne_off3 _ _ _ (by omega))]; exact d1
  · unfold set5o; rw [World.cell?_setCell_other _ _ _ _ (ne_off3 _ _ _ (by omega)), World.cell?_setCell_other _ _ _ _ (ne_off3 _ _ _ (by omega))]; exact d2
  · unfold set5o; rw [World.cell?_setCell_other _ _ _ _ (ne_off3 _ _ _ (by omega))]; exact d3
theorem Fv.far {w : World} {g o p : Nat} {v0 v1 v2 v3 v4 u0 u1 u2 u3 u4 : Value} (h : Fv w g p v0 v1 v2 v3 v4) (hf : p + 4 < o ∨ o + 4 < p) : Fv (set5o w g o u0 u1 u2 u3 u4) g p v0 v1 v2 v3 v4 :=
  ⟨(set5o_far (by omega)).trans h.c0, (set5o_far (by omega)).trans h.c1, (set5o_far (by omega)).trans h.c2, (set5o_far (by omega)).trans h.c3, (set5o_far (by omega)).trans h.c4, (set5o_frozen ..).trans h.f0, (set5o_frozen ..).trans h.f1, (set5o_frozen ..).trans h.f2, (set5o_frozen ..).trans h.f3, (set5o_frozen ..).trans h.f4⟩

/-- A slice of terms that may be written, down to a height, in blocks of S. -/
def SpH (S : Nat → Prop) (w : World) : Nat → Value → Prop
  | 0, v => ∃ a c, v = .slice a 0 c
  | h + 1, v => ∃ a n c, v = .slice a n c ∧ n ≤ 4000000000 ∧ (n = 0 ∨ ∃ g, a = some ⟨g, 0, none⟩ ∧ S g ∧ ∀ i, i < n → ∃ v0 v1 v2 v3 u, Fv w g (i * 5) v0 v1 v2 v3 u ∧ SpH S w h u)
theorem spH_nil (S : Nat → Prop) (w : World) (a : Option Addr) (c : Nat) : ∀ h, SpH S w h (.slice a 0 c)
  | 0 => ⟨a, c, rfl⟩
  | _ + 1 => ⟨a, 0, c, rfl, by omega, .inl rfl⟩
theorem SpH.up {S : Nat → Prop} {w : World} : ∀ {h : Nat} {v : Value}, SpH S w h v → SpH S w (h + 1) v
  | 0, v, ⟨a, c, e⟩ => ⟨a, 0, c, e, by omega, .inl rfl⟩
  | h + 1, v, ⟨a, n, c, e, hn, r⟩ => ⟨a, n, c, e, hn, r.imp id (fun ⟨g, e1, e2, e3⟩ => ⟨g, e1, e2, fun i hi => by
      obtain ⟨v0, v1, v2, v3, u, f, s⟩ := e3 i hi
      exact ⟨v0, v1, v2, v3, u, f, SpH.up s⟩⟩)⟩
theorem SpH.mono {S : Nat → Prop} {w : World} {h h' : Nat} {v : Value} (H : SpH S w h v) (hl : h ≤ h') : SpH S w h' v := by
  induction hl with
  | refl => exact H
  | step _ ih => exact ih.up
theorem SpH.but {S X : Nat → Prop} {w w' : World} (hb : But X w w') (hx : ∀ k, S k → ¬ X k) : ∀ {h : Nat} {v : Value}, SpH S w h v → SpH S w' h v
  | 0, v, H => H
  | h + 1, v, ⟨a, n, c, e, hn, r⟩ => ⟨a, n, c, e, hn, r.imp id (fun ⟨g, e1, e2, e3⟩ => ⟨g, e1, e2, fun i hi => by
      obtain ⟨v0, v1, v2, v3, u, f, s⟩ := e3 i hi
      exact ⟨v0, v1, v2, v3, u, f.but hb (hx g e2), SpH.but hb hx s⟩⟩)⟩
theorem SpH.more {S S' : Nat → Prop} {w : World} (hS : ∀ k, S k → S' k) : ∀ {h : Nat} {v : Value}, SpH S w h v → SpH S' w h v
  | 0, v, H => H
  | h + 1, v, ⟨a, n, c, e, hn, r⟩ => ⟨a, n, c, e, hn, r.imp id (fun ⟨g, e1, e2, e3⟩ => ⟨g, e1, hS g e2, fun i hi => by
      obtain ⟨v0, v1, v2, v3, u, f, s⟩ := e3 i hi
      exact ⟨v0, v1, v2, v3, u, f, SpH.more hS s⟩⟩)⟩
theorem SpH.set {S : Nat → Prop} {w : World} {g j : Nat} {v0 v1 v2 v3 v4 : Value} (hf : Fv w g (j * 5) v0 v1 v2 v3 v4) (u0 u1 u2 u3 : Value) (a : Option Addr) (c : Nat) : ∀ {h : Nat} {v : Value}, SpH S w h v → SpH S (set5o w g (j * 5) u0 u1 u2 u3 (.slice a 0 c)) h v
  | 0, v, H => H
  | h + 1, v, ⟨b, n, d, e, hn, r⟩ => ⟨b, n, d, e, hn, r.imp id (fun ⟨q, e1, e2, e3⟩ => ⟨q, e1, e2, fun i hi => by
      obtain ⟨x0, x1, x2, x3, u, f, s⟩ := e3 i hi
      by_cases hq : q = g
      · subst hq
        by_cases hij : i = j
        · subst hij
          exact ⟨_, _, _, _, _, hf.set u0 u1 u2 u3 (.slice a 0 c), spH_nil _ _ _ _ _⟩
        · exact ⟨x0, x1, x2, x3, u, f.far (by omega), SpH.set hf u0 u1 u2 u3 a c s⟩
      · exact ⟨x0, x1, x2, x3, u, f.but (set5o_but w g (j * 5) u0 u1 u2 u3 (.slice a 0 c)) hq, SpH.set hf u0 u1 u2 u3 a c s⟩⟩)⟩

set_option maxRecDepth 100000 in
set_option maxHeartbeats 2000000 in
theorem spoil_any {S : Nat → Prop} : ∀ (h : Nat) (v0 v1 v2 v3 v : Value) (w : World), (∀ k, S k → k < w.heap.size) → SpH S w h v →
    Calls Try.prog 15 #[.agg #[v0, v1, v2, v3, v]] w fun e w' => e = .returned (.tuple #[]) ∧ But S w w' ∧ ∀ h' v', SpH S w h' v' → SpH S w' h' v'
  | 0, v0, v1, v2, v3, v, w, hS, H => by
    obtain ⟨a, c, rfl⟩ := H
    have hb : Below w.heap.size w (w.alloc (.cells #[v0, v1, v2, v3, .slice a 0 c] 27)) := below_new _ _
    have HP : Hid (But S w (w.alloc (.cells #[v0, v1, v2, v3, .slice a 0 c] 27)) ∧ ∀ h' v', SpH S w h' v' → SpH S (w.alloc (.cells #[v0, v1, v2, v3, .slice a 0 c] 27)) h' v') := hidb ⟨But.of_below hb, fun h' v' q => SpH.but (But.of_below (S := fun _ => False) hb) (fun _ _ => id) q⟩
    clear hS hb
    go_enter Try.func15, Try.ntmps15
    go_wp2_with fail
    refine wp_loop_rounds 1 ?_
    rw [rounds_succ]
    go_wp2_with fail
    go_end0
    exact ⟨rfl, HP.out⟩
  | h + 1, v0, v1, v2, v3, v, w, hS, H => by
    obtain ⟨a, n, c, rfl, hn, hr⟩ := H
    rcases Nat.eq_zero_or_pos n with rfl | hpos
    · exact spoil_any 0 v0 v1 v2 v3 _ w hS ⟨a, c, rfl⟩
    obtain hr | ⟨g, rfl, hg, hel⟩ := hr
    · omega
    have HEL : Hid (SpH S w (h + 1) (.slice (some ⟨g, 0, none⟩) n c)) := hidb ⟨_, n, c, rfl, hn, .inr ⟨g, rfl, hg, hel⟩⟩
    have HS := hidb hS
    have HN := hidb (And.intro hn hg)
    obtain ⟨W, hW⟩ : ∃ W, w.alloc (.cells #[v0, v1, v2, v3, .slice (some ⟨g, 0, none⟩) n c] 27) = W := ⟨_, rfl⟩
    have hb0 : Below w.heap.size w W := hW ▸ below_new _ _
    have HB0 := hidb hb0
    have HBX : Hid (Box W w.heap.size v0 v1 v2 v3 (.slice (some ⟨g, 0, none⟩) n c)) := hidb (hW ▸ Box.new w _ _ _ _ _ _)
    have HIH : Hid (∀ (v0 v1 v2 v3 v : Value) (w : World), (∀ k, S k → k < w.heap.size) → SpH S w h v → Calls Try.prog 15 #[.agg #[v0, v1, v2, v3, v]] w fun e w' => e = .returned (.tuple #[]) ∧ But S w w' ∧ ∀ h' v', SpH S w h' v' → SpH S w' h' v') := hidb (fun v0 v1 v2 v3 v w => spoil_any h v0 v1 v2 v3 v w)
    clear hS hn hg hel hb0
    go_enter Try.func15, Try.ntmps15
    go_wp2_with fail
    clear hW
    go_loopw [2] (fun iv wr => ∃ k : Nat, iv = .int .i64 (k : Int) ∧ k ≤ n ∧ But S W wr ∧ ∀ h' v', SpH S w h' v' → SpH S wr h' v') (fun iv _ => n - (RowKit.intOf iv).toNat)
    case atStart => exact ⟨0, rfl, by omega, But.refl _ _, fun h' v' q => SpH.but (But.of_below (S := fun _ => False) HB0.out) (fun _ _ => id) q⟩
    case round =>
    obtain ⟨k, rfl, hk, hbt, hpr⟩ := hrel
    have HBT := hidb hbt
    have HPR := hidb hpr
    have HK := hidb hk
    obtain ⟨b0, b1, b2, b3, b4, -⟩ := HBX.out.but hbt (fun e => by have := HS.out _ e; omega)
    have s0 : (0 : Int) ≤ (k : Int) := by omega
    clear hk hbt hpr b0 b1 b2 b3
    by_cases hkn : k < n
    · have s1 : (k : Int) < (n : Int) := by omega
      obtain ⟨a9, n9, c9, e1, -, r1⟩ := HPR.out _ _ HEL.out
      injection e1 with i1 i2 i3
      subst i1 i2 i3
      obtain r1 | ⟨g', e2, -, r2⟩ := r1
      · omega
      obtain rfl : g = g' := by simpa using e2
      obtain ⟨x0, x1, x2, x3, u, F, hu⟩ := r2 k hkn
      have hl9 : ∀ q, S q → q < wr.heap.size := fun q hq => by have := HS.out q hq; have := HB0.out.size; have := HBT.out.size; omega
      have CC : Hid (Calls Try.prog 15 #[.agg #[x0, x1, x2, x3, u]] wr fun e w5 => e = .returned (.tuple #[]) ∧ w5.cell? ⟨w.heap.size, 4, none⟩ = some (.slice (some ⟨g, 0, none⟩) n c) ∧ (∃ y0 y1 y2 y3 y4, Fv w5 g (k * 5) y0 y1 y2 y3 y4) ∧ Hid (But S W w5 ∧ ∀ h' v', SpH S w h' v' → SpH S w5 h' v')) := by
        refine hidb ((HIH.out x0 x1 x2 x3 u wr hl9 hu).mono ?_)
        rintro e w5 ⟨rfl, hb5, hp5⟩
        have hbb := HBT.out.trans hb5
        obtain ⟨a9, n9, c9, e1, -, r1⟩ := hp5 _ _ (HPR.out _ _ HEL.out)
        injection e1 with i1 i2 i3
        subst i1 i2 i3
        obtain r1 | ⟨g', e2, -, r2⟩ := r1
        · omega
        obtain rfl : g = g' := by simpa using e2
        obtain ⟨y0, y1, y2, y3, y4, F5, -⟩ := r2 k hkn
        exact ⟨rfl, (HBX.out.but hbb (fun e => by have := HS.out _ e; omega)).c4, ⟨y0, y1, y2, y3, y4, F5⟩, hidb ⟨hbb, fun h' v' q => hp5 _ _ (HPR.out _ _ q)⟩⟩
      have p0 := F.c0; have p1 := F.c1; have p2 := F.c2; have p3 := F.c3; have p4 := F.c4
      have HW : Hid (wrap64 ((k : Int) + 1) = ((k + 1 : Nat) : Int)) := hidb (by have := HN.out.1; unfold wrap64; omega)
      have HKN := hidb hkn
      clear e2 r2 hu F hl9 hkn
      go_wp2_with (go_at_call 15; refine CC.out.mono ?_; clear CC; rintro e w5 ⟨rfl, b45, ⟨y0, y1, y2, y3, y4, F5⟩, HQ⟩; have HF5 := hidb F5; obtain ⟨z0, z1, z2, z3, z4, fz0, fz1, fz2, fz3, fz4⟩ := F5)
      go_roundw
      case rel =>
        have hq := HQ.out
        refine ⟨k + 1, by rw [HW.out], by have := HKN.out; omega, ?_, fun h' v' q => SpH.set HF5.out _ _ _ _ _ _ (hq.2 h' v' q)⟩
        exact hq.1.trans ((set5o_but w5 g (k * 5) _ _ _ _ _).mono (fun q _ e => e ▸ HN.out.2))
      case measure =>
        rw [HW.out]
        simp only [RowKit.intOf, Int.toNat_natCast]
        have := HKN.out
        omega
    · have s1 : ¬ (k : Int) < (n : Int) := by omega
      clear hkn
      go_wp2_with fail
      go_end0
      exact ⟨rfl, (But.of_below HB0.out).trans HBT.out, HPR.out⟩
end Go.Proofs.Ytggpbfmdhenjdaa


/- Copies may be written: the rows of a copy are not frozen. -/
namespace Go.Proofs.Ytggpbfmdhenjdaa
open Go.RowKit Go.Lib Go.Deep
attribute [local go_sem] store_float f64bits

def Tr.sl : Tr → Value
  | .mk _ _ _ _ a c kids => .slice a kids.length c
abbrev NewS (w w' : World) : Nat → Prop := fun k => w.heap.size ≤ k ∧ k < w'.heap.size
theorem row_fv {w : World} {g m : Nat} {ts : List Tr} {ch : List Nat} (hb : w.heap[g]? = some (.cells (rowCells ts ch).toArray TT)) {u : Tr} {h : Nat} (hm : ts[m]? = some u) (hc : ch[m]? = some h) :
    ∃ v0 v1 v2 v3, Fv w g (m * 5) v0 v1 v2 v3 (cpV u h) := by
  have hcell : ∀ i, i < 5 → w.cell? ⟨g, m * 5 + i, none⟩ = (cpCells u h)[i]? := fun i hi => by
    rw [cell_of_row _ _ _ _ _ _ hb]
    have := rowCells_done ts ch m i _ u hm hc hi
    simpa using this
  have hfr : ∀ i, w.frozen? ⟨g, i, none⟩ = false := fun i => by simp [World.frozen?, hb]
  obtain ⟨k, n, f, s, a, c, kids⟩ := u
  have c0 := hcell 0 (by omega); have c1 := hcell 1 (by omega); have c2 := hcell 2 (by omega); have c3 := hcell 3 (by omega); have c4 := hcell 4 (by omega)
  simp only [cpCells, List.getElem?_cons_zero, List.getElem?_cons_succ] at c0 c1 c2 c3 c4
  exact ⟨_, _, _, _, c0, c1, c2, c3, c4, hfr _, hfr _, hfr _, hfr _, hfr _⟩

section
variable {w0 w : World} {R : RM}
theorem row_sp (blk : ∀ g ts ch, R g = some (ts, ch) → w.heap[g]? = some (.cells (rowCells ts ch).toArray TT) ∧ w0.heap.size ≤ g)
    (src : ∀ g ts ch, R g = some (ts, ch) → ch.length = ts.length ∧ ts.length ≤ 400000 ∧ ∀ t : Tr, t ∈ ts → t.In w0 0) {g : Nat} {ts : List Tr} {ch : List Nat} (hR : R g = some (ts, ch))
    (each : ∀ (m : Nat) (u : Tr) (h : Nat), ts[m]? = some u → ch[m]? = some h → ∃ H, SpH (NewS w0 w) w H (cpV u h)) : ∃ H, SpH (NewS w0 w) w H (.slice (some ⟨g, 0, none⟩) ts.length ts.length) := by
  obtain ⟨hb, hge⟩ := blk _ _ _ hR
  obtain ⟨hcl, hsm, hsrc⟩ := src _ _ _ hR
  have hgl : g < w.heap.size := (Array.getElem?_eq_some_iff.1 hb).1
  have all : ∀ j, j ≤ ts.length → ∃ H, ∀ m u h, m < j → ts[m]? = some u → ch[m]? = some h → SpH (NewS w0 w) w H (cpV u h) := by
    intro j
    induction j with
    | zero => exact fun _ => ⟨0, fun m u h hm => by omega⟩
    | succ j ih =>
      intro hj
      obtain ⟨H1, h1⟩ := ih (by omega)
      obtain ⟨H2, h2⟩ := each j (ts[j]'(by omega)) (ch[j]'(by omega)) (List.getElem?_eq_getElem _) (List.getElem?_eq_getElem _)
      refine ⟨max H1 H2, fun m u h hm hu hh => ?_⟩
      by_cases e : m = j
      · subst e
        rw [List.getElem?_eq_getElem (by omega)] at hu hh
        cases hu; cases hh
        exact h2.mono (by omega)
      · exact (h1 m u h (by omega) hu hh).mono (by omega)
  obtain ⟨H, hH⟩ := all ts.length (Nat.le_refl _)
  refine ⟨H + 1, _, _, _, rfl, by omega, .inr ⟨g, rfl, ⟨hge, hgl⟩, fun i hi => ?_⟩⟩
  have hu : ts[i]? = some (ts[i]'hi) := List.getElem?_eq_getElem hi
  have hh : ch[i]? = some (ch[i]'(by omega)) := List.getElem?_eq_getElem _
  obtain ⟨v0, v1, v2, v3, hf⟩ := row_fv hb hu hh
  exact ⟨v0, v1, v2, v3, _, hf, hH i _ _ hi hu hh⟩

theorem cp_sp (blk : ∀ g ts ch, R g = some (ts, ch) → w.heap[g]? = some (.cells (rowCells ts ch).toArray TT) ∧ w0.heap.size ≤ g)
    (src : ∀ g ts ch, R g = some (ts, ch) → ch.length = ts.length ∧ ts.length ≤ 400000 ∧ ∀ t : Tr, t ∈ ts → t.In w0 0)
    (link : ∀ g ts ch, R g = some (ts, ch) → ∀ (i h : Nat) (t : Tr), ch[i]? = some h → ts[i]? = some t → t.kids.length ≠ 0 → ∃ ch', R h = some (t.kids, ch')) :
    ∀ t : Tr, ∀ h, (t.kids.length ≠ 0 → ∃ ch', R h = some (t.kids, ch')) → ∃ H, SpH (NewS w0 w) w H (cpV t h) := by
  intro t
  induction t using Tr.ind with
  | h k n f s a c kids ih =>
  intro h hk
  by_cases h0 : kids.length = 0
  · exact ⟨0, by simp only [cpV, Tr.kids, h0, if_true]; exact ⟨none, 0, rfl⟩⟩
  · obtain ⟨ch', hR⟩ := hk (by simpa [Tr.kids] using h0)
    simp only [Tr.kids] at hR
    have : cpV (.mk k n f s a c kids) h = .slice (some ⟨h, 0, none⟩) kids.length kids.length := by simp [cpV, Tr.kids, h0]
    rw [this]
    exact row_sp blk src hR (fun m u q hu hq => ih u (List.mem_of_getElem? hu) q (fun hne => link _ _ _ hR m _ u hq hu hne))
end

attribute [local go_sem ↓] Go.wp_at_zero Go.wp_at_succ

set_option maxHeartbeats 4000000 in
set_option maxRecDepth 100000 in
theorem copyAll_sp (ts : List Tr) (a : Addr) (c : Nat) (w : World) (h0 : 0 < ts.length) (hl : ts.length ≤ 400000) (hsrc : ∀ t : Tr, t ∈ ts → t.In w 0 ∧ Small t) (hcells : ∀ j v, (rowCells ts [])[j]? = some v → w.cell? (a.add j) = some v) (hcn : cnA ts ≤ 1000000000) :
    Calls Try.prog 33 #[.slice (some a) ts.length c] w fun e w' => ∃ ts', e = .returned (.slice (some ⟨w.heap.size, 0, none⟩) ts.length ts.length) ∧ SmA ts ts' ∧ Tr.InAll w' w.heap.size ⟨w.heap.size, 0, none⟩ ts' ∧ Below w.heap.size w w' ∧ ∃ H, SpH (NewS w w') w' H (.slice (some ⟨w.heap.size, 0, none⟩) ts.length ts.length) := by
  have CL := hidb (copyList_any w a ts.length c (rowCells ts []) (rowCells_len _ _) h0 (by omega) hcells (rowCells_one _ _))
  have HST := hidb (cp_start h0 hl hsrc)
  have HSRC := hidb hsrc
  obtain ⟨i0, hi, hz0, hz1, hz2⟩ := info_parts (P := Try.prog) (e := TS) (z := .slice none 0 0) (size := 1) (bytes := 24) (by kernel_rfl)
  generalize hN : ts.length = N at *
  have HN := hidb hN
  have HCN := hidb hcn
  clear hcells hsrc hN hcn
  go_enter Try.func33, Try.ntmps33
  go_wp2_with (first
    | (go_at_call 38; refine CL.out.mono ?_; rintro e w1 ⟨rfl, rfl⟩; clear CL))
  go_loopg [4] (cnA ts) (fun gk wv wr => ∃ (R : RM) (wait : List (Nat × List Tr)), CP w wr R (fun _ => False) wait wv ∧ toDo wait ≤ gk ∧ toDo wait ≤ cnA ts ∧ ∃ ch, R w.heap.size = some (ts, ch))
  case atStart => exact ⟨_, _, HST.out, by simp [toDo], by simp [toDo], [], by simp⟩
  case round =>
  obtain ⟨R, wait, hcp, hdo, hdt, hroot⟩ := hrel
  obtain ⟨qw, cw, rfl⟩ := own_sl hcp.row
  have HCP := hidb hcp
  have HDO := hidb hdo
  have HDT := hidb hdt
  have HRT := hidb hroot
  clear hcp hdo hdt hroot HST
  rcases List.eq_nil_or_concat wait with hnil | ⟨wait', ⟨g, us⟩, hcon⟩
  · subst hnil
    go_wp2_with fail
    go_ret
    obtain ⟨ch, hch⟩ := HRT.out
    have hcp := HCP.out
    have hall : ∀ q vs d, R q = some (vs, d) → d.length = vs.length := fun q vs d hq => by
      rcases hcp.pend q vs d hq with e | e | ⟨_, e⟩
      · exact e
      · exact e.elim
      · simp at e
    have hfin := cp_row hcp.blk (fun q vs d hq => ⟨hall q vs d hq, (hcp.src q vs d hq).2.2.1, fun t ht => ((hcp.src q vs d hq).2.2.2 t ht).1⟩) hcp.link hch
    obtain ⟨ts', h1, h2⟩ := hfin
    have hsp := row_sp hcp.blk (fun q vs d hq => ⟨hall q vs d hq, (hcp.src q vs d hq).2.2.1, fun t ht => ((hcp.src q vs d hq).2.2.2 t ht).1⟩) hch (fun m u h hu hh => cp_sp hcp.blk (fun q vs d hq => ⟨hall q vs d hq, (hcp.src q vs d hq).2.2.1, fun t ht => ((hcp.src q vs d hq).2.2.2 t ht).1⟩) hcp.link u h (fun hne => hcp.link _ _ _ hch m _ u hh hu hne))
    rw [HN.out] at hsp
    exact ⟨ts', rfl, h1, h2, hcp.bel, hsp⟩
  · rw [List.concat_eq_append] at hcon
    subst hcon
    have hpop := CP.pop (by have := HCP.out; simpa using this)
    obtain ⟨hp1, hp2⟩ := hpop
    have hgw : ∃ gw, qw = some ⟨gw, 0, none⟩ := by
      rcases HCP.out.row.2 with ⟨e, _⟩ | ⟨gw, cap, cur, hv, _⟩
      · simp at e
      · have : qw = some ⟨gw, 0, none⟩ := by simp at hv; exact hv.1
        exact ⟨gw, this⟩
    obtain ⟨gw, rfl⟩ := hgw
    have hcell : wr.cell? ⟨gw, wait'.length, none⟩ = some (.slice (some ⟨g, 0, none⟩) us.length us.length) := by
      have := HCP.out.row.cellAt wait'.length (by simp)
      rw [this]
      simp
    have hlen : (wait' ++ [(g, us)]).length = wait'.length + 1 := by simp
    rw [hlen]
    have hcap : wait'.length + 1 ≤ cw := by
      rcases HCP.out.row.2 with ⟨e, _⟩ | ⟨gw, cap, cur, hv, _, _, hc, _⟩
      · simp at e
      · have : cw = cap := by simp at hv; exact hv.2
        rw [hlen] at hc
        omega
    have hwl : wait'.length + 1 ≤ 1000000000 := by have h1 := HCP.out.short; have h2 := HDT.out; have h3 := HCN.out; rw [hlen] at h1; omega
    have hlast : IntKind.i64.wrap (((wait'.length + 1 : Nat) : Int) - 1) = (wait'.length : Int) := by rw [IntKind.wrap_i64]; omega
    have hz1 : ¬ ((wait'.length : Int) + 1 ≤ 0) := by omega
    have hz2' : (0 : Int) < (wait'.length : Int) + 1 := by omega
    have hz3 : (wait'.length : Int) < (wait'.length : Int) + 1 := by omega
    have hz4 : (0 : Int) ≤ (wait'.length : Int) := by omega
    have hz5 : (wait'.length : Int) ≤ (cw : Int) := by omega
    have hlast2 : IntKind.i64.wrap ((wait'.length : Int) + 1 - 1) = (wait'.length : Int) := by rw [IntKind.wrap_i64]; omega
    have HP1 := hidb hp1
    have HP2 := hidb hp2
    clear hp1 hp2 hlen hlast
    go_wp2_with fail
    have HUS := hidb ((HP1.out.src g us [] HP2.out).2.2.1)
    have HD0 : Hid (toDo wait' + cnA us ≤ gk) := hidb (by have := HDO.out; rw [toDo_snoc] at this; exact this)
    have HD1 : Hid (toDo wait' + cnA us ≤ cnA ts) := hidb (by have := HDT.out; rw [toDo_snoc] at this; exact this)
    generalize hUL : us.length = U at *
    have HUL := hidb hUL
    clear hUL hcell hcap hwl hz1 hz2' hz3 hz4 hz5 hlast2 HCP HDO HDT
    go_loopw [4, 27] (fun wv iv wq => ∃ (m : Nat) (R : RM) (ch : List Nat) (wt : List (Nat × List Tr)), m ≤ U ∧ iv = .int .i64 m ∧ CP w wq R (fun k => k = g) wt wv ∧ R g = some (us, ch) ∧ ch.length = m ∧ toDo wt + cnA (us.drop m) + m ≤ toDo wait' + cnA us ∧ ∃ ch, R w.heap.size = some (ts, ch)) (fun _ iv _ => U - (intOf iv).toNat)
    case atStart => exact ⟨0, R, [], wait', by omega, rfl, HP1.out, HP2.out, rfl, by simp, HRT.out⟩
    case round =>
    obtain ⟨m, R1, ch, wt, hm, rfl, hcp, hRg, hchl, hdo, hroot⟩ := hrel
    obtain ⟨qw, cw, rfl⟩ := own_sl hcp.row
    have HC := hidb hcp
    have HRG := hidb hRg
    have HCH := hidb hchl
    have HDO := hidb hdo
    have HRT := hidb hroot
    have hmw : IntKind.i64.wrap ((m : Int) + 1) = (m : Int) + 1 := by rw [IntKind.wrap_i64]; have := HUS.out; omega
    clear hcp hRg hchl hdo hroot HP1 HP2
    by_cases hmU : m < U
    · have hmb : (m : Int) < (U : Int) := by omega
      have hmz : (0 : Int) ≤ (m : Int) := by omega
      have hul := HUL.out
      have hu : us[m]? = some us[m] := List.getElem?_eq_getElem (by omega)
      have hmem : us[m] ∈ us := List.getElem_mem (by omega)
      generalize us[m] = t at *
      obtain ⟨k', n', f', s', a', c', kids⟩ := t
      have hin := ((HC.out.src g us ch HRG.out).2.2.2 _ hmem)
      have hblk := (HC.out.blk g us ch HRG.out).1
      have hraw : ∀ j, j < 5 → wr.cell? ⟨g, m * 5 + j, none⟩ = (Tr.mk k' n' f' s' a' c' kids).cells[j]? := fun j hj => by
        rw [cell_of_row _ _ _ _ _ _ hblk]
        have := rowCells_raw us ch m j _ hu (by rw [HCH.out]; omega) hj
        simpa using this
      have k4 : wr.cell? ⟨g, m * 5 + 4, none⟩ = some (.slice a' kids.length c') := hraw 4 (by omega)
      have j4 : wr.frozen? ⟨g, m * 5 + 4, none⟩ = false := frozen_of_row _ _ _ _ _ hblk
      have HIN := hidb hin
      have HU := hidb hu
      have hglt := HC.out.lt HRG.out
      clear hin hblk hraw hmem hul hu
      by_cases hk0 : kids.length = 0
      · have hkz : (kids.length : Int) = 0 := by omega
        have CN := hidb (fun w' => copyList_none a' c' w')
        have HST := hidb (HC.out.set HRG.out (t := .mk k' n' f' s' a' c' kids) (by rw [HCH.out]; exact HU.out) 0 (X := wr) (Below.refl _ _) (fun h => absurd hk0 h) (cur := fun q => q = g) (fun q => ⟨fun h => .inl h, fun h => h.elim id (fun h => absurd hk0 h.1)⟩))
        rw [HCH.out] at HST
        simp only [Tr.kids, hk0, if_true, cpV] at HST
        rw [hk0] at k4
        go_wp2_with (first
          | (go_at_call 38; refine (CN.out _).mono ?_; rintro e w1 ⟨rfl, rfl⟩))
        obtain ⟨c0, hc0⟩ := HRT.out
        refine ⟨⟨m + 1, _, ch ++ [0], wt, by omega, by go_num, HST.out, updR_same _ _ _, by simp [HCH.out], ?_, ?_⟩, by simp [intOf]; omega⟩
        · have h1 := cnA_drop HU.out
          have h2 := cnT_kids (.mk k' n' f' s' a' c' kids)
          have := HDO.out
          omega
        · have := set_root (b := True) (k := 0) (kids := []) HRG.out hc0 (fun h => absurd trivial h)
          simpa using this
      · have hin := HIN.out.1
        obtain ⟨b, o, rfl, -⟩ := kid_at hin (by omega)
        have hkl : kids.length ≤ 400000 := by have := HIN.out.2; unfold Small at this; exact this.1
        have hkp : (0 : Int) < (kids.length : Int) := by omega
        have CK := hidb (copyList_any wr ⟨b, o, none⟩ kids.length c' (rowCells kids []) (rowCells_len _ _) (by omega) (by omega) (kids_src hin HC.out.bel) (rowCells_one _ _))
        have HST := hidb (HC.out.set HRG.out (t := .mk k' n' f' s' (some ⟨b, o, none⟩) c' kids) (by rw [HCH.out]; exact HU.out) wr.heap.size (X := wr.alloc (.cells (rowCells kids []).toArray TT)) (below_new wr _) (fun _ => ⟨(MapKept.heap_alloc wr _).1, Nat.le_refl _⟩) (cur := fun q => q = g ∨ q = wr.heap.size) (fun q => ⟨fun h => h.imp id (fun e => ⟨hk0, e⟩), fun h => h.imp id (fun e => e.2)⟩))
        rw [HCH.out] at HST
        simp only [Tr.kids, hk0, if_false, cpV] at HST
        rw [World.setCell_alloc_past _ _ _ _ hglt] at HST
        have hwt := HST.out.short
        have hdd := HDO.out
        have hd1 := HD1.out
        have hcn := HCN.out
        have hwt2 : wt.length ≤ 1000000000 := by have := HC.out.short; omega
        have HGS := hidb (show w.heap.size ≤ wr.heap.size from HC.out.bel.size)
        clear hin hwt hdd hd1 hcn
        go_wp2_with (first
          | (go_at_call 38; refine CK.out.mono ?_; rintro e w1 ⟨rfl, rfl⟩)
          | (at_builtin; refine wpList_append_own_at _ rfl _ _ 77 rfl w.heap.size TS i0 (.slice none 0 0) 1 24 Try.underlying77 hi hz0 hz1 hz2 rfl (by decide) (.slice qw wt.length cw) wt.length (wt.map fun p => .slice (some ⟨p.1, 0, none⟩) p.2.length p.2.length) rfl ?e1 ⟨wr.heap.size + 1, 0, none⟩ 1 1 [.slice (some ⟨wr.heap.size, 0, none⟩) kids.length kids.length] rfl rfl ?e2 ?e3 ?e4 ?e5 ?e6 ?_))
        case e1 => exact HST.out.row.alloc _
        case e2 => have := cell_one_new ((wr.setCell ⟨g, m * 5 + 4, none⟩ (.slice (some ⟨wr.heap.size, 0, none⟩) kids.length kids.length)).alloc (.cells (rowCells kids []).toArray TT)) (.slice (some ⟨wr.heap.size, 0, none⟩) kids.length kids.length) TS; simpa using this
        case e3 => intro u hu; simp at hu; subst hu; rfl
        case e4 => unfold maxLen; omega
        case e5 => omega
        case e6 => have := HGS.out; simp; omega
        intro v' w4 hown' hgrow hnil hat
        have HPU := hidb (HST.out.push (by omega) (updR_same _ _ _) (below_new _ _) hown' hgrow)
        obtain ⟨q4, c4, rfl⟩ := own_sl hown'
        clear hown' hgrow hnil hat
        go_wp2_with fail
        obtain ⟨c0, hc0⟩ := HRT.out
        refine ⟨⟨m + 1, _, ch ++ [wr.heap.size], wt ++ [(wr.heap.size, kids)], by omega, by go_num, HPU.out, ?_, by simp [HCH.out], ?_, ?_⟩, by simp [intOf]; omega⟩
        · rw [updR_other _ _ _ _ (by omega), updR_same]
        · have h1 := cnA_drop HU.out
          have h2 := cnT_kids (.mk k' n' f' s' (some ⟨b, o, none⟩) c' kids)
          simp only [Tr.kids] at h2
          have := HDO.out
          rw [toDo_snoc]
          omega
        · have := set_root (b := False) (k := wr.heap.size) (kids := kids) HRG.out hc0 (fun _ e => by have := HC.out.lt hc0; omega)
          simpa using this
    have hmn : ¬ (m : Int) < (U : Int) := by omega
    obtain rfl : m = U := by omega
    have hup : 0 < us.length := (HC.out.src g us ch HRG.out).2.1
    have hdd := HDO.out
    rw [List.drop_eq_nil_of_le (by have := HUL.out; omega)] at hdd
    have hfin : toDo wt < gk ∧ toDo wt ≤ cnA ts := by
      have := HD0.out; have := HD1.out; have := HUL.out
      simp only [cnA] at hdd
      omega
    have HFN := hidb hfin
    clear hdd hfin hup
    go_wp2_with fail
    go_roundg (toDo wt)
    case measure => exact HFN.out.1
    case rel => exact ⟨R1, wt, HC.out.done HRG.out (by rw [HCH.out, HUL.out]), Nat.le_refl _, HFN.out.2, HRT.out⟩
end Go.Proofs.Ytggpbfmdhenjdaa


