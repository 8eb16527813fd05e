import Derived.Test.YtliebilpddmhkaaGreatG18
/- What the document's dead answer; SameSignal. -/
namespace Go.Proofs.YtliebilpddmhkaaGreat
open Go.RowKit Go.Lib
attribute [local go_sem] store_float f64bits
attribute [local go_sem ↓] Go.wp_at_zero Go.wp_at_succ

theorem ratom_val (s : ByteArray) (w : World) : Calls Tryz.prog 32 #[.string s] w fun e w' => e = .returned (.agg #[.int .i64 3, .int .i64 0, .float .f64 0, .string s, .slice none 0 0]) ∧ Below w.heap.size w w' := by
  go_enter Tryz.func32, Tryz.ntmps32
  go_wp2
  exact bodyPost_ret (v := .agg #[.int .i64 3, .int .i64 0, .float .f64 0, .string s, .slice none 0 0]) (by simp [results, Tryz.results32, go_sem]) rfl ⟨rfl, by (repeat (first | exact Below.refl _ _ | assumption | refine Below.drew ?_ | refine below_drewN ?_ _ | refine Below.setCell ?_ (by simp) _ | refine Below.alloc ?_ (by (first | exact Nat.le_refl _ | (simp; done) | (simp; omega) | omega)) _ | refine Below.trans ?_ (Below.mono (by assumption) (by first | exact Nat.le_refl _ | (simp; done) | (simp; omega) | omega))))⟩

theorem leaf_in (g : Int) (h : ByteArray) (hg : (Lit.int .i64 g).wf = true) (hh : h.size ≤ maxLen) (w : World) (B : Nat) : (Tr.mk g 0 0 h none 0 []).In w B := by
  unfold Tr.In
  exact ⟨⟨hg, by decide, by decide, hh, Nat.le_refl _, Nat.zero_le _, fun _ => rfl⟩, fun ad h => by simp at h⟩

set_option maxRecDepth 100000 in
set_option maxHeartbeats 4000000 in
theorem sameSignal_leaf (a b c d e : Int) (f : Bool) (g : Int) (h : ByteArray) (hg : (Lit.int .i64 g).wf = true) (hh : h.size ≤ maxLen) (w : World) : Calls Tryz.prog 19 #[.agg #[.int .i64 a, .int .i64 b, .int .i64 c, .int .i64 d, .int .i64 e, .bool f, .string ⟨#[]⟩, .int .i64 g, .int .i64 0, .float .f64 0, .string h, .slice none 0 0], .agg #[.int .i64 a, .int .i64 b, .int .i64 c, .int .i64 d, .int .i64 e, .bool f, .string ⟨#[]⟩, .int .i64 g, .int .i64 0, .float .f64 0, .string h, .slice none 0 0]] w fun e w' => e = .returned (.bool true) ∧ Below w.heap.size w w' := by
  have TW := hidb (fun w => twin_same (.mk g 0 0 h none 0 []) (.mk g 0 0 h none 0 []) (by unfold Sm SmA; exact ⟨rfl, rfl, rfl, rfl, trivial⟩) w (leaf_in g h hg hh w 0) (leaf_in g h hg hh w 0))
  simp only [Tr.val, Tr.cells, List.length_nil] at TW
  have HB : Hid (Below w.heap.size w ((w.alloc (.cells #[.int .i64 a, .int .i64 b, .int .i64 c, .int .i64 d, .int .i64 e, .bool f, .string ⟨#[]⟩, .int .i64 g, .int .i64 0, .float .f64 0, .string h, .slice none 0 0] 27)).alloc (.cells #[.int .i64 a, .int .i64 b, .int .i64 c, .int .i64 d, .int .i64 e, .bool f, .string ⟨#[]⟩, .int .i64 g, .int .i64 0, .float .f64 0, .string h, .slice none 0 0] 27))) := hidb ((below_new w _).alloc (by simp) _)
  clear hg hh
  go_enter Tryz.func19, Tryz.ntmps19
  go_wp2_with (go_at_call 15; refine (TW.out _).mono ?_; rintro e w1 ⟨rfl, hb1⟩; have HB1 := hidb (HB.out.trans (hb1.mono HB.out.size)); clear hb1)
  go_ret
  exact ⟨by simp, HB1.out⟩

set_option maxHeartbeats 1000000 in
theorem few16_any (t : Tr) (w : World) (hin : t.In w 0) : Calls Tryz.prog 7 #[t.val] w fun e w' => e = .returned (.bool (decide (0 ≤ fewT t 100000 1000))) ∧ Below w.heap.size w w' := by
  have FW := hidb (fun (w' : World) (hb : Below w.heap.size w w') => few_any t 100000 1000 w' (in_below hb hin) (by decide) (by decide) (by decide) (by decide))
  generalize fewT t 100000 1000 = z at *
  obtain ⟨k, n, f, s, a, c, kids⟩ := t
  simp only [Tr.val, Tr.cells] at FW ⊢
  generalize kids.length = tl at *
  clear hin
  go_enter Tryz.func7, Tryz.ntmps7
  go_wp2_with (go_at_call 26; refine (FW.out _ (by (repeat (first | exact Below.refl _ _ | assumption | refine Below.drew ?_ | refine below_drewN ?_ _ | refine Below.setCell ?_ (by simp) _ | refine Below.alloc ?_ (by (first | exact Nat.le_refl _ | (simp; done) | (simp; omega) | omega)) _ | refine Below.trans ?_ (Below.mono (by assumption) (by first | exact Nat.le_refl _ | (simp; done) | (simp; omega) | omega)))))).mono ?_; rintro e w1 ⟨rfl, hb1⟩)
  go_ret
  exact ⟨by simp, (show Below w.heap.size w _ by (repeat (first | exact Below.refl _ _ | assumption | refine Below.drew ?_ | refine below_drewN ?_ _ | refine Below.setCell ?_ (by simp) _ | refine Below.alloc ?_ (by (first | exact Nat.le_refl _ | (simp; done) | (simp; omega) | omega)) _ | refine Below.trans ?_ (Below.mono (by assumption) (by first | exact Nat.le_refl _ | (simp; done) | (simp; omega) | omega))))).trans (hb1.mono (by simp))⟩
end Go.Proofs.YtliebilpddmhkaaGreat


/- exits: a term that is an atom; a pid; the outcome of an exit signal, pure. -/
namespace Go.Proofs.YtliebilpddmhkaaGreat
open Go.RowKit Go.Lib
attribute [local go_sem] store_float f64bits
attribute [local go_sem ↓] Go.wp_at_zero Go.wp_at_succ

theorem box6 {w : World} {b : Nat} {t : TypeId} {v0 v1 v2 v3 v4 v5 : Value} (h : w.heap[b]? = some (.cells #[v0, v1, v2, v3, v4, v5] t)) : w.cell? ⟨b, 0, none⟩ = some v0 ∧ w.cell? ⟨b, 1, none⟩ = some v1 ∧ w.cell? ⟨b, 2, none⟩ = some v2 ∧ w.cell? ⟨b, 3, none⟩ = some v3 ∧ w.cell? ⟨b, 4, none⟩ = some v4 ∧ w.cell? ⟨b, 5, none⟩ = some v5 :=
  ⟨by rw [cell_of_row w b _ _ _ _ h]; rfl, by rw [cell_of_row w b _ _ _ _ h]; rfl, by rw [cell_of_row w b _ _ _ _ h]; rfl, by rw [cell_of_row w b _ _ _ _ h]; rfl, by rw [cell_of_row w b _ _ _ _ h]; rfl, by rw [cell_of_row w b _ _ _ _ h]; rfl⟩
theorem fro6 {w : World} {b : Nat} {t : TypeId} {v0 v1 v2 v3 v4 v5 : Value} (h : w.heap[b]? = some (.cells #[v0, v1, v2, v3, v4, v5] t)) : w.frozen? ⟨b, 0, none⟩ = false ∧ w.frozen? ⟨b, 1, none⟩ = false ∧ w.frozen? ⟨b, 2, none⟩ = false ∧ w.frozen? ⟨b, 3, none⟩ = false ∧ w.frozen? ⟨b, 4, none⟩ = false ∧ w.frozen? ⟨b, 5, none⟩ = false :=
  ⟨frozen_of_row w b _ _ _ h, frozen_of_row w b _ _ _ h, frozen_of_row w b _ _ _ h, frozen_of_row w b _ _ _ h, frozen_of_row w b _ _ _ h, frozen_of_row w b _ _ _ h⟩
theorem box8 {w : World} {b : Nat} {t : TypeId} {v0 v1 v2 v3 v4 v5 v6 v7 : Value} (h : w.heap[b]? = some (.cells #[v0, v1, v2, v3, v4, v5, v6, v7] t)) : w.cell? ⟨b, 0, none⟩ = some v0 ∧ w.cell? ⟨b, 1, none⟩ = some v1 ∧ w.cell? ⟨b, 2, none⟩ = some v2 ∧ w.cell? ⟨b, 3, none⟩ = some v3 ∧ w.cell? ⟨b, 4, none⟩ = some v4 ∧ w.cell? ⟨b, 5, none⟩ = some v5 ∧ w.cell? ⟨b, 6, none⟩ = some v6 ∧ w.cell? ⟨b, 7, none⟩ = some v7 :=
  ⟨by rw [cell_of_row w b _ _ _ _ h]; rfl, by rw [cell_of_row w b _ _ _ _ h]; rfl, by rw [cell_of_row w b _ _ _ _ h]; rfl, by rw [cell_of_row w b _ _ _ _ h]; rfl, by rw [cell_of_row w b _ _ _ _ h]; rfl, by rw [cell_of_row w b _ _ _ _ h]; rfl, by rw [cell_of_row w b _ _ _ _ h]; rfl, by rw [cell_of_row w b _ _ _ _ h]; rfl⟩
theorem fro8 {w : World} {b : Nat} {t : TypeId} {v0 v1 v2 v3 v4 v5 v6 v7 : Value} (h : w.heap[b]? = some (.cells #[v0, v1, v2, v3, v4, v5, v6, v7] t)) : w.frozen? ⟨b, 0, none⟩ = false ∧ w.frozen? ⟨b, 1, none⟩ = false ∧ w.frozen? ⟨b, 2, none⟩ = false ∧ w.frozen? ⟨b, 3, none⟩ = false ∧ w.frozen? ⟨b, 4, none⟩ = false ∧ w.frozen? ⟨b, 5, none⟩ = false ∧ w.frozen? ⟨b, 6, none⟩ = false ∧ w.frozen? ⟨b, 7, none⟩ = false :=
  ⟨frozen_of_row w b _ _ _ h, frozen_of_row w b _ _ _ h, frozen_of_row w b _ _ _ h, frozen_of_row w b _ _ _ h, frozen_of_row w b _ _ _ h, frozen_of_row w b _ _ _ h, frozen_of_row w b _ _ _ h, frozen_of_row w b _ _ _ h⟩

def isA : Tr → ByteArray → Bool
  | .mk k _ _ ts _ _ _, s => decide (k = 3) && decide (ts = s)

theorem lit_g {a b : ByteArray} (h : ¬ a = b) : (a.toList == b.toList) = false ∧ ¬ a.toList = b.toList := by
  have h1 : ¬ a = ⟨b.toList.toArray⟩ := fun e => h (by rw [e, ByteArray.toList_eq])
  exact ⟨lit_f h1, lit_F h1⟩

set_option maxHeartbeats 1000000 in
theorem isAtom_cells (tk tn : Int) (tf : Nat) (ts : ByteArray) (ta : Option Addr) (tl tc : Nat) (s : ByteArray) (w : World) : Calls Tryz.prog 63 #[.agg #[.int .i64 tk, .int .i64 tn, .float .f64 tf, .string ts, .slice ta tl tc], .string s] w fun e w' => e = .returned (.bool (decide (tk = 3) && decide (ts = s))) ∧ Below w.heap.size w w' := by
  by_cases h0 : tk = 3
  · subst h0
    by_cases h1 : ts = s
    · subst h1
      have h2 : (ts.toList == ts.toList) = true := by simp
      go_enter Tryz.func63, Tryz.ntmps63
      go_wp2
      go_ret
      exact ⟨by simp, by (repeat (first | exact Below.refl _ _ | assumption | refine Below.drew ?_ | refine below_drewN ?_ _ | refine Below.setCell ?_ (by simp) _ | refine Below.alloc ?_ (by (first | exact Nat.le_refl _ | (simp; done) | (simp; omega) | omega)) _ | refine Below.trans ?_ (Below.mono (by assumption) (by first | exact Nat.le_refl _ | (simp; done) | (simp; omega) | omega))))⟩
    · obtain ⟨h2, h3⟩ := lit_g h1
      go_enter Tryz.func63, Tryz.ntmps63
      go_wp2
      go_ret
      exact ⟨by simp [h1], by (repeat (first | exact Below.refl _ _ | assumption | refine Below.drew ?_ | refine below_drewN ?_ _ | refine Below.setCell ?_ (by simp) _ | refine Below.alloc ?_ (by (first | exact Nat.le_refl _ | (simp; done) | (simp; omega) | omega)) _ | refine Below.trans ?_ (Below.mono (by assumption) (by first | exact Nat.le_refl _ | (simp; done) | (simp; omega) | omega))))⟩
  · have h2 : (tk == 3) = false := by simpa using h0
    go_enter Tryz.func63, Tryz.ntmps63
    go_wp2
    go_ret
    exact ⟨by simp [h0], by (repeat (first | exact Below.refl _ _ | assumption | refine Below.drew ?_ | refine below_drewN ?_ _ | refine Below.setCell ?_ (by simp) _ | refine Below.alloc ?_ (by (first | exact Nat.le_refl _ | (simp; done) | (simp; omega) | omega)) _ | refine Below.trans ?_ (Below.mono (by assumption) (by first | exact Nat.le_refl _ | (simp; done) | (simp; omega) | omega))))⟩

theorem serial_val (k n : Int) (w : World) : Calls Tryz.prog 65 #[.int .i64 k, .int .i64 n] w fun e w' => e = .returned (.agg #[.int .i64 k, .int .i64 n, .float .f64 0, .string ⟨#[]⟩, .slice none 0 0]) ∧ Below w.heap.size w w' := by
  go_enter Tryz.func65, Tryz.ntmps65
  go_wp2
  exact bodyPost_ret (v := .agg #[.int .i64 k, .int .i64 n, .float .f64 0, .string ⟨#[]⟩, .slice none 0 0]) (by simp [results, Tryz.results65, go_sem]) rfl ⟨rfl, by (repeat (first | exact Below.refl _ _ | assumption | refine Below.drew ?_ | refine below_drewN ?_ _ | refine Below.setCell ?_ (by simp) _ | refine Below.alloc ?_ (by (first | exact Nat.le_refl _ | (simp; done) | (simp; omega) | omega)) _ | refine Below.trans ?_ (Below.mono (by assumption) (by first | exact Nat.le_refl _ | (simp; done) | (simp; omega) | omega))))⟩

def zTr : Tr := .mk 0 0 0 ⟨#[]⟩ none 0 []
def aTr (s : ByteArray) : Tr := .mk 3 0 0 s none 0 []
def pTr (n : Int) : Tr := .mk 6 n 0 ⟨#[]⟩ none 0 []
def msgOf (x0 : Int) (t : Tr) : Tr := .mk 7 0 0 ⟨#[]⟩ none 0 [aTr ⟨#[69, 88, 73, 84]⟩, pTr x0, t]
def sysT : Tr := aTr ⟨#[115, 121, 115, 116, 101, 109, 95, 108, 105, 109, 105, 116]⟩
/-- The outcome k, u of an exit signal. -/
def OcR (x0 x1 : Int) (lk trap : Bool) (t : Tr) (k : Int) (u : Tr) : Prop :=
  if (!lk && isA t ⟨#[107, 105, 108, 108]⟩) = true then k = 2 ∧ u = aTr ⟨#[107, 105, 108, 108, 101, 100]⟩
  else if trap = true then k = 1 ∧ Sm (if errT (msgOf x0 t) = 0 then msgOf x0 t else msgOf x0 sysT) u
  else if (isA t ⟨#[110, 111, 114, 109, 97, 108]⟩ && (lk || decide (x0 ≠ x1))) = true then k = 0 ∧ u = zTr
  else k = 2 ∧ Sm t u
end Go.Proofs.YtliebilpddmhkaaGreat


