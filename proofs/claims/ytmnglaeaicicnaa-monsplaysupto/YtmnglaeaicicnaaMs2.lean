/- MonsPlays: halves compared; rows cleared. -/
import Derived.Test.YtmnglaeaicicnaaMs1
import Derived.Test.YtmnglaeaicicnaaMk4
import Derived.BigQuiet
namespace Go.Proofs.Ytmnglaeaicicnaa
open Go.RowKit Go.Lib
open MV (Hf hf0 getL insL delL Rise Wfk TB Nw Rst KV MnT mvs)
attribute [local go_sem ↓] Go.wp_at_zero Go.wp_at_succ

set_option maxRecDepth 100000 in
set_option maxHeartbeats 4000000 in
theorem sameM_any {w : World} {B1 B2 : Nat} {V1 V2 : Value} {L : List KV} (h1 : w.ownsRow B1 MnT 3 V1 L.length (mvs L)) (h2 : w.ownsRow B2 MnT 3 V2 L.length (mvs L)) (hN : L.length ≤ 90000) :
    Calls Try.prog 11 #[V1, V2] w fun e w' => e = .returned (.bool true) ∧ Below w.heap.size w w' := by
  obtain ⟨a1, c1, rfl⟩ := MV.own_sl h1
  obtain ⟨a2, c2, rfl⟩ := MV.own_sl h2
  obtain ⟨n, hn⟩ : ∃ n, L.length = n := ⟨_, rfl⟩
  rw [hn] at h1 h2 hN
  rw [hn]
  have H1 := hidb h1
  have H2 := hidb h2
  have HN := hidb hN
  have HL := hidb hn
  clear h1 h2 hN hn
  go_enter Try.func11, Try.ntmps11
  go_wp2_with fail
  go_loopw [5] (fun iv wr => ∃ i : Nat, i ≤ n ∧ iv = .int .i64 (i : Int) ∧ Below w.heap.size w wr) (fun iv _ => n - (RowKit.intOf iv).toNat)
  case atStart => exact ⟨0, by omega, rfl, Below.refl _ _⟩
  case round =>
  obtain ⟨i, hi, rfl, hb⟩ := hrel
  have HI := hidb hi
  have HB := hidb hb
  clear hi hb
  by_cases hlt : i < n
  · have e1 : (i : Int) < (n : Int) := by omega
    have e2 : (0 : Int) ≤ (i : Int) := by omega
    obtain ⟨y, hy⟩ : ∃ y, L[i]? = some y := ⟨_, List.getElem?_eq_getElem (by have := HL.out; omega)⟩
    obtain ⟨g, c, he, k0, k1, k2⟩ := MV.row_get (H1.out.keep9 HB.out) hy
    obtain ⟨rfl, -, rfl⟩ : a1 = some ⟨g, 0, none⟩ ∧ n = n ∧ c1 = c := by simpa using he
    obtain ⟨g', c', he', k3, k4, k5⟩ := MV.row_get (H2.out.keep9 HB.out) hy
    obtain ⟨rfl, -, rfl⟩ : a2 = some ⟨g', 0, none⟩ ∧ n = n ∧ c2 = c' := by simpa using he'
    have HW : Hid (wrap64 ((i : Int) + 1) = ((i + 1 : Nat) : Int)) := hidb (by have := HN.out; unfold wrap64; omega)
    clear he he' hy
    go_wp2_with fail
    go_quiet (fail)
    go_wp2_with fail
    go_roundw
    case rel => exact ⟨i + 1, by omega, by first | rfl | (rw [HW.out]), below_drewN HB.out _⟩
    case measure =>
      try rw [HW.out]
      simp only [RowKit.intOf]
      omega
  · have e1 : ¬ (i : Int) < (n : Int) := by omega
    go_wp2_with fail
    go_ret
    exact ⟨rfl, HB.out⟩


theorem PB.mtt {X : Nat → Prop} {w0 w : World} {tb rb : Nat} {O T Or Tt : List KV} (h : PB X w0 w tb rb O T Or Tt) : ∃ D, MT w tb D O T := by obtain ⟨D, _, h, _⟩ := h; exact ⟨D, h⟩
theorem PB.rows {X : Nat → Prop} {w0 w : World} {tb rb : Nat} {O T Or Tt : List KV} (h : PB X w0 w tb rb O T Or Tt) : ∃ a c a' c', w.cell? ⟨rb, 0, none⟩ = some (.slice a Or.length c) ∧ w.cell? ⟨rb, 1, none⟩ = some (.slice a' Tt.length c') ∧ w.ownsRow 0 MnT 3 (.slice a Or.length c) Or.length (mvs Or) ∧ w.ownsRow 0 MnT 3 (.slice a' Tt.length c') Tt.length (mvs Tt) := by
  obtain ⟨D, E, -, ⟨V, V', h1, h2, h3, -⟩, -⟩ := h
  obtain ⟨a, c, rfl⟩ := MV.own_sl h2
  obtain ⟨a', c', rfl⟩ := MV.own_sl h3
  exact ⟨a, c, a', c', h1.c0, h1.c1, h2, h3⟩
theorem PB.origins {X : Nat → Prop} {w0 w : World} {tb rb : Nat} {O T Or Tt : List KV} (h : PB X w0 w tb rb O T Or Tt) (hN : O.length ≤ 90000) :
    Calls Try.prog 9 #[.pointer (some ⟨tb, 0, none⟩)] w fun e w' => ∃ a c, e = .returned (.slice a O.length c) ∧ Below w.heap.size w w' ∧ w'.ownsRow w.heap.size MnT 3 (.slice a O.length c) O.length (mvs O) := by
  obtain ⟨D, hD⟩ := h.mtt
  refine (morigins_any hD hN).mono ?_
  rintro e w' ⟨V, rfl, hb, ho⟩
  obtain ⟨a, c, rfl⟩ := MV.own_sl ho
  exact ⟨a, c, rfl, hb, ho⟩
theorem PB.targets {X : Nat → Prop} {w0 w : World} {tb rb : Nat} {O T Or Tt : List KV} (h : PB X w0 w tb rb O T Or Tt) (hN : T.length ≤ 90000) :
    Calls Try.prog 10 #[.pointer (some ⟨tb, 0, none⟩)] w fun e w' => ∃ a c, e = .returned (.slice a T.length c) ∧ Below w.heap.size w w' ∧ w'.ownsRow w.heap.size MnT 3 (.slice a T.length c) T.length (mvs T) := by
  obtain ⟨D, hD⟩ := h.mtt
  refine (mtargets_any hD hN).mono ?_
  rintro e w' ⟨V, rfl, hb, ho⟩
  obtain ⟨a, c, rfl⟩ := MV.own_sl ho
  exact ⟨a, c, rfl, hb, ho⟩

/-- An element of a row of one's own is cleared. -/
theorem row_zero {W : World} {B N c j : Nat} {a : Option Addr} {xs : List Value} (hrow : W.ownsRow B MnT 3 (.slice a N c) N xs) (hj : j < N) :
    ∃ g u0 u1 u2 ys, a = some ⟨g, 0, none⟩ ∧ B ≤ g ∧ W.cell? ⟨g, j * 3, none⟩ = some u0 ∧ W.cell? ⟨g, j * 3 + 1, none⟩ = some u1 ∧ W.cell? ⟨g, j * 3 + 2, none⟩ = some u2 ∧ W.frozen? ⟨g, j * 3, none⟩ = false ∧ W.frozen? ⟨g, j * 3 + 1, none⟩ = false ∧ W.frozen? ⟨g, j * 3 + 2, none⟩ = false ∧
      (((W.setCell ⟨g, j * 3, none⟩ (.int .i64 0)).setCell ⟨g, j * 3 + 1, none⟩ (.int .i64 0)).setCell ⟨g, j * 3 + 2, none⟩ (.string ⟨#[]⟩)).ownsRow B MnT 3 (.slice a N c) N ys ∧ But (fun k => k = g) W (((W.setCell ⟨g, j * 3, none⟩ (.int .i64 0)).setCell ⟨g, j * 3 + 1, none⟩ (.int .i64 0)).setCell ⟨g, j * 3 + 2, none⟩ (.string ⟨#[]⟩)) := by
  obtain ⟨g, rfl⟩ : ∃ g, a = some ⟨g, 0, none⟩ := by
    rcases hrow.2 with ⟨h0, h1⟩ | ⟨g, cap, cur, h0, -⟩
    · omega
    · exact ⟨g, by simp at h0; exact h0.1⟩
  have hxl := hrow.1
  have hgl := (hrow.lt g rfl).1
  have hrow0 := MV.row_lift (B := 0) hrow (fun _ _ => Nat.zero_le _)
  refine ⟨g, _, _, _, _, rfl, hgl, (hrow.cellAt _ (by omega)).trans (List.getElem?_eq_getElem (by omega)), (hrow.cellAt _ (by omega)).trans (List.getElem?_eq_getElem (by omega)), (hrow.cellAt _ (by omega)).trans (List.getElem?_eq_getElem (by omega)), MV.row_free hrow0 _, MV.row_free hrow0 _, MV.row_free hrow0 _, (((hrow.stored (j * 3) (.int .i64 0)).1.stored (j * 3 + 1) (.int .i64 0)).1.stored (j * 3 + 2) (.string ⟨#[]⟩)).1, ?_⟩
  exact (((But.refl (fun k => k = g) W).setCell (p := ⟨g, j * 3, none⟩) (fun _ => rfl) _).setCell (p := ⟨g, j * 3 + 1, none⟩) (fun _ => rfl) _).setCell (p := ⟨g, j * 3 + 2, none⟩) (fun _ => rfl) _

theorem RM.start (w : World) : RM (w.alloc (.cells #[.slice none 0 0, .slice none 0 0] 29)) w.heap.size (fun _ => False) [] [] :=
  ⟨.slice none 0 0, .slice none 0 0, Duo.new _ _ _ _, World.ownsRow_nil _ _ _ _, World.ownsRow_nil _ _ _ _, fun g h => by simp [Value.ownBlock] at h, fun g h => by simp [Value.ownBlock] at h⟩
theorem PB.start {w1 w2 : World} (h1 : MT w2 w1.heap.size (fun _ => False) [] []) (hb : Below w1.heap.size w1 w2) (hs : w2.heap.size = w1.heap.size + 1) :
    PB NoX w1 (w2.alloc (.cells #[.slice none 0 0, .slice none 0 0] 29)) w1.heap.size (w1.heap.size + 1) [] [] [] [] := by
  have hbn := below_new w2 (.cells #[.slice none 0 0, .slice none 0 0] 29)
  exact ⟨fun _ => False, fun _ => False, h1.keep hbn, by rw [← hs]; exact RM.start w2, fun _ h => h.elim, fun _ h => h.elim, ⟨Nat.le_refl _, by omega, by omega, id, id⟩, fun _ h => h.elim, hb.trans (hbn.mono hb.size)⟩

end Go.Proofs.Ytmnglaeaicicnaa
