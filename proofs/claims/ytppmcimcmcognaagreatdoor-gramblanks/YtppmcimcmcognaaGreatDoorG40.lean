import Derived.Test.YtppmcimcmcognaaGreatDoorG28
import Derived.BigQuiet
/- The law's Same on rows of tokens. -/
namespace Go.Proofs.YtppmcimcmcognaaGreatDoor
open Go.RowKit Go.Lib
attribute [local go_sem] store_float f64bits
attribute [local go_sem ↓] Go.wp_at_zero Go.wp_at_succ

theorem tk_at : ∀ (l : List Tk) (j : Nat) (t : Tk), l[j]? = some t → ∀ f u, t.cells[f]? = some u → (tkCells l)[j * 5 + f]? = some u := by
  intro l
  induction l with
  | nil => intro j t h; simp at h
  | cons a l ih =>
    intro j t h f u hf
    have hfl : f < 5 := by
      have := (List.getElem?_eq_some_iff.1 hf).1
      simpa [Tk.cells] using this
    have hal : a.cells.length = 5 := rfl
    show (a.cells ++ tkCells l)[j * 5 + f]? = some u
    cases j with
    | zero =>
      simp at h
      subst h
      rw [List.getElem?_append_left (by omega)]
      simpa using hf
    | succ j =>
      rw [List.getElem?_append_right (by omega), hal]
      have := ih j t (by simpa using h) f u hf
      rw [show (j + 1) * 5 + f - 5 = j * 5 + f from by omega]
      exact this

set_option maxHeartbeats 1000000 in
set_option maxRecDepth 100000 in
theorem same_rows (va vb : Value) (l : List Tk) (B : Nat) (hl : 0 < l.length) (hln : l.length ≤ 70000) (w : World) (ha : w.ownsRow B TT 5 va l.length (tkCells l)) (hb : w.ownsRow B TT 5 vb l.length (tkCells l)) :
    Calls Tryz.prog 14 #[va, vb, .bool true] w fun e w' => e = .returned (.bool true) ∧ Below w.heap.size w w' := by
  obtain ⟨g, cap, rfl, hg, hcap, hce⟩ := own_cell ha (by omega)
  obtain ⟨g2, cap2, rfl, hg2, hcap2, hce2⟩ := own_cell hb (by omega)
  have hgl : g < w.heap.size := cell_lt (hce 0 _ (tk_at l 0 (l[0]'(by omega)) (by simp) 0 _ rfl))
  have hgl2 : g2 < w.heap.size := cell_lt (hce2 0 _ (tk_at l 0 (l[0]'(by omega)) (by simp) 0 _ rfl))
  clear ha hb
  go_enter Tryz.func14, Tryz.ntmps14
  go_wp2_with fail
  go_loopg [7] l.length (fun gf s7 wx => ∃ j : Nat, s7 = .int .i64 (j : Int) ∧ j + gf = l.length ∧ Below w.heap.size w wx)
  case atStart => exact ⟨0, rfl, by omega, Below.refl _ _⟩
  case round =>
    obtain ⟨j, rfl, hjg, hbw⟩ := hrel
    by_cases hj : j < l.length
    · obtain ⟨g', rfl⟩ : ∃ g', gk = g' + 1 := ⟨gk - 1, by omega⟩
      obtain ⟨t, ht⟩ : ∃ t, l[j]? = some t := ⟨l[j]'hj, by simp⟩
      have hta := tk_at l j t ht
      obtain ⟨tk, tx, tn, tf, tp⟩ := t
      have a0 : wr.cell? ⟨g, j * 5, none⟩ = some (.int .i64 tk) := (hbw.cell (p := ⟨g, j * 5, none⟩) hgl).trans (hce _ _ (hta 0 _ rfl))
      have a1 : wr.cell? ⟨g, j * 5 + 1, none⟩ = some (.string tx) := (hbw.cell (p := ⟨g, j * 5 + 1, none⟩) hgl).trans (hce _ _ (hta 1 _ rfl))
      have a2 : wr.cell? ⟨g, j * 5 + 2, none⟩ = some (.int .i64 tn) := (hbw.cell (p := ⟨g, j * 5 + 2, none⟩) hgl).trans (hce _ _ (hta 2 _ rfl))
      have a3 : wr.cell? ⟨g, j * 5 + 3, none⟩ = some (.float .f64 tf) := (hbw.cell (p := ⟨g, j * 5 + 3, none⟩) hgl).trans (hce _ _ (hta 3 _ rfl))
      have a4 : wr.cell? ⟨g, j * 5 + 4, none⟩ = some (.int .i64 (tp : Int)) := (hbw.cell (p := ⟨g, j * 5 + 4, none⟩) hgl).trans (hce _ _ (hta 4 _ rfl))
      have b0 : wr.cell? ⟨g2, j * 5, none⟩ = some (.int .i64 tk) := (hbw.cell (p := ⟨g2, j * 5, none⟩) hgl2).trans (hce2 _ _ (hta 0 _ rfl))
      have b1 : wr.cell? ⟨g2, j * 5 + 1, none⟩ = some (.string tx) := (hbw.cell (p := ⟨g2, j * 5 + 1, none⟩) hgl2).trans (hce2 _ _ (hta 1 _ rfl))
      have b2 : wr.cell? ⟨g2, j * 5 + 2, none⟩ = some (.int .i64 tn) := (hbw.cell (p := ⟨g2, j * 5 + 2, none⟩) hgl2).trans (hce2 _ _ (hta 2 _ rfl))
      have b3 : wr.cell? ⟨g2, j * 5 + 3, none⟩ = some (.float .f64 tf) := (hbw.cell (p := ⟨g2, j * 5 + 3, none⟩) hgl2).trans (hce2 _ _ (hta 3 _ rfl))
      have b4 : wr.cell? ⟨g2, j * 5 + 4, none⟩ = some (.int .i64 (tp : Int)) := (hbw.cell (p := ⟨g2, j * 5 + 4, none⟩) hgl2).trans (hce2 _ _ (hta 4 _ rfl))
      have hz := hbw.size
      have hg3 : g < wr.heap.size := by omega
      have hg4 : g2 < wr.heap.size := by omega
      have i0 : (0 : Int) ≤ (j : Int) := by omega
      have i1 : (j : Int) < (l.length : Int) := by omega
      have HBW := hidb hbw
      clear hce hce2 hta ht hbw
      go_wp2_with fail
      have X1 := (Box.new wr 41 (.int .i64 tk) (.string tx) (.int .i64 tn) (.float .f64 tf) (.int .i64 (tp : Int))).alloc (Obj.cells #[.int .i64 tk, .string tx, .int .i64 tn, .float .f64 tf, .int .i64 (tp : Int)] 41)
      have X2 := Box.new (wr.alloc (Obj.cells #[.int .i64 tk, .string tx, .int .i64 tn, .float .f64 tf, .int .i64 (tp : Int)] 41)) 41 (.int .i64 tk) (.string tx) (.int .i64 tn) (.float .f64 tf) (.int .i64 (tp : Int))
      have hs1 : (wr.alloc (Obj.cells #[.int .i64 tk, .string tx, .int .i64 tn, .float .f64 tf, .int .i64 (tp : Int)] 41)).heap.size = wr.heap.size + 1 := by simp
      rw [hs1] at X2
      have HB2 : Hid (Below w.heap.size w ((wr.alloc (Obj.cells #[.int .i64 tk, .string tx, .int .i64 tn, .float .f64 tf, .int .i64 (tp : Int)] 41)).alloc (Obj.cells #[.int .i64 tk, .string tx, .int .i64 tn, .float .f64 tf, .int .i64 (tp : Int)] 41))) := hidb ((HBW.out.alloc hz _).alloc (by simp; omega) _)
      generalize hW2 : ((wr.alloc (Obj.cells #[.int .i64 tk, .string tx, .int .i64 tn, .float .f64 tf, .int .i64 (tp : Int)] 41)).alloc (Obj.cells #[.int .i64 tk, .string tx, .int .i64 tn, .float .f64 tf, .int .i64 (tp : Int)] 41)) = W2 at *
      obtain ⟨x0, x1, x2, x3, x4, _, _, _, _, _, _⟩ := X1
      obtain ⟨y0, y1, y2, y3, y4, _, _, _, _, _, _⟩ := X2
      have k1 : (tk != tk) = false := by simp
      have k2 : (!(tx.toList == tx.toList)) = false := by simp
      have k3 : (tn != tn) = false := by simp
      have k4 : (((tf : Nat) : Int) != ((tf : Nat) : Int)) = false := by simp
      have k5 : (((tp : Nat) : Int) != ((tp : Nat) : Int)) = false := by simp
      clear hW2 a0 a1 a2 a3 a4 b0 b1 b2 b3 b4 hs1
      go_quiet (fail)
      go_wp2_with fail
      go_roundg g'
      case measure => omega
      case rel => exact ⟨j + 1, by simp, by omega, below_drewN HB2.out _⟩
    · have i1 : ¬ (j : Int) < (l.length : Int) := by omega
      go_wp2_with fail
      go_ret
      exact ⟨rfl, hbw⟩

theorem same_nil (w : World) : Calls Tryz.prog 14 #[.slice none 0 0, .slice none 0 0, .bool true] w fun e w' => e = .returned (.bool true) ∧ Below w.heap.size w w' := by
  go_enter Tryz.func14, Tryz.ntmps14
  go_wp2_with fail
  go_loopg [7] 0 (fun gf s7 wx => s7 = .int .i64 0 ∧ gf = 0 ∧ wx = w)
  case atStart => exact ⟨rfl, rfl, rfl⟩
  case round =>
    obtain ⟨rfl, _, hwx⟩ := hrel
    obtain rfl := hwx.symm
    go_wp2_with fail
    go_ret
    exact ⟨rfl, Below.refl _ _⟩
end Go.Proofs.YtppmcimcmcognaaGreatDoor


/- The law's Same on rows of tokens that differ in their places. -/
namespace Go.Proofs.YtppmcimcmcognaaGreatDoor
open Go.RowKit Go.Lib
attribute [local go_sem] store_float f64bits
attribute [local go_sem ↓] Go.wp_at_zero Go.wp_at_succ

set_option maxHeartbeats 1000000 in
set_option maxRecDepth 100000 in
theorem same_like (va vb : Value) (l l2 : List Tk) (hll : l2.length = l.length) (hlk : ∀ (j : Nat) (a b : Tk), l[j]? = some a → l2[j]? = some b → a.k = b.k ∧ a.x = b.x ∧ a.n = b.n ∧ a.f = b.f) (B : Nat) (hl : 0 < l.length) (hln : l.length ≤ 70000) (w : World) (ha : w.ownsRow B TT 5 va l.length (tkCells l)) (hb : w.ownsRow B TT 5 vb l.length (tkCells l2)) :
    Calls Tryz.prog 14 #[va, vb, .bool false] w fun e w' => e = .returned (.bool true) ∧ Below w.heap.size w w' := by
  obtain ⟨g, cap, rfl, hg, hcap, hce⟩ := own_cell ha (by omega)
  obtain ⟨g2, cap2, rfl, hg2, hcap2, hce2⟩ := own_cell hb (by omega)
  have hgl : g < w.heap.size := cell_lt (hce 0 _ (tk_at l 0 (l[0]'(by omega)) (by simp) 0 _ rfl))
  have hgl2 : g2 < w.heap.size := cell_lt (hce2 0 _ (tk_at l2 0 (l2[0]'(by omega)) (by simp) 0 _ rfl))
  clear ha hb
  go_enter Tryz.func14, Tryz.ntmps14
  go_wp2_with fail
  go_loopg [7] l.length (fun gf s7 wx => ∃ j : Nat, s7 = .int .i64 (j : Int) ∧ j + gf = l.length ∧ Below w.heap.size w wx)
  case atStart => exact ⟨0, rfl, by omega, Below.refl _ _⟩
  case round =>
    obtain ⟨j, rfl, hjg, hbw⟩ := hrel
    by_cases hj : j < l.length
    · obtain ⟨g', rfl⟩ : ∃ g', gk = g' + 1 := ⟨gk - 1, by omega⟩
      obtain ⟨t, ht⟩ : ∃ t, l[j]? = some t := ⟨l[j]'hj, by simp⟩
      have hta := tk_at l j t ht
      obtain ⟨t2, ht2⟩ : ∃ t, l2[j]? = some t := ⟨l2[j]'(by omega), by simp⟩
      have hta2 := tk_at l2 j t2 ht2
      have hk2 := hlk j t t2 ht ht2
      obtain ⟨tk, tx, tn, tf, tp⟩ := t
      obtain ⟨tk2, tx2, tn2, tf2, tp2⟩ := t2
      obtain ⟨rfl, rfl, rfl, rfl⟩ : tk = tk2 ∧ tx = tx2 ∧ tn = tn2 ∧ tf = tf2 := hk2
      have a0 : wr.cell? ⟨g, j * 5, none⟩ = some (.int .i64 tk) := (hbw.cell (p := ⟨g, j * 5, none⟩) hgl).trans (hce _ _ (hta 0 _ rfl))
      have a1 : wr.cell? ⟨g, j * 5 + 1, none⟩ = some (.string tx) := (hbw.cell (p := ⟨g, j * 5 + 1, none⟩) hgl).trans (hce _ _ (hta 1 _ rfl))
      have a2 : wr.cell? ⟨g, j * 5 + 2, none⟩ = some (.int .i64 tn) := (hbw.cell (p := ⟨g, j * 5 + 2, none⟩) hgl).trans (hce _ _ (hta 2 _ rfl))
      have a3 : wr.cell? ⟨g, j * 5 + 3, none⟩ = some (.float .f64 tf) := (hbw.cell (p := ⟨g, j * 5 + 3, none⟩) hgl).trans (hce _ _ (hta 3 _ rfl))
      have a4 : wr.cell? ⟨g, j * 5 + 4, none⟩ = some (.int .i64 (tp : Int)) := (hbw.cell (p := ⟨g, j * 5 + 4, none⟩) hgl).trans (hce _ _ (hta 4 _ rfl))
      have b0 : wr.cell? ⟨g2, j * 5, none⟩ = some (.int .i64 tk) := (hbw.cell (p := ⟨g2, j * 5, none⟩) hgl2).trans (hce2 _ _ (hta2 0 _ rfl))
      have b1 : wr.cell? ⟨g2, j * 5 + 1, none⟩ = some (.string tx) := (hbw.cell (p := ⟨g2, j * 5 + 1, none⟩) hgl2).trans (hce2 _ _ (hta2 1 _ rfl))
      have b2 : wr.cell? ⟨g2, j * 5 + 2, none⟩ = some (.int .i64 tn) := (hbw.cell (p := ⟨g2, j * 5 + 2, none⟩) hgl2).trans (hce2 _ _ (hta2 2 _ rfl))
      have b3 : wr.cell? ⟨g2, j * 5 + 3, none⟩ = some (.float .f64 tf) := (hbw.cell (p := ⟨g2, j * 5 + 3, none⟩) hgl2).trans (hce2 _ _ (hta2 3 _ rfl))
      have b4 : wr.cell? ⟨g2, j * 5 + 4, none⟩ = some (.int .i64 (tp2 : Int)) := (hbw.cell (p := ⟨g2, j * 5 + 4, none⟩) hgl2).trans (hce2 _ _ (hta2 4 _ rfl))
      have hz := hbw.size
      have hg3 : g < wr.heap.size := by omega
      have hg4 : g2 < wr.heap.size := by omega
      have i0 : (0 : Int) ≤ (j : Int) := by omega
      have i1 : (j : Int) < (l.length : Int) := by omega
      have HBW := hidb hbw
      clear hce hce2 hta hta2 ht ht2 hbw hlk
      go_wp2_with fail
      have X1 := (Box.new wr 41 (.int .i64 tk) (.string tx) (.int .i64 tn) (.float .f64 tf) (.int .i64 (tp : Int))).alloc (Obj.cells #[.int .i64 tk, .string tx, .int .i64 tn, .float .f64 tf, .int .i64 (tp2 : Int)] 41)
      have X2 := Box.new (wr.alloc (Obj.cells #[.int .i64 tk, .string tx, .int .i64 tn, .float .f64 tf, .int .i64 (tp : Int)] 41)) 41 (.int .i64 tk) (.string tx) (.int .i64 tn) (.float .f64 tf) (.int .i64 (tp2 : Int))
      have hs1 : (wr.alloc (Obj.cells #[.int .i64 tk, .string tx, .int .i64 tn, .float .f64 tf, .int .i64 (tp : Int)] 41)).heap.size = wr.heap.size + 1 := by simp
      rw [hs1] at X2
      have HB2 : Hid (Below w.heap.size w ((wr.alloc (Obj.cells #[.int .i64 tk, .string tx, .int .i64 tn, .float .f64 tf, .int .i64 (tp : Int)] 41)).alloc (Obj.cells #[.int .i64 tk, .string tx, .int .i64 tn, .float .f64 tf, .int .i64 (tp2 : Int)] 41))) := hidb ((HBW.out.alloc hz _).alloc (by simp; omega) _)
      generalize hW2 : ((wr.alloc (Obj.cells #[.int .i64 tk, .string tx, .int .i64 tn, .float .f64 tf, .int .i64 (tp : Int)] 41)).alloc (Obj.cells #[.int .i64 tk, .string tx, .int .i64 tn, .float .f64 tf, .int .i64 (tp2 : Int)] 41)) = W2 at *
      obtain ⟨x0, x1, x2, x3, x4, _, _, _, _, _, _⟩ := X1
      obtain ⟨y0, y1, y2, y3, y4, _, _, _, _, _, _⟩ := X2
      have k1 : (tk != tk) = false := by simp
      have k2 : (!(tx.toList == tx.toList)) = false := by simp
      have k3 : (tn != tn) = false := by simp
      have k4 : (((tf : Nat) : Int) != ((tf : Nat) : Int)) = false := by simp
      clear hW2 a0 a1 a2 a3 a4 b0 b1 b2 b3 b4 hs1
      go_quiet (fail)
      go_wp2_with fail
      go_roundg g'
      case measure => omega
      case rel => exact ⟨j + 1, by simp, by omega, below_drewN HB2.out _⟩
    · have i1 : ¬ (j : Int) < (l.length : Int) := by omega
      go_wp2_with fail
      go_ret
      exact ⟨rfl, hbw⟩

end Go.Proofs.YtppmcimcmcognaaGreatDoor


