import Derived.Test.YtdpfmmbfidknfaaGreatDoorG19
/- Tokens. -/
namespace Go.Proofs.YtdpfmmbfidknfaaGreatDoor
open Go.RowKit Go.Lib
attribute [local go_sem] store_float f64bits
attribute [local go_sem ↓] Go.wp_at_zero Go.wp_at_succ

/-- All tokens of a source, or the first fault. -/
def allT (s : ByteArray) : Res := if 65536 < s.size then .inr (3, 0) else toks s (s.size + 1) 0 []

theorem own_base {w : World} {B B' e size n : Nat} {v : Value} {xs : List Value} (h : w.ownsRow B e size v n xs) (hB : B' ≤ B) : w.ownsRow B' e size v n xs := by
  refine ⟨h.1, ?_⟩
  rcases h.2 with h0 | ⟨g, cap, cur, hv, hg, rest⟩
  · exact .inl h0
  · exact .inr ⟨g, cap, cur, hv, Nat.le_trans hB hg, rest⟩

/-- The cells of a row. -/
theorem own_cell {w : World} {B e size n : Nat} {v : Value} {xs : List Value} (h : w.ownsRow B e size v n xs) (hn : 0 < n) : ∃ g cap, v = .slice (some ⟨g, 0, none⟩) n cap ∧ B ≤ g ∧ n ≤ cap ∧ ∀ k u, xs[k]? = some u → w.cell? ⟨g, k, none⟩ = some u := by
  rcases h.2 with ⟨_, h0⟩ | ⟨g, cap, cur, hv, hg, hh, hc, hm, hz, ht⟩
  · omega
  · refine ⟨g, cap, hv, hg, hc, fun k u hk => ?_⟩
    rw [← ht, List.getElem?_take] at hk
    split at hk
    · simp only [World.cell?, hh]
      simpa using hk
    · cases hk

set_option maxHeartbeats 1000000 in
theorem Tokens_any (s : ByteArray) (w : World) (hT : LexTab w) :
    Calls Tryz.prog 12 #[.string s] w fun e w' => TP w.heap.size (allT s) e w' ∧ Below w.heap.size w w' := by
  unfold allT
  by_cases hl : 65536 < s.size
  · have h1 : (65536 : Int) < (s.size : Int) := by omega
    rw [if_pos hl]
    go_enter Tryz.func12, Tryz.ntmps12
    go_wp2_with fail
    exact bodyPost_ret (v := .tuple #[.slice none 0 0, .agg #[.int .i64 3, .int .i64 0]]) (by simp [results, Tryz.results12, go_sem]) rfl ⟨.inr ⟨3, 0, rfl, rfl⟩, (Below.refl _ _).alloc (Nat.le_refl _) _⟩
  · have h1 : ¬ (65536 : Int) < (s.size : Int) := by omega
    rw [if_neg hl]
    have hB2 : Below w.heap.size w ((w.alloc (Obj.cells #[Value.int IntKind.i64 0, Value.int IntKind.i64 0] 28)).alloc (Obj.cells #[Value.string s, Value.int IntKind.i64 0] 52)) := ((Below.refl _ _).alloc (Nat.le_refl _) _).alloc (by simp) _
    have hF : Duo ((w.alloc (Obj.cells #[Value.int IntKind.i64 0, Value.int IntKind.i64 0] 28)).alloc (Obj.cells #[Value.string s, Value.int IntKind.i64 0] 52)) w.heap.size (.int .i64 0) (.int .i64 0) := (Duo.new w _ _ _).keep (below_new _ _)
    have hS : Sc ((w.alloc (Obj.cells #[Value.int IntKind.i64 0, Value.int IntKind.i64 0] 28)).alloc (Obj.cells #[Value.string s, Value.int IntKind.i64 0] 52)) (w.heap.size + 1) s 0 := by
      have := Duo.new (w.alloc (Obj.cells #[Value.int IntKind.i64 0, Value.int IntKind.i64 0] 28)) 52 (.string s) (.int .i64 0)
      simpa [Sc] using this
    have hgw : 7 ≤ w.heap.size := by
      have := cell_lt ((hT.u.2 0 (by omega)).1)
      exact this
    have cT := tokens_any s (w.heap.size + 1) (by omega) _ hS (hT.but (But.of_below (S := fun _ => False) hB2) (fun _ e => e.elim)) (by unfold GB; omega)
    obtain ⟨R, hR⟩ : ∃ R, toks s (s.size + 1) 0 [] = R := ⟨_, rfl⟩
    rw [hR] at cT ⊢
    have hsz : ((w.alloc (Obj.cells #[Value.int IntKind.i64 0, Value.int IntKind.i64 0] 28)).alloc (Obj.cells #[Value.string s, Value.int IntKind.i64 0] 52)).heap.size = w.heap.size + 2 := by simp
    rw [hsz] at cT
    clear hR hT
    go_enter Tryz.func12, Tryz.ntmps12
    go_wp2_with fail
    refine cT.mono ?_
    rintro e w2 ⟨hTP, hbt⟩
    have hbl : Below w.heap.size w w2 := hB2.trans (hbt.below (by rw [hsz]; omega) (fun k hk => by omega))
    obtain ⟨q0, q1, qf0, qf1, _⟩ := hF.but hbt (by omega)
    have HB := hidb hbl
    clear cT hbt hbl hF hS hB2
    rcases hTP with ⟨l, V, rfl, rfl, how⟩ | ⟨er, p, rfl, rfl⟩
    · go_wp2_with fail
      refine bodyPost_ret (v := .tuple #[V, .agg #[.int .i64 0, .int .i64 0]]) (by simp [results, Tryz.results12, go_sem, q0, q1]) rfl ⟨.inl ⟨l, V, rfl, rfl, ?_⟩, (HB.out.setCell (p := ⟨w.heap.size, 0, none⟩) (Nat.le_refl _) _).setCell (p := ⟨w.heap.size, 1, none⟩) (Nat.le_refl _) _⟩
      exact own_base (own_but how (((But.refl (fun k => k = w.heap.size) w2).setCell (p := ⟨w.heap.size, 0, none⟩) (fun _ => rfl) _).setCell (p := ⟨w.heap.size, 1, none⟩) (fun _ => rfl) _) (fun k hk => by omega)) (by omega)
    · go_wp2_with fail
      exact bodyPost_ret (v := .tuple #[.slice none 0 0, .agg #[.int .i64 er, .int .i64 (p : Int)]]) (by simp [results, Tryz.results12, go_sem, q0, q1]) rfl ⟨.inr ⟨er, p, rfl, rfl⟩, (HB.out.setCell (p := ⟨w.heap.size, 0, none⟩) (Nat.le_refl _) _).setCell (p := ⟨w.heap.size, 1, none⟩) (Nat.le_refl _) _⟩
end Go.Proofs.YtdpfmmbfidknfaaGreatDoor


/- The reference's small functions. -/
namespace Go.Proofs.YtdpfmmbfidknfaaGreatDoor
open Go.RowKit Go.Lib
attribute [local go_sem] store_float f64bits
attribute [local go_sem ↓] Go.wp_at_zero Go.wp_at_succ

theorem at_byte (s : ByteArray) (p : Nat) (h : p < s.size) : (s[p]'h).toNat = bt s p := by unfold bt; rw [get_of_lt _ _ h]

end Go.Proofs.YtdpfmmbfidknfaaGreatDoor


