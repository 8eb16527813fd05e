/- The nodes from a key on, as a sequence; the first one. -/
import Derived.Test.YtmnglaeaicicnaaMv5
import Derived.Test.YtmnglaeaicicnaaAv6
namespace Go.Proofs.Ytmnglaeaicicnaa
open Go.RowKit Go.Shelf
namespace MV
attribute [local go_sem] Oper.semAt_some

set_option maxHeartbeats 1000000 in
theorem from_any (p : Option Addr) (key : Int) (w : World) : Calls Try.prog 49 #[.pointer p, .int .i64 key] w fun e w' =>
    e = .returned (.func (.func 52) #[] #[.pointer (some ⟨w.heap.size, 0, none⟩), .pointer (some ⟨w.heap.size + 1, 0, none⟩)]) ∧ w' = (w.alloc (.cells #[.pointer p] 48)).alloc (.cells #[.int .i64 key] 3) := by
  go_enter Try.func49, Try.ntmps49
  go_wp2_with fail
  go_ret
  exact ⟨rfl, rfl⟩

theorem IsT.within {w : World} {D : Nat → Prop} : ∀ {p : Option Addr} {t : Avt}, IsT w D p t → IsT w (fun k => k < w.heap.size) p t
  | _, .leaf, h => h
  | _, .node _ _ _ _ _ _, ⟨pl, pr, hp, _, hx, h1, h2⟩ => ⟨pl, pr, hp, hx.lt, hx, IsT.within h1, IsT.within h2⟩

set_option maxHeartbeats 1000000 in
theorem from1_seq {w : World} {Bn Bk : Nat} {M : Nat → Prop} {p : Option Addr} {key : Int} {t : Avt} (hBn : Bn < w.heap.size) (hBk : Bk < w.heap.size) (hc : w.cell? ⟨Bn, 0, none⟩ = some (.pointer p)) (hc2 : w.cell? ⟨Bk, 0, none⟩ = some (.int .i64 key))
    (hT : IsT w (fun k => ¬ M k) p t) : SeqO Try.prog 52 #[.pointer (some ⟨Bn, 0, none⟩), .pointer (some ⟨Bk, 0, none⟩)] nenc (fun x => x ∈ t.nod) M 0 (fun ys => ys = t.tell key) (fun pre => pre <+: t.tell key) (t.tell key).length w := by
  intro l J Jx W hW _ _ hY h0
  have hT' : IsT W (fun k => ¬ M k) p t := hT.keep hW
  have hp := tell_in Fence.wide rfl trivial rfl l (t.tell key).length (W.heap.size + 0) (fun k => M k ∧ (k < W.heap.size ∨ W.heap.size + 0 ≤ k)) (fun k => ¬ M k) (fun k h hh => h hh.1) key (fun x => x ∈ t.nod) J Jx (fun m pre x W1 ho hj hl hb => yieldAt_wide m (hY pre x W1 ho hj hl hb)) t 0 p [] W hT' (fun _ h => h) h0 (by simp) (Nat.le_refl _)
  have c1 := (hW.cell (p := ⟨Bn, 0, none⟩) hBn).trans hc
  have c2 := (hW.cell (p := ⟨Bk, 0, none⟩) hBk).trans hc2
  refine callsIn_of_wp Try.func52 rfl trivial ?_ rfl
  simp only [Try.ntmps52, List.size_toArray, List.length_cons, List.length_nil, Nat.reduceAdd, Nat.reduceSub, Array.replicate_succ, Array.replicate_zero, List.push_toArray, List.append_toArray, List.nil_append, List.cons_append]
  gi_wp2_with ((try refine ⟨trivial, rfl, ?_⟩); gi_at_call 53; refine hp.mono ?_; clear hp; rintro e W1 ⟨-, (⟨rfl, hJ1⟩ | ⟨rfl, q, hq, hx⟩)⟩)
  · go_end0
    exact ⟨⟨_, rfl⟩, .inl ⟨_, rfl, by simpa using hJ1⟩⟩
  · go_end0
    exact ⟨⟨_, rfl⟩, .inr ⟨q, hq, by simpa using hx⟩⟩

set_option maxRecDepth 100000 in
set_option maxHeartbeats 2000000 in
/-- The first node. -/
theorem first_any {w : World} {D : Nat → Prop} {p : Option Addr} {t : Avt} (hT : IsT w D p t) :
    Calls Try.prog 47 #[.pointer p] w fun e w' => Below w.heap.size w w' ∧ ((e = .returned (.pointer none) ∧ t.tell (-9223372036854775808) = []) ∨ ∃ x xs, e = .returned (.pointer (some ⟨x.1, 0, none⟩)) ∧ t.tell (-9223372036854775808) = x :: xs) := by
  have hT0 : IsT w (fun k => k < w.heap.size) p t := hT.within
  refine calls_marks Try.func47 rfl ?_
  simp only [Try.ntmps47, List.size_toArray, List.length_cons, List.length_nil, Nat.reduceAdd, Nat.reduceSub, Array.replicate_succ, Array.replicate_zero, List.push_toArray, List.append_toArray, List.nil_append, List.cons_append]
  go_wp2_with (go_at_call 49; refine (from_any _ _ _).mono ?_; rintro e w' ⟨rfl, rfl⟩)
  have hsz : (((w.alloc (.cells #[.pointer none] 48)).alloc (.cells #[.pointer p] 48)).alloc (.cells #[.int .i64 (-9223372036854775808)] 3)).heap.size = w.heap.size + 3 := by simp
  have hb3 : Below w.heap.size w (((w.alloc (.cells #[.pointer none] 48)).alloc (.cells #[.pointer p] 48)).alloc (.cells #[.int .i64 (-9223372036854775808)] 3)) := ((below_new w _).alloc (by simp) _).alloc (by simp; omega) _
  have g0 : (((w.alloc (.cells #[.pointer none] 48)).alloc (.cells #[.pointer p] 48)).alloc (.cells #[.int .i64 (-9223372036854775808)] 3)).cell? ⟨w.heap.size, 0, none⟩ = some (.pointer none) := by simp [go_sem]
  have g1 : (((w.alloc (.cells #[.pointer none] 48)).alloc (.cells #[.pointer p] 48)).alloc (.cells #[.int .i64 (-9223372036854775808)] 3)).cell? ⟨w.heap.size + 1, 0, none⟩ = some (.pointer p) := by simp [go_sem]
  have g2 : (((w.alloc (.cells #[.pointer none] 48)).alloc (.cells #[.pointer p] 48)).alloc (.cells #[.int .i64 (-9223372036854775808)] 3)).cell? ⟨w.heap.size + 1 + 1, 0, none⟩ = some (.int .i64 (-9223372036854775808)) := by simp [go_sem]
  have g3 : (((w.alloc (.cells #[.pointer none] 48)).alloc (.cells #[.pointer p] 48)).alloc (.cells #[.int .i64 (-9223372036854775808)] 3)).frozen? ⟨w.heap.size, 0, none⟩ = false := by simp [go_sem]
  generalize (((w.alloc (.cells #[.pointer none] 48)).alloc (.cells #[.pointer p] 48)).alloc (.cells #[.int .i64 (-9223372036854775808)] 3)) = W3 at *
  have hT3 : IsT W3 (fun k => ¬ w.heap.size ≤ k) p t := (hT0.keep hb3).mono (fun k hk => by omega)
  refine range_o (gf := 52) (lb := #[.pointer (some ⟨w.heap.size + 1, 0, none⟩), .pointer (some ⟨w.heap.size + 1 + 1, 0, none⟩)]) rfl (enters_of Try.func52 (by kernel_rfl) rfl)
    (from1_seq (w := W3) (M := fun k => w.heap.size ≤ k) (by omega) (by omega) g1 g2 hT3) (fun k hk => by omega) (Below.refl _ _) (fun _ => rfl)
    (fun pre W => (pre = [] ∧ But (fun k => k = w.heap.size) W3 W) ∧ W.cell? ⟨w.heap.size, 0, none⟩ = some (.pointer none) ∧ W.frozen? ⟨w.heap.size, 0, none⟩ = false)
    (fun c pre W => ∃ x, (c = .ret ∧ pre = [x]) ∧ But (fun k => k = w.heap.size) W3 W ∧ W.cell? ⟨w.heap.size, 0, none⟩ = some (.pointer (some ⟨x.1, 0, none⟩)) ∧ W.frozen? ⟨w.heap.size, 0, none⟩ = false)
    ?hI ?hIx ⟨⟨rfl, But.refl _ _⟩, g0, g3⟩
    (fun x => { tmps := #[.pointer p, undef, .pointer (some ⟨w.heap.size, 0, none⟩), .pointer (some ⟨x.1, 0, none⟩), .pointer p, .func (.func 52) #[] #[.pointer (some ⟨w.heap.size + 1, 0, none⟩), .pointer (some ⟨w.heap.size + 1 + 1, 0, none⟩)], .pointer (some ⟨x.1, 0, none⟩), undef], defers := [] }) ?assign ?body ?done ?stop
  case hI => exact OwnFrom.and (OwnFrom.and (ownFrom_pure _ _) (OwnFrom.but (Nat.le_refl _))) (OwnFrom.cells _ (fun _ => .pointer none))
  case hIx =>
    rintro c pre A B row ⟨x, h1, h2⟩ hg hr
    exact ⟨x, h1, OwnFrom.and (OwnFrom.but (Nat.le_refl _)) (OwnFrom.cells _ (fun _ : Unit => .pointer (some ⟨x.1, 0, none⟩))) () A B row h2 hg hr⟩
  case assign =>
    intro l x W K hK
    gi_wp2
    exact hK
  case body =>
    rintro l pre x W _ ⟨⟨rfl, hB⟩, hc, hf⟩ _ _
    gi_wp2
    exact ⟨(But.refl _ _).setCell (fun _ => by simp; omega) _, x, ⟨rfl, rfl⟩, hB.setCell (fun _ => rfl) _, World.cell?_setCell_same' _ _ _ (by rw [hc]; rfl), by rw [World.frozen?_setCell]; exact hf⟩
  case done =>
    rintro Dd ys W hD rfl ⟨⟨hy, hB⟩, hc, hf⟩ hK
    go_wp2_with fail
    have hB2 : But (fun k => k = w.heap.size) W3 (W.setCell ⟨w.heap.size, 0, none⟩ (.pointer none)) := hB.setCell (fun _ => rfl) _
    have hc2 : (W.setCell ⟨w.heap.size, 0, none⟩ (.pointer none)).cell? ⟨w.heap.size, 0, none⟩ = some (.pointer none) := World.cell?_setCell_same' _ _ _ (by rw [hc]; rfl)
    refine retM [Dd] rfl (fun E hE => ?_) (by simp) (fun W' hb => ?_)
    · obtain rfl : E = Dd := by simpa using hE
      exact (Below.heap_setCell W _ _ E (by simp; omega)).trans hK
    · have c5 := (hb.cell (p := ⟨w.heap.size, 0, none⟩) (World.block_lt_of_cell? _ _ hc2) (by simp; omega)).trans hc2
      exact ⟨.pointer none, by simp [results, Try.results47, go_sem, c5], hb3.trans ((hB2.below (by omega) (fun k e => by omega)).trans (hb.below (by have := hB2.size; omega) (fun k e => by have : k = Dd := (by simpa using e); omega))), .inl ⟨rfl, hy⟩⟩
  case stop =>
    rintro Dd c pre W hD hp ⟨x, ⟨rfl, rfl⟩, hB, hc, hf⟩ hK
    go_wp2_with fail
    refine retM [Dd] rfl (fun E hE => ?_) (by simp) (fun W' hb => ?_)
    · obtain rfl : E = Dd := by simpa using hE
      exact hK
    · have c5 := (hb.cell (p := ⟨w.heap.size, 0, none⟩) (World.block_lt_of_cell? _ _ hc) (by simp; omega)).trans hc
      obtain ⟨ys, hys⟩ := hp
      exact ⟨.pointer (some ⟨x.1, 0, none⟩), by simp [results, Try.results47, go_sem, c5], hb3.trans ((hB.below (by omega) (fun k e => by omega)).trans (hb.below (by have := hB.size; omega) (fun k e => by have : k = Dd := (by simpa using e); omega))), .inr ⟨x, ys, rfl, hys.symm⟩⟩

end MV
end Go.Proofs.Ytmnglaeaicicnaa
