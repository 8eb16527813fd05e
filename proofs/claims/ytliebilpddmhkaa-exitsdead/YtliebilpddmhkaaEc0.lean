/- term.copyList on any row of terms. -/
import Derived.Test.YtliebilpddmhkaaEr0
import Derived.Laws.MakeOwn
import Derived.Laws.CopyRow
namespace Go.Proofs.Ytliebilpddmhkaa
open Go.RowKit Go.Lib
attribute [local go_sem] store_float f64bits
attribute [local go_sem ↓] Go.wp_at_zero Go.wp_at_succ

abbrev TT : Nat := 25
abbrev TS : Nat := 23

theorem infoT : ∃ i0, Try.prog.info? TT = some i0 ∧ i0.zero = some (.agg #[.int .i64 0, .int .i64 0, .float .f64 0, .string ⟨#[]⟩, .slice none 0 0]) ∧ i0.size = 5 ∧ i0.bytes = 64 := by
  obtain ⟨i0, hi, hz0, hz1, hz2⟩ := info_parts (P := Try.prog) (e := TT) (z := .agg #[.int .i64 0, .int .i64 0, .float .f64 0, .string ⟨#[]⟩, .slice none 0 0]) (size := 5) (bytes := 64) (by kernel_rfl)
  exact ⟨i0, hi, hz0, hz1, hz2⟩

theorem run_copy_terms (w : World) (ty : TypeId) (g n dCap : Nat) (a : Addr) (sCap : Nat) (cur : Array Value) (t : TypeId) (cs : List Value)
    (hg : w.heap[g]? = some (.cells cur t (0, 0))) (hn : cs.length = n * 5) (hsrc : ∀ j v, cs[j]? = some v → w.cell? (a.add j) = some v) (hfit : cur.size = n * 5) (h1 : ∀ v ∈ cs, v.oneCell' = true) :
    (Builtin.copy_ #[TS, TS] ty #[.slice (some ⟨g, 0, none⟩) n dCap, .slice (some a) n sCap]).run Try.prog w = .ok (goInt n) (w.setRow g cs.toArray) := by
  obtain ⟨i, hq, -, hi, -⟩ := infoT
  have hl := run_loadCells_list (P := Try.prog) w a cs hsrc
  have hst := run_storeCells_at Try.prog g 0 t cs 0 cur w hg (by omega) h1
  have e1 : cur.toList.drop (0 + 0 + cs.length) = [] := List.drop_eq_nil_of_le (by rw [Array.length_toList]; omega)
  rw [e1] at hst
  simp only [Nat.add_zero, List.take_zero, List.nil_append, List.append_nil] at hst
  have hmin : Nat.min n n = n := Nat.min_self n
  simp [Builtin.copy_, run_underlying Try.underlying23, Builtin.lenOf, Builtin.firstCells, sizeOf, typeInfo, hq, hi, ← hn, hl, hst]

theorem copyList_none (a : Option Addr) (c : Nat) (w : World) : Calls Try.prog 50 #[.slice a 0 c] w fun e w' => e = .returned (.slice none 0 0) ∧ w' = w := by
  go_enter Try.func50, Try.ntmps50
  go_wp2
  go_ret
  exact ⟨rfl, rfl⟩

set_option maxHeartbeats 1000000 in
set_option maxRecDepth 100000 in
theorem copyList_any (w : World) (a : Addr) (n c : Nat) (cs : List Value) (hn : cs.length = n * 5) (h0 : 0 < n) (hb : n ≤ 1000000000000) (hsrc : ∀ j v, cs[j]? = some v → w.cell? (a.add j) = some v) (h1 : ∀ v ∈ cs, v.oneCell' = true) :
    Calls Try.prog 50 #[.slice (some a) n c] w fun e w' => e = .returned (.slice (some ⟨w.heap.size, 0, none⟩) n n) ∧ w' = w.alloc (.cells cs.toArray TT) := by
  obtain ⟨i0, hi, hz0, hz1, hz2⟩ := infoT
  have hmk := run_make (P := Try.prog) w TS TT i0 _ Try.underlying23 hi hz0 .i64 .i64 (n : Int) (n : Int) (by omega) (by omega) (by rw [hz2]; omega) (by omega)
  simp only [Int.toNat_natCast, hz1] at hmk
  generalize hzz : madeCells (Value.agg #[.int .i64 0, .int .i64 0, .float .f64 0, .string ⟨#[]⟩, .slice none 0 0]).cells (n * 5) = zs at hmk
  have hzl : zs.size = n * 5 := by rw [← hzz]; exact size_madeCells _ _
  have hcp := fun ty => run_copy_terms (w.alloc (.cells zs TT)) ty w.heap.size n n a c zs TT cs (MapKept.heap_alloc w _).1 hn (fun j v hj => by
    have := hsrc j v hj
    rw [← this]
    exact World.cell?_of_block (w := w) (Below.heap_alloc _ _ _ (World.block_lt_of_cell? w _ this))) hzl h1
  have hset : (w.alloc (.cells zs TT)).setRow w.heap.size cs.toArray = w.alloc (.cells cs.toArray TT) := by
    cases w with
    | mk heap tape drawn os output =>
      simp only [World.setRow, World.alloc]
      congr 1
      apply Array.ext
      · simp
      · intro k h1 h2
        simp only [Array.getElem_modify, Array.getElem_push]
        split
        · rename_i hk; subst hk; simp
        · rename_i hk
          split
          · rfl
          · simp at h1; omega
  simp only [hset] at hcp
  have hz : ((n : Int) == 0) = false := by simp; omega
  clear hsrc h1 hzl hzz hn h0 hset hz0 hi
  go_enter Try.func50, Try.ntmps50
  go_wp2_with fail
  go_ret
  exact ⟨rfl, rfl⟩

theorem box_set4 {w : World} {b : Nat} {v0 v1 v2 v3 v4 : Value} (h : Box w b v0 v1 v2 v3 v4) (u : Value) : Box (w.setCell ⟨b, 4, none⟩ u) b v0 v1 v2 v3 u :=
  ⟨by rw [World.cell?_setCell_other _ _ _ _ (ne_off3 _ _ _ (by decide))]; exact h.c0, by rw [World.cell?_setCell_other _ _ _ _ (ne_off3 _ _ _ (by decide))]; exact h.c1, by rw [World.cell?_setCell_other _ _ _ _ (ne_off3 _ _ _ (by decide))]; exact h.c2, by rw [World.cell?_setCell_other _ _ _ _ (ne_off3 _ _ _ (by decide))]; exact h.c3, World.cell?_setCell_same _ _ _ h.c4,
    by rw [World.frozen?_setCell]; exact h.f0, by rw [World.frozen?_setCell]; exact h.f1, by rw [World.frozen?_setCell]; exact h.f2, by rw [World.frozen?_setCell]; exact h.f3, by rw [World.frozen?_setCell]; exact h.f4, by simp [World.setCell]; exact h.lt⟩

/-- What a term without elements is copied to. -/
theorem copyAll_look (w : World) (b : Nat) (k n : Int) (f : Nat) (s : ByteArray) (a : Option Addr) (c : Nat) (h : Box w b (.int .i64 k) (.int .i64 n) (.float .f64 f) (.string s) (.slice a 0 c)) :
    Calls Try.prog 44 #[.slice (some ⟨b, 0, none⟩) 1 1] w fun e w' => ∃ g, e = .returned (.slice (some ⟨g, 0, none⟩) 1 1) ∧ Box w' g (.int .i64 k) (.int .i64 n) (.float .f64 f) (.string s) (.slice none 0 0) ∧ Below w.heap.size w w' := by
  obtain ⟨c0, c1, c2, c3, c4, -, -, -, -, -, hlt⟩ := h
  have CL := hidb (copyList_any w ⟨b, 0, none⟩ 1 1 [.int .i64 k, .int .i64 n, .float .f64 f, .string s, .slice a 0 c] rfl (by omega) (by omega) (by
    intro j v hj
    match j, hj with
    | 0, hj => simp at hj; subst hj; simpa [Addr.add] using c0
    | 1, hj => simp at hj; subst hj; simpa [Addr.add] using c1
    | 2, hj => simp at hj; subst hj; simpa [Addr.add] using c2
    | 3, hj => simp at hj; subst hj; simpa [Addr.add] using c3
    | 4, hj => simp at hj; subst hj; simpa [Addr.add] using c4
    | j + 5, hj => simp at hj) (by intro u hu; simp at hu; rcases hu with rfl | rfl | rfl | rfl | rfl <;> rfl))
  have CN := hidb (fun w' => copyList_none a c w')
  clear c0 c1 c2 c3 c4
  go_enter Try.func44, Try.ntmps44
  go_wp2_with (first
    | (go_at_call 50; refine CL.out.mono ?_; rintro e w1 ⟨rfl, rfl⟩; clear CL))
  go_loopw [4] (fun wv wr => (wv = .slice (some ⟨w.heap.size + 1, 0, none⟩) 1 1 ∧ wr = (w.alloc (.cells #[.int .i64 k, .int .i64 n, .float .f64 f, .string s, .slice a 0 c] 25)).alloc (.cells #[.slice (some ⟨w.heap.size, 0, none⟩) 1 1] 23)) ∨
      ((∃ q c, wv = .slice q 0 c) ∧ Box wr w.heap.size (.int .i64 k) (.int .i64 n) (.float .f64 f) (.string s) (.slice none 0 0) ∧ Below w.heap.size w wr)) (fun wv _ => match wv with | .slice _ n _ => n | _ => 0)
  case atStart => exact .inl ⟨rfl, rfl⟩
  case round =>
  rcases hrel with ⟨rfl, rfl⟩ | ⟨⟨q, c', rfl⟩, hbx, hbel⟩
  · go_wp2_with (first
      | (go_at_call 50; refine (CN.out _).mono ?_; rintro e w1 ⟨rfl, rfl⟩))
    have hX := Box.alloc (Box.new w 25 (.int .i64 k) (.int .i64 n) (.float .f64 f) (.string s) (.slice a 0 c)) (.cells #[.slice (some ⟨w.heap.size, 0, none⟩) 1 1] 23)
    have hB : Below w.heap.size w ((w.alloc (.cells #[.int .i64 k, .int .i64 n, .float .f64 f, .string s, .slice a 0 c] 25)).alloc (.cells #[.slice (some ⟨w.heap.size, 0, none⟩) 1 1] 23)) := (below_new w _).alloc (by simp) _
    have HX := hidb hX
    have HB := hidb hB
    generalize (w.alloc (.cells #[.int .i64 k, .int .i64 n, .float .f64 f, .string s, .slice a 0 c] 25)).alloc (.cells #[.slice (some ⟨w.heap.size, 0, none⟩) 1 1] 23) = W at *
    clear hX hB
    go_loopw [4, 27] (fun wv iv wr => (∃ q c, wv = .slice q 0 c) ∧ ((iv = .int .i64 0 ∧ wr = W) ∨ (iv = .int .i64 1 ∧ Box wr w.heap.size (.int .i64 k) (.int .i64 n) (.float .f64 f) (.string s) (.slice none 0 0) ∧ Below w.heap.size w wr))) (fun _ iv _ => 1 - (intOf iv).toNat)
    case atStart => exact ⟨⟨_, _, rfl⟩, .inl ⟨rfl, rfl⟩⟩
    case round =>
    obtain ⟨⟨qw, cw, rfl⟩, hrel⟩ := hrel
    rcases hrel with ⟨rfl, rfl⟩ | ⟨rfl, hbx, hbel⟩
    · obtain ⟨c0, c1, c2, c3, c4, f0, f1, f2, f3, f4, hlw⟩ := HX.out
      go_wp2_with (first
        | (go_at_call 50; refine (CN.out _).mono ?_; rintro e w1 ⟨rfl, rfl⟩))
      go_roundw
      case rel => exact ⟨⟨_, _, rfl⟩, .inr ⟨rfl, box_set4 HX.out _, HB.out.setCell (Nat.le_refl _) _⟩⟩
      case measure => simp [intOf]
    · have HBX := hidb hbx
      have HB2 := hidb hbel
      clear hbx hbel HX HB
      go_wp2_with fail
      go_roundw
      case rel => exact .inr ⟨⟨_, _, rfl⟩, HBX.out, HB2.out⟩
      case measure => simp
  · have HBX := hidb hbx
    have HB := hidb hbel
    clear hbx hbel
    go_wp2_with fail
    go_ret
    exact ⟨_, rfl, HBX.out, HB.out⟩

/-- term.Copy of a term without elements. -/
theorem copy_leaf (w : World) (k n : Int) (f : Nat) (s : ByteArray) (a : Option Addr) (c : Nat) : Calls Try.prog 37 #[.agg #[.int .i64 k, .int .i64 n, .float .f64 f, .string s, .slice a 0 c]] w fun e w' => e = .returned (.agg #[.int .i64 k, .int .i64 n, .float .f64 f, .string s, .slice none 0 0]) ∧ Below w.heap.size w w' := by
  have bx : Box (((w.alloc (.cells #[.int .i64 k, .int .i64 n, .float .f64 f, .string s, .slice a 0 c] TT)).alloc (.cells #[.int .i64 0, .int .i64 0, .float .f64 0, .string ⟨#[]⟩, .slice none 0 0] TT)).alloc (.cells #[.int .i64 k, .int .i64 n, .float .f64 f, .string s, .slice a 0 c] TT)) (w.heap.size + 1 + 1) (.int .i64 k) (.int .i64 n) (.float .f64 f) (.string s) (.slice a 0 c) := by
    have := Box.new ((w.alloc (.cells #[.int .i64 k, .int .i64 n, .float .f64 f, .string s, .slice a 0 c] TT)).alloc (.cells #[.int .i64 0, .int .i64 0, .float .f64 0, .string ⟨#[]⟩, .slice none 0 0] TT)) TT (.int .i64 k) (.int .i64 n) (.float .f64 f) (.string s) (.slice a 0 c)
    simpa using this
  have rx : Box (((w.alloc (.cells #[.int .i64 k, .int .i64 n, .float .f64 f, .string s, .slice a 0 c] TT)).alloc (.cells #[.int .i64 0, .int .i64 0, .float .f64 0, .string ⟨#[]⟩, .slice none 0 0] TT)).alloc (.cells #[.int .i64 k, .int .i64 n, .float .f64 f, .string s, .slice a 0 c] TT)) (w.heap.size + 1) (.int .i64 0) (.int .i64 0) (.float .f64 0) (.string ⟨#[]⟩) (.slice none 0 0) := by
    have := (Box.new (w.alloc (.cells #[.int .i64 k, .int .i64 n, .float .f64 f, .string s, .slice a 0 c] TT)) TT (.int .i64 0) (.int .i64 0) (.float .f64 0) (.string ⟨#[]⟩) (.slice none 0 0)).alloc (.cells #[.int .i64 k, .int .i64 n, .float .f64 f, .string s, .slice a 0 c] TT)
    simpa using this
  have bw : Below w.heap.size w (((w.alloc (.cells #[.int .i64 k, .int .i64 n, .float .f64 f, .string s, .slice a 0 c] TT)).alloc (.cells #[.int .i64 0, .int .i64 0, .float .f64 0, .string ⟨#[]⟩, .slice none 0 0] TT)).alloc (.cells #[.int .i64 k, .int .i64 n, .float .f64 f, .string s, .slice a 0 c] TT)) := ((below_new w _).alloc (by simp) _).alloc (by simp; omega) _
  have CA := hidb (copyAll_look _ _ k n f s a c bx)
  have RX := hidb rx
  have BW := hidb bw
  clear bx rx bw
  go_enter Try.func37, Try.ntmps37
  go_wp2_with (first | (go_at_call 44; refine CA.out.mono ?_; rintro e w1 ⟨g, rfl, hbx, hb⟩; obtain ⟨q0, q1, q2, q3, q4, -, -, -, -, -, -⟩ := hbx; obtain ⟨r0, r1, r2, r3, r4, g0, g1, g2, g3, g4, -⟩ := RX.out.keep hb; have HB := hidb (BW.out.trans (hb.mono BW.out.size)); clear hb CA RX BW))
  exact bodyPost_ret (v := .agg #[.int .i64 k, .int .i64 n, .float .f64 f, .string s, .slice none 0 0]) (by simp [results, Try.results37, go_sem, r0, r1, r2, r3, r4]) rfl ⟨rfl, ((((HB.out.setCell (by simp) _).setCell (by simp) _).setCell (by simp) _).setCell (by simp) _).setCell (by simp) _⟩
end Go.Proofs.Ytliebilpddmhkaa
