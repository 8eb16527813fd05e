import Derived.Shelf.LaysM
import Derived.Shelf.Strconv.Clone
import Derived.Test.YtmijabhnbmmmfaaGreatProg
import Derived.Test.YtmijabhnbmmmfaaGreatG14
/- Contracts of the library (Mul64, FormatInt at base 10, Repeat), laid at this program by the kit's own tool, in plain words. -/
namespace Go.Proofs
open Go.Shelf
def Tryz.laysM316_ren : Go.Shelf.Ren := ⟨fun | 316 => 112 | n => n, fun | 9 => 9 | 3 => 3 | 4 => 4 | 37 => 211 | 0 => 0 | 127 => 212 | 5 => 5 | n => n, fun | n => n⟩
theorem Tryz.laysM316 : Go.Proofs.LaysM.n316 Tryz.prog Tryz.laysM316_ren := {
  mixed := by kernel_rfl
  f316 := Tryz.func112.trans (congrArg some (by kernel_rfl))
  t0 := Tryz.underlying0
  a0 := Tryz.isAgg0
  z0 := Tryz.sizeOf0
  v0 := Tryz.zeroValue0
  t3 := Tryz.underlying3
  a3 := Tryz.isAgg3
  z3 := Tryz.sizeOf3
  v3 := Tryz.zeroValue3
  t4 := Tryz.underlying4
  a4 := Tryz.isAgg4
  z4 := Tryz.sizeOf4
  v4 := Tryz.zeroValue4
  t9 := Tryz.underlying9
  a9 := Tryz.isAgg9
  z9 := Tryz.sizeOf9
  v9 := Tryz.zeroValue9
  t37 := Tryz.underlying211
  a37 := Tryz.isAgg211
  z37 := Tryz.sizeOf211
  v37 := Tryz.zeroValue211
  t127 := Tryz.underlying212
  a127 := Tryz.isAgg212
  z127 := Tryz.sizeOf212
  v127 := Tryz.zeroValue212
  t5 := Tryz.underlying5
  a5 := Tryz.isAgg5
  z5 := Tryz.sizeOf5
  v5 := Tryz.zeroValue5
  i0 := by kernel_rfl
  i3 := by kernel_rfl
  i4 := by kernel_rfl
  i5 := by kernel_rfl
  i9 := by kernel_rfl
  i37 := by kernel_rfl
  i127 := by kernel_rfl }
open Go.RowKit in
theorem Tryz.stringslite_Clone (s : ByteArray) (w : World) (hlim : s.size ≤ 281474976710656) :
    Calls Tryz.prog 112 #[.string s] w fun e w' => e = .returned (.string s) ∧ Below w.heap.size w w' := Any.stringslite_Clone Tryz.laysM316 s w hlim
end Go.Proofs


/- A table of atoms in memory; a text added to it. -/
namespace Go.Proofs.YtmijabhnbmmmfaaGreat
open Go.RowKit Go.Maps Go.WideMaps

structure TAt (w : World) (b : Nat) (m : Option Nat) (v : Value) (L : List ByteArray) : Prop where
  c0 : w.cell? ⟨b, 0, none⟩ = some (.map m)
  c1 : w.cell? ⟨b, 1, none⟩ = some v
  f0 : w.frozen? ⟨b, 0, none⟩ = false
  f1 : w.frozen? ⟨b, 1, none⟩ = false
  row : w.ownsRow 0 9 1 v L.length (L.map Value.string)
  mp : (m = none ∧ L = []) ∨ ∃ bm D, m = some bm ∧ w.ownsMap Tryz.prog 9 (plainElem Tryz.prog 3) bm L.length D ∧ MapIs D L
  nb : v.ownBlock ≠ some b
  nm : m ≠ some b
  nv : ∀ k, m = some k → v.ownBlock ≠ some k
def foot (b : Nat) (m : Option Nat) (v : Value) : List Nat := b :: (m.toList ++ v.ownBlock.toList)

theorem law9 : Keyed Tryz.prog 9 := string_keyed Tryz.underlying9
theorem zero3 (w : World) : (zeroValue 3).run Tryz.prog w = .ok (.int .i64 0) w := by kernel_rfl
theorem info9 : (Tryz.prog.info? 9).map (fun i => (i.zero, i.size, i.bytes)) = some (some (.string ⟨#[]⟩), 1, 16) := by kernel_rfl

theorem map_not_nil (bm : Nat) (w : World) : (binOp .eql 83 (.map (some bm)) (.map none)).run Tryz.prog w = .ok (.bool false) w := by
  kernel_rfl
theorem map_is_nil (w : World) : (binOp .eql 83 (.map none) (.map none)).run Tryz.prog w = .ok (.bool true) w := by
  kernel_rfl

theorem cell_lt {w : World} {a : Addr} {v : Value} (h : w.cell? a = some v) : a.block < w.heap.size := by
  unfold World.cell? at h
  cases hb : w.heap[a.block]? with
  | none => rw [hb] at h; simp at h
  | some o => exact (Array.getElem?_eq_some_iff.1 hb).1

theorem row_shape {w : World} {v : Value} {n : Nat} {e : TypeId} {xs : List Value} (h : w.ownsRow 0 e 1 v n xs) : ∃ a c, v = .slice a n c := by
  obtain ⟨_, ⟨rfl, rfl⟩ | ⟨g, cap, cur, rfl, _⟩⟩ := h
  · exact ⟨_, _, rfl⟩
  · exact ⟨_, _, rfl⟩

theorem grown_of_below {a b : World} (h : Below a.heap.size a b) : a.grownBy b none := ⟨h.os, h.tape, h.output, h.size, fun k hk _ => h.block k hk⟩

theorem clone_any (s : ByteArray) (w : World) (hs : s.size ≤ 64) : Calls Tryz.prog 107 #[.string s] w fun e w' => e = .returned (.string s) ∧ Below w.heap.size w w' := by
  go_enter Tryz.func107, Tryz.ntmps107
  go_wp2_with (go_at_call 112; refine (Tryz.stringslite_Clone s _ (by omega)).mono ?_; rintro e w' ⟨rfl, hb⟩)
  go_ret
  exact ⟨rfl, hb⟩

/-- behind a call that leaves old blocks alone, a table lies as it lay -/
theorem TAt.kept {w w' : World} {b : Nat} {m : Option Nat} {v : Value} {L : List ByteArray} {F : List Nat} (h : TAt w b m v L) (k : Kept F w w') (hF : ∀ x, x ∈ foot b m v → x ∉ F) : TAt w' b m v L := by
  obtain ⟨c0, c1, f0, f1, row, mp, nb, nm, nv⟩ := h
  have hblt : b < w.heap.size := cell_lt c0
  have hb : w'.heap[b]? = w.heap[b]? := k.block b hblt (hF b (by simp [foot]))
  refine ⟨(World.cell?_of_block hb).trans c0, (World.cell?_of_block hb).trans c1, (World.frozen?_of_block hb).trans f0, (World.frozen?_of_block hb).trans f1, ?_, ?_, nb, nm, nv⟩
  · obtain ⟨e, h | ⟨g, cap, cur, rfl, hg, hc, r⟩⟩ := row
    · exact ⟨e, .inl h⟩
    · exact ⟨e, .inr ⟨g, cap, cur, rfl, hg, (k.block g (Array.getElem?_eq_some_iff.1 hc).1 (hF g (by simp [foot, Value.ownBlock]))).trans hc, r⟩⟩
  · obtain h | ⟨bm, D, rfl, ⟨es, clock, hm, r⟩, hMI⟩ := mp
    · exact .inl h
    · exact .inr ⟨bm, D, rfl, ⟨es, clock, (k.block bm (Array.getElem?_eq_some_iff.1 hm).1 (hF bm (by simp [foot]))).trans hm, r⟩, hMI⟩

theorem TAt.lt {w : World} {b : Nat} {m : Option Nat} {v : Value} {L : List ByteArray} (h : TAt w b m v L) : ∀ x, x ∈ foot b m v → x < w.heap.size := by
  obtain ⟨c0, c1, f0, f1, row, mp, nb, nm, nv⟩ := h
  intro x hx
  simp only [foot, List.mem_cons, List.mem_append, Option.mem_toList] at hx
  rcases hx with rfl | hx | hx
  · exact cell_lt c0
  · obtain ⟨rfl, _⟩ | ⟨bm, D, rfl, hown, _⟩ := mp
    · cases hx
    · cases hx; exact hown.lt
  · exact (row.lt x hx).2

theorem below_alloc (w : World) (o : Obj) : Below w.heap.size w (w.alloc o) := (Below.refl _ _).alloc (Nat.le_refl _) _
theorem own_set {w : World} {base e : Nat} {v : Value} {n : Nat} {xs : List Value} {a : Addr} {x : Value} (h : w.ownsRow base e 1 v n xs) (ha : v.ownBlock ≠ some a.block) : (w.setCell a x).ownsRow base e 1 v n xs := by
  obtain ⟨e, h | ⟨g, cap, cur, rfl, hg, hc, r⟩⟩ := h
  · exact ⟨e, .inl h⟩
  · exact ⟨e, .inr ⟨g, cap, cur, rfl, hg, by rw [Below.heap_setCell _ _ _ _ (fun e => ha (by rw [← e]; rfl))]; exact hc, r⟩⟩

theorem add_end {w w1 w2 w3 : World} {b bm : Nat} {v v' : Value} {o : Obj} {L : List ByteArray} {s : ByteArray} {D : DataW Unit} (h : TAt w b (some bm) v L) (hMI : MapIs D L) (hD : IsMap D) (hn : inL L s = false)
    (hb1 : Below w.heap.size w w1) (hown2 : w2.ownsMap Tryz.prog 9 (plainElem Tryz.prog 3) bm (L.length + 1) (D.put (.string s.data.toList) (.lit (.int .i64 (L.length : Int))))) (hgrow2 : w1.grownBy w2 (some bm))
    (row3 : w3.ownsRow 0 9 1 v' (L.length + 1) (L.map Value.string ++ [.string s])) (hgrow3 : (w2.alloc o).grownBy w3 v.ownBlock) (hloc3 : v'.ownBlock = v.ownBlock ∨ v'.ownBlock = some (w2.alloc o).heap.size) :
    TAt (w3.setCell ⟨b, 1, none⟩ v') b (some bm) v' (L ++ [s]) ∧ (∀ k, k ∈ foot b (some bm) v' → k ∈ foot b (some bm) v ∨ w.heap.size ≤ k) ∧ Kept (foot b (some bm) v) w (w3.setCell ⟨b, 1, none⟩ v') := by
  have hlt := h.lt
  obtain ⟨c0, c1, f0, f1, row, mp, nb, nm, nv⟩ := h
  have hbm : b ≠ bm := fun e => nm (by rw [e])
  have hblt : b < w.heap.size := hlt b (by simp [foot])
  have hmlt : bm < w.heap.size := hlt bm (by simp [foot])
  have s1 := hb1.size
  have s2 := hgrow2.size
  have s3 := hgrow3.size
  have hsz : (w2.alloc o).heap.size = w2.heap.size + 1 := by simp
  have hb3 : w3.heap[b]? = w.heap[b]? := (hgrow3.block b (by omega) (Ne.symm nb)).trans ((heap_alloc_old w2 _ (by omega)).trans ((hgrow2.block b (by omega) (by simpa using hbm)).trans (hb1.block b hblt)))
  have nb' : v'.ownBlock ≠ some b := by
    rcases hloc3 with e | e
    · rw [e]; exact nb
    · rw [e]; simp; omega
  have nv' : v'.ownBlock ≠ some bm := by
    rcases hloc3 with e | e
    · rw [e]; exact nv bm rfl
    · rw [e]; simp; omega
  have e0 : w3.cell? ⟨b, 0, none⟩ = some (.map (some bm)) := (World.cell?_of_block hb3).trans c0
  have e1 : w3.cell? ⟨b, 1, none⟩ = some v := (World.cell?_of_block hb3).trans c1
  have g0 : w3.frozen? ⟨b, 0, none⟩ = false := (World.frozen?_of_block hb3).trans f0
  have g1 : w3.frozen? ⟨b, 1, none⟩ = false := (World.frozen?_of_block hb3).trans f1
  have hk3 : Kept (foot b (some bm) v) w w3 := by
    refine (Kept.of_below hb1).trans ((Kept.of_grown hgrow2 (fun k e _ => by cases e; simp [foot])).trans ?_)
    refine (Kept.of_below (below_alloc w2 o)).trans (Kept.of_grown hgrow3 (fun k e _ => by simp [foot, e]))
  refine ⟨⟨?_, ?_, ?_, ?_, ?_, ?_, nb', nm, fun k e => by cases e; exact nv'⟩, ?_, hk3.trans (Kept.set _ _ (by simp [foot]))⟩
  · rw [World.cell?_setCell_other (h := by simp)]; exact e0
  · exact World.cell?_setCell_same _ _ _ e1
  · rw [World.frozen?_setCell]; exact g0
  · rw [World.frozen?_setCell]; exact g1
  · rw [List.length_append, List.map_append]
    exact own_set row3 nb'
  · refine .inr ⟨bm, _, rfl, ?_, mapIs_put hD hMI hn⟩
    rw [List.length_append]
    refine ((hown2.alloc o).kept hgrow3 ?_).setCell (Ne.symm hbm) _
    exact fun e => nv bm rfl e.symm
  · intro k hk
    simp only [foot, List.mem_cons, List.mem_append, Option.mem_toList] at hk ⊢
    rcases hk with hk | hk | hk
    · exact .inl (.inl hk)
    · exact .inl (.inr (.inl hk))
    · rcases hloc3 with e | e
      · rw [e] at hk; exact .inl (.inr (.inr hk))
      · rw [e] at hk; simp at hk; right; omega

set_option maxHeartbeats 1000000 in
theorem add_some {w : World} {b bm : Nat} {v : Value} {L : List ByteArray} {s : ByteArray} (h : TAt w b (some bm) v L) (hs : s.size ≤ 64) (hL : L.length ≤ 100000) (hn : inL L s = false) :
    Calls Tryz.prog 102 #[.pointer (some ⟨b, 0, none⟩), .string s] w fun e w' => e = .returned (.int .i64 (L.length : Int)) ∧
      ∃ v', TAt w' b (some bm) v' (L ++ [s]) ∧ (∀ k, k ∈ foot b (some bm) v' → k ∈ foot b (some bm) v ∨ w.heap.size ≤ k) ∧ Kept (foot b (some bm) v) w w' := by
  obtain ⟨c0, c1, f0, f1, row, mp, nb, nm, nv⟩ := h
  obtain ⟨h, _⟩ | ⟨bm', D, e, hown, hMI⟩ := mp
  · cases h
  cases e
  have hkey : keyOf Tryz.prog 9 (.string s) = some (.string s.data.toList) := keyOf_string_mk Tryz.underlying9 (by unfold maxLen; omega)
  obtain ⟨a, cap, rfl⟩ := row_shape row
  obtain ⟨i0, hi, hz0, hz1, hz2⟩ := info_parts info9
  have hbm : b ≠ bm := fun e => nm (by rw [e])
  have hblt := cell_lt c0
  have hnn := map_not_nil bm
  go_enter Tryz.func102, Tryz.ntmps102
  go_wp2_with (first
    | (go_at_call 107; refine (clone_any s _ hs).mono ?_; rintro e w1 ⟨rfl, hb1⟩
       have c0' : w1.cell? ⟨b, 0, none⟩ = some (.map (some bm)) := (hb1.cell (p := ⟨b, 0, none⟩) hblt).trans c0
       have c1' : w1.cell? ⟨b, 1, none⟩ = some (.slice a L.length cap) := (hb1.cell (p := ⟨b, 1, none⟩) hblt).trans c1
       have hown1 := hown.kept (grown_of_below hb1) (by simp)
       have row1 := row.kept (grown_of_below hb1) (by cases a <;> simp [Value.ownBlock]))
    | (at_mapUpdate; refine wpList_mapUpdate_own _ rfl _ _ _ 83 rfl 9 3 law9 Tryz.underlying83 _ bm L.length D rfl hown1 (by unfold maxLen; omega) _ _ _ rfl rfl hkey _ [] (plainElem_int Tryz.underlying3 (WalkArith.wf_i64 (by omega))) ?_; intro w2 hown2 hgrow2
       have hb2 : w2.heap[b]? = w.heap[b]? := (hgrow2.block b (Nat.lt_of_lt_of_le hblt hb1.size) (by simpa using hbm)).trans (hb1.block b hblt)
       have c1'' : w2.cell? ⟨b, 1, none⟩ = some (.slice a L.length cap) := (World.cell?_of_block hb2).trans c1
       have f1'' : w2.frozen? ⟨b, 1, none⟩ = false := (World.frozen?_of_block hb2).trans f1
       have row2 := row1.kept hgrow2 (Or.inr (nv bm rfl)))
    | (at_builtin; refine wpList_append_own_at _ rfl _ _ 35 rfl 0 9 i0 (.string ⟨#[]⟩) 1 16 Tryz.underlying35 hi hz0 hz1 hz2 rfl (by decide) _ _ _ rfl (row2.alloc _) ⟨w2.heap.size, 0, none⟩ 1 1 [.string s] rfl rfl (cell_one_new _ _ _) (by simp [Value.oneCell']) (by unfold maxLen; omega) (by omega) (by simp) ?_; intro v' w3 row3 hgrow3 hnil3 hloc3
       obtain ⟨a', cap', hv'⟩ := row_shape row3
       subst hv'
       have hb3 : w3.heap[b]? = w.heap[b]? := (hgrow3.block b (by simp; have := hgrow2.size; have := hb1.size; omega) (Ne.symm nb)).trans ((heap_alloc_old w2 _ (by have := hgrow2.size; have := hb1.size; omega)).trans hb2)
       have c1''' : w3.cell? ⟨b, 1, none⟩ = some (.slice a L.length cap) := (World.cell?_of_block hb3).trans c1
       have f1''' : w3.frozen? ⟨b, 1, none⟩ = false := (World.frozen?_of_block hb3).trans f1)
    | go_in)
  go_ret
  exact ⟨rfl, _, add_end ⟨c0, c1, f0, f1, row, .inr ⟨bm, D, rfl, hown, hMI⟩, nb, nm, nv⟩ hMI hown.isMap hn hb1 hown2 hgrow2 row3 hgrow3 hloc3⟩
end Go.Proofs.YtmijabhnbmmmfaaGreat


