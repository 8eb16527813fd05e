import Derived.Test.YtpcpdehnppfbfaaGreatG12
import Derived.Test.YtpcpdehnppfbfaaGreatG10
import Derived.Shelf.SlSortCmp.WholeK
/- The order of ends; a row of ends, sorted in place: between the two ways of speaking of it. -/
namespace Go.Proofs.YtpcpdehnppfbfaaGreat
open Go.RowKit Go.Lib Go.Maps

theorem cmpI_neg (x y : Int) : cmpI x y < 0 ↔ x < y := by
  unfold cmpI
  repeat' split
  all_goals omega
theorem cmpI_zero (x y : Int) : cmpI x y = 0 ↔ x = y := by
  unfold cmpI
  repeat' split
  all_goals omega
theorem cmpK_neg (x y : Int × Int) : cmpK x y < 0 ↔ x.1 < y.1 ∨ (x.1 = y.1 ∧ x.2 < y.2) := by
  unfold cmpK orI
  split
  · rename_i h
    rw [cmpI_zero] at h
    rw [cmpI_neg]
    omega
  · rename_i h
    rw [cmpI_zero] at h
    rw [cmpI_neg]
    omega
theorem ltK (x y : Int × Int) : ltOf cmpK x y = decide (x.1 < y.1 ∨ (x.1 = y.1 ∧ x.2 < y.2)) := by
  unfold ltOf
  simp only [cmpK_neg]
theorem cmpK_swo : Go.Sort.SWO (ltOf cmpK) := by
  refine ⟨fun x => ?_, fun x y z => ?_, fun x y z => ?_⟩
  · rw [ltK]; simp
  · rw [ltK, ltK, ltK]
    simp only [decide_eq_true_eq]
    omega
  · rw [ltK, ltK, ltK]
    simp only [decide_eq_false_iff_not]
    omega
/-- In order, no two the same. -/
def Rise (l : List (Int × Int)) : Prop := l.Pairwise fun x y => x.1 < y.1 ∨ (x.1 = y.1 ∧ x.2 < y.2)
theorem rise_unique : ∀ {l l' : List (Int × Int)}, Rise l → Rise l' → l.Perm l' → l = l'
  | [], l', _, _, hp => (List.nil_perm.1 hp).symm
  | x :: r, [], _, _, hp => absurd hp.symm.length_eq (by simp)
  | x :: r, y :: r', h, h', hp => by
    unfold Rise at h h'
    rw [List.pairwise_cons] at h h'
    have hxy : x = y := by
      rcases List.mem_cons.1 (hp.mem_iff.1 (List.mem_cons_self (a := x))) with e | hx
      · exact e
      · rcases List.mem_cons.1 (hp.mem_iff.2 (List.mem_cons_self (a := y))) with e | hy
        · exact e.symm
        · have h1 := h'.1 x hx
          have h2 := h.1 y hy
          omega
    subst hxy
    rw [rise_unique (l := r) (l' := r') h.2 h'.2 (List.perm_cons x |>.1 hp)]
def encE (x : Int × Int) : List Value := [.int .i64 x.1, .int .i64 x.2]
theorem kvs_cell : ∀ (l : List (Int × Int)) (j : Nat), j < l.length * 2 → (kvs l)[j]? = some ((encE l.toArray[j / 2]!)[j % 2]!)
  | [], j, h => by simp at h
  | x :: r, 0, _ => by simp [kvs, encE]
  | x :: r, 1, _ => by simp [kvs, encE]
  | x :: r, j + 2, h => by
    have ih := kvs_cell r j (by simp at h; omega)
    have e1 : (j + 2) / 2 = j / 2 + 1 := by omega
    have e2 : (j + 2) % 2 = j % 2 := by omega
    have hj : j / 2 < r.length := by simp at h; omega
    rw [e1, e2, show (kvs (x :: r))[j + 2]? = (kvs r)[j]? by simp [kvs], ih]
    simp [hj]
theorem flat_size (l : List (Int × Int)) : (Go.Sort.flatK encE 2 l.toArray).size = l.length * 2 := by simp [Go.Sort.flatK]
theorem flat_kvs (l : List (Int × Int)) : (Go.Sort.flatK encE 2 l.toArray).toList = kvs l := by
  apply List.ext_getElem?
  intro j
  by_cases hj : j < l.length * 2
  · rw [kvs_cell l j hj, Array.getElem?_toList]
    simp [Go.Sort.flatK, hj]
  · rw [List.getElem?_eq_none (by rw [Array.length_toList, flat_size]; omega), List.getElem?_eq_none (by rw [kvs_length]; omega)]
theorem put_take (cur xs : Array Value) (h : xs.size ≤ cur.size) : (Go.Sort.putCells id 0 xs cur).toList.take xs.size = xs.toList := by
  apply List.ext_getElem?
  intro j
  by_cases hj : j < xs.size
  · rw [List.getElem?_take_of_lt hj, Array.getElem?_toList, Array.getElem?_toList]
    simp [Go.Sort.putCells, hj, show j < cur.size by omega]
  · rw [List.getElem?_take_eq_none (by omega), List.getElem?_eq_none (by simp; omega)]
theorem holds_row {w : World} {g : Nat} {cur : Array Value} {e : TypeId} {l : List (Int × Int)} (hb : w.heap[g]? = some (.cells cur e (0, 0))) (ht : cur.toList.take (l.length * 2) = kvs l) : Go.Sort.HoldsK encE 2 w g 0 l.toArray := by
  intro j hj
  rw [flat_size] at hj
  refine ⟨?_, by simp [World.frozen?, hb]⟩
  have h1 : (cur.toList.take (l.length * 2))[j]? = (Go.Sort.flatK encE 2 l.toArray).toList[j]? := by rw [ht, flat_kvs]
  rw [List.getElem?_take_of_lt hj, Array.getElem?_toList, Array.getElem?_toList] at h1
  rw [Nat.zero_add]
  simp only [World.cell?, hb]
  simp only [Option.isSome_none, Bool.false_eq_true, if_false]
  rw [h1]
  simp [hj]
theorem heap_put {w : World} {g n : Nat} {os : Array Obj} {cur : Array Value} {e : TypeId} {fr : Nat × Nat} (d : Array (Int × Int)) (hb : w.heap[g]? = some (.cells cur e fr)) : (sortWorldK encE 2 w g 0 n d os).heap[g]? = some (.cells (Go.Sort.putCells id 0 (Go.Sort.flatK encE 2 d) cur) e fr) := by
  have hg : g < w.heap.size := (Array.getElem?_eq_some_iff.1 hb).1
  unfold sortWorldK Go.Sort.putRowK
  rw [Go.Sort.heap_grow_old _ _ (by simpa using hg)]
  simp [Go.Sort.putRow, Go.Sort.mapBlock, Go.Sort.ahead, Array.getElem?_modify, hb, Go.Sort.onCells]
theorem grown_put {w : World} {g n : Nat} {os : Array Obj} (d : Array (Int × Int)) : w.grownBy (sortWorldK encE 2 w g 0 n d os) (some g) := by
  refine ⟨rfl, rfl, rfl, by simp [sortWorldK, Go.Sort.putRowK, Go.Sort.grow, Go.Sort.putRow, Go.Sort.mapBlock, Go.Sort.ahead], fun k hk hne => ?_⟩
  unfold sortWorldK Go.Sort.putRowK
  rw [Go.Sort.heap_grow_old _ _ (by simpa [Go.Sort.putRow, Go.Sort.mapBlock, Go.Sort.ahead] using hk)]
  have : g ≠ k := fun e => hne (by rw [e])
  simp [Go.Sort.putRow, Go.Sort.mapBlock, Go.Sort.ahead, Array.getElem?_modify, this]
theorem owns_put {w : World} {base g cap n : Nat} {e : TypeId} {os : Array Obj} {cur : Array Value} {l l' : List (Int × Int)} (hl : l'.length = l.length) (hbase : base ≤ g) (hb : w.heap[g]? = some (.cells cur e (0, 0))) (h1 : l.length ≤ cap) (h2 : cap ≤ maxLen) (h3 : cur.size = cap * 2) :
    (sortWorldK encE 2 w g 0 n l'.toArray os).ownsRow base e 2 (.slice (some ⟨g, 0, none⟩) l.length cap) l.length (kvs l') := by
  have ht := put_take cur (Go.Sort.flatK encE 2 l'.toArray) (by rw [flat_size, h3, hl]; omega)
  rw [flat_size, flat_kvs, hl] at ht
  exact ⟨by rw [kvs_length, hl], .inr ⟨g, cap, _, rfl, hbase, heap_put _ hb, h1, h2, by simp [Go.Sort.putCells, h3], ht⟩⟩
/-- What compareEnds leaves is what the sort allows it. -/
theorem ends_lays (g n : Nat) (w : World) : CmpLays Tryz.prog 25 #[] encE 2 cmpK g 0 n w := by
  intro m os dk _ x y
  refine (compareEnds_ex x.1 x.2 y.1 y.2 _).mono ?_
  rintro e w' ⟨rfl, rfl⟩
  refine ⟨rfl, 1, #[.cells #[.int .i64 x.1, .int .i64 x.2] 59, .cells #[.int .i64 y.1, .int .i64 y.2] 59, .cells #[.int .i64 (cmpI x.1 y.1), .int .i64 (cmpI x.2 y.2)] 3], ?_⟩
  rw [Go.Sort.alloc_eq_grow, Go.Sort.alloc_eq_grow, Go.Sort.alloc_eq_grow, Go.Sort.grow_grow, Go.Sort.grow_grow]
  rfl
end Go.Proofs.YtpcpdehnppfbfaaGreat


/- slices.SortFunc of any row of ends, none twice: the same ones, rising. -/
namespace Go.Proofs.YtpcpdehnppfbfaaGreat
open Go.RowKit Go.Lib Go.Maps

theorem rise_of {l l' : List (Int × Int)} (hp : l'.Perm l) (hd : l.Nodup) (hs : Go.Sort.SortedIn (ltOf cmpK) 0 l'.length l'.toArray) : Rise l' := by
  have hd' := hp.nodup_iff.2 hd
  unfold Rise
  rw [List.pairwise_iff_getElem]
  intro i j hi hj hij
  have h1 := hs i j (Nat.zero_le _) hij (by simpa using hj)
  rw [ltK] at h1
  have e1 : l'.toArray[j]! = l'[j] := by simp [hj]
  have e2 : l'.toArray[i]! = l'[i] := by simp [hi]
  rw [e1, e2] at h1
  have hne : l'[i] ≠ l'[j] := (List.pairwise_iff_getElem.1 hd') i j hi hj hij
  have hne2 : ¬ (l'[i].1 = l'[j].1 ∧ l'[i].2 = l'[j].2) := fun e => hne (Prod.ext e.1 e.2)
  simp only [decide_eq_false_iff_not] at h1
  omega
theorem ent_ends : ∀ args w, (callFunc 25 args).run Tryz.prog w = .ok (.enter 25 args) w := by
  intro args w
  kernel_rfl
set_option maxRecDepth 100000 in
theorem sort_ends {w : World} {base : Nat} {q : Option Addr} {n cap : Nat} {l : List (Int × Int)} (h : w.ownsRow base KT 2 (.slice q n cap) n (kvs l)) (hl : l.length = n) (hn : n < 4611686018427387904) (hd : l.Nodup) :
    Calls Tryz.prog 38 #[.slice q n cap, .func (.func 25) #[] #[]] w fun e w' => e = .returned (.tuple #[]) ∧ ∃ l', l'.Perm l ∧ Rise l' ∧ w'.ownsRow base KT 2 (.slice q n cap) n (kvs l') ∧ But (fun k => (Value.slice q n cap).ownBlock = some k) w w' := by
  rcases h.2 with ⟨hv, h0⟩ | ⟨g, cap', cur, hv, hg, hb, h1, h2, h3, h4⟩
  · have hn0 : n = 0 := by first | exact h0 | exact h0.1
    obtain rfl : l = [] := List.length_eq_zero_iff.1 (hl.trans hn0)
    refine (sortC [] q n cap w ⟨row_base h (Nat.zero_le _), hl⟩ (by omega)).mono ?_
    rintro e w' ⟨rfl, ⟨l', hp, hs⟩, hb⟩
    obtain rfl := List.perm_nil.1 hp
    refine ⟨rfl, [], List.Perm.refl _, List.Pairwise.nil, ?_, hb⟩
    rw [hv]
    rw [hn0]
    exact World.ownsRow_nil _ _ _ _
  · obtain ⟨rfl, -, rfl⟩ : q = some ⟨g, 0, none⟩ ∧ n = n ∧ cap = cap' := by simpa using hv
    subst hl
    have hcon := AnyQ.slices_SortFunc Tryz.sortEnds 2 (fun w => by kernel_rfl) (fun w => by kernel_rfl) encE (fun _ => rfl) (fun x v hv => by simp [encE] at hv; rcases hv with rfl | rfl <;> rfl) cmpK cmpK_swo 25 #[] g 0 cap l.toArray w ent_ends (ends_lays g _ w) (holds_row hb h4) (Array.getElem?_eq_some_iff.1 hb).1 (by simpa using hn)
    change Calls Tryz.prog 38 _ _ _ at hcon
    rw [show l.toArray.size = l.length by simp] at hcon
    refine hcon.mono ?_
    rintro e w' ⟨he, d', m, os, hp, hs, rfl⟩
    have hsz : d'.size = l.length := by have := hp.1; simpa using this
    have hpl : d'.toList.Perm l := by
      have := hp.2.2
      have e1 : d'.extract 0 l.length = d' := by rw [← hsz]; simp
      have e2 : l.toArray.extract 0 l.length = l.toArray := by simp
      rw [e1, e2] at this
      simpa using this
    refine ⟨he, d'.toList, hpl, rise_of hpl hd (by simpa [hsz] using hs), ?_, ?_⟩
    · have := owns_put (n := m) (os := os) (l' := d'.toList) (by simpa using hsz) hg hb h1 h2 h3
      simpa using this
    · have := grown_put (w := w) (g := g) (n := m) (os := os) d'
      exact ⟨this.os, this.tape, this.output, this.size, fun k hk hs => this.block k hk (fun e => hs (by simpa [Value.ownBlock] using e.symm))⟩
end Go.Proofs.YtpcpdehnppfbfaaGreat


