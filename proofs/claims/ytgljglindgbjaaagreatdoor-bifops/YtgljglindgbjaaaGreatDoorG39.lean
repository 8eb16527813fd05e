import Derived.Test.YtgljglindgbjaaaGreatDoorG38
import Derived.Lib.SmallJoins
import Derived.Laws.Rows
import Derived.Test.YtgljglindgbjaaaGreatDoorG03
import Derived.Shelf.Abstract
import Derived.Test.YtgljglindgbjaaaGreatDoorG19
/- Grow at terms: the row stays what it was. -/
namespace Go.Proofs.YtgljglindgbjaaaGreatDoor
open Go.RowKit Go.Deep

theorem zeroCells_size (z : Array Value) (k : Nat) : (Builtin.zeroCells z k).size = k * z.size := by
  unfold Builtin.zeroCells
  simp

theorem grow_terms (base : Nat) (v : Value) (n m : Nat) (xs : List Value) (w : World) (hown : w.ownsRow base 27 5 v n xs) (hm : m ≤ 65536) (hn : n ≤ 16777216) (hbase : base ≤ w.heap.size) :
    Calls Tryz.prog 150 #[v, .int .i64 m] w fun e w' => ∃ v', e = .returned v' ∧ w'.ownsRow base 27 5 v' n xs ∧ (v'.ownBlock = v.ownBlock ∨ v'.ownBlock = some w.heap.size) ∧ Below w.heap.size w w' := by
  have hmax : maxLen = 9223372036854775807 := rfl
  obtain ⟨hlen, ⟨rfl, rfl⟩ | ⟨g, cap, cur, rfl, hbg, hobj, hnc, hcm, hcs, htk⟩⟩ := hown
  · by_cases h0 : m = 0
    · subst h0
      refine (tgrow_room none 0 0 0 w (by omega) (by omega) (by omega) (by omega)).mono ?_
      rintro e w' ⟨rfl, rfl⟩
      exact ⟨_, rfl, ⟨hlen, Or.inl ⟨rfl, rfl⟩⟩, Or.inl rfl, Below.refl _ _⟩
    · refine (tgrow_grow none 0 0 m [] w (by omega) hm (by omega) (by omega) rfl (fun _ => rfl) (fun a h => by simp at h)).mono ?_
      rintro e w' ⟨G, hG1, hG2, rfl, rfl⟩
      have hx : xs = [] := List.length_eq_zero_iff.1 (by simpa using hlen)
      subst hx
      refine ⟨_, rfl, ⟨rfl, Or.inr ⟨w.heap.size, G, _, rfl, hbase, heap_alloc_new w.drew _, by omega, hG2, ?_, by simp⟩⟩, Or.inr rfl, (Below.refl _ _).drew.alloc (Nat.le_refl _) _⟩
      simp only [Array.size_append, zeroCells_size, zT]
      simp
      omega
  · have hcell : ∀ j v, cur.toList[j]? = some v → w.cell? ((⟨g, 0, none⟩ : Addr).add j) = some v := by
      intro j v hj
      have e : (⟨g, 0, none⟩ : Addr).add j = ⟨g, j, none⟩ := by unfold Addr.add; split <;> simp_all
      rw [e]
      rw [Joins.cell_of_block hobj]
      simpa using hj
    by_cases hr : n + m ≤ cap
    · refine (tgrow_room (some ⟨g, 0, none⟩) n cap m w hnc (by omega) hm hr).mono ?_
      rintro e w' ⟨rfl, rfl⟩
      exact ⟨_, rfl, ⟨hlen, Or.inr ⟨g, cap, cur, rfl, hbg, hobj, hnc, hcm, hcs, htk⟩⟩, Or.inl rfl, Below.refl _ _⟩
    · refine (tgrow_grow (some ⟨g, 0, none⟩) n cap m cur.toList w hnc hm hn (by omega) (by simpa using hcs) (fun h => by simp at h) (fun a ha => (Option.some.inj ha) ▸ hcell)).mono ?_
      rintro e w' ⟨G, hG1, hG2, rfl, rfl⟩
      refine ⟨_, rfl, ⟨hlen, Or.inr ⟨w.heap.size, G, _, rfl, hbase, heap_alloc_new w.drew _, by omega, hG2, ?_, ?_⟩⟩, Or.inr rfl, (Below.refl _ _).drew.alloc (Nat.le_refl _) _⟩
      · simp only [Array.size_append, zeroCells_size, zT]
        simp [hcs]
        omega
      · rw [← htk]
        simp only [Array.toList_append, List.append_assoc]
        rw [List.take_append_of_le_length (by simp [hcs]; omega)]
end Go.Proofs.YtgljglindgbjaaaGreatDoor


/- A loop of few rounds, unrolled: each round may leave what it likes (temps, marks of ranges). -/
namespace Go.Proofs.YtgljglindgbjaaaGreatDoor
open Go.RowKit Go.Shelf

/-- At most n rounds, each after the other. -/
def Un (P : Program) (c : Code) (Q : Exit → Act → World → Prop) : Nat → Act → World → Prop
  | 0 => fun _ _ => False
  | n + 1 => fun a w => c.wp P (Exit.then (Un P c Q n) Q) a w

theorem least_of {p : Nat → Prop} : ∀ n, p n → ∃ m, p m ∧ ∀ k, p k → m ≤ k := by
  intro n
  induction n using Nat.strongRecOn with
  | _ n ih =>
    intro hn
    by_cases h : ∃ k, k < n ∧ p k
    · obtain ⟨k, hk, hp⟩ := h
      exact ih k hk hp
    · exact ⟨n, hn, fun k hp => Nat.le_of_not_lt (fun hk => h ⟨k, hk, hp⟩)⟩

open Classical in
theorem wp_loop_times {P : Program} {c : Code} {Q : Exit → Act → World → Prop} {a : Act} {w : World} (n : Nat) (h : Un P c Q n a w) : (Code.loop c).wp P Q a w := by
  have hl : ∀ a w, (∃ n, Un P c Q n a w) → ∃ m, Un P c Q m a w ∧ ∀ k, Un P c Q k a w → m ≤ k := fun a w ⟨n, h⟩ => least_of (p := fun n => Un P c Q n a w) n h
  refine wp_loop (fun a w => ∃ n, Un P c Q n a w) (fun a w => if h : ∃ n, Un P c Q n a w then Classical.choose (hl a w h) else 0) ⟨n, h⟩ ?_
  intro a w hI
  have hf := (Classical.choose_spec (hl a w hI)).1
  have hm : ∀ a' w' m, Un P c Q m a' w' → (if h : ∃ n, Un P c Q n a' w' then Classical.choose (hl a' w' h) else 0) ≤ m := fun a' w' m hu => by
    rw [dif_pos ⟨m, hu⟩]; exact (Classical.choose_spec (hl a' w' ⟨m, hu⟩)).2 m hu
  rw [dif_pos hI]
  generalize Classical.choose (hl a w hI) = k at *
  cases k with
  | zero => exact hf.elim
  | succ k =>
    refine Code.wp_mono (fun e a' w' q => ?_) hf
    cases e <;> first | exact ⟨⟨k, q⟩, Nat.lt_succ_of_le (hm _ _ _ q)⟩ | exact q
end Go.Proofs.YtgljglindgbjaaaGreatDoor


/- element: a place of a tuple. -/
namespace Go.Proofs.YtgljglindgbjaaaGreatDoor
open Go.RowKit Go.Lib Go.Deep
attribute [local go_sem] store_float f64bits store_func store_nilFunc
attribute [local go_sem ↓] Go.wp_at_zero Go.wp_at_succ

set_option maxHeartbeats 800000 in
set_option maxRecDepth 100000 in
theorem elementsN_ok {w : World} {a : Option Addr} {c : Nat} {kids : List Tr} {nm : ByteArray} {i : Nat} {k n : Int} {f : Nat} {s : ByteArray} {a' : Option Addr} {c' : Nat} {ks : List Tr} (hin : ArgsIn w a c kids) (hi : kids[i]? = some (.mk k n f s a' c' ks)) :
    Calls Tryz.prog 104 #[.agg #[.string nm, .slice a kids.length c, .nilFunc], .int .i64 (i : Int), .int .i64 k] w fun e w' => e = .returned (.slice a' ks.length c') ∧ Below w.heap.size w w' := by
  obtain ⟨b, o, rfl, hbW, v0, v1, v2, v3, v4, -⟩ := argi hin (Below.refl _ _) hi
  have e1 : (i : Int) < (kids.length : Int) := by have := (List.getElem?_eq_some_iff.1 hi).1; omega
  have e2 : (0 : Int) ≤ (i : Int) := by omega
  generalize kids.length = L at *
  generalize ks.length = l0 at *
  clear hin hi
  go_enter Tryz.func104, Tryz.ntmps104
  go_wp2_with (go_at_call 106; refine (must_ok _ _).mono ?_; rintro r w1 ⟨rfl, rfl⟩)
  go_ret
  exact ⟨rfl, below_new _ _⟩
set_option maxHeartbeats 800000 in
set_option maxRecDepth 100000 in
theorem elementsN_no {w : World} {a : Option Addr} {c : Nat} {kids : List Tr} {nm : ByteArray} {i : Nat} {k n kd : Int} {f : Nat} {s : ByteArray} {a' : Option Addr} {c' : Nat} {ks : List Tr} (hin : ArgsIn w a c kids) (hi : kids[i]? = some (.mk k n f s a' c' ks)) (hk : k ≠ kd) :
    Calls Tryz.prog 104 #[.agg #[.string nm, .slice a kids.length c, .nilFunc], .int .i64 (i : Int), .int .i64 kd] w fun e w' => e = raisedBy 13 ∧ Below w.heap.size w w' := by
  obtain ⟨b, o, rfl, hbW, v0, v1, v2, v3, v4, -⟩ := argi hin (Below.refl _ _) hi
  have e1 : (i : Int) < (kids.length : Int) := by have := (List.getElem?_eq_some_iff.1 hi).1; omega
  have e2 : (0 : Int) ≤ (i : Int) := by omega
  have e3 : (k == kd) = false := by simpa using hk
  generalize kids.length = L at *
  generalize ks.length = l0 at *
  clear hin hi hk
  go_enter Tryz.func104, Tryz.ntmps104
  go_wp2_with (go_at_call 106; refine (must_no _ _).mono ?_; rintro r w1 ⟨rfl, hb1⟩; have HB1 := hidb hb1; clear hb1)
  exact ⟨rfl, rfl, (below_new w _).trans (HB1.out.mono (by simp))⟩

set_option maxHeartbeats 800000 in
set_option maxRecDepth 100000 in
theorem elementsF_ok {w : World} {a : Option Addr} {c : Nat} {kids : List Tr} {nm : ByteArray} {i : Nat} {k n : Int} {f : Nat} {s : ByteArray} {a' : Option Addr} {c' : Nat} {ks : List Tr} (hin : ArgsIn w a c kids) (hi : kids[i]? = some (.mk k n f s a' c' ks)) :
    Calls Tryz.prog 104 #[.agg #[.string nm, .slice a kids.length c, noneF], .int .i64 (i : Int), .int .i64 k] w fun e w' => e = .returned (.slice a' ks.length c') ∧ Below w.heap.size w w' := by
  obtain ⟨b, o, rfl, hbW, v0, v1, v2, v3, v4, -⟩ := argi hin (Below.refl _ _) hi
  have e1 : (i : Int) < (kids.length : Int) := by have := (List.getElem?_eq_some_iff.1 hi).1; omega
  have e2 : (0 : Int) ≤ (i : Int) := by omega
  generalize kids.length = L at *
  generalize ks.length = l0 at *
  clear hin hi
  go_enter Tryz.func104, Tryz.ntmps104
  go_wp2_with (go_at_call 106; refine (must_ok _ _).mono ?_; rintro r w1 ⟨rfl, rfl⟩)
  go_ret
  exact ⟨rfl, below_new _ _⟩
set_option maxHeartbeats 800000 in
set_option maxRecDepth 100000 in
theorem elementsF_no {w : World} {a : Option Addr} {c : Nat} {kids : List Tr} {nm : ByteArray} {i : Nat} {k n kd : Int} {f : Nat} {s : ByteArray} {a' : Option Addr} {c' : Nat} {ks : List Tr} (hin : ArgsIn w a c kids) (hi : kids[i]? = some (.mk k n f s a' c' ks)) (hk : k ≠ kd) :
    Calls Tryz.prog 104 #[.agg #[.string nm, .slice a kids.length c, noneF], .int .i64 (i : Int), .int .i64 kd] w fun e w' => e = raisedBy 13 ∧ Below w.heap.size w w' := by
  obtain ⟨b, o, rfl, hbW, v0, v1, v2, v3, v4, -⟩ := argi hin (Below.refl _ _) hi
  have e1 : (i : Int) < (kids.length : Int) := by have := (List.getElem?_eq_some_iff.1 hi).1; omega
  have e2 : (0 : Int) ≤ (i : Int) := by omega
  have e3 : (k == kd) = false := by simpa using hk
  generalize kids.length = L at *
  generalize ks.length = l0 at *
  clear hin hi hk
  go_enter Tryz.func104, Tryz.ntmps104
  go_wp2_with (go_at_call 106; refine (must_no _ _).mono ?_; rintro r w1 ⟨rfl, hb1⟩; have HB1 := hidb hb1; clear hb1)
  exact ⟨rfl, rfl, (below_new w _).trans (HB1.out.mono (by simp))⟩

/-- Is a place one of a row? -/
def plB (k n : Int) (l : Nat) : Bool := decide (k = 1 ∧ 1 ≤ n ∧ n ≤ (l : Int))
def PlR (k n : Int) (l : Nat) (e : Ending) : Prop := plB k n l = true ∧ e = .returned (.int .i64 (n - 1)) ∨ plB k n l = false ∧ e = raisedBy 13
set_option maxHeartbeats 1600000 in
set_option maxRecDepth 100000 in
theorem place_any {w : World} {a : Option Addr} {c : Nat} {rest : List Tr} {nm : ByteArray} {k n : Int} {f : Nat} {s : ByteArray} {a' : Option Addr} {c' : Nat} {ks : List Tr} {ax : Option Addr} {lx cx : Nat} (hin : ArgsIn w a c (.mk k n f s a' c' ks :: rest)) (hl : lx ≤ 1000000) :
    Calls Tryz.prog 120 #[.agg #[.string nm, .slice a (Tr.mk k n f s a' c' ks :: rest).length c, noneF], .slice ax lx cx] w fun e w' => Below w.heap.size w w' ∧ PlR k n lx e := by
  obtain ⟨b, o, rfl, hbW, v0, v1, v2, v3, v4, -⟩ := argi hin (Below.refl _ _) (i := 0) rfl
  simp only [Nat.zero_mul, Nat.add_zero] at v0 v1 v2 v3 v4
  have e1 : (0 : Int) < ((Tr.mk k n f s a' c' ks :: rest).length : Int) := by simp
  generalize (Tr.mk k n f s a' c' ks :: rest).length = L at *
  generalize ks.length = l0 at *
  have HL := hidb hl
  clear hin hl
  by_cases hk : k = 1
  · subst hk
    by_cases h1 : 1 ≤ n
    · by_cases h2 : n ≤ (lx : Int)
      · have HV : Hid (PlR 1 n lx (.returned (.int .i64 (n - 1)))) := hidb (.inl ⟨by simp [plB, h1, h2], rfl⟩)
        have hw : wrap64 (n - 1) = n - 1 := by have := HL.out; unfold wrap64; omega
        go_enter Tryz.func120, Tryz.ntmps120
        go_wp2_with (go_at_call 106; refine (must_ok _ _).mono ?_; rintro r w1 ⟨rfl, rfl⟩)
        refine bodyPost_ret (v := .int .i64 (n - 1)) (by simp [results, Tryz.results120, go_sem, hw]) rfl ⟨(below_new _ _).alloc (by simp) _, HV.out⟩
      · have HV : Hid (PlR 1 n lx (raisedBy 13)) := hidb (.inr ⟨by simp [plB, h2], rfl⟩)
        have hd : decide (n ≤ (lx : Int)) = false := by simpa using h2
        have HD := hidb hd
        clear h2 hd
        go_enter Tryz.func120, Tryz.ntmps120
        go_wp2_with fail
        rw [HD.out]
        refine (must_no _ _).mono ?_
        rintro r w1 ⟨rfl, hb1⟩
        exact ⟨rfl, ((below_new w _).alloc (by simp) _).trans (hb1.mono (by simp; omega)), HV.out⟩
    · have HV : Hid (PlR 1 n lx (raisedBy 13)) := hidb (.inr ⟨by simp [plB, h1], rfl⟩)
      have h3 : n < 1 := by omega
      have h4 : decide (1 ≤ n) = false := by simpa using h1
      clear h1
      go_enter Tryz.func120, Tryz.ntmps120
      go_wp2_with fail
      refine (must_no _ _).mono ?_
      rintro r w1 ⟨rfl, hb1⟩
      exact ⟨rfl, ((below_new w _).alloc (by simp) _).trans (hb1.mono (by simp; omega)), HV.out⟩
  · have HV : Hid (PlR k n lx (raisedBy 13)) := hidb (.inr ⟨by simp [plB, hk], rfl⟩)
    have h3 : (k == 1) = false := by simpa using hk
    clear hk
    go_enter Tryz.func120, Tryz.ntmps120
    go_wp2_with fail
    refine (must_no _ _).mono ?_
    rintro r w1 ⟨rfl, hb1⟩
    exact ⟨rfl, ((below_new w _).alloc (by simp) _).trans (hb1.mono (by simp; omega)), HV.out⟩

/-- What element tells of a tuple's elements. -/
theorem on_kid {S : Nat → Prop} {k n : Int} {f : Nat} {s : ByteArray} {a : Option Addr} {c : Nat} {ks : List Tr} {t : Tr} (h : (Tr.mk k n f s a c ks).On S) (ht : t ∈ ks) : t.On S := by
  unfold Tr.On at h
  exact onAll_get h.2 ht
end Go.Proofs.YtgljglindgbjaaaGreatDoor


