/- Nodes gone over: tell, from, first. -/
import Derived.Test.YtmnglaeaicicnaaMv3
import Derived.Test.YtmnglaeaicicnaaAv4
namespace Go.Proofs.Ytmnglaeaicicnaa
open Go.RowKit Go.Shelf
namespace MV
attribute [local go_sem] Oper.semAt_some

theorem tell_node (key : Int) (b : Nat) (l : Avt) (h k : Int) (v : Hf) (r : Avt) : (Avt.node b l h k v r).tell key = (if key < k then l.tell key else []) ++ (if key ≤ k then [(b, k, v)] else []) ++ r.tell key := rfl

abbrev nenc (x : Nat × Int × Hf) : Array Value := #[.pointer (some ⟨x.1, 0, none⟩)]

set_option maxRecDepth 100000 in
set_option maxHeartbeats 2000000 in
theorem tell_in (F : Fence) (hd : F.depth = none) (h37 : F.fn 53) (hro : F.round = none) (l N B0 : Nat) (Sx D : Nat → Prop) (hdis : ∀ k, D k → ¬ Sx k) (key : Int) (Ok : Nat × Int × Hf → Prop) (J Jx : List (Nat × Int × Hf) → World → Prop)
    (hY : ∀ m pre x W, Ok x → J pre W → pre.length < N → B0 ≤ W.heap.size → YieldAt F m Try.prog l (nenc x) W fun e W' => But Sx W W' ∧
      ((e = .returned (.bool true) ∧ J (pre ++ [x]) W') ∨ (e = .returned (.bool false) ∧ Jx (pre ++ [x]) W'))) (t : Avt) :
    ∀ (n : Nat) (p : Option Addr) (pre : List (Nat × Int × Hf)) (W : World), IsT W D p t → (∀ x ∈ t.nod, Ok x) → J pre W → pre.length + (t.tell key).length ≤ N → B0 ≤ W.heap.size →
      CallsIn F n Try.prog 53 #[.pointer p, .int .i64 key, .func (.yield l) #[] #[]] W fun e W' => But Sx W W' ∧
        ((e = .returned (.bool true) ∧ J (pre ++ t.tell key) W') ∨ (e = .returned (.bool false) ∧ ∃ q, q <+: t.tell key ∧ Jx (pre ++ q) W')) := by
  induction t with
  | leaf =>
    intro n p pre W ht _ hJ _ _
    obtain rfl : p = none := ht
    refine callsIn_of_wp Try.func53 rfl h37 ?_ hro
    simp only [Try.ntmps53, List.size_toArray, List.length_cons, List.length_nil, Nat.reduceAdd, Nat.reduceSub, Array.replicate_succ, Array.replicate_zero, List.push_toArray, List.append_toArray, List.nil_append, List.cons_append]
    gi_wp2
    go_ret
    exact ⟨But.refl _ _, .inl ⟨rfl, by simpa [Avt.tell] using hJ⟩⟩
  | node b tl h k v tr ihl ihr =>
    intro n p pre W ht hok hJ hN hB0
    obtain ⟨pl, pr, rfl, hb, hx, hl, hr⟩ := ht
    have hdd : ∀ k : Nat, (F.depth.isSome = true → 1 ≤ k) := fun k h => by rw [hd] at h; cases h
    have okl : ∀ x ∈ tl.nod, Ok x := fun x hx => hok x (by simp [Avt.nod, hx])
    have okr : ∀ x ∈ tr.nod, Ok x := fun x hx => hok x (by simp [Avt.nod, hx])
    have okn : Ok (b, k, v) := hok _ (by simp [Avt.nod])
    rw [tell_node] at hN ⊢
    simp only [List.length_append] at hN
    clear hok
    rcases Int.lt_trichotomy key k with hk | hk | hk
    · have hk2 : key ≤ k := by omega
      simp only [hk, hk2, if_true] at hN ⊢
      simp only [List.length_cons, List.length_nil] at hN
      have hy2 : ∀ W1, J (pre ++ tl.tell key) W1 → But Sx W W1 → YieldAt F (n - 1) Try.prog l (nenc (b, k, v)) W1 fun e W2 => But Sx W W2 ∧
          ((e = .returned (.bool true) ∧ J (pre ++ tl.tell key ++ [(b, k, v)]) W2 ∧ W2.cell? ⟨b, 1, none⟩ = some (.pointer pr) ∧ IsT W2 D pr tr) ∨ (e = .returned (.bool false) ∧ Jx (pre ++ tl.tell key ++ [(b, k, v)]) W2)) := fun W1 hJ1 hb1 =>
        YieldAt.mono (hY (n - 1) _ (b, k, v) W1 okn hJ1 (by simp; omega) (Nat.le_trans hB0 hb1.size)) fun e W2 h => ⟨hb1.trans h.1, h.2.elim
          (fun ⟨he, hj⟩ => .inl ⟨he, hj, (hx.but (hb1.trans h.1) (hdis _ hb)).c1, hr.but (hb1.trans h.1) hdis⟩) .inr⟩
      have ih1 := (ihl (n - 1) pl pre W hl okl hJ (by omega) hB0).mono (R' := fun e W1 => But Sx W W1 ∧
          ((e = .returned (.bool true) ∧ W1.cell? ⟨b, 3, none⟩ = some (.int .i64 k) ∧ YieldAt F (n - 1) Try.prog l (nenc (b, k, v)) W1 fun e W2 => But Sx W W2 ∧
            ((e = .returned (.bool true) ∧ J (pre ++ tl.tell key ++ [(b, k, v)]) W2 ∧ W2.cell? ⟨b, 1, none⟩ = some (.pointer pr) ∧ IsT W2 D pr tr) ∨ (e = .returned (.bool false) ∧ Jx (pre ++ tl.tell key ++ [(b, k, v)]) W2))) ∨
          (e = .returned (.bool false) ∧ ∃ q, q <+: tl.tell key ∧ Jx (pre ++ q) W1)))
        (fun e W1 h => ⟨h.1, h.2.elim (fun ⟨he, hj⟩ => .inl ⟨he, (hx.but h.1 (hdis _ hb)).c3, hy2 W1 hj h.1⟩) .inr⟩)
      clear hy2 ihl
      have c0 := hx.c0
      have c3 := hx.c3
      clear hx
      refine callsIn_of_wp Try.func53 rfl h37 ?_ hro
      simp only [Try.ntmps53, List.size_toArray, List.length_cons, List.length_nil, Nat.reduceAdd, Nat.reduceSub, Array.replicate_succ, Array.replicate_zero, List.push_toArray, List.append_toArray, List.nil_append, List.cons_append]
      gi_wp2_with (first
        | ((try refine ⟨hdd _, ?_⟩); gi_at_call 53; refine ih1.mono ?_; clear ih1; rintro e W1 ⟨hB1, (⟨rfl, c3', fn, tmps, assign, body, hy, hR⟩ | ⟨rfl, q, hq, hx1⟩)⟩)
        | ((try refine ⟨hdd _, ?_⟩); refine hR.mono ?_; clear hR; rintro e W2 ⟨hB2, (⟨rfl, hJ2, c1', hr2⟩ | ⟨rfl, hx2⟩)⟩)
        | ((try refine ⟨hdd _, ?_⟩); gi_at_call 53; refine (ihr (n - 1) pr _ _ hr2 okr hJ2 (by simp; omega) (Nat.le_trans hB0 hB2.size)).mono ?_; rintro e W3 ⟨hB3, (⟨rfl, hJ3⟩ | ⟨rfl, q, hq, hx3⟩)⟩))
      · go_ret
        exact ⟨hB2.trans hB3, .inl ⟨rfl, by simpa only [List.append_assoc] using hJ3⟩⟩
      · go_ret
        exact ⟨hB2.trans hB3, .inr ⟨rfl, tl.tell key ++ [(b, k, v)] ++ q, by rw [List.prefix_append_right_inj]; exact hq, by simpa only [List.append_assoc] using hx3⟩⟩
      · go_ret
        exact ⟨hB2, .inr ⟨rfl, tl.tell key ++ [(b, k, v)], ⟨tr.tell key, rfl⟩, by simpa only [List.append_assoc] using hx2⟩⟩
      · go_ret
        exact ⟨hB1, .inr ⟨rfl, q, (hq.trans ⟨[(b, k, v)], rfl⟩).trans ⟨tr.tell key, rfl⟩, hx1⟩⟩
    · subst hk
      have hk1 : ¬ key < key := by omega
      have hk2 : key ≤ key := by omega
      simp only [hk1, hk2, if_true, if_false, List.nil_append] at hN ⊢
      simp only [List.length_cons, List.length_nil] at hN
      clear hk1
      have hy2 : YieldAt F (n - 1) Try.prog l (nenc (b, key, v)) W fun e W2 => But Sx W W2 ∧
          ((e = .returned (.bool true) ∧ J (pre ++ [(b, key, v)]) W2 ∧ W2.cell? ⟨b, 1, none⟩ = some (.pointer pr) ∧ IsT W2 D pr tr) ∨ (e = .returned (.bool false) ∧ Jx (pre ++ [(b, key, v)]) W2)) :=
        YieldAt.mono (hY (n - 1) _ (b, key, v) W okn hJ (by omega) hB0) fun e W2 h => ⟨h.1, h.2.elim
          (fun ⟨he, hj⟩ => .inl ⟨he, hj, (hx.but h.1 (hdis _ hb)).c1, hr.but h.1 hdis⟩) .inr⟩
      obtain ⟨fn, tmps, assign, body, hy, hR⟩ := hy2
      clear ihl
      have c3 := hx.c3
      clear hx
      refine callsIn_of_wp Try.func53 rfl h37 ?_ hro
      simp only [Try.ntmps53, List.size_toArray, List.length_cons, List.length_nil, Nat.reduceAdd, Nat.reduceSub, Array.replicate_succ, Array.replicate_zero, List.push_toArray, List.append_toArray, List.nil_append, List.cons_append]
      gi_wp2_with (first
        | ((try refine ⟨hdd _, ?_⟩); refine hR.mono ?_; clear hR; rintro e W2 ⟨hB2, (⟨rfl, hJ2, c1', hr2⟩ | ⟨rfl, hx2⟩)⟩)
        | ((try refine ⟨hdd _, ?_⟩); gi_at_call 53; refine (ihr (n - 1) pr _ _ hr2 okr hJ2 (by simp; omega) (Nat.le_trans hB0 hB2.size)).mono ?_; rintro e W3 ⟨hB3, (⟨rfl, hJ3⟩ | ⟨rfl, q, hq, hx3⟩)⟩))
      · go_ret
        exact ⟨hB2.trans hB3, .inl ⟨rfl, by simpa using hJ3⟩⟩
      · go_ret
        exact ⟨hB2.trans hB3, .inr ⟨rfl, (b, key, v) :: q, List.cons_prefix_cons.2 ⟨rfl, hq⟩, by simpa using hx3⟩⟩
      · go_ret
        exact ⟨hB2, .inr ⟨rfl, [(b, key, v)], ⟨tr.tell key, rfl⟩, hx2⟩⟩
    · have hk1 : ¬ key < k := by omega
      have hk2 : ¬ key ≤ k := by omega
      simp only [hk1, hk2, if_false, List.nil_append] at hN ⊢
      simp only [List.length_nil] at hN
      clear ihl
      have c3 := hx.c3
      have c1 := hx.c1
      clear hx
      have ih1 := ihr (n - 1) pr pre W hr okr hJ (by omega) hB0
      clear ihr
      refine callsIn_of_wp Try.func53 rfl h37 ?_ hro
      simp only [Try.ntmps53, List.size_toArray, List.length_cons, List.length_nil, Nat.reduceAdd, Nat.reduceSub, Array.replicate_succ, Array.replicate_zero, List.push_toArray, List.append_toArray, List.nil_append, List.cons_append]
      gi_wp2
      refine ⟨fun _ h => (by cases h), ?_⟩
      gi_wp2_with ((try refine ⟨hdd _, ?_⟩); gi_at_call 53; refine ih1.mono ?_; clear ih1; rintro e W3 ⟨hB3, (⟨rfl, hJ3⟩ | ⟨rfl, q, hq, hx3⟩)⟩)
      · go_ret
        exact ⟨hB3, .inl ⟨rfl, hJ3⟩⟩
      · go_ret
        exact ⟨hB3, .inr ⟨rfl, q, hq, hx3⟩⟩

end MV
end Go.Proofs.Ytmnglaeaicicnaa
