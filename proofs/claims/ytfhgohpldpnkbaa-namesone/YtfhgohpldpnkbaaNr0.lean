/- What NamesOne asks of a registry. -/
import Derived.Test.YtfhgohpldpnkbaaNq1
namespace Go.Proofs.Ytfhgohpldpnkbaa
open Go.RowKit Go.Lib Go.Maps

theorem QB.of {X : Nat → Prop} {w0 w : World} {nb rb K : Nat} {R R' : List NP} (h : PB X w0 w nb rb K R R') : QB X w0 w nb K R := h.qb
theorem ne_ok {s : ByteArray} (h : okN s = true) : (s.toList == []) = false ∧ ¬ s.toList = [] ∧ (s.toList == [117, 110, 100, 101, 102, 105, 110, 101, 100]) = false ∧ ¬ s.toList = [117, 110, 100, 101, 102, 105, 110, 101, 100] ∧ ¬ (s.size : Int) > 64 := by
  obtain ⟨z1, z2, z3⟩ := ok_size h
  have e1 : ¬ s.toList = [] := fun e => by
    have : s = ⟨#[]⟩ := by
      apply ByteArray.ext
      rw [ByteArray.toList_eq] at e
      simpa using e
    rw [this] at z1; simp [ByteArray.size] at z1
  have e3 : ¬ s.toList = [117, 110, 100, 101, 102, 105, 110, 101, 100] := fun e => by
    refine z3 (tl_inj ?_)
    rw [ByteArray.toList_eq] at e
    rw [e]; rfl
  exact ⟨by simp [e1], e1, by simp [e3], e3, by omega⟩
theorem reg_rise {R : List NP} (h : Reg R) {j : Nat} {x y : NP} (hx : R[j]? = some x) (hy : R[j + 1]? = some y) : ltT x.1 y.1 = true := by
  obtain ⟨h1, e1⟩ := List.getElem?_eq_some_iff.1 hx
  obtain ⟨h2, e2⟩ := List.getElem?_eq_some_iff.1 hy
  have := List.pairwise_iff_getElem.1 h.srt j (j + 1) h1 h2 (by omega)
  rw [e1, e2] at this
  exact this
/-- Of a name that is told: whose it is, and what that one is called. -/
theorem one_chain {w wr : World} {nb K : Nat} {R : List NP} {X : Nat → Prop} (h : QB X w wr nb K R) {x : NP} (hx : x ∈ R) :
    Calls Try.prog 8 #[.pointer (some ⟨nb, 0, none⟩), .string x.1] wr fun e w1 => e = .returned (.tuple #[.int .i64 x.2, .bool true]) ∧ Below wr.heap.size wr w1 ∧ Hid (Calls Try.prog 10 #[.pointer (some ⟨nb, 0, none⟩), .int .i64 x.2] w1 fun e w2 => e = .returned (.tuple #[.string x.1, .bool true]) ∧ Below wr.heap.size wr w2) := by
  have hr := h.lts.2
  obtain ⟨o1, o2, o3⟩ := hr.ok x hx
  have e1 : whN R x.1 = some x.2 := (whN_iff hr).2 hx
  have e2 : ofN R x.2 = some x.1 := (ofN_iff hr).2 hx
  refine (h.tell (Z := fun e _ => e = .returned (.tuple #[.int .i64 x.2, .bool true])) (fun D hD => ?_)).mono ?_
  · have := pwhere hD (s := x.1) (by have := (ok_size o1).2.1; unfold maxLen; omega)
    rw [e1] at this
    exact this
  rintro e w1 ⟨rfl, h1, hb1⟩
  refine ⟨rfl, hb1, hidb ((h1.tell (Z := fun e _ => e = .returned (.tuple #[.string x.1, .bool true])) (fun D hD => ?_)).mono ?_)⟩
  · have := pof hD (q := x.2) o3
    rw [e2] at this
    exact this
  rintro e w2 ⟨rfl, -, hb2⟩
  exact ⟨rfl, hb1.trans (hb2.mono hb1.size)⟩
/-- Of a pid: what it is called, if anything, and whose that name is. -/
theorem pid_chain {w wr : World} {nb K : Nat} {R : List NP} {X : Nat → Prop} (h : QB X w wr nb K R) {q : Int} (hq : wfi q) :
    Calls Try.prog 10 #[.pointer (some ⟨nb, 0, none⟩), .int .i64 q] wr fun e w1 => (e = .returned (.tuple #[.string ⟨#[]⟩, .bool false]) ∧ Below wr.heap.size wr w1) ∨ ∃ s, e = .returned (.tuple #[.string s, .bool true]) ∧ Below wr.heap.size wr w1 ∧ Hid (Calls Try.prog 8 #[.pointer (some ⟨nb, 0, none⟩), .string s] w1 fun e w2 => e = .returned (.tuple #[.int .i64 q, .bool true]) ∧ Below wr.heap.size wr w2) := by
  have hr := h.lts.2
  cases e2 : ofN R q with
  | none =>
    refine (h.tell (Z := fun e _ => e = .returned (.tuple #[.string ⟨#[]⟩, .bool false])) (fun D hD => ?_)).mono ?_
    · have := pof hD hq
      rw [e2] at this
      exact this
    rintro e w1 ⟨rfl, h1, hb1⟩
    exact .inl ⟨rfl, hb1⟩
  | some s =>
    have hx := (ofN_iff hr).1 e2
    have e1 : whN R s = some q := (whN_iff hr).2 hx
    obtain ⟨o1, o2, o3⟩ := hr.ok _ hx
    refine (h.tell (Z := fun e _ => e = .returned (.tuple #[.string s, .bool true])) (fun D hD => ?_)).mono ?_
    · have := pof hD hq
      rw [e2] at this
      exact this
    rintro e w1 ⟨rfl, h1, hb1⟩
    refine .inr ⟨s, rfl, hb1, hidb ((h1.tell (Z := fun e _ => e = .returned (.tuple #[.int .i64 q, .bool true])) (fun D hD => ?_)).mono ?_)⟩
    · have := pwhere hD (s := s) (by have : s.size ≤ 64 := (ok_size o1).2.1; unfold maxLen; omega)
      rw [e1] at this
      exact this
    rintro e w2 ⟨rfl, -, hb2⟩
    exact ⟨rfl, hb1.trans (hb2.mono hb1.size)⟩
/-- One act on a registry, beside a document's registry of its own. -/
theorem act_chain {w wr : World} {nb i : Nat} {R : List NP} (h : QB NoX w wr nb i R) (x : Act3) (hx : OkA x) (hi : i ≤ 2000) (hR : R.length ≤ i) (t : TypeId) :
    Calls Try.prog 7 #[.pointer (some ⟨nb, 0, none⟩), .pointer (some ⟨wr.heap.size, 0, none⟩), .agg #[.int .i64 x.op, .string x.nm, .int .i64 x.pid]] (wr.alloc (.cells #[.slice none 0 0, .slice none 0 0] t)) fun e w1 => (∃ b, e = .returned (.bool b)) ∧ Hid (∃ R2, QB NoX w w1 nb (i + 1) R2 ∧ R2.length ≤ i + 1) := by
  refine (step_any (h.pb t) x hx (by omega) (by simp)).mono ?_
  rintro e w1 ⟨⟨b, rfl, -⟩, hp1, -⟩
  have hl := stpN_len x R
  exact ⟨⟨b, rfl⟩, hidb ⟨_, hp1.qb, by omega⟩⟩
theorem all_one {w wr : World} {nb K : Nat} {R : List NP} {X : Nat → Prop} (h : QB X w wr nb K R) (hK : K ≤ 100000) :
    Calls Try.prog 12 #[.pointer (some ⟨nb, 0, none⟩)] wr fun e w3 => ∃ g cap, e = .returned (.slice (some ⟨g, 0, none⟩) R.length cap) ∧ w3.ownsRow 0 ST 1 (.slice (some ⟨g, 0, none⟩) R.length cap) R.length (nms R) ∧ QB X w w3 nb K R := by
  refine (h.tell (Z := fun e w' => ∃ g cap, e = .returned (.slice (some ⟨g, 0, none⟩) R.length cap) ∧ w'.ownsRow wr.heap.size ST 1 (.slice (some ⟨g, 0, none⟩) R.length cap) R.length (nms R)) (fun D hD => (pall hD (by omega)).mono ?_)).mono ?_
  · rintro e w3 ⟨g, cap, rfl, h1, h2⟩
    exact ⟨⟨g, cap, rfl, h1⟩, h2⟩
  · rintro e w3 ⟨⟨g, cap, rfl, ho⟩, hq, -⟩
    exact ⟨g, cap, rfl, row_base ho (Nat.zero_le _), hq⟩
end Go.Proofs.Ytfhgohpldpnkbaa
