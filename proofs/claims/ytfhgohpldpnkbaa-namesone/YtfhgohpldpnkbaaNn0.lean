/- The document's registry in memory; what it tells. -/
import Derived.Test.YtfhgohpldpnkbaaNm6
namespace Go.Proofs.Ytfhgohpldpnkbaa
open Go.RowKit Go.Lib Go.Maps

abbrev pds (R : List NP) : List Value := R.map fun x => .int .i64 x.2
theorem row_sl {w : World} {base : Nat} {v : Value} {n : Nat} {e : TypeId} {xs : List Value} (h : w.ownsRow base e 1 v n xs) : ∃ a c, v = .slice a n c ∧ n ≤ c := by
  obtain ⟨h1, ⟨rfl, rfl⟩ | ⟨g, cap, cur, rfl, _, _, h2, _⟩⟩ := h
  · exact ⟨none, 0, rfl, by omega⟩
  · exact ⟨_, _, rfl, h2⟩
theorem row_at {w : World} {base : Nat} {v : Value} {n : Nat} {e : TypeId} {xs : List Value} (h : w.ownsRow base e 1 v n xs) {i : Nat} {x : Value} (hx : xs[i]? = some x) : ∃ g c, v = .slice (some ⟨g, 0, none⟩) n c ∧ w.cell? ⟨g, i, none⟩ = some x := by
  have h' := h
  obtain ⟨h1, ⟨rfl, rfl⟩ | ⟨g, cap, cur, rfl, _, hb, h2, h3, h4, h5⟩⟩ := h
  · have : xs = [] := List.eq_nil_of_length_eq_zero (by simpa using h1)
    rw [this] at hx; simp at hx
  · refine ⟨g, cap, rfl, ?_⟩
    have hi : i < xs.length := by
      rcases Nat.lt_or_ge i xs.length with k | k
      · exact k
      · rw [List.getElem?_eq_none k] at hx; cases hx
    have e1 := h'.cellAt i (by omega)
    rw [e1, hx]
theorem row_but {S : Nat → Prop} {w w' : World} {base : Nat} {v : Value} {n : Nat} {e : TypeId} {xs : List Value} (h : w.ownsRow base e 1 v n xs) (hb : But S w w') (hs : ∀ k, v.ownBlock = some k → ¬ S k) : w'.ownsRow base e 1 v n xs := by
  obtain ⟨h1, h2 | ⟨g, cap, cur, rfl, h3, hc, h4⟩⟩ := h
  · exact ⟨h1, .inl h2⟩
  · exact ⟨h1, .inr ⟨g, cap, cur, rfl, h3, (hb.block g (Array.getElem?_eq_some_iff.1 hc).1 (hs g rfl)).trans hc, h4⟩⟩
theorem row_base {w : World} {base base' : Nat} {v : Value} {n : Nat} {e : TypeId} {xs : List Value} (h : w.ownsRow base e 1 v n xs) (hb : base' ≤ base) : w.ownsRow base' e 1 v n xs := by
  obtain ⟨h1, h2 | ⟨g, cap, cur, rfl, h3, hc, h4⟩⟩ := h
  · exact ⟨h1, .inl h2⟩
  · exact ⟨h1, .inr ⟨g, cap, cur, rfl, by omega, hc, h4⟩⟩

/-- The document's registry in block r; its rows lie in blocks of E. -/
structure RN (w : World) (r : Nat) (E : Nat → Prop) (R : List NP) : Prop where
  rows : ∃ v0 v1, Duo w r v0 v1 ∧ w.ownsRow 0 ST 1 v0 R.length (nms R) ∧ w.ownsRow 0 IT 1 v1 R.length (pds R) ∧ (∀ k, v0.ownBlock = some k → E k ∧ k ≠ r) ∧ ∀ k, v1.ownBlock = some k → E k ∧ k ≠ r
theorem RN.but {S : Nat → Prop} {w w' : World} {r : Nat} {E : Nat → Prop} {R : List NP} (h : RN w r E R) (hb : But S w w') (hs : ¬ S r) (hE : ∀ k, E k → ¬ S k) : RN w' r E R := by
  obtain ⟨v0, v1, h1, h2, h3, h4, h5⟩ := h.rows
  exact ⟨v0, v1, h1.but hb hs, row_but h2 hb (fun k hk => hE k (h4 k hk).1), row_but h3 hb (fun k hk => hE k (h5 k hk).1), h4, h5⟩
theorem RN.keep {w w' : World} {r : Nat} {E : Nat → Prop} {R : List NP} (h : RN w r E R) (hb : Below w.heap.size w w') : RN w' r E R := h.but (But.of_below (S := fun _ => False) hb) id (fun _ _ => id)
theorem RN.lt {w : World} {r : Nat} {E : Nat → Prop} {R : List NP} (h : RN w r E R) : r < w.heap.size := by
  obtain ⟨v0, v1, h1, _⟩ := h.rows
  exact h1.lt
theorem RN.cut {w : World} {r : Nat} {E : Nat → Prop} {R : List NP} (h : RN w r E R) : RN w r (fun k => E k ∧ k < w.heap.size) R := by
  obtain ⟨v0, v1, h1, h2, h3, h4, h5⟩ := h.rows
  exact ⟨v0, v1, h1, h2, h3, fun k hk => ⟨⟨(h4 k hk).1, (h2.lt k hk).2⟩, (h4 k hk).2⟩, fun k hk => ⟨⟨(h5 k hk).1, (h3.lt k hk).2⟩, (h5 k hk).2⟩⟩
theorem rn_new (w : World) (t : TypeId) : RN (w.alloc (.cells #[.slice none 0 0, .slice none 0 0] t)) w.heap.size (fun _ => False) [] :=
  ⟨_, _, Duo.new w t _ _, World.ownsRow_nil _ _ _ _, World.ownsRow_nil _ _ _ _, fun k hk => by simp [Value.ownBlock] at hk, fun k hk => by simp [Value.ownBlock] at hk⟩

section
variable {f : NP → Bool} {R : List NP} {i : Nat} {x : NP}
theorem idx_hit (h : i ≤ R.findIdx f) (hx : R[i]? = some x) (hf : f x = true) : R.findIdx f = i ∧ R.find? f = some x := by
  have hi : i < R.length := by
    rcases Nat.lt_or_ge i R.length with k | k
    · exact k
    · rw [List.getElem?_eq_none k] at hx; cases hx
  have e : R.findIdx f = i := by
    rcases Nat.lt_or_ge i (R.findIdx f) with k | k
    · have := List.not_of_lt_findIdx k
      rw [List.getElem?_eq_getElem hi] at hx
      cases hx
      simp [hf] at this
    · omega
  exact ⟨e, by rw [List.find?_eq_getElem?_findIdx, e, hx]⟩
theorem idx_miss (h : i ≤ R.findIdx f) (hx : R[i]? = some x) (hf : f x = false) : i + 1 ≤ R.findIdx f := by
  have hi : i < R.length := by
    rcases Nat.lt_or_ge i R.length with k | k
    · exact k
    · rw [List.getElem?_eq_none k] at hx; cases hx
  rcases Nat.lt_or_ge i (R.findIdx f) with k | k
  · omega
  · have e : R.findIdx f = i := by omega
    have hl : R.findIdx f < R.length := by omega
    have h1 := List.findIdx_getElem (p := f) (xs := R) (w := hl)
    have h2 : R[R.findIdx f]? = some x := by rw [e, hx]
    rw [List.getElem?_eq_getElem hl] at h2
    cases h2
    rw [hf] at h1; cases h1
theorem idx_end (h : R.length ≤ R.findIdx f) : R.find? f = none := by
  rw [List.find?_eq_getElem?_findIdx, List.getElem?_eq_none h]
end

set_option maxRecDepth 100000 in
set_option maxHeartbeats 2000000 in
theorem rwhere {w : World} {r : Nat} {E : Nat → Prop} {R : List NP} (h : RN w r E R) (hN : R.length ≤ 100000) (s : ByteArray) : Calls Try.prog 9 #[.pointer (some ⟨r, 0, none⟩), .string s] w fun e w' => e = .returned (.tuple #[.int .i64 ((whN R s).getD 0), .bool (whN R s).isSome]) ∧ w' = w := by
  obtain ⟨v0, v1, hd, h0, h1, -, -⟩ := h.rows
  obtain ⟨a0, k0, rfl, hc0⟩ := row_sl h0
  obtain ⟨a1, k1, rfl, hc1⟩ := row_sl h1
  obtain ⟨c0, c1, f0, f1, hlt⟩ := hd
  have H0 := hidb h0
  have H1 := hidb h1
  obtain ⟨n, hn⟩ : ∃ n, R.length = n := ⟨_, rfl⟩
  rw [hn] at c0 c1
  have HN := hidb (And.intro hn (hn ▸ hN))
  clear h h0 h1 hN hn hc0 hc1
  go_enter Try.func9, Try.ntmps9
  go_wp2_with fail
  go_loopw [6] (fun iv wr => ∃ i : Nat, iv = .int .i64 (i : Int) ∧ i ≤ n ∧ i ≤ (R.findIdx fun x : NP => eqT x.1 s) ∧ wr = w) (fun iv _ => n - (RowKit.intOf iv).toNat)
  case atStart => exact ⟨0, rfl, by omega, by omega, rfl⟩
  case round =>
  obtain ⟨i, rfl, hi, hf, rfl⟩ := hrel
  rename World => w
  have HI := hidb (And.intro hi hf)
  clear hi hf
  have s0 : (0 : Int) ≤ (i : Int) := by omega
  by_cases hin : i < n
  · obtain ⟨y, hy⟩ : ∃ y, R[i]? = some y := ⟨_, List.getElem?_eq_getElem (by have := HN.out.1; omega)⟩
    obtain ⟨g0, q0, e0, d0⟩ := row_at H0.out (i := i) (x := .string y.1) (by rw [List.getElem?_map, hy]; rfl)
    obtain ⟨g1, q1, e1, d1⟩ := row_at H1.out (i := i) (x := .int .i64 y.2) (by rw [List.getElem?_map, hy]; rfl)
    obtain ⟨rfl, -, rfl⟩ : a0 = some ⟨g0, 0, none⟩ ∧ R.length = R.length ∧ k0 = q0 := by simpa using e0
    obtain ⟨rfl, -, rfl⟩ : a1 = some ⟨g1, 0, none⟩ ∧ R.length = R.length ∧ k1 = q1 := by simpa using e1
    have s1 : (i : Int) < (n : Int) := by omega
    have HE : Hid (wrap64 ((i : Int) + 1) = ((i + 1 : Nat) : Int)) := hidb (by have := HN.out; unfold wrap64; omega)
    have HY := hidb hy
    clear e0 e1 hy hin
    cases hq : eqT y.1 s
    · have t0 : (y.1.toList == s.toList) = false := hq
      have t1 : ¬ y.1.toList = s.toList := by simpa using t0
      have HF := hidb (idx_miss HI.out.2 HY.out hq)
      clear hq
      go_wp2_with fail
      go_roundw
      case rel => exact ⟨i + 1, by rw [HE.out], by have := s1; omega, HF.out, trivial⟩
      case measure =>
        rw [HE.out]
        simp only [RowKit.intOf, Int.toNat_natCast]
        omega
    · have HF := hidb (idx_hit HI.out.2 HY.out hq)
      obtain rfl := eqT_iff.1 hq
      clear hq
      go_wp2_with fail
      go_ret2
      have : whN R y.1 = some y.2 := by unfold whN; rw [HF.out.2]; rfl
      rw [this]
      exact ⟨rfl, rfl⟩
  · have s1 : ¬ (i : Int) < (n : Int) := by omega
    clear hin
    go_wp2_with fail
    go_ret2
    have hz : whN R s = none := by
      unfold whN
      rw [idx_end (by have := HI.out; have := HN.out; omega)]
      rfl
    rw [hz]
    exact ⟨rfl, rfl⟩

set_option maxRecDepth 100000 in
set_option maxHeartbeats 2000000 in
theorem rof {w : World} {r : Nat} {E : Nat → Prop} {R : List NP} (h : RN w r E R) (hN : R.length ≤ 100000) (p : Int) : Calls Try.prog 11 #[.pointer (some ⟨r, 0, none⟩), .int .i64 p] w fun e w' => e = .returned (.tuple #[.string ((ofN R p).getD ⟨#[]⟩), .bool (ofN R p).isSome]) ∧ w' = w := by
  obtain ⟨v0, v1, hd, h0, h1, -, -⟩ := h.rows
  obtain ⟨a0, k0, rfl, hc0⟩ := row_sl h0
  obtain ⟨a1, k1, rfl, hc1⟩ := row_sl h1
  obtain ⟨c0, c1, f0, f1, hlt⟩ := hd
  have H0 := hidb h0
  have H1 := hidb h1
  obtain ⟨n, hn⟩ : ∃ n, R.length = n := ⟨_, rfl⟩
  rw [hn] at c0 c1
  have HN := hidb (And.intro hn (hn ▸ hN))
  clear h h0 h1 hN hn hc0 hc1
  go_enter Try.func11, Try.ntmps11
  go_wp2_with fail
  go_loopw [6] (fun iv wr => ∃ i : Nat, iv = .int .i64 (i : Int) ∧ i ≤ n ∧ i ≤ (R.findIdx fun x : NP => x.2 == p) ∧ wr = w) (fun iv _ => n - (RowKit.intOf iv).toNat)
  case atStart => exact ⟨0, rfl, by omega, by omega, rfl⟩
  case round =>
  obtain ⟨i, rfl, hi, hf, rfl⟩ := hrel
  rename World => w
  have HI := hidb (And.intro hi hf)
  clear hi hf
  have s0 : (0 : Int) ≤ (i : Int) := by omega
  by_cases hin : i < n
  · obtain ⟨y, hy⟩ : ∃ y, R[i]? = some y := ⟨_, List.getElem?_eq_getElem (by have := HN.out.1; omega)⟩
    obtain ⟨g0, q0, e0, d0⟩ := row_at H0.out (i := i) (x := .string y.1) (by rw [List.getElem?_map, hy]; rfl)
    obtain ⟨g1, q1, e1, d1⟩ := row_at H1.out (i := i) (x := .int .i64 y.2) (by rw [List.getElem?_map, hy]; rfl)
    obtain ⟨rfl, -, rfl⟩ : a0 = some ⟨g0, 0, none⟩ ∧ R.length = R.length ∧ k0 = q0 := by simpa using e0
    obtain ⟨rfl, -, rfl⟩ : a1 = some ⟨g1, 0, none⟩ ∧ R.length = R.length ∧ k1 = q1 := by simpa using e1
    have s1 : (i : Int) < (n : Int) := by omega
    have HE : Hid (wrap64 ((i : Int) + 1) = ((i + 1 : Nat) : Int)) := hidb (by have := HN.out; unfold wrap64; omega)
    have HY := hidb hy
    clear e0 e1 hy hin
    cases hq : (y.2 == p)
    · have t0 : (y.2 == p) = false := hq
      have t1 : ¬ y.2 = p := by simpa using t0
      have HF := hidb (idx_miss (f := fun x : NP => x.2 == p) HI.out.2 HY.out hq)
      clear hq
      go_wp2_with fail
      go_roundw
      case rel => exact ⟨i + 1, by rw [HE.out], by have := s1; omega, HF.out, trivial⟩
      case measure =>
        rw [HE.out]
        simp only [RowKit.intOf, Int.toNat_natCast]
        omega
    · have HF := hidb (idx_hit (f := fun x : NP => x.2 == p) HI.out.2 HY.out hq)
      obtain rfl : y.2 = p := by simpa using hq
      clear hq
      go_wp2_with fail
      go_ret2
      have : ofN R y.2 = some y.1 := by unfold ofN; rw [HF.out.2]; rfl
      rw [this]
      exact ⟨rfl, rfl⟩
  · have s1 : ¬ (i : Int) < (n : Int) := by omega
    clear hin
    go_wp2_with fail
    go_ret2
    have hz : ofN R p = none := by
      unfold ofN
      rw [idx_end (by have := HI.out; have := HN.out; omega)]
      rfl
    rw [hz]
    exact ⟨rfl, rfl⟩

end Go.Proofs.Ytfhgohpldpnkbaa
