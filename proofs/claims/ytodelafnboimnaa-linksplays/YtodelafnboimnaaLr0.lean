/- The document's half-links (ref14.Table): a row; find, Get. -/
import Derived.Test.YtodelafnboimnaaLk2
import Derived.Maps.AppendAt
import Derived.Laws.OwnMore
import Derived.Laws.AppendOwnNone
import Derived.WalkSmall
import Derived.Lib.QuietBelow
import Derived.Sort.BigQuietIn
namespace Go.Proofs.Ytodelafnboimnaa
open Go.RowKit Go.Lib
namespace HV
attribute [local go_sem ↓] Go.wp_at_zero Go.wp_at_succ

abbrev HT : Nat := 34

theorem own_sl {w : World} {C e size n : Nat} {v : Value} {xs : List Value} (h : w.ownsRow C e size v n xs) : ∃ a c, v = .slice a n c := by
  rcases h.2 with ⟨rfl, rfl⟩ | ⟨g, cap, cur, rfl, _⟩
  · exact ⟨_, _, rfl⟩
  · exact ⟨_, _, rfl⟩
theorem But.of_grown {S : Nat → Prop} {w w' : World} {row : Option Nat} (h : w.grownBy w' row) (hs : ∀ g, row = some g → S g) : But S w w' :=
  ⟨h.os, h.tape, h.output, h.size, fun k hk hn => h.block k hk (fun e => hn (hs k e.symm))⟩
theorem row_but {S : Nat → Prop} {w w' : World} {C e size n : Nat} {v : Value} {xs : List Value} (h : w.ownsRow C e size v n xs) (hb : But S w w') (hs : ∀ g, v.ownBlock = some g → ¬ S g) : w'.ownsRow C e size v n xs := by
  refine ⟨h.1, ?_⟩
  rcases h.2 with hn | ⟨g, cap, cur, rfl, hc, hg, r⟩
  · exact .inl hn
  · exact .inr ⟨g, cap, cur, rfl, hc, (hb.block g (Array.getElem?_eq_some_iff.1 hg).1 (hs g rfl)).trans hg, r⟩
theorem row_lift {w : World} {B B' e size n : Nat} {V : Value} {xs : List Value} (h : w.ownsRow B' e size V n xs) (hB : ∀ g, V.ownBlock = some g → B ≤ g) : w.ownsRow B e size V n xs := by
  refine ⟨h.1, ?_⟩
  rcases h.2 with h0 | ⟨g, cap, cur, rfl, _, r⟩
  · exact .inl h0
  · exact .inr ⟨g, cap, cur, rfl, hB g rfl, r⟩
theorem row_free {w : World} {g c n e size : Nat} {xs : List Value} (h : w.ownsRow 0 e size (.slice (some ⟨g, 0, none⟩) n c) n xs) (j : Nat) : w.frozen? ⟨g, j, none⟩ = false := by
  rcases h.2 with ⟨h0, _⟩ | ⟨g', cap, cur, h0, _, hg', _⟩
  · cases h0
  · obtain ⟨rfl, _⟩ : g = g' ∧ c = cap := by simpa using h0
    simp [World.frozen?, hg']
theorem row_cap {w : World} {g c n e size : Nat} {xs : List Value} (h : w.ownsRow 0 e size (.slice (some ⟨g, 0, none⟩) n c) n xs) : n ≤ c := by
  rcases h.2 with ⟨h0, _⟩ | ⟨g', cap, cur, h0, _, _, hc, _⟩
  · cases h0
  · obtain ⟨_, rfl⟩ : g = g' ∧ c = cap := by simpa using h0
    exact hc

/-- Half-links as cells. -/
def hvs : List KV → List Value
  | [] => []
  | x :: r => .int .i64 x.2.a :: .int .i64 x.2.b :: .int .i64 x.2.c :: hvs r
theorem hvs_length (l : List KV) : (hvs l).length = l.length * 3 := by
  induction l with
  | nil => rfl
  | cons x r ih => simp only [hvs, List.length_cons, ih]; omega
theorem hvs_append (a b : List KV) : hvs (a ++ b) = hvs a ++ hvs b := by
  induction a with
  | nil => rfl
  | cons x r ih => simp [hvs, ih]
theorem hvs_one (l : List KV) : ∀ u ∈ hvs l, u.oneCell' = true := by
  induction l with
  | nil => intro u hu; simp [hvs] at hu
  | cons x r ih =>
    intro u hu
    simp only [hvs, List.mem_cons] at hu
    rcases hu with rfl | rfl | rfl | hu
    · rfl
    · rfl
    · rfl
    · exact ih u hu
theorem hvs_get : ∀ {l : List KV} {j : Nat} {x : KV}, l[j]? = some x → (hvs l)[j * 3]? = some (.int .i64 x.2.a) ∧ (hvs l)[j * 3 + 1]? = some (.int .i64 x.2.b) ∧ (hvs l)[j * 3 + 2]? = some (.int .i64 x.2.c)
  | [], _, _, h => by simp at h
  | y :: r, 0, x, h => by simp at h; subst h; simp [hvs]
  | y :: r, j + 1, x, h => by
    have := hvs_get (l := r) (j := j) (x := x) (by simpa using h)
    simp only [hvs]
    rw [show (j + 1) * 3 = j * 3 + 1 + 1 + 1 by omega, show j * 3 + 1 + 1 + 1 + 1 = (j * 3 + 1) + 1 + 1 + 1 by omega, show j * 3 + 1 + 1 + 1 + 2 = (j * 3 + 2) + 1 + 1 + 1 by omega]
    simpa using this
theorem hvs_set (A r : List KV) (x y : KV) : (((hvs (A ++ x :: r)).set (A.length * 3) (.int .i64 y.2.a)).set (A.length * 3 + 1) (.int .i64 y.2.b)).set (A.length * 3 + 2) (.int .i64 y.2.c) = hvs (A ++ y :: r) := by
  rw [hvs_append, hvs_append, ← hvs_length A]
  simp only [hvs]
  rw [List.set_append_right _ _ (Nat.le_refl _), List.set_append_right _ _ (by omega), List.set_append_right _ _ (by omega)]
  simp

/-- The document's table at rb: its row lies in a block of E. -/
def RT (w : World) (rb : Nat) (E : Nat → Prop) (L : List KV) (n : Int) : Prop :=
  ∃ V, Duo w rb V (.int .i64 n) ∧ w.ownsRow 0 HT 3 V L.length (hvs L) ∧ ∀ g, V.ownBlock = some g → E g ∧ g ≠ rb

theorem RT.but {S E : Nat → Prop} {w w' : World} {rb : Nat} {L : List KV} {n : Int} (h : RT w rb E L n) (hb : But S w w') (hr : ¬ S rb) (he : ∀ k, E k → ¬ S k) : RT w' rb E L n := by
  obtain ⟨V, h1, h2, h3⟩ := h
  exact ⟨V, h1.but hb hr, row_but h2 hb (fun g e => he g (h3 g e).1), h3⟩
theorem RT.keep {E : Nat → Prop} {w w' : World} {rb : Nat} {L : List KV} {n : Int} (h : RT w rb E L n) (hb : Below w.heap.size w w') : RT w' rb E L n := h.but (S := fun _ => False) (But.of_below hb) id (fun _ _ h => h)
theorem RT.lt {E : Nat → Prop} {w : World} {rb : Nat} {L : List KV} {n : Int} (h : RT w rb E L n) : rb < w.heap.size := by obtain ⟨_, h, _⟩ := h; exact h.lt
theorem RT.mono {E E' : Nat → Prop} {w : World} {rb : Nat} {L : List KV} {n : Int} (h : RT w rb E L n) (he : ∀ k, k < w.heap.size → E k → E' k) : RT w rb E' L n := by
  obtain ⟨V, h1, h2, h3⟩ := h
  exact ⟨V, h1, h2, fun g e => ⟨he g (h2.lt g e).2 (h3 g e).1, (h3 g e).2⟩⟩

theorem row_get {w : World} {B n : Nat} {v : Value} {l : List KV} (h : w.ownsRow B HT 3 v n (hvs l)) {j : Nat} {x : KV} (hj : l[j]? = some x) : ∃ g c, v = .slice (some ⟨g, 0, none⟩) n c ∧ w.cell? ⟨g, j * 3, none⟩ = some (.int .i64 x.2.a) ∧ w.cell? ⟨g, j * 3 + 1, none⟩ = some (.int .i64 x.2.b) ∧ w.cell? ⟨g, j * 3 + 2, none⟩ = some (.int .i64 x.2.c) := by
  have hl : n = l.length := by have := h.1; rw [hvs_length] at this; omega
  have hjl := (List.getElem?_eq_some_iff.1 hj).1
  rcases h.2 with ⟨rfl, h0⟩ | ⟨g, cap, cur, rfl, _⟩
  · omega
  · obtain ⟨h1, h2, h3⟩ := hvs_get hj
    exact ⟨g, cap, rfl, by rw [h.cellAt _ (by omega)]; exact h1, by rw [h.cellAt _ (by omega)]; exact h2, by rw [h.cellAt _ (by omega)]; exact h3⟩

/-- Is a pid the first of a row? -/
def hdB (key : Int) : List KV → Bool
  | [] => false
  | x :: _ => x.1 == key
theorem getL_hd {key : Int} {A B : List KV} (h : Rise (A ++ B)) (h1 : ∀ x ∈ A, x.1 < key) (h2 : ∀ x ∈ B, key ≤ x.1) : (getL key (A ++ B)).isSome = hdB key B := by
  rw [getL_split h h1 h2]
  cases B with
  | nil => rfl
  | cons x r => by_cases e : x.1 = key <;> simp [hdB, e]

set_option maxRecDepth 100000 in
set_option maxHeartbeats 4000000 in
theorem rfind_any {w : World} {rb : Nat} {E : Nat → Prop} {A B : List KV} {nn : Int} (h : RT w rb E (A ++ B) nn) (hr : Rise (A ++ B)) (hk : HOk (A ++ B)) (key : Int) (h1 : ∀ x ∈ A, x.1 < key) (h2 : ∀ x ∈ B, key ≤ x.1) (hN : (A ++ B).length ≤ 100000) :
    Calls Try.prog 29 #[.pointer (some ⟨rb, 0, none⟩), .int .i64 key] w fun e w' => e = .returned (.tuple #[.int .i64 (A.length : Int), .bool (getL key (A ++ B)).isSome]) ∧ Below w.heap.size w w' := by
  obtain ⟨V1, hd, ho1, -⟩ := h
  rw [getL_hd hr h1 h2]
  obtain ⟨a1, cp1, rfl⟩ := own_sl ho1
  have HO := hidb ho1
  have k0 := hd.c0
  obtain ⟨n, hn⟩ : ∃ n, (A ++ B).length = n := ⟨_, rfl⟩
  rw [hn] at k0 HO
  have HN : Hid (n = A.length + B.length ∧ n ≤ 100000) := hidb (by simp at hn hN; omega)
  have HA := hidb h1
  have HB := hidb h2
  have HK := hidb hk
  clear hd ho1 hr hN h1 h2 hn hk
  go_enter Try.func29, Try.ntmps29
  go_wp2_with fail
  go_loopw [6] (fun iv wr => ∃ i : Nat, i ≤ A.length ∧ iv = .int .i64 (i : Int) ∧ wr = w) (fun iv _ => A.length - (intOf iv).toNat)
  case atStart => exact ⟨0, by omega, rfl, rfl⟩
  case round =>
  obtain ⟨i, hi, rfl, rfl⟩ := hrel
  rename World => w
  have HI := hidb hi
  clear hi
  by_cases hia : i < A.length
  · obtain ⟨y, hy⟩ : ∃ y, A[i]? = some y := ⟨_, List.getElem?_eq_getElem hia⟩
    have hyk : (A ++ B)[i]? = some y := by rw [List.getElem?_append_left hia, hy]
    obtain ⟨g, c, he, hc, -, -⟩ := row_get HO.out hyk
    obtain ⟨rfl, -, rfl⟩ : a1 = some ⟨g, 0, none⟩ ∧ n = n ∧ cp1 = c := by simpa using he
    have e1 : (i : Int) < (n : Int) := by have := HN.out; omega
    have e2 : (0 : Int) ≤ (i : Int) := by omega
    have e3 : y.2.a < key := by rw [(HK.out y (List.mem_append_left _ (List.mem_of_getElem? hy))).1]; exact HA.out y (List.mem_of_getElem? hy)
    have HE : Hid (wrap64 ((i : Int) + 1) = ((i + 1 : Nat) : Int)) := hidb (by have := HN.out; unfold wrap64; omega)
    clear he hyk hy
    go_wp2_with fail
    go_roundw
    case rel => exact ⟨i + 1, by omega, by rw [HE.out], trivial⟩
    case measure =>
      rw [HE.out]
      simp only [RowKit.intOf, Int.toNat_natCast]
      omega
  · obtain rfl : i = A.length := by have := HI.out; omega
    have e2 : (0 : Int) ≤ (A.length : Int) := by omega
    cases B with
    | nil =>
      have e1 : ¬ (A.length : Int) < (n : Int) := by have := HN.out; simp at this; omega
      clear hia
      go_wp2_with fail
      have e4 : decide (A.length < n) = false := by have := HN.out; simp at this ⊢; omega
      go_big_quiet (fail)
      go_wp2_with fail
      go_ret2
      exact ⟨rfl, below_drewN (Below.refl _ _) _⟩
    | cons y r =>
      have hyk : (A ++ y :: r)[A.length]? = some y := by simp
      obtain ⟨g, c, he, hc, -, -⟩ := row_get HO.out hyk
      obtain ⟨rfl, -, rfl⟩ : a1 = some ⟨g, 0, none⟩ ∧ n = n ∧ cp1 = c := by simpa using he
      have e1 : (A.length : Int) < (n : Int) := by have := HN.out; simp at this; omega
      have hya : y.2.a = y.1 := (HK.out y (by simp)).1
      rw [hya] at hc
      have e3 : ¬ y.1 < key := by have := HB.out y (by simp); omega
      clear he hyk hia hya
      go_wp2_with fail
      have e4 : decide (A.length < n) = true := by have := HN.out; simp at this ⊢; omega
      go_big_quiet (fail)
      go_wp2_with fail
      go_ret2
      exact ⟨rfl, below_drewN (Below.refl _ _) _⟩

end HV
end Go.Proofs.Ytodelafnboimnaa
