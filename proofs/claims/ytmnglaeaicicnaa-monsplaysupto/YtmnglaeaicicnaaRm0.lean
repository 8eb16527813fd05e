/- The document's halves of monitors: rows; find. -/
import Derived.Test.YtmnglaeaicicnaaMp0
import Derived.Maps.AppendAt
import Derived.Laws.OwnMore
import Derived.Laws.AppendOwnNone
import Derived.WalkSmall
import Derived.Lib.QuietBelow
import Derived.Sort.BigQuietIn
namespace Go.Proofs.Ytmnglaeaicicnaa
open Go.RowKit Go.Lib
namespace MV
attribute [local go_sem ↓] Go.wp_at_zero Go.wp_at_succ

abbrev MnT : Nat := 38

theorem own_sl {w : World} {C e size n : Nat} {v : Value} {xs : List Value} (h : w.ownsRow C e size v n xs) : ∃ a c, v = .slice a n c := by
  rcases h.2 with ⟨rfl, rfl⟩ | ⟨g, cap, cur, rfl, _⟩
  · exact ⟨_, _, rfl⟩
  · exact ⟨_, _, rfl⟩
theorem But.of_grown {S : Nat → Prop} {w w' : World} {row : Option Nat} (h : w.grownBy w' row) (hs : ∀ g, row = some g → S g) : But S w w' :=
  ⟨h.os, h.tape, h.output, h.size, fun k hk hn => h.block k hk (fun e => hn (hs k e.symm))⟩
theorem row_but {S : Nat → Prop} {w w' : World} {C e size n : Nat} {v : Value} {xs : List Value} (h : w.ownsRow C e size v n xs) (hb : But S w w') (hs : ∀ g, v.ownBlock = some g → ¬ S g) : w'.ownsRow C e size v n xs := by
  refine ⟨h.1, ?_⟩
  rcases h.2 with hn | ⟨g, cap, cur, rfl, hc, hg, r⟩
  · exact .inl hn
  · exact .inr ⟨g, cap, cur, rfl, hc, (hb.block g (Array.getElem?_eq_some_iff.1 hg).1 (hs g rfl)).trans hg, r⟩
theorem row_lift {w : World} {B B' e size n : Nat} {V : Value} {xs : List Value} (h : w.ownsRow B' e size V n xs) (hB : ∀ g, V.ownBlock = some g → B ≤ g) : w.ownsRow B e size V n xs := by
  refine ⟨h.1, ?_⟩
  rcases h.2 with h0 | ⟨g, cap, cur, rfl, _, r⟩
  · exact .inl h0
  · exact .inr ⟨g, cap, cur, rfl, hB g rfl, r⟩
theorem row_free {w : World} {g c n e size : Nat} {xs : List Value} (h : w.ownsRow 0 e size (.slice (some ⟨g, 0, none⟩) n c) n xs) (j : Nat) : w.frozen? ⟨g, j, none⟩ = false := by
  rcases h.2 with ⟨h0, _⟩ | ⟨g', cap, cur, h0, _, hg', _⟩
  · cases h0
  · obtain ⟨rfl, _⟩ : g = g' ∧ c = cap := by simpa using h0
    simp [World.frozen?, hg']
theorem row_cap {w : World} {g c n e size : Nat} {xs : List Value} (h : w.ownsRow 0 e size (.slice (some ⟨g, 0, none⟩) n c) n xs) : n ≤ c := by
  rcases h.2 with ⟨h0, _⟩ | ⟨g', cap, cur, h0, _, _, hc, _⟩
  · cases h0
  · obtain ⟨_, rfl⟩ : g = g' ∧ c = cap := by simpa using h0
    exact hc

/-- Half-links as cells. -/
def mvs : List KV → List Value
  | [] => []
  | x :: r => .int .i64 x.2.a :: .int .i64 x.2.b :: .string x.2.c :: mvs r
theorem mvs_length (l : List KV) : (mvs l).length = l.length * 3 := by
  induction l with
  | nil => rfl
  | cons x r ih => simp only [mvs, List.length_cons, ih]; omega
theorem mvs_append (a b : List KV) : mvs (a ++ b) = mvs a ++ mvs b := by
  induction a with
  | nil => rfl
  | cons x r ih => simp [mvs, ih]
theorem mvs_one (l : List KV) : ∀ u ∈ mvs l, u.oneCell' = true := by
  induction l with
  | nil => intro u hu; simp [mvs] at hu
  | cons x r ih =>
    intro u hu
    simp only [mvs, List.mem_cons] at hu
    rcases hu with rfl | rfl | rfl | hu
    · rfl
    · rfl
    · rfl
    · exact ih u hu
theorem mvs_get : ∀ {l : List KV} {j : Nat} {x : KV}, l[j]? = some x → (mvs l)[j * 3]? = some (.int .i64 x.2.a) ∧ (mvs l)[j * 3 + 1]? = some (.int .i64 x.2.b) ∧ (mvs l)[j * 3 + 2]? = some (.string x.2.c)
  | [], _, _, h => by simp at h
  | y :: r, 0, x, h => by simp at h; subst h; simp [mvs]
  | y :: r, j + 1, x, h => by
    have := mvs_get (l := r) (j := j) (x := x) (by simpa using h)
    simp only [mvs]
    rw [show (j + 1) * 3 = j * 3 + 1 + 1 + 1 by omega, show j * 3 + 1 + 1 + 1 + 1 = (j * 3 + 1) + 1 + 1 + 1 by omega, show j * 3 + 1 + 1 + 1 + 2 = (j * 3 + 2) + 1 + 1 + 1 by omega]
    simpa using this
theorem mvs_set (A r : List KV) (x y : KV) : (((mvs (A ++ x :: r)).set (A.length * 3) (.int .i64 y.2.a)).set (A.length * 3 + 1) (.int .i64 y.2.b)).set (A.length * 3 + 2) (.string y.2.c) = mvs (A ++ y :: r) := by
  rw [mvs_append, mvs_append, ← mvs_length A]
  simp only [mvs]
  rw [List.set_append_right _ _ (Nat.le_refl _), List.set_append_right _ _ (by omega), List.set_append_right _ _ (by omega)]
  simp

theorem row_get {w : World} {B n : Nat} {v : Value} {l : List KV} (h : w.ownsRow B MnT 3 v n (mvs l)) {j : Nat} {x : KV} (hj : l[j]? = some x) : ∃ g c, v = .slice (some ⟨g, 0, none⟩) n c ∧ w.cell? ⟨g, j * 3, none⟩ = some (.int .i64 x.2.a) ∧ w.cell? ⟨g, j * 3 + 1, none⟩ = some (.int .i64 x.2.b) ∧ w.cell? ⟨g, j * 3 + 2, none⟩ = some (.string x.2.c) := by
  have hl : n = l.length := by have := h.1; rw [mvs_length] at this; omega
  have hjl := (List.getElem?_eq_some_iff.1 hj).1
  rcases h.2 with ⟨rfl, h0⟩ | ⟨g, cap, cur, rfl, _⟩
  · omega
  · obtain ⟨h1, h2, h3⟩ := mvs_get hj
    exact ⟨g, cap, rfl, by rw [h.cellAt _ (by omega)]; exact h1, by rw [h.cellAt _ (by omega)]; exact h2, by rw [h.cellAt _ (by omega)]; exact h3⟩

/-- Is a pid the first of a row? -/
def hdB (key : Int) : List KV → Bool
  | [] => false
  | x :: _ => x.1 == key
theorem getL_hd {key : Int} {A B : List KV} (h : Rise (A ++ B)) (h1 : ∀ x ∈ A, x.1 < key) (h2 : ∀ x ∈ B, key ≤ x.1) : (getL key (A ++ B)).isSome = hdB key B := by
  rw [getL_split h h1 h2]
  cases B with
  | nil => rfl
  | cons x r => by_cases e : x.1 = key <;> simp [hdB, e]

theorem mvs_drop : ∀ (l : List KV) (i : Nat), mvs (l.drop i) = (mvs l).drop (i * 3)
  | l, 0 => by simp
  | [], i + 1 => by simp [mvs]
  | x :: r, i + 1 => by
    rw [show (i + 1) * 3 = i * 3 + 1 + 1 + 1 by omega]
    simp only [mvs, List.drop_succ_cons]
    exact mvs_drop r i

/-- What lies from a place of a row on, as a slice. -/
theorem cut_from {w : World} {B g c n i : Nat} {l : List KV} (h : w.ownsRow B MnT 3 (.slice (some ⟨g, 0, none⟩) n c) n (mvs l)) (hi : i ≤ n) (hc : n ≤ c) {ad : Addr} (had : (if c = i then some (⟨g, 0, none⟩ : Addr) else some ⟨g, i * 3, none⟩) = some ad) :
    ∀ j u, (mvs (l.drop i))[j]? = some u → w.cell? (ad.add j) = some u := by
  have hl : n = l.length := by have := h.1; rw [mvs_length] at this; omega
  intro j u hj
  have hjl := (List.getElem?_eq_some_iff.1 hj).1
  rw [mvs_length, List.length_drop] at hjl
  by_cases e : c = i
  · omega
  · rw [if_neg e] at had
    obtain rfl : (⟨g, i * 3, none⟩ : Addr) = ad := by simpa using had
    have e1 : (⟨g, i * 3, none⟩ : Addr).add j = ⟨g, i * 3 + j, none⟩ := by unfold Addr.add; split <;> simp_all
    rw [e1, h.cellAt (i * 3 + j) (by omega), ← hj, mvs_drop, List.getElem?_drop]

theorem infoM : ∃ i0, Try.prog.info? MnT = some i0 ∧ i0.zero = some (.agg #[.int .i64 0, .int .i64 0, .string ⟨#[]⟩]) ∧ i0.size = 3 ∧ i0.bytes = 32 := info_parts (show (Try.prog.info? MnT).map (fun i => (i.zero, i.size, i.bytes)) = some (some (.agg #[.int .i64 0, .int .i64 0, .string ⟨#[]⟩]), 3, 32) by kernel_rfl)

theorem cell3_new (w : World) (a b c : Value) (t : TypeId) : ∀ (j : Nat) (u : Value), [a, b, c][j]? = some u → (w.alloc (.cells #[a, b, c] t)).cell? ((⟨w.heap.size, 0, none⟩ : Addr).add j) = some u := by
  intro j u h
  have e1 : (⟨w.heap.size, 0, none⟩ : Addr).add j = ⟨w.heap.size, j, none⟩ := by unfold Addr.add; split <;> simp_all
  rw [e1, World.cell?_alloc_new]
  simpa using h

theorem made0 (w : World) : (w.alloc (.cells #[] MnT)).ownsRow w.heap.size MnT 3 (.slice (some ⟨w.heap.size, 0, none⟩) 0 0) 0 [] := World.ownsRow_made w #[] 0 (Nat.le_refl _) (by unfold maxLen; omega) (by simp)

theorem head_news {w w' : World} {B g c n : Nat} {A r : List KV} (h : w.ownsRow B MnT 3 (.slice (some ⟨g, 0, none⟩) n c) n (mvs (A ++ r))) (hb : Below w.heap.size w w') : ∀ (j : Nat) (u : Value), (mvs A)[j]? = some u → w'.cell? ((⟨g, 0, none⟩ : Addr).add j) = some u := by
  intro j u hj
  have hl : n * 3 = (A ++ r).length * 3 := by have := h.1; rw [mvs_length] at this; omega
  have hjl := (List.getElem?_eq_some_iff.1 hj).1
  have e1 : (⟨g, 0, none⟩ : Addr).add j = ⟨g, j, none⟩ := by unfold Addr.add; split <;> simp_all
  rw [mvs_length] at hjl
  rw [List.length_append] at hl
  have hc : w.cell? ⟨g, j, none⟩ = some u := by rw [h.cellAt j (by omega), ← hj, mvs_append, List.getElem?_append_left (by rw [mvs_length]; exact hjl)]
  rw [e1, hb.cell (World.block_lt_of_cell? _ _ hc), hc]

theorem _root_.Go.World.ownsRow.keep9 {w w' : World} {C e size n : Nat} {v : Value} {xs : List Value} (h : w.ownsRow C e size v n xs) (hb : Below w.heap.size w w') : w'.ownsRow C e size v n xs := row_but h (But.of_below (S := fun _ => False) hb) (fun _ _ h => h)

theorem drop_mid (a b : List KV) (x : KV) : (a ++ x :: b).drop (a.length + 1) = b := by
  induction a with
  | nil => rfl
  | cons y a ih => simp [ih]


set_option maxRecDepth 100000 in
set_option maxHeartbeats 4000000 in
theorem rfind_any {w : World} {V : Value} {A B : List KV} (ho1 : w.ownsRow 0 MnT 3 V (A ++ B).length (mvs (A ++ B))) (hr : Rise (A ++ B)) (hk : MOk (A ++ B)) (key : Int) (h1 : ∀ x ∈ A, x.1 < key) (h2 : ∀ x ∈ B, key ≤ x.1) (hN : (A ++ B).length ≤ 100000) :
    Calls Try.prog 31 #[V, .int .i64 key] w fun e w' => e = .returned (.tuple #[.int .i64 (A.length : Int), .bool (getL key (A ++ B)).isSome]) ∧ Below w.heap.size w w' := by
  rw [getL_hd hr h1 h2]
  obtain ⟨a1, cp1, rfl⟩ := own_sl ho1
  have HO := hidb ho1
  obtain ⟨n, hn⟩ : ∃ n, (A ++ B).length = n := ⟨_, rfl⟩
  rw [hn] at HO ⊢
  have HN : Hid (n = A.length + B.length ∧ n ≤ 100000) := hidb (by simp at hn hN; omega)
  have HA := hidb h1
  have HB := hidb h2
  have HK := hidb hk
  clear ho1 hr hN h1 h2 hn hk
  go_enter Try.func31, Try.ntmps31
  go_wp2_with fail
  go_loopw [6] (fun iv wr => ∃ i : Nat, i ≤ A.length ∧ iv = .int .i64 (i : Int) ∧ wr = w) (fun iv _ => A.length - (RowKit.intOf iv).toNat)
  case atStart => exact ⟨0, by omega, rfl, rfl⟩
  case round =>
  obtain ⟨i, hi, rfl, rfl⟩ := hrel
  rename World => w
  have HI := hidb hi
  clear hi
  by_cases hia : i < A.length
  · obtain ⟨y, hy⟩ : ∃ y, A[i]? = some y := ⟨_, List.getElem?_eq_getElem hia⟩
    have hyk : (A ++ B)[i]? = some y := by rw [List.getElem?_append_left hia, hy]
    obtain ⟨g, c, he, hc, -, -⟩ := row_get HO.out hyk
    obtain ⟨rfl, -, rfl⟩ : a1 = some ⟨g, 0, none⟩ ∧ n = n ∧ cp1 = c := by simpa using he
    have e1 : (i : Int) < (n : Int) := by have := HN.out; omega
    have e2 : (0 : Int) ≤ (i : Int) := by omega
    have e3 : y.2.a < key := by rw [(HK.out y (List.mem_append_left _ (List.mem_of_getElem? hy)))]; exact HA.out y (List.mem_of_getElem? hy)
    have HE : Hid (wrap64 ((i : Int) + 1) = ((i + 1 : Nat) : Int)) := hidb (by have := HN.out; unfold wrap64; omega)
    clear he hyk hy
    go_wp2_with fail
    go_roundw
    case rel => exact ⟨i + 1, by omega, by rw [HE.out], trivial⟩
    case measure =>
      rw [HE.out]
      simp only [RowKit.intOf, Int.toNat_natCast]
      omega
  · obtain rfl : i = A.length := by have := HI.out; omega
    have e2 : (0 : Int) ≤ (A.length : Int) := by omega
    cases B with
    | nil =>
      have e1 : ¬ (A.length : Int) < (n : Int) := by have := HN.out; simp at this; omega
      clear hia
      go_wp2_with fail
      have e4 : decide (A.length < n) = false := by have := HN.out; simp at this ⊢; omega
      go_big_quiet (fail)
      go_wp2_with fail
      go_ret2
      exact ⟨rfl, below_drewN (Below.refl _ _) _⟩
    | cons y r =>
      have hyk : (A ++ y :: r)[A.length]? = some y := by simp
      obtain ⟨g, c, he, hc, -, -⟩ := row_get HO.out hyk
      obtain ⟨rfl, -, rfl⟩ : a1 = some ⟨g, 0, none⟩ ∧ n = n ∧ cp1 = c := by simpa using he
      have e1 : (A.length : Int) < (n : Int) := by have := HN.out; simp at this; omega
      have hya : y.2.a = y.1 := HK.out y (by simp)
      rw [hya] at hc
      have e3 : ¬ y.1 < key := by have := HB.out y (by simp); omega
      clear he hyk hia hya
      go_wp2_with fail
      have e4 : decide (A.length < n) = true := by have := HN.out; simp at this ⊢; omega
      go_big_quiet (fail)
      go_wp2_with fail
      go_ret2
      exact ⟨rfl, below_drewN (Below.refl _ _) _⟩

end MV
end Go.Proofs.Ytmnglaeaicicnaa
