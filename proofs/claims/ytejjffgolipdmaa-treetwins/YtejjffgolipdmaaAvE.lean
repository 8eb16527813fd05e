/- The document's tree (ref13.Tree): two rows; find, Get, From. -/
import Derived.Test.YtejjffgolipdmaaAvR
import Derived.Lib.QuietBelow
namespace Go.Proofs.Ytejjffgolipdmaa
open Go.RowKit Go.Lib
attribute [local go_sem ↓] Go.wp_at_zero Go.wp_at_succ

abbrev keysOf (L : List KV) : List Int := L.map (fun x => x.1)
abbrev valsOf (L : List KV) : List Int := L.map (fun x => x.2)

/-- The document's tree at rb: its two rows lie in blocks of E. -/
def RB (w : World) (rb : Nat) (E : Nat → Prop) (L : List KV) : Prop :=
  ∃ V1 V2, Duo w rb V1 V2 ∧ w.ownsRow 0 IT 1 V1 L.length (ivs (keysOf L)) ∧ w.ownsRow 0 IT 1 V2 L.length (ivs (valsOf L)) ∧
    (∀ g, V1.ownBlock = some g → E g ∧ g ≠ rb ∧ V2.ownBlock ≠ some g) ∧ (∀ g, V2.ownBlock = some g → E g ∧ g ≠ rb)

theorem RB.but {S E : Nat → Prop} {w w' : World} {rb : Nat} {L : List KV} (h : RB w rb E L) (hb : But S w w') (hr : ¬ S rb) (he : ∀ k, E k → ¬ S k) : RB w' rb E L := by
  obtain ⟨V1, V2, h1, h2, h3, h4, h5⟩ := h
  exact ⟨V1, V2, h1.but hb hr, row_but h2 hb (fun g e => he g (h4 g e).1), row_but h3 hb (fun g e => he g (h5 g e).1), h4, h5⟩
theorem RB.keep {E : Nat → Prop} {w w' : World} {rb : Nat} {L : List KV} (h : RB w rb E L) (hb : Below w.heap.size w w') : RB w' rb E L := h.but (S := fun _ => False) (But.of_below hb) id (fun _ _ h => h)
theorem RB.lt {E : Nat → Prop} {w : World} {rb : Nat} {L : List KV} (h : RB w rb E L) : rb < w.heap.size := by obtain ⟨_, _, h, _⟩ := h; exact h.lt
theorem RB.mono {E E' : Nat → Prop} {w : World} {rb : Nat} {L : List KV} (h : RB w rb E L) (he : ∀ k, k < w.heap.size → E k → E' k) : RB w rb E' L := by
  obtain ⟨V1, V2, h1, h2, h3, h4, h5⟩ := h
  exact ⟨V1, V2, h1, h2, h3, fun g e => ⟨he g (h2.lt g e).2 (h4 g e).1, (h4 g e).2⟩, fun g e => ⟨he g (h3.lt g e).2 (h5 g e).1, (h5 g e).2⟩⟩

theorem row_get {w : World} {B n : Nat} {v : Value} {l : List Int} (h : w.ownsRow B IT 1 v n (ivs l)) {j : Nat} {x : Int} (hj : l[j]? = some x) : ∃ g c, v = .slice (some ⟨g, 0, none⟩) n c ∧ w.cell? ⟨g, j, none⟩ = some (.int .i64 x) := by
  have hl : n = l.length := by have := h.1; rw [ivs_length] at this; omega
  rcases h.2 with ⟨rfl, h0⟩ | ⟨g, cap, cur, rfl, _⟩
  · have := (List.getElem?_eq_some_iff.1 hj).1; omega
  · exact ⟨g, cap, rfl, by rw [h.cellAt j (by have := (List.getElem?_eq_some_iff.1 hj).1; omega)]; exact ivs_get hj⟩

/-- Is a key the first of a row? -/
def hdB (key : Int) : List KV → Bool
  | [] => false
  | x :: _ => x.1 == key

theorem getL_hd {key : Int} {A B : List KV} (h : Rise (A ++ B)) (h1 : ∀ x ∈ A, x.1 < key) (h2 : ∀ x ∈ B, key ≤ x.1) : (getL key (A ++ B)).isSome = hdB key B := by
  rw [getL_split h h1 h2]
  cases B with
  | nil => rfl
  | cons x r => by_cases e : x.1 = key <;> simp [hdB, e]

set_option maxRecDepth 100000 in
set_option maxHeartbeats 4000000 in
theorem rfind_any {w : World} {rb : Nat} {E : Nat → Prop} {A B : List KV} (h : RB w rb E (A ++ B)) (hr : Rise (A ++ B)) (key : Int) (h1 : ∀ x ∈ A, x.1 < key) (h2 : ∀ x ∈ B, key ≤ x.1) (hN : (A ++ B).length ≤ 100000) :
    Calls Try.prog 24 #[.pointer (some ⟨rb, 0, none⟩), .int .i64 key] w fun e w' => e = .returned (.tuple #[.int .i64 (A.length : Int), .bool (getL key (A ++ B)).isSome]) ∧ Below w.heap.size w w' := by
  obtain ⟨V1, V2, hd, ho1, ho2, -, -⟩ := h
  rw [getL_hd hr h1 h2]
  obtain ⟨a1, cp1, rfl⟩ := own_sl ho1
  have HO := hidb ho1
  have k0 := hd.c0
  obtain ⟨n, hn⟩ : ∃ n, (A ++ B).length = n := ⟨_, rfl⟩
  rw [hn] at k0 HO
  have HN : Hid (n = A.length + B.length ∧ n ≤ 100000) := hidb (by simp at hn hN; omega)
  have HA := hidb h1
  have HB := hidb h2
  clear hd ho1 ho2 hr hN h1 h2 hn
  go_enter Try.func24, Try.ntmps24
  go_wp2_with fail
  go_loopw [6] (fun iv wr => ∃ i : Nat, i ≤ A.length ∧ iv = .int .i64 (i : Int) ∧ wr = w) (fun iv _ => A.length - (intOf iv).toNat)
  case atStart => exact ⟨0, by omega, rfl, rfl⟩
  case round =>
  obtain ⟨i, hi, rfl, rfl⟩ := hrel
  rename World => w
  have HI := hidb hi
  clear hi
  by_cases hia : i < A.length
  · obtain ⟨y, hy⟩ : ∃ y, A[i]? = some y := ⟨_, List.getElem?_eq_getElem hia⟩
    have hyk : (keysOf (A ++ B))[i]? = some y.1 := by rw [List.getElem?_map, List.getElem?_append_left hia, hy]; rfl
    obtain ⟨g, c, he, hc⟩ := row_get HO.out hyk
    obtain ⟨rfl, -, rfl⟩ : a1 = some ⟨g, 0, none⟩ ∧ n = n ∧ cp1 = c := by simpa using he
    have e1 : (i : Int) < (n : Int) := by have := HN.out; omega
    have e2 : (0 : Int) ≤ (i : Int) := by omega
    have e3 : y.1 < key := HA.out y (List.mem_of_getElem? hy)
    have HE : Hid (wrap64 ((i : Int) + 1) = ((i + 1 : Nat) : Int)) := hidb (by have := HN.out; unfold wrap64; omega)
    clear he hyk hy
    go_wp2_with fail
    go_roundw
    case rel => exact ⟨i + 1, by omega, by rw [HE.out], trivial⟩
    case measure =>
      rw [HE.out]
      simp only [RowKit.intOf, Int.toNat_natCast]
      omega
  · obtain rfl : i = A.length := by have := HI.out; omega
    have e2 : (0 : Int) ≤ (A.length : Int) := by omega
    cases B with
    | nil =>
      have e1 : ¬ (A.length : Int) < (n : Int) := by have := HN.out; simp at this; omega
      clear hia
      go_wp2_with fail
      have e4 : decide (A.length < n) = false := by have := HN.out; simp at this ⊢; omega
      go_big_quiet (fail)
      go_wp2_with fail
      go_ret2
      exact ⟨rfl, below_drewN (Below.refl _ _) _⟩
    | cons y r =>
      have hyk : (keysOf (A ++ y :: r))[A.length]? = some y.1 := by simp [keysOf]
      obtain ⟨g, c, he, hc⟩ := row_get HO.out hyk
      obtain ⟨rfl, -, rfl⟩ : a1 = some ⟨g, 0, none⟩ ∧ n = n ∧ cp1 = c := by simpa using he
      have e1 : (A.length : Int) < (n : Int) := by have := HN.out; simp at this; omega
      have e3 : ¬ y.1 < key := by have := HB.out y (by simp); omega
      clear he hyk hia
      go_wp2_with fail
      have e4 : decide (A.length < n) = true := by have := HN.out; simp at this ⊢; omega
      go_big_quiet (fail)
      go_wp2_with fail
      go_ret2
      exact ⟨rfl, below_drewN (Below.refl _ _) _⟩

/-- How many keys lie below one. -/
def cntB (key : Int) (L : List KV) : Nat := (L.filter (fun x => decide (x.1 < key))).length

theorem cnt_split {key : Int} {A B : List KV} (h1 : ∀ x ∈ A, x.1 < key) (h2 : ∀ x ∈ B, key ≤ x.1) : cntB key (A ++ B) = A.length := by
  unfold cntB
  rw [List.filter_append, filter_all (l := A) (fun x hx => by simpa using h1 x hx), filter_none (l := B) (fun x hx => by have := h2 x hx; simp; omega)]
  simp

end Go.Proofs.Ytejjffgolipdmaa
