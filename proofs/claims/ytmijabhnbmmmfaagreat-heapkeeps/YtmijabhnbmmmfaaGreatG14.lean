import Derived.Test.YtmijabhnbmmmfaaGreatG13
import Derived.Maps.OwnSet
import Derived.Maps.AppendAt
import Derived.OwnWalk
import Derived.LoopTactic
/- Contracts of words: a word taken as a header, by the program and by the document. -/
namespace Go.Proofs.YtmijabhnbmmmfaaGreat
open Go.RowKit

def isB (u : Int) : Bool := decide (u % 16 = 7) && hdB (u / 16 % 16) && szB (u / 256)
def hkI (u : Int) : Int := if isB u then u / 16 % 16 else 0
def hsI (u : Int) : Int := if isB u then u / 256 else 0

theorem isB_made {u : Int} : isB u = true ↔ (hdE (bodyI u % 16) (bodyI u / 16) = 0 ∧ hdW (bodyI u % 16) (bodyI u / 16) = u) := by
  by_cases h7 : u % 16 = 7
  · have hb : bodyI u = u / 16 := by unfold bodyI; split <;> omega
    have h2 : u / 16 / 16 = u / 256 := by omega
    rw [hb, h2]
    cases hk : hdB (u / 16 % 16) <;> cases hs : szB (u / 256) <;> simp [isB, h7, hdE, hdW, hk, hs]
    omega
  · have hn : isB u = false := by simp [isB, h7]
    rw [hn]
    constructor
    · intro h; cases h
    · rintro ⟨h1, h2⟩
      exfalso
      revert h1 h2
      generalize bodyI u % 16 = k
      generalize bodyI u / 16 = s
      cases hk : hdB k <;> cases hs : szB s <;> simp [hdE, hdW, hk, hs]
      omega

theorem whead_any (u : Int) (h0 : 0 ≤ u) (h1 : u ≤ 18446744073709551615) (w : World) : Calls Tryz.prog 86 #[.int .u64 u] w fun e w' => e = .returned (.tuple #[.int .i64 (hkI u), .int .i64 (hsI u), .bool (isB u)]) ∧ w' = w := by
  have a1 := i64_and15 (bodyI u)
  cases hi : isB u
  · have hk : hkI u = 0 := by simp [hkI, hi]
    have hs : hsI u = 0 := by simp [hsI, hi]
    rw [hk, hs]
    have hn : ¬ (hdE (bodyI u % 16) (bodyI u / 16) = 0 ∧ hdW (bodyI u % 16) (bodyI u / 16) = u) := fun h => by rw [isB_made.2 h] at hi; cases hi
    by_cases hE : hdE (bodyI u % 16) (bodyI u / 16) = 0
    · have hW : (hdW (bodyI u % 16) (bodyI u / 16) != u) = true := by simpa using fun h => hn ⟨hE, h⟩
      clear hk hs hn
      go_enter Tryz.func86, Tryz.ntmps86
      go_wp2_with (first | (go_at_call 78; refine (body_any u h0 h1 _).mono ?_; rintro e w' ⟨rfl, rfl⟩) | (go_at_call 91; refine (header_any _ _ _).mono ?_; rintro e w' ⟨rfl, rfl⟩))
      refine bodyPost_ret (v := .tuple #[.int .i64 0, .int .i64 0, .bool false]) ?_ rfl ⟨rfl, rfl⟩
      simp [results, Tryz.results86, go_sem]
    · have hE' : (hdE (bodyI u % 16) (bodyI u / 16) != 0) = true := by simpa using hE
      clear hk hs hn
      go_enter Tryz.func86, Tryz.ntmps86
      go_wp2_with (first | (go_at_call 78; refine (body_any u h0 h1 _).mono ?_; rintro e w' ⟨rfl, rfl⟩) | (go_at_call 91; refine (header_any _ _ _).mono ?_; rintro e w' ⟨rfl, rfl⟩))
      refine bodyPost_ret (v := .tuple #[.int .i64 0, .int .i64 0, .bool false]) ?_ rfl ⟨rfl, rfl⟩
      simp [results, Tryz.results86, go_sem]
  · have h7 : u % 16 = 7 := by simp [isB] at hi; exact hi.1.1
    have hb : bodyI u = u / 16 := by unfold bodyI; split <;> omega
    have hk : hkI u = bodyI u % 16 := by simp [hkI, hi, hb]
    have hs : hsI u = bodyI u / 16 := by simp [hsI, hi, hb]; omega
    obtain ⟨hE, hW⟩ := isB_made.1 hi
    rw [hk, hs]
    clear hk hs hb h7 hi
    go_enter Tryz.func86, Tryz.ntmps86
    go_wp2_with (first | (go_at_call 78; refine (body_any u h0 h1 _).mono ?_; rintro e w' ⟨rfl, rfl⟩) | (go_at_call 91; refine (header_any _ _ _).mono ?_; rintro e w' ⟨rfl, rfl⟩))
    refine bodyPost_ret (v := .tuple #[.int .i64 (bodyI u % 16), .int .i64 (bodyI u / 16), .bool true]) ?_ rfl ⟨rfl, rfl⟩
    simp [results, Tryz.results86, go_sem]

theorem rhead_any (u : Int) (h0 : 0 ≤ u) (h1 : u ≤ 18446744073709551615) (w : World) : Calls Tryz.prog 76 #[.int .u64 u] w fun e w' => e = .returned (.tuple #[.int .i64 (hkI u), .int .i64 (hsI u), .bool (isB u)]) ∧ w' = w := by
  by_cases h7 : u % 16 = 7
  · have t7 : tagI u = 7 := h7
    have hb : bodyI u = u / 16 := by unfold bodyI; split <;> omega
    have hb0 : 0 ≤ bodyI u := by omega
    by_cases hg : bodyI u > 1048591
    · have hi : isB u = false := by
        have : szB (u / 256) = false := by simp [szB]; omega
        simp [isB, this]
      have hk : hkI u = 0 := by simp [hkI, hi]
      have hs : hsI u = 0 := by simp [hsI, hi]
      rw [hk, hs, hi]
      clear hk hs hi
      go_enter Tryz.func76, Tryz.ntmps76
      go_wp2_with (first | (go_at_call 70; refine (rtag_any u h0 h1 _).mono ?_; rintro e w' ⟨rfl, rfl⟩; rw [t7]) | (go_at_call 69; refine (rbody_any u h0 h1 _).mono ?_; rintro e w' ⟨rfl, rfl⟩))
      refine bodyPost_ret (v := .tuple #[.int .i64 0, .int .i64 0, .bool false]) ?_ rfl ⟨rfl, rfl⟩
      simp [results, Tryz.results76, go_sem]
    · have q1 : (bodyI u).tmod 16 = bodyI u % 16 := Int.tmod_eq_emod_of_nonneg hb0
      have q2 : (bodyI u).tdiv 16 = bodyI u / 16 := Int.tdiv_eq_ediv_of_nonneg hb0
      cases hi : isB u
      · have hk : hkI u = 0 := by simp [hkI, hi]
        have hs : hsI u = 0 := by simp [hsI, hi]
        rw [hk, hs]
        have hn : ¬ (hdE (bodyI u % 16) (bodyI u / 16) = 0 ∧ hdW (bodyI u % 16) (bodyI u / 16) = u) := fun h => by rw [isB_made.2 h] at hi; cases hi
        by_cases hE : hdE (bodyI u % 16) (bodyI u / 16) = 0
        · have hW : (hdW (bodyI u % 16) (bodyI u / 16) != u) = true := by simpa using fun h => hn ⟨hE, h⟩
          clear hk hs hn hb h7
          go_enter Tryz.func76, Tryz.ntmps76
          go_wp2_with (first | (go_at_call 70; refine (rtag_any u h0 h1 _).mono ?_; rintro e w' ⟨rfl, rfl⟩; rw [t7]) | (go_at_call 69; refine (rbody_any u h0 h1 _).mono ?_; rintro e w' ⟨rfl, rfl⟩) | (go_at_call 66; refine (rheader_any _ _ _).mono ?_; rintro e w' ⟨rfl, rfl⟩))
          refine bodyPost_ret (v := .tuple #[.int .i64 0, .int .i64 0, .bool false]) ?_ rfl ⟨rfl, rfl⟩
          simp [results, Tryz.results76, go_sem]
        · have hE' : (hdE (bodyI u % 16) (bodyI u / 16) != 0) = true := by simpa using hE
          clear hk hs hn hb h7
          go_enter Tryz.func76, Tryz.ntmps76
          go_wp2_with (first | (go_at_call 70; refine (rtag_any u h0 h1 _).mono ?_; rintro e w' ⟨rfl, rfl⟩; rw [t7]) | (go_at_call 69; refine (rbody_any u h0 h1 _).mono ?_; rintro e w' ⟨rfl, rfl⟩) | (go_at_call 66; refine (rheader_any _ _ _).mono ?_; rintro e w' ⟨rfl, rfl⟩))
          refine bodyPost_ret (v := .tuple #[.int .i64 0, .int .i64 0, .bool false]) ?_ rfl ⟨rfl, rfl⟩
          simp [results, Tryz.results76, go_sem]
      · have hk : hkI u = bodyI u % 16 := by simp [hkI, hi, hb]
        have hs : hsI u = bodyI u / 16 := by simp [hsI, hi, hb]; omega
        obtain ⟨hE, hW⟩ := isB_made.1 hi
        rw [hk, hs]
        clear hk hs hb h7 hi
        go_enter Tryz.func76, Tryz.ntmps76
        go_wp2_with (first | (go_at_call 70; refine (rtag_any u h0 h1 _).mono ?_; rintro e w' ⟨rfl, rfl⟩; rw [t7]) | (go_at_call 69; refine (rbody_any u h0 h1 _).mono ?_; rintro e w' ⟨rfl, rfl⟩) | (go_at_call 66; refine (rheader_any _ _ _).mono ?_; rintro e w' ⟨rfl, rfl⟩))
        refine bodyPost_ret (v := .tuple #[.int .i64 (bodyI u % 16), .int .i64 (bodyI u / 16), .bool true]) ?_ rfl ⟨rfl, rfl⟩
        simp [results, Tryz.results76, go_sem]
  · have t7 : (tagI u != 7) = true := by simpa [tagI] using h7
    have hi : isB u = false := by simp [isB, h7]
    have hk : hkI u = 0 := by simp [hkI, hi]
    have hs : hsI u = 0 := by simp [hsI, hi]
    rw [hk, hs, hi]
    clear hk hs hi
    go_enter Tryz.func76, Tryz.ntmps76
    go_wp2_with (first | (go_at_call 70; refine (rtag_any u h0 h1 _).mono ?_; rintro e w' ⟨rfl, rfl⟩))
    refine bodyPost_ret (v := .tuple #[.int .i64 0, .int .i64 0, .bool false]) ?_ rfl ⟨rfl, rfl⟩
    simp [results, Tryz.results76, go_sem]
end Go.Proofs.YtmijabhnbmmmfaaGreat


/- Atoms: which texts a table has, by their numbers; where it lies in memory, and what stays. -/
namespace Go.Proofs.YtmijabhnbmmmfaaGreat
open Go.RowKit Go.Maps

def eqT (a b : ByteArray) : Bool := a.toList == b.toList
theorem eqT_iff {a b : ByteArray} : eqT a b = true ↔ a = b := by
  unfold eqT
  rw [ByteArray.toList_eq, ByteArray.toList_eq, beq_iff_eq]
  constructor
  · intro h
    apply ByteArray.ext
    exact Array.toList_inj.1 h
  · intro h; rw [h]
theorem eqT_self (a : ByteArray) : eqT a a = true := eqT_iff.2 rfl
theorem eqT_comm (a b : ByteArray) : eqT a b = eqT b a := by
  cases h : eqT a b
  · cases h' : eqT b a
    · rfl
    · rw [eqT_iff.1 h', eqT_self] at h; cases h
  · rw [eqT_iff.1 h, eqT_self]

def inL (L : List ByteArray) (s : ByteArray) : Bool := L.any fun x => eqT x s
def pos (L : List ByteArray) (s : ByteArray) : Nat := L.findIdx fun x => eqT x s
def longB (s : ByteArray) : Bool := decide (64 < s.size)
def stepL (L : List ByteArray) (s : ByteArray) : List ByteArray := if longB s || inL L s then L else L ++ [s]
def numN (L : List ByteArray) (s : ByteArray) : Int := if longB s then 0 else (pos L s : Int)
def numE (s : ByteArray) : Int := if longB s then 3 else 0

theorem inL_iff {L : List ByteArray} {s : ByteArray} : inL L s = true ↔ s ∈ L := by
  unfold inL
  rw [List.any_eq_true]
  constructor
  · rintro ⟨x, hx, e⟩; rw [← eqT_iff.1 e]; exact hx
  · intro h; exact ⟨s, h, eqT_self s⟩
theorem pos_le (L : List ByteArray) (s : ByteArray) : pos L s ≤ L.length := List.findIdx_le_length
theorem pos_lt {L : List ByteArray} {s : ByteArray} (h : inL L s = true) : pos L s < L.length := by
  unfold inL at h
  exact List.findIdx_lt_length.2 (by simpa [List.any_eq_true] using h)
theorem pos_none {L : List ByteArray} {s : ByteArray} (h : inL L s = false) : pos L s = L.length := by
  unfold inL at h
  exact List.findIdx_eq_length.2 (by simpa [List.any_eq_false] using h)
theorem pos_at {L : List ByteArray} {s : ByteArray} (h : inL L s = true) : L[pos L s]? = some s := by
  have hl := pos_lt h
  rw [List.getElem?_eq_getElem hl]
  have := List.findIdx_getElem (p := fun x => eqT x s) (xs := L) (w := hl)
  exact congrArg some (eqT_iff.1 this)
theorem inL_snoc (L : List ByteArray) (s t : ByteArray) : inL (L ++ [s]) t = (inL L t || eqT s t) := by simp [inL]
theorem pos_snoc_old {L : List ByteArray} {s t : ByteArray} (h : inL L t = true) : pos (L ++ [s]) t = pos L t := by
  have hl := pos_lt h
  unfold pos at *
  rw [List.findIdx_append, if_pos hl]
theorem pos_snoc_new {L : List ByteArray} {s : ByteArray} (h : inL L s = false) : pos (L ++ [s]) s = L.length := by
  have hl := pos_none h
  unfold pos at *
  rw [List.findIdx_append, if_neg (by omega)]
  simp [List.findIdx_cons, eqT_self]
theorem stepL_len (L : List ByteArray) (s : ByteArray) : (stepL L s).length ≤ L.length + 1 := by
  unfold stepL; split <;> simp

/-- what the program's map says of the texts -/
def MapIs (D : DataW Unit) (L : List ByteArray) : Prop := ∀ s : ByteArray, Maps.has D (.string s.data.toList) = inL L s ∧ (inL L s = true → D.atKey (.string s.data.toList) (.lit (.int .i64 0)) = .lit (.int .i64 (pos L s : Int)))
theorem mapIs_nil : MapIs (.map []) [] := fun _ => ⟨rfl, fun h => by cases h⟩
theorem key_str (s : ByteArray) : WideAt.IsKeyLit (.string s.data.toList) := by trivial
theorem mapIs_put {D : DataW Unit} {L : List ByteArray} {s : ByteArray} (hD : IsMap D) (h : MapIs D L) (hs : inL L s = false) : MapIs (D.put (.string s.data.toList) (.lit (.int .i64 (L.length : Int)))) (L ++ [s]) := by
  intro t
  by_cases e : t = s
  · subst e
    refine ⟨?_, fun _ => ?_⟩
    · rw [has_put_same hD (key_str t), inL_snoc, eqT_self, Bool.or_true]
    · rw [atKey_put_same hD (key_str t), pos_snoc_new hs]
  · have hne : Lit.string t.data.toList ≠ .string s.data.toList := by
      intro h
      injection h with h
      exact e (ByteArray.ext (Array.toList_inj.1 h))
    have hts : eqT s t = false := by
      cases h : eqT s t
      · rfl
      · exact absurd (eqT_iff.1 h).symm e
    obtain ⟨h1, h2⟩ := h t
    refine ⟨?_, fun hin => ?_⟩
    · rw [has_put_other hne, h1, inL_snoc, hts, Bool.or_false]
    · rw [inL_snoc, hts, Bool.or_false] at hin
      rw [atKey_put_other hne, h2 hin, pos_snoc_old hin]

/-- of w's blocks all but those of F are in w' as they were -/
structure Kept (F : List Nat) (w w' : World) : Prop where
  os : w'.os = w.os
  tape : w'.tape = w.tape
  output : w'.output = w.output
  size : w.heap.size ≤ w'.heap.size
  block : ∀ k, k < w.heap.size → k ∉ F → w'.heap[k]? = w.heap[k]?
theorem Kept.refl (F : List Nat) (w : World) : Kept F w w := ⟨rfl, rfl, rfl, Nat.le_refl _, fun _ _ _ => rfl⟩
theorem Kept.trans {F : List Nat} {a b c : World} (h : Kept F a b) (k : Kept F b c) : Kept F a c :=
  ⟨k.os.trans h.os, k.tape.trans h.tape, k.output.trans h.output, Nat.le_trans h.size k.size, fun i hi hF => (k.block i (Nat.lt_of_lt_of_le hi h.size) hF).trans (h.block i hi hF)⟩
theorem Kept.mono {F G : List Nat} {a b : World} (h : Kept F a b) (hs : ∀ k, k ∈ F → k < a.heap.size → k ∈ G) : Kept G a b :=
  ⟨h.os, h.tape, h.output, h.size, fun i hi hG => h.block i hi (fun hF => hG (hs i hF hi))⟩
theorem Kept.of_below {F : List Nat} {a b : World} (h : Below a.heap.size a b) : Kept F a b :=
  ⟨h.os, h.tape, h.output, h.size, fun i hi _ => h.block i hi⟩
theorem Kept.of_grown {F : List Nat} {a b : World} {row : Option Nat} (h : a.grownBy b row) (hr : ∀ k, row = some k → k < a.heap.size → k ∈ F) : Kept F a b :=
  ⟨h.os, h.tape, h.output, h.size, fun i hi hF => h.block i hi (fun e => hF (hr i e.symm hi))⟩
theorem Kept.set {F : List Nat} {a : World} (ad : Addr) (v : Value) (h : ad.block ∈ F) : Kept F a (a.setCell ad v) :=
  ⟨rfl, rfl, rfl, by simp, fun i _ hF => Below.heap_setCell _ _ _ _ (fun e => hF (e ▸ h))⟩
theorem Kept.below {F : List Nat} {n : Nat} {w0 a b : World} (h : Kept F a b) (h0 : Below n w0 a) (hn : n ≤ w0.heap.size) (hF : ∀ k, k ∈ F → n ≤ k) : Below n w0 b :=
  ⟨h.os.trans h0.os, h.tape.trans h0.tape, h.output.trans h0.output, Nat.le_trans h0.size h.size, fun k hk => (h.block k (by have := h0.size; omega) (fun e => by have := hF k e; omega)).trans (h0.block k hk)⟩
end Go.Proofs.YtmijabhnbmmmfaaGreat


