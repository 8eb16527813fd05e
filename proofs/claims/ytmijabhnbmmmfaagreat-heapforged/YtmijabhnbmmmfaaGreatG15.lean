import Derived.Test.YtmijabhnbmmmfaaGreatG14
import Derived.Maps.OwnSet
import Derived.Maps.AppendAt
import Derived.OwnWalk
import Derived.LoopTactic
import Derived.Shelf.LaysM
import Derived.Shelf.Strconv.Clone
import Derived.Test.YtmijabhnbmmmfaaGreatProg
/- Atoms: which texts a table has, by their numbers; where it lies in memory, and what stays. -/
namespace Go.Proofs.YtmijabhnbmmmfaaGreat
open Go.RowKit Go.Maps

def eqT (a b : ByteArray) : Bool := a.toList == b.toList
theorem eqT_iff {a b : ByteArray} : eqT a b = true ↔ a = b := by
  unfold eqT
  rw [ByteArray.toList_eq, ByteArray.toList_eq, beq_iff_eq]
  constructor
  · intro h
    apply ByteArray.ext
    exact Array.toList_inj.1 h
  · intro h; rw [h]
theorem eqT_self (a : ByteArray) : eqT a a = true := eqT_iff.2 rfl
theorem eqT_comm (a b : ByteArray) : eqT a b = eqT b a := by
  cases h : eqT a b
  · cases h' : eqT b a
    · rfl
    · rw [eqT_iff.1 h', eqT_self] at h; cases h
  · rw [eqT_iff.1 h, eqT_self]

def inL (L : List ByteArray) (s : ByteArray) : Bool := L.any fun x => eqT x s
def pos (L : List ByteArray) (s : ByteArray) : Nat := L.findIdx fun x => eqT x s
def longB (s : ByteArray) : Bool := decide (64 < s.size)
def stepL (L : List ByteArray) (s : ByteArray) : List ByteArray := if longB s || inL L s then L else L ++ [s]
def numN (L : List ByteArray) (s : ByteArray) : Int := if longB s then 0 else (pos L s : Int)
def numE (s : ByteArray) : Int := if longB s then 3 else 0

theorem inL_iff {L : List ByteArray} {s : ByteArray} : inL L s = true ↔ s ∈ L := by
  unfold inL
  rw [List.any_eq_true]
  constructor
  · rintro ⟨x, hx, e⟩; rw [← eqT_iff.1 e]; exact hx
  · intro h; exact ⟨s, h, eqT_self s⟩
theorem pos_le (L : List ByteArray) (s : ByteArray) : pos L s ≤ L.length := List.findIdx_le_length
theorem pos_lt {L : List ByteArray} {s : ByteArray} (h : inL L s = true) : pos L s < L.length := by
  unfold inL at h
  exact List.findIdx_lt_length.2 (by simpa [List.any_eq_true] using h)
theorem pos_none {L : List ByteArray} {s : ByteArray} (h : inL L s = false) : pos L s = L.length := by
  unfold inL at h
  exact List.findIdx_eq_length.2 (by simpa [List.any_eq_false] using h)
theorem pos_at {L : List ByteArray} {s : ByteArray} (h : inL L s = true) : L[pos L s]? = some s := by
  have hl := pos_lt h
  rw [List.getElem?_eq_getElem hl]
  have := List.findIdx_getElem (p := fun x => eqT x s) (xs := L) (w := hl)
  exact congrArg some (eqT_iff.1 this)
theorem inL_snoc (L : List ByteArray) (s t : ByteArray) : inL (L ++ [s]) t = (inL L t || eqT s t) := by simp [inL]
theorem pos_snoc_old {L : List ByteArray} {s t : ByteArray} (h : inL L t = true) : pos (L ++ [s]) t = pos L t := by
  have hl := pos_lt h
  unfold pos at *
  rw [List.findIdx_append, if_pos hl]
theorem pos_snoc_new {L : List ByteArray} {s : ByteArray} (h : inL L s = false) : pos (L ++ [s]) s = L.length := by
  have hl := pos_none h
  unfold pos at *
  rw [List.findIdx_append, if_neg (by omega)]
  simp [List.findIdx_cons, eqT_self]
theorem stepL_len (L : List ByteArray) (s : ByteArray) : (stepL L s).length ≤ L.length + 1 := by
  unfold stepL; split <;> simp

/-- what the program's map says of the texts -/
def MapIs (D : DataW Unit) (L : List ByteArray) : Prop := ∀ s : ByteArray, Maps.has D (.string s.data.toList) = inL L s ∧ (inL L s = true → D.atKey (.string s.data.toList) (.lit (.int .i64 0)) = .lit (.int .i64 (pos L s : Int)))
theorem mapIs_nil : MapIs (.map []) [] := fun _ => ⟨rfl, fun h => by cases h⟩
theorem key_str (s : ByteArray) : WideAt.IsKeyLit (.string s.data.toList) := by trivial
theorem mapIs_put {D : DataW Unit} {L : List ByteArray} {s : ByteArray} (hD : IsMap D) (h : MapIs D L) (hs : inL L s = false) : MapIs (D.put (.string s.data.toList) (.lit (.int .i64 (L.length : Int)))) (L ++ [s]) := by
  intro t
  by_cases e : t = s
  · subst e
    refine ⟨?_, fun _ => ?_⟩
    · rw [has_put_same hD (key_str t), inL_snoc, eqT_self, Bool.or_true]
    · rw [atKey_put_same hD (key_str t), pos_snoc_new hs]
  · have hne : Lit.string t.data.toList ≠ .string s.data.toList := by
      intro h
      injection h with h
      exact e (ByteArray.ext (Array.toList_inj.1 h))
    have hts : eqT s t = false := by
      cases h : eqT s t
      · rfl
      · exact absurd (eqT_iff.1 h).symm e
    obtain ⟨h1, h2⟩ := h t
    refine ⟨?_, fun hin => ?_⟩
    · rw [has_put_other hne, h1, inL_snoc, hts, Bool.or_false]
    · rw [inL_snoc, hts, Bool.or_false] at hin
      rw [atKey_put_other hne, h2 hin, pos_snoc_old hin]

/-- of w's blocks all but those of F are in w' as they were -/
structure Kept (F : List Nat) (w w' : World) : Prop where
  os : w'.os = w.os
  tape : w'.tape = w.tape
  output : w'.output = w.output
  size : w.heap.size ≤ w'.heap.size
  block : ∀ k, k < w.heap.size → k ∉ F → w'.heap[k]? = w.heap[k]?
theorem Kept.refl (F : List Nat) (w : World) : Kept F w w := ⟨rfl, rfl, rfl, Nat.le_refl _, fun _ _ _ => rfl⟩
theorem Kept.trans {F : List Nat} {a b c : World} (h : Kept F a b) (k : Kept F b c) : Kept F a c :=
  ⟨k.os.trans h.os, k.tape.trans h.tape, k.output.trans h.output, Nat.le_trans h.size k.size, fun i hi hF => (k.block i (Nat.lt_of_lt_of_le hi h.size) hF).trans (h.block i hi hF)⟩
theorem Kept.mono {F G : List Nat} {a b : World} (h : Kept F a b) (hs : ∀ k, k ∈ F → k < a.heap.size → k ∈ G) : Kept G a b :=
  ⟨h.os, h.tape, h.output, h.size, fun i hi hG => h.block i hi (fun hF => hG (hs i hF hi))⟩
theorem Kept.of_below {F : List Nat} {a b : World} (h : Below a.heap.size a b) : Kept F a b :=
  ⟨h.os, h.tape, h.output, h.size, fun i hi _ => h.block i hi⟩
theorem Kept.of_grown {F : List Nat} {a b : World} {row : Option Nat} (h : a.grownBy b row) (hr : ∀ k, row = some k → k < a.heap.size → k ∈ F) : Kept F a b :=
  ⟨h.os, h.tape, h.output, h.size, fun i hi hF => h.block i hi (fun e => hF (hr i e.symm hi))⟩
theorem Kept.set {F : List Nat} {a : World} (ad : Addr) (v : Value) (h : ad.block ∈ F) : Kept F a (a.setCell ad v) :=
  ⟨rfl, rfl, rfl, by simp, fun i _ hF => Below.heap_setCell _ _ _ _ (fun e => hF (e ▸ h))⟩
theorem Kept.below {F : List Nat} {n : Nat} {w0 a b : World} (h : Kept F a b) (h0 : Below n w0 a) (hn : n ≤ w0.heap.size) (hF : ∀ k, k ∈ F → n ≤ k) : Below n w0 b :=
  ⟨h.os.trans h0.os, h.tape.trans h0.tape, h.output.trans h0.output, Nat.le_trans h0.size h.size, fun k hk => (h.block k (by have := h0.size; omega) (fun e => by have := hF k e; omega)).trans (h0.block k hk)⟩
end Go.Proofs.YtmijabhnbmmmfaaGreat


/- Contracts of the library (Mul64, FormatInt at base 10, Repeat), laid at this program by the kit's own tool, in plain words. -/
namespace Go.Proofs
open Go.Shelf
def Tryz.laysM316_ren : Go.Shelf.Ren := ⟨fun | 316 => 112 | n => n, fun | 9 => 9 | 3 => 3 | 4 => 4 | 37 => 211 | 0 => 0 | 127 => 212 | 5 => 5 | n => n, fun | n => n⟩
theorem Tryz.laysM316 : Go.Proofs.LaysM.n316 Tryz.prog Tryz.laysM316_ren := {
  mixed := by kernel_rfl
  f316 := Tryz.func112.trans (congrArg some (by kernel_rfl))
  t0 := Tryz.underlying0
  a0 := Tryz.isAgg0
  z0 := Tryz.sizeOf0
  v0 := Tryz.zeroValue0
  t3 := Tryz.underlying3
  a3 := Tryz.isAgg3
  z3 := Tryz.sizeOf3
  v3 := Tryz.zeroValue3
  t4 := Tryz.underlying4
  a4 := Tryz.isAgg4
  z4 := Tryz.sizeOf4
  v4 := Tryz.zeroValue4
  t9 := Tryz.underlying9
  a9 := Tryz.isAgg9
  z9 := Tryz.sizeOf9
  v9 := Tryz.zeroValue9
  t37 := Tryz.underlying211
  a37 := Tryz.isAgg211
  z37 := Tryz.sizeOf211
  v37 := Tryz.zeroValue211
  t127 := Tryz.underlying212
  a127 := Tryz.isAgg212
  z127 := Tryz.sizeOf212
  v127 := Tryz.zeroValue212
  t5 := Tryz.underlying5
  a5 := Tryz.isAgg5
  z5 := Tryz.sizeOf5
  v5 := Tryz.zeroValue5
  i0 := by kernel_rfl
  i3 := by kernel_rfl
  i4 := by kernel_rfl
  i5 := by kernel_rfl
  i9 := by kernel_rfl
  i37 := by kernel_rfl
  i127 := by kernel_rfl }
open Go.RowKit in
theorem Tryz.stringslite_Clone (s : ByteArray) (w : World) (hlim : s.size ≤ 281474976710656) :
    Calls Tryz.prog 112 #[.string s] w fun e w' => e = .returned (.string s) ∧ Below w.heap.size w w' := Any.stringslite_Clone Tryz.laysM316 s w hlim
end Go.Proofs


