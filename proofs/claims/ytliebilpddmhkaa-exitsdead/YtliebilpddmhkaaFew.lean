/- How many parts a term has, told by the statements' own count. -/
import Derived.Test.YtliebilpddmhkaaRows
import Derived.Test.YtliebilpddmhkaaTre2
import Derived.WalkKit
import Derived.WalkSpells
import Derived.WalkLawsBesides
import Derived.Lib.QuietBelow
namespace Go.Proofs.Ytliebilpddmhkaa
open Go.RowKit Go.Deep

mutual
def fewT : Tr → Int → Int → Int
  | .mk _ _ _ _ _ _ kids, left, deep => if left < 0 ∨ deep < 0 then -1 else fewAll kids (left - 1) (deep - 1)
def fewAll : List Tr → Int → Int → Int
  | [], left, _ => left
  | t :: r, left, deep => if left < 0 then left else fewAll r (fewT t left deep) deep
end

def Tr.val (t : Tr) : Value := .agg t.cells.toArray

def termType : TermType Try.prog 25 where
  f0 := _
  f1 := _
  f2 := _
  f3 := _
  f4 := _
  under := Try.underlying25
  size := by kernel_rfl
  o0 := rfl
  o1 := rfl
  o2 := rfl
  o3 := rfl
  o4 := rfl
  c0 := by kernel_rfl
  c1 := by kernel_rfl
  c2 := by kernel_rfl
  c3 := by kernel_rfl
  c4 := by kernel_rfl
  u0 := Try.underlying3
  u1 := Try.underlying2
  u2 := Try.underlying22
  u3 := Try.underlying9
  u4 := Try.underlying23

theorem fewT_le : ∀ t left deep, -1 ≤ left → -1 ≤ fewT t left deep ∧ (fewT t left deep ≤ left) := by
  refine Tr.ind fun k n f s a c kids hk => ?_
  have hall : ∀ left deep, -1 ≤ left → -1 ≤ fewAll kids left deep ∧ fewAll kids left deep ≤ left := by
    induction kids with
    | nil => intro left deep h; simp only [fewAll]; omega
    | cons t r ih =>
      intro left deep h
      simp only [fewAll]
      split
      · omega
      · have g := hk t (List.mem_cons_self ..) left deep h
        have q := ih (fun u hu => hk u (List.mem_cons_of_mem _ hu)) (fewT t left deep) deep g.1
        omega
  intro left deep h
  simp only [fewT]
  split
  · omega
  · have := hall (left - 1) (deep - 1) (by omega)
    omega
end Go.Proofs.Ytliebilpddmhkaa
