/- Lanes by their two ends: the keys of the map. -/
import Derived.Test.YtodelafnboimnaaGreatErS
import Derived.Maps.Own
import Derived.Maps.OwnOps
import Derived.Maps.OwnSet
import Derived.Maps.RangeWalk
import Derived.Maps.Views
import Derived.DeepKeys4
namespace Go.Proofs.YtodelafnboimnaaGreat
open Go.RowKit Go.Lib Go.Maps

abbrev KT : Nat := 75
abbrev MT : Nat := 64
abbrev RP : Nat := 79
abbrev ET : Nat := 66
theorem laidOut11 : laidOutB Tryz.prog = true := by kernel_rfl
theorem rowKT : (KT : TypeId) < Tryz.prog.types.size := of_decide_eq_true (by kernel_rfl)
theorem wideKT : (match Tryz.prog.underlying KT with | some (.array _ _) | some (.struct _) => true | _ => false) = true := by rw [Tryz.underlying75]
set_option maxRecDepth 100000 in
theorem lawK : Keyed Tryz.prog KT := Keyed.of_law (deep_law_laid laidOut11 (m := 2) (by omega) rowKT (by kernel_rfl) wideKT)
theorem formedK {c0 c1 : Value} : (Value.agg #[c0, c1]).formed Tryz.prog KT = true := by
  have : Tryz.prog.cellsOf KT = 2 := by kernel_rfl
  simp [Value.formed, Tryz.underlying75, this]

def kl (a b : Int) : Lit := .string (keyBytes [.int .i64 a, .int .i64 b])
def wfi (a : Int) : Prop := (Lit.int .i64 a).wf = true
abbrev kv (a b : Int) : Value := .agg #[.int .i64 a, .int .i64 b]

theorem keyK {a b : Int} (ha : wfi a) (hb : wfi b) : keyOf Tryz.prog KT (kv a b) = some (kl a b) := by
  have hk : Tryz.prog.keyType KT = true := by kernel_rfl
  have hc : Tryz.prog.cellsOf KT = 2 := by kernel_rfl
  have hi : Tryz.prog.cellsOf IT = 1 := by kernel_rfl
  have hs : Tryz.prog.types.size + 1 = (Tryz.prog.types.size - 1) + 1 + 1 := by
    have := rowKT; omega
  unfold keyOf
  rw [Tryz.underlying75]
  simp only [hk, formedK, Bool.and_self, if_true]
  rw [hs]
  unfold Program.keyLits
  rw [Tryz.underlying75]
  have e1 : ∀ (m : Nat) (x : Int), wfi x → Tryz.prog.keyLits (m + 1) 3 [.int .i64 x] = some [.int .i64 x] := by
    intro m x hx
    unfold Program.keyLits
    rw [Tryz.underlying3]
    unfold wfi at hx
    simp [hx]
  have hcs : (kv a b).cells.toList = [.int .i64 a, .int .i64 b] := by simp [Value.cells]
  rw [hcs]
  simp [hc, hi, e1 _ a ha, e1 _ b hb, kl, List.mapM_cons, List.mapM_nil]

theorem kl_inj {a b c d : Int} (ha : wfi a) (hb : wfi b) (hc : wfi c) (hd : wfi d) (h : kl a b = kl c d) : a = c ∧ b = d := by
  have := lawK.inj (keyK ha hb) (h ▸ keyK hc hd)
  simpa using this

/-- How a pointer to a queue reads in the map. -/
def ptrElem (v : Value) : Option (DataW Unit × List MemPlace) :=
  match v with
  | .pointer (some a) => if a.off = 0 ∧ a.spot = none then some (.lit (.int .u64 a.block), []) else none
  | .pointer none => some (.nil, [])
  | _ => none
theorem ptrElem_mk (r : Nat) : ptrElem (.pointer (some ⟨r, 0, none⟩)) = some (.lit (.int .u64 r), []) := by simp [ptrElem]
theorem ptrElem_nil : ptrElem (.pointer none) = some (.nil, []) := rfl
end Go.Proofs.YtodelafnboimnaaGreat
