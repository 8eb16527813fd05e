import Derived.Test.YtpcpdehnppfbfaaGreatG02
import Derived.Maps.Own
import Derived.Maps.OwnOps
import Derived.Maps.OwnSet
import Derived.Maps.RangeWalk
import Derived.Maps.Views
import Derived.DeepKeys4
/- Lanes by their two ends: the keys of the map. -/
namespace Go.Proofs.YtpcpdehnppfbfaaGreat
open Go.RowKit Go.Lib Go.Maps

abbrev KT : Nat := 59
abbrev MT : Nat := 52
abbrev RP : Nat := 56
abbrev ET : Nat := 54
theorem laidOut11 : laidOutB Tryz.prog = true := by kernel_rfl
theorem rowKT : (KT : TypeId) < Tryz.prog.types.size := of_decide_eq_true (by kernel_rfl)
theorem wideKT : (match Tryz.prog.underlying KT with | some (.array _ _) | some (.struct _) => true | _ => false) = true := by rw [Tryz.underlying59]
set_option maxRecDepth 100000 in
theorem lawK : Keyed Tryz.prog KT := Keyed.of_law (deep_law_laid laidOut11 (m := 2) (by omega) rowKT (by kernel_rfl) wideKT)
theorem formedK {c0 c1 : Value} : (Value.agg #[c0, c1]).formed Tryz.prog KT = true := by
  have : Tryz.prog.cellsOf KT = 2 := by kernel_rfl
  simp [Value.formed, Tryz.underlying59, this]

def kl (a b : Int) : Lit := .string (keyBytes [.int .i64 a, .int .i64 b])
def wfi (a : Int) : Prop := (Lit.int .i64 a).wf = true
abbrev kv (a b : Int) : Value := .agg #[.int .i64 a, .int .i64 b]

theorem keyK {a b : Int} (ha : wfi a) (hb : wfi b) : keyOf Tryz.prog KT (kv a b) = some (kl a b) := by
  have hk : Tryz.prog.keyType KT = true := by kernel_rfl
  have hc : Tryz.prog.cellsOf KT = 2 := by kernel_rfl
  have hi : Tryz.prog.cellsOf IT = 1 := by kernel_rfl
  have hs : Tryz.prog.types.size + 1 = (Tryz.prog.types.size - 1) + 1 + 1 := by
    have := rowKT; omega
  unfold keyOf
  rw [Tryz.underlying59]
  simp only [hk, formedK, Bool.and_self, if_true]
  rw [hs]
  unfold Program.keyLits
  rw [Tryz.underlying59]
  have e1 : ∀ (m : Nat) (x : Int), wfi x → Tryz.prog.keyLits (m + 1) 3 [.int .i64 x] = some [.int .i64 x] := by
    intro m x hx
    unfold Program.keyLits
    rw [Tryz.underlying3]
    unfold wfi at hx
    simp [hx]
  have hcs : (kv a b).cells.toList = [.int .i64 a, .int .i64 b] := by simp [Value.cells]
  rw [hcs]
  simp [hc, hi, e1 _ a ha, e1 _ b hb, kl, List.mapM_cons, List.mapM_nil]

theorem kl_inj {a b c d : Int} (ha : wfi a) (hb : wfi b) (hc : wfi c) (hd : wfi d) (h : kl a b = kl c d) : a = c ∧ b = d := by
  have := lawK.inj (keyK ha hb) (h ▸ keyK hc hd)
  simpa using this

/-- How a pointer to a queue reads in the map. -/
def ptrElem (v : Value) : Option (DataW Unit × List MemPlace) :=
  match v with
  | .pointer (some a) => if a.off = 0 ∧ a.spot = none then some (.lit (.int .u64 a.block), []) else none
  | .pointer none => some (.nil, [])
  | _ => none
theorem ptrElem_mk (r : Nat) : ptrElem (.pointer (some ⟨r, 0, none⟩)) = some (.lit (.int .u64 r), []) := by simp [ptrElem]
theorem ptrElem_nil : ptrElem (.pointer none) = some (.nil, []) := rfl
end Go.Proofs.YtpcpdehnppfbfaaGreat


/- The map of lanes. -/
namespace Go.Proofs.YtpcpdehnppfbfaaGreat
open Go.RowKit Go.Lib Go.Maps

theorem ptrElem_inv {v : Value} {r : Nat} {ps : List MemPlace} (h : ptrElem v = some (.lit (.int .u64 (r : Int)), ps)) : v = .pointer (some ⟨r, 0, none⟩) := by
  unfold ptrElem at h
  split at h
  · rename_i a
    split at h
    · rename_i hc
      obtain ⟨b, o, s⟩ := a
      obtain ⟨h1, h2⟩ := hc
      simp only at h1 h2
      subst h1 h2
      simp at h
      obtain rfl : b = r := by omega
      rfl
    · cases h
  · simp at h
  · cases h
theorem ptrElem_inv0 {v : Value} {ps : List MemPlace} (h : ptrElem v = some (.nil, ps)) : v = .pointer none := by
  unfold ptrElem at h
  split at h
  · split at h
    · simp at h
    · cases h
  · rfl
  · cases h

/-- Block mb is a map of at most n lanes: f tells the queue's block. -/
def EM (w : World) (mb n : Nat) (f : Int → Int → Option Nat) : Prop :=
  ∃ D : DataW Unit, w.ownsMap Tryz.prog KT ptrElem mb n D ∧ (∀ a b, wfi a → wfi b → Maps.has D (kl a b) = (f a b).isSome) ∧ (∀ a b r, wfi a → wfi b → f a b = some r → D.atKey (kl a b) .nil = .lit (.int .u64 (r : Int)))

theorem EM.kept {w w' : World} {mb n : Nat} {f : Int → Int → Option Nat} (h : EM w mb n f) {row : Option Nat} (hg : w.grownBy w' row) (hne : some mb ≠ row) : EM w' mb n f := by
  obtain ⟨D, h, r⟩ := h
  exact ⟨D, h.kept hg hne, r⟩
theorem EM.lt {w : World} {mb n : Nat} {f : Int → Int → Option Nat} (h : EM w mb n f) : mb < w.heap.size := by
  obtain ⟨D, h, r⟩ := h
  exact h.lt
theorem EM.but {S : Nat → Prop} {w w' : World} {mb n : Nat} {f : Int → Int → Option Nat} (h : EM w mb n f) (hb : But S w w') (hs : ¬ S mb) : EM w' mb n f := by
  have hlt := h.lt
  obtain ⟨D, ⟨es, clock, h1, h2⟩, r⟩ := h
  exact ⟨D, ⟨es, clock, (hb.block mb hlt hs).trans h1, h2⟩, r⟩
theorem em_made (w : World) : EM (w.alloc (.map #[] 0)) w.heap.size 0 (fun _ _ => none) :=
  ⟨_, World.ownsMap_made w _ _ _, fun a b _ _ => by simp [Maps.has], fun a b r _ _ h => by simp at h⟩
theorem zeroRP (w : World) : (zeroValue RP).run Tryz.prog w = .ok (.pointer none) w := by kernel_rfl
theorem undMT : Tryz.prog.underlying MT = some (.map KT RP) := Tryz.underlying52

theorem EM.look {w : World} {mb n : Nat} {f : Int → Int → Option Nat} (h : EM w mb n f) {i j : Int} (hi : wfi i) (hj : wfi j) {r : Nat} (hf : f i j = some r) :
    (Instr.lookup MT (.map (some mb)) (kv i j) true).run Tryz.prog w = .ok (.tuple #[.pointer (some ⟨r, 0, none⟩), .bool true]) w := by
  obtain ⟨D, hown, h1, h2⟩ := h
  obtain ⟨v, ps, hrun, hv⟩ := hown.look_ok lawK undMT (zeroRP w) ptrElem_nil (keyK hi hj)
  rw [h2 i j r hi hj hf] at hv
  rw [ptrElem_inv hv, h1 i j hi hj, hf] at hrun
  exact hrun
theorem EM.look1 {w : World} {mb n : Nat} {f : Int → Int → Option Nat} (h : EM w mb n f) {i j : Int} (hi : wfi i) (hj : wfi j) {r : Nat} (hf : f i j = some r) :
    (Instr.lookup MT (.map (some mb)) (kv i j) false).run Tryz.prog w = .ok (.pointer (some ⟨r, 0, none⟩)) w := by
  obtain ⟨D, hown, h1, h2⟩ := h
  obtain ⟨v, ps, hrun, hv⟩ := hown.lookup lawK undMT (zeroRP w) ptrElem_nil (keyK hi hj)
  rw [h2 i j r hi hj hf] at hv
  rw [ptrElem_inv hv] at hrun
  exact hrun
theorem EM.look0 {w : World} {mb n : Nat} {f : Int → Int → Option Nat} (h : EM w mb n f) {i j : Int} (hi : wfi i) (hj : wfi j) (hf : f i j = none) :
    (Instr.lookup MT (.map (some mb)) (kv i j) true).run Tryz.prog w = .ok (.tuple #[.pointer none, .bool false]) w := by
  obtain ⟨D, hown, h1, h2⟩ := h
  obtain ⟨v, ps, hrun, hv⟩ := hown.look_ok lawK undMT (zeroRP w) ptrElem_nil (keyK hi hj)
  have hh := h1 i j hi hj
  rw [hf] at hh
  rw [atKey_of_not_has (by simpa using hh)] at hv
  rw [ptrElem_inv0 hv, hh] at hrun
  exact hrun
theorem look_nil11 (w : World) {i j : Int} (hi : wfi i) (hj : wfi j) : (Instr.lookup MT (.map none) (kv i j) true).run Tryz.prog w = .ok (.tuple #[.pointer none, .bool false]) w :=
  Maps.look_nil true lawK undMT (zeroRP w) (keyK hi hj)

/-- f, but for one lane. -/
def upd (f : Int → Int → Option Nat) (i j : Int) (x : Option Nat) : Int → Int → Option Nat := fun a b => if a = i ∧ b = j then x else f a b

theorem turned_but {w w' : World} {b : Nat} (h : w.mapTurned w' b) : But (fun k => k = b) w w' := by
  have hg := h.grown
  exact ⟨hg.os, hg.tape, hg.output, hg.size, fun k hk hs => hg.block k hk (fun e => hs (by simpa using e))⟩

theorem EM.store {w : World} {mb n : Nat} {f : Int → Int → Option Nat} (h : EM w mb n f) (hn : n < maxLen) {i j : Int} (hi : wfi i) (hj : wfi j) (r : Nat) :
    ∃ w', (Instr.mapUpdate MT (.map (some mb)) (kv i j) (.pointer (some ⟨r, 0, none⟩))).run Tryz.prog w = .ok () w' ∧ EM w' mb (n + 1) (upd f i j (some r)) ∧ But (fun k => k = mb) w w' := by
  obtain ⟨D, hown, h1, h2⟩ := h
  obtain ⟨w', hrun, ho, ht⟩ := hown.store lawK undMT hn (keyK hi hj) (ptrElem_mk r)
  have hM := hown.isMap
  have hK : WideAt.IsKeyLit (kl i j) := trivial
  refine ⟨w', hrun, ⟨_, ho, fun a b ha hb => ?_, fun a b q ha hb hq => ?_⟩, turned_but ht⟩
  · unfold upd
    by_cases hc : a = i ∧ b = j
    · obtain ⟨rfl, rfl⟩ := hc
      rw [has_put_same hM hK]; simp
    · rw [if_neg hc, has_put_other (fun e => hc (kl_inj ha hb hi hj e)), h1 a b ha hb]
  · unfold upd at hq
    by_cases hc : a = i ∧ b = j
    · rw [if_pos hc] at hq
      obtain ⟨rfl, rfl⟩ := hc
      rw [atKey_put_same hM hK]; simp at hq; rw [hq]
    · rw [if_neg hc] at hq
      rw [atKey_put_other (fun e => hc (kl_inj ha hb hi hj e)), h2 a b q ha hb hq]

theorem EM.drop {w : World} {mb n : Nat} {f : Int → Int → Option Nat} (h : EM w mb n f) {i j : Int} (hi : wfi i) (hj : wfi j) (ty : TypeId) :
    ∃ w', (Builtin.delete_ #[MT, KT] ty #[.map (some mb), kv i j]).run Tryz.prog w = .ok (.tuple #[]) w' ∧ EM w' mb n (upd f i j none) ∧ But (fun k => k = mb) w w' := by
  obtain ⟨D, hown, h1, h2⟩ := h
  obtain ⟨w', hrun, ho, ht⟩ := hown.drop lawK undMT (keyK hi hj) ty
  refine ⟨w', hrun, ⟨_, ho, fun a b ha hb => ?_, fun a b q ha hb hq => ?_⟩, turned_but ht⟩
  · unfold upd
    by_cases hc : a = i ∧ b = j
    · obtain ⟨rfl, rfl⟩ := hc
      rw [has_del_same]; simp
    · rw [if_neg hc, has_del_other (fun e => hc (kl_inj ha hb hi hj e)), h1 a b ha hb]
  · unfold upd at hq
    by_cases hc : a = i ∧ b = j
    · rw [if_pos hc] at hq; simp at hq
    · rw [if_neg hc] at hq
      rw [atKey_del_other (fun e => hc (kl_inj ha hb hi hj e)), h2 a b q ha hb hq]
end Go.Proofs.YtpcpdehnppfbfaaGreat


