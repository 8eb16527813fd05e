/- The program's registry in memory: two maps. -/
import Derived.Test.YtfhgohpldpnkbaaNm0
import Derived.Maps.Own
import Derived.Maps.OwnOps
import Derived.Maps.OwnSet
import Derived.Maps.Views
namespace Go.Proofs.Ytfhgohpldpnkbaa
open Go.RowKit Go.Lib Go.Maps Go.WideMaps

abbrev ST : Nat := 9
abbrev IT : Nat := 3
abbrev MO : Nat := 43
abbrev MN : Nat := 44
abbrev OT : Nat := 51
abbrev NT : Nat := 54
theorem lawS : Keyed Try.prog ST := string_keyed Try.underlying9
theorem lawI : Keyed Try.prog IT := int_keyed Try.underlying3
theorem undMO : Try.prog.underlying MO = some (.map ST OT) := Try.underlying43
theorem undMN : Try.prog.underlying MN = some (.map IT NT) := Try.underlying44
theorem zeroOT (w : World) : (zeroValue OT).run Try.prog w = .ok (.agg #[.int .i64 0]) w := by kernel_rfl
theorem zeroNT (w : World) : (zeroValue NT).run Try.prog w = .ok (.agg #[.string ⟨#[]⟩]) w := by kernel_rfl

def oElem (v : Value) : Option (DataW Unit × List MemPlace) :=
  match v with
  | .agg c => match c.toList with
    | [.int .i64 n] => some (.lit (.int .i64 n), [])
    | _ => none
  | _ => none
def nElem (v : Value) : Option (DataW Unit × List MemPlace) :=
  match v with
  | .agg c => match c.toList with
    | [.string s] => some (.lit (.string s.data.toList), [])
    | _ => none
  | _ => none
theorem oElem_mk (p : Int) : oElem (.agg #[.int .i64 p]) = some (.lit (.int .i64 p), []) := by simp [oElem]
theorem nElem_mk (s : ByteArray) : nElem (.agg #[.string s]) = some (.lit (.string s.data.toList), []) := by simp [nElem]
theorem oElem_inv {v : Value} {p : Int} {ps : List MemPlace} (h : oElem v = some (.lit (.int .i64 p), ps)) : v = .agg #[.int .i64 p] := by
  unfold oElem at h
  split at h
  · rename_i c
    split at h
    · rename_i n hc
      simp at h
      have : c = #[.int .i64 n] := by rw [← Array.toArray_toList (xs := c), hc]
      rw [this, h.1]
    · cases h
  · cases h
theorem nElem_inv {v : Value} {s : ByteArray} {ps : List MemPlace} (h : nElem v = some (.lit (.string s.data.toList), ps)) : v = .agg #[.string s] := by
  unfold nElem at h
  split at h
  · rename_i c
    split at h
    · rename_i n hc
      simp at h
      have : c = #[.string n] := by rw [← Array.toArray_toList (xs := c), hc]
      rw [this, ByteArray.ext h.1]
    · cases h
  · cases h

abbrev kS (s : ByteArray) : Lit := .string s.data.toList
theorem keyS {s : ByteArray} (h : s.size ≤ maxLen) : keyOf Try.prog ST (.string s) = some (kS s) := keyOf_string_mk Try.underlying9 h
theorem keyI {q : Int} (h : wfi q) : keyOf Try.prog IT (.int .i64 q) = some (.int .i64 q) := keyOf_int_mk Try.underlying3 h
theorem kS_inj {s t : ByteArray} (h : kS s = kS t) : s = t := by
  injection h with h
  exact tl_inj h
abbrev z0 : DataW Unit := .lit (.int .i64 0)
abbrev zs : DataW Unit := .lit (.string (⟨#[]⟩ : ByteArray).data.toList)

/-- What the map of names says of a registry, what the map of pids. -/
def OwnD (D : DataW Unit) (R : List NP) : Prop := ∀ s : ByteArray, Maps.has D (kS s) = (whN R s).isSome ∧ ∀ p, whN R s = some p → D.atKey (kS s) z0 = .lit (.int .i64 p)
def NamD (E : DataW Unit) (R : List NP) : Prop := ∀ q : Int, Maps.has E (.int .i64 q) = (ofN R q).isSome ∧ ∀ s, ofN R q = some s → E.atKey (.int .i64 q) zs = .lit (kS s)
theorem ownD_nil : OwnD (.map []) [] := fun s => ⟨rfl, fun p h => by cases h⟩
theorem namD_nil : NamD (.map []) [] := fun s => ⟨rfl, fun p h => by cases h⟩
theorem OwnD.ins {D : DataW Unit} {R : List NP} (hD : IsMap D) (h : OwnD D R) (hR : Reg R) {s : ByteArray} {p : Int} (hm : may R s p = true) (hw : wfi p) : OwnD (D.put (kS s) (.lit (.int .i64 p))) (insN R s p) := by
  intro t
  rw [whN_ins hR hm hw]
  by_cases e : t = s
  · subst e
    rw [if_pos rfl]
    exact ⟨has_put_same hD (show WideAt.IsKeyLit (kS t) from trivial) _, fun q hq => by injection hq with hq; rw [atKey_put_same hD (show WideAt.IsKeyLit (kS t) from trivial), hq]⟩
  · rw [if_neg e]
    have hne : kS t ≠ kS s := fun k => e (kS_inj k)
    exact ⟨(has_put_other hne _).trans (h t).1, fun q hq => (atKey_put_other hne _ _).trans ((h t).2 q hq)⟩
theorem NamD.ins {E : DataW Unit} {R : List NP} (hE : IsMap E) (h : NamD E R) (hR : Reg R) {s : ByteArray} {p : Int} (hm : may R s p = true) (hw : wfi p) : NamD (E.put (.int .i64 p) (.lit (kS s))) (insN R s p) := by
  intro q
  rw [ofN_ins hR hm hw]
  by_cases e : q = p
  · subst e
    rw [if_pos rfl]
    exact ⟨has_put_same hE (show WideAt.IsKeyLit (.int .i64 q) from trivial) _, fun t ht => by injection ht with ht; rw [atKey_put_same hE (show WideAt.IsKeyLit (.int .i64 q) from trivial), ht]⟩
  · rw [if_neg e]
    have hne : Lit.int .i64 q ≠ .int .i64 p := fun k => e (by injection k)
    exact ⟨(has_put_other hne _).trans (h q).1, fun t ht => (atKey_put_other hne _ _).trans ((h q).2 t ht)⟩
theorem OwnD.cut {D : DataW Unit} {R : List NP} (h : OwnD D R) (hR : Reg R) {i : Nat} (hi : i < R.length) : OwnD (D.del (kS R[i].1)) (R.eraseIdx i) := by
  intro t
  rw [whN_cut hR hi]
  by_cases e : t = R[i].1
  · rw [if_pos e, e]
    exact ⟨has_del_same, fun q hq => by cases hq⟩
  · rw [if_neg e]
    have hne : kS t ≠ kS R[i].1 := fun k => e (kS_inj k)
    exact ⟨(has_del_other hne).trans (h t).1, fun q hq => (atKey_del_other hne _).trans ((h t).2 q hq)⟩
theorem NamD.cut {E : DataW Unit} {R : List NP} (h : NamD E R) (hR : Reg R) {i : Nat} (hi : i < R.length) : NamD (E.del (.int .i64 R[i].2)) (R.eraseIdx i) := by
  intro q
  rw [ofN_cut hR hi]
  by_cases e : q = R[i].2
  · rw [if_pos e, e]
    exact ⟨has_del_same, fun q hq => by cases hq⟩
  · rw [if_neg e]
    have hne : Lit.int .i64 q ≠ .int .i64 R[i].2 := fun k => e (by injection k)
    exact ⟨(has_del_other hne).trans (h q).1, fun t ht => (atKey_del_other hne _).trans ((h q).2 t ht)⟩

/-- A registry in block b; m: its maps' blocks; K: how many were ever stored at most. -/
structure NAt (w : World) (b : Nat) (m : Option (Nat × Nat)) (K : Nat) (R : List NP) : Prop where
  duo : Duo w b (.map (m.map Prod.fst)) (.map (m.map Prod.snd))
  mp : (m = none ∧ R = []) ∨ ∃ a c D E, m = some (a, c) ∧ w.ownsMap Try.prog ST oElem a K D ∧ w.ownsMap Try.prog IT nElem c K E ∧ OwnD D R ∧ NamD E R ∧ a ≠ b ∧ c ≠ b ∧ a ≠ c
  reg : Reg R
def blk (m : Option (Nat × Nat)) (k : Nat) : Prop := ∃ a c, m = some (a, c) ∧ (k = a ∨ k = c)
theorem own_but {k : TypeId} {f : Value → Option (DataW Unit × List MemPlace)} {S : Nat → Prop} {w w' : World} {b n : Nat} {D : DataW Unit} (h : w.ownsMap Try.prog k f b n D) (hb : But S w w') (hs : ¬ S b) : w'.ownsMap Try.prog k f b n D := by
  have hlt := h.lt
  obtain ⟨es, clock, h1, h2⟩ := h
  exact ⟨es, clock, (hb.block b hlt hs).trans h1, h2⟩
theorem NAt.but {S : Nat → Prop} {w w' : World} {b K : Nat} {m : Option (Nat × Nat)} {R : List NP} (h : NAt w b m K R) (hb : But S w w') (hs : ¬ S b) (hm : ∀ k, blk m k → ¬ S k) : NAt w' b m K R := by
  refine ⟨h.duo.but hb hs, ?_, h.reg⟩
  rcases h.mp with e | ⟨a, c, D, E, rfl, h1, h2, h3⟩
  · exact .inl e
  · exact .inr ⟨a, c, D, E, rfl, own_but h1 hb (hm a ⟨a, c, rfl, .inl rfl⟩), own_but h2 hb (hm c ⟨a, c, rfl, .inr rfl⟩), h3⟩
theorem NAt.keep {w w' : World} {b K : Nat} {m : Option (Nat × Nat)} {R : List NP} (h : NAt w b m K R) (hb : Below w.heap.size w w') : NAt w' b m K R := h.but (But.of_below (S := fun _ => False) hb) id (fun _ _ => id)
theorem NAt.lt {w : World} {b K : Nat} {m : Option (Nat × Nat)} {R : List NP} (h : NAt w b m K R) : b < w.heap.size := h.duo.lt
theorem NAt.ltm {w : World} {b K : Nat} {m : Option (Nat × Nat)} {R : List NP} (h : NAt w b m K R) {k : Nat} (hk : blk m k) : k < w.heap.size := by
  obtain ⟨a', c', rfl, hk⟩ := hk
  rcases h.mp with ⟨e, _⟩ | ⟨a, c, D, E, e, h1, h2, _⟩
  · cases e
  · cases e
    rcases hk with rfl | rfl
    · exact h1.lt
    · exact h2.lt

theorem NAt.lookO {w : World} {b K : Nat} {m : Option (Nat × Nat)} {R : List NP} (h : NAt w b m K R) {s : ByteArray} (hs : s.size ≤ maxLen) :
    (Instr.lookup MO (.map (m.map Prod.fst)) (.string s) true).run Try.prog w = .ok (.tuple #[.agg #[.int .i64 ((whN R s).getD 0)], .bool (whN R s).isSome]) w := by
  rcases h.mp with ⟨rfl, rfl⟩ | ⟨a, c, D, E, rfl, h1, h2, h3, h4, _⟩
  · exact Maps.look_nil true lawS undMO (zeroOT w) (keyS hs)
  · obtain ⟨v, ps, hrun, hv⟩ := h1.look_ok lawS undMO (zeroOT w) (oElem_mk 0) (keyS hs)
    obtain ⟨e1, e2⟩ := h3 s
    rw [e1] at hrun
    cases hw : whN R s with
    | none =>
      rw [hw] at e1 hrun
      rw [atKey_of_not_has e1] at hv
      rw [oElem_inv hv] at hrun
      exact hrun
    | some p =>
      rw [hw] at hrun
      rw [e2 p hw] at hv
      rw [oElem_inv hv] at hrun
      exact hrun
theorem NAt.lookN {w : World} {b K : Nat} {m : Option (Nat × Nat)} {R : List NP} (h : NAt w b m K R) {q : Int} (hq : wfi q) :
    (Instr.lookup MN (.map (m.map Prod.snd)) (.int .i64 q) true).run Try.prog w = .ok (.tuple #[.agg #[.string ((ofN R q).getD ⟨#[]⟩)], .bool (ofN R q).isSome]) w := by
  rcases h.mp with ⟨rfl, rfl⟩ | ⟨a, c, D, E, rfl, h1, h2, h3, h4, _⟩
  · exact Maps.look_nil true lawI undMN (zeroNT w) (keyI hq)
  · obtain ⟨v, ps, hrun, hv⟩ := h2.look_ok lawI undMN (zeroNT w) (nElem_mk ⟨#[]⟩) (keyI hq)
    obtain ⟨e1, e2⟩ := h4 q
    rw [e1] at hrun
    cases hw : ofN R q with
    | none =>
      rw [hw] at e1 hrun
      rw [atKey_of_not_has e1] at hv
      rw [nElem_inv hv] at hrun
      exact hrun
    | some p =>
      rw [hw] at hrun
      rw [e2 p hw] at hv
      rw [nElem_inv hv] at hrun
      exact hrun
end Go.Proofs.Ytfhgohpldpnkbaa
