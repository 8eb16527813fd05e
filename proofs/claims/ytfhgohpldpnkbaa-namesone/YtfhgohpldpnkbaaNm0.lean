/- The registry, pure: names that rise by their bytes, and whose they are. -/
import Derived.Test.YtfhgohpldpnkbaaBtw
import Derived.Sort.Walk0
import Derived.Sort.KeysCollected
namespace Go.Proofs.Ytfhgohpldpnkbaa
open Go.RowKit Go.Maps

abbrev NP := ByteArray × Int
def wfi (a : Int) : Prop := (Lit.int .i64 a).wf = true
def eqT (a b : ByteArray) : Bool := a.toList == b.toList
theorem eqT_iff {a b : ByteArray} : eqT a b = true ↔ a = b := by
  unfold eqT
  rw [ByteArray.toList_eq, ByteArray.toList_eq, beq_iff_eq]
  constructor
  · intro h
    apply ByteArray.ext
    exact Array.toList_inj.1 h
  · intro h; rw [h]
theorem eqT_self (a : ByteArray) : eqT a a = true := eqT_iff.2 rfl
theorem eqT_ne {a b : ByteArray} : eqT a b = false ↔ a ≠ b := by
  rw [← Bool.not_eq_true, eqT_iff]
theorem tl_inj {a b : ByteArray} (h : a.data.toList = b.data.toList) : a = b := ByteArray.ext (Array.toList_inj.1 h)

def ltT (a b : ByteArray) : Bool := Op.bytesLess a.toList b.toList
theorem ltT_iff {a b : ByteArray} : ltT a b = true ↔ a.data.toList < b.data.toList := by
  unfold ltT
  rw [bytesLess_eq, Lib.toList_data, Lib.toList_data, decide_eq_true_eq]
theorem ltT_irrefl (a : ByteArray) : ltT a a = false := by
  cases h : ltT a a
  · rfl
  · exact absurd (ltT_iff.1 h) (List.lt_irrefl _)
theorem ltT_trans {a b c : ByteArray} (h : ltT a b = true) (k : ltT b c = true) : ltT a c = true := ltT_iff.2 (List.lt_trans (ltT_iff.1 h) (ltT_iff.1 k))
theorem ltT_total {a b : ByteArray} (h : ltT a b = false) (hne : a ≠ b) : ltT b a = true := by
  rw [ltT_iff]
  have h1 : ¬ a.data.toList < b.data.toList := fun e => by rw [ltT_iff.2 e] at h; cases h
  have h2 : b.data.toList ≤ a.data.toList := List.not_lt.1 h1
  refine Classical.byContradiction fun h3 => ?_
  exact hne (tl_inj (List.le_antisymm (List.not_lt.1 h3) h2))
theorem ltT_ne {a b : ByteArray} (h : ltT a b = true) : a ≠ b := fun e => by rw [e, ltT_irrefl] at h; cases h

def und : ByteArray := ⟨#[117, 110, 100, 101, 102, 105, 110, 101, 100]⟩
def okN (s : ByteArray) : Bool := !(s.size == 0) && decide (s.size ≤ 64) && !(eqT s und)
def whN (R : List NP) (s : ByteArray) : Option Int := (R.find? fun x => eqT x.1 s).map (·.2)
def ofN (R : List NP) (p : Int) : Option ByteArray := (R.find? fun x => x.2 == p).map (·.1)
def may (R : List NP) (s : ByteArray) (p : Int) : Bool := okN s && (whN R s).isNone && decide (1 ≤ p) && (ofN R p).isNone
def plc (R : List NP) (s : ByteArray) : Nat := R.findIdx fun x => !ltT x.1 s
def insN (R : List NP) (s : ByteArray) (p : Int) : List NP := R.take (plc R s) ++ (s, p) :: R.drop (plc R s)
def regN (R : List NP) (s : ByteArray) (p : Int) : List NP := if may R s p then insN R s p else R
def regE (R : List NP) (s : ByteArray) (p : Int) : Int := if may R s p then 0 else 13
def posN (R : List NP) (s : ByteArray) : Nat := R.findIdx fun x => eqT x.1 s
def posP (R : List NP) (p : Int) : Nat := R.findIdx fun x => x.2 == p
def unrN (R : List NP) (s : ByteArray) : List NP := R.eraseIdx (posN R s)
def unrE (R : List NP) (s : ByteArray) : Int := if (whN R s).isSome then 0 else 13
def relN (R : List NP) (p : Int) : List NP := R.eraseIdx (posP R p)

structure Reg (R : List NP) : Prop where
  srt : R.Pairwise (fun x y => ltT x.1 y.1 = true)
  pid : R.Pairwise (fun x y => x.2 ≠ y.2)
  ok : ∀ x, x ∈ R → okN x.1 = true ∧ 1 ≤ x.2 ∧ wfi x.2
theorem reg_nil : Reg [] := ⟨List.Pairwise.nil, List.Pairwise.nil, fun _ h => absurd h (List.not_mem_nil)⟩

theorem pw_eq {α : Type} {r : α → α → Prop} : ∀ {l : List α}, l.Pairwise r → ∀ {x y : α}, x ∈ l → y ∈ l → ¬ r x y → ¬ r y x → x = y
  | [], _, _, _, h, _, _, _ => absurd h (List.not_mem_nil)
  | a :: l, hp, x, y, hx, hy, h1, h2 => by
    rw [List.pairwise_cons] at hp
    rcases List.mem_cons.1 hx with ex | hx'
    · rcases List.mem_cons.1 hy with ey | hy'
      · rw [ex, ey]
      · rw [ex] at h1; exact absurd (hp.1 y hy') h1
    · rcases List.mem_cons.1 hy with ey | hy'
      · rw [ey] at h2; exact absurd (hp.1 x hx') h2
      · exact pw_eq hp.2 hx' hy' h1 h2
theorem Reg.same {R : List NP} (h : Reg R) {x y : NP} (hx : x ∈ R) (hy : y ∈ R) (e : x.1 = y.1) : x = y :=
  pw_eq h.srt hx hy (fun k => by rw [e, ltT_irrefl] at k; cases k) (fun k => by rw [e, ltT_irrefl] at k; cases k)
theorem Reg.sameP {R : List NP} (h : Reg R) {x y : NP} (hx : x ∈ R) (hy : y ∈ R) (e : x.2 = y.2) : x = y :=
  pw_eq h.pid hx hy (fun k => k e) (fun k => k e.symm)
theorem find_at {f : NP → Bool} {R : List NP} {x : NP} (h : R.find? f = some x) : f x = true := List.find?_some h
theorem whN_iff {R : List NP} (h : Reg R) {s : ByteArray} {p : Int} : whN R s = some p ↔ (s, p) ∈ R := by
  unfold whN
  constructor
  · intro e
    obtain ⟨x, hx, rfl⟩ := Option.map_eq_some_iff.1 e
    have h1 := List.mem_of_find?_eq_some hx
    have h2 := eqT_iff.1 (find_at hx)
    rw [← h2]; exact h1
  · intro hm
    cases e : R.find? fun x => eqT x.1 s with
    | none => rw [List.find?_eq_none] at e; exact absurd (eqT_self s) (e _ hm)
    | some y =>
      have h1 := List.mem_of_find?_eq_some e
      have h2 := eqT_iff.1 (find_at e)
      rw [h.same h1 hm h2]; rfl
theorem ofN_iff {R : List NP} (h : Reg R) {s : ByteArray} {p : Int} : ofN R p = some s ↔ (s, p) ∈ R := by
  unfold ofN
  constructor
  · intro e
    obtain ⟨x, hx, rfl⟩ := Option.map_eq_some_iff.1 e
    have h1 := List.mem_of_find?_eq_some hx
    have h2 := List.find?_some hx
    simp only [beq_iff_eq] at h2
    rw [← h2]; exact h1
  · intro hm
    cases e : R.find? fun x => x.2 == p with
    | none => rw [List.find?_eq_none] at e; exact absurd (beq_self_eq_true p) (e _ hm)
    | some y =>
      have h1 := List.mem_of_find?_eq_some e
      have h2 := List.find?_some e
      simp only [beq_iff_eq] at h2
      rw [h.sameP h1 hm h2]; rfl
theorem plc_le (R : List NP) (s : ByteArray) : plc R s ≤ R.length := List.findIdx_le_length
theorem plc_lt {R : List NP} {s : ByteArray} {i : Nat} (h : i < plc R s) : ∃ x, R[i]? = some x ∧ ltT x.1 s = true := by
  have hl := plc_le R s
  have hi : i < R.length := by omega
  have := List.not_of_lt_findIdx h
  exact ⟨R[i], List.getElem?_eq_getElem hi, by simpa using this⟩
theorem mem_insN {R : List NP} {s : ByteArray} {p : Int} {x : NP} : x ∈ insN R s p ↔ x = (s, p) ∨ x ∈ R := by
  unfold insN
  rw [List.mem_append, List.mem_cons]
  have h : x ∈ R ↔ x ∈ R.take (plc R s) ∨ x ∈ R.drop (plc R s) := by rw [← List.mem_append, List.take_append_drop]
  rw [h]
  constructor
  · rintro (h | h | h)
    · exact .inr (.inl h)
    · exact .inl h
    · exact .inr (.inr h)
  · rintro (h | h | h)
    · exact .inr (.inl h)
    · exact .inl h
    · exact .inr (.inr h)
theorem insN_len (R : List NP) (s : ByteArray) (p : Int) : (insN R s p).length = R.length + 1 := by
  unfold insN
  have := plc_le R s
  simp; omega
theorem regN_len (R : List NP) (s : ByteArray) (p : Int) : (regN R s p).length ≤ R.length + 1 := by
  unfold regN
  split
  · rw [insN_len]; omega
  · omega
theorem may_iff {R : List NP} {s : ByteArray} {p : Int} : may R s p = true ↔ okN s = true ∧ whN R s = none ∧ 1 ≤ p ∧ ofN R p = none := by
  unfold may
  simp [Bool.and_eq_true, and_assoc]
theorem Reg.ins {R : List NP} (h : Reg R) {s : ByteArray} {p : Int} (hm : may R s p = true) (hw : wfi p) : Reg (insN R s p) := by
  obtain ⟨m1, m2, m3, m4⟩ := may_iff.1 hm
  have hno : ∀ x, x ∈ R → x.1 ≠ s := fun x hx e => by
    have : whN R s = some x.2 := (whN_iff h).2 (by rw [← e]; exact hx)
    rw [m2] at this; cases this
  have hnp : ∀ x, x ∈ R → x.2 ≠ p := fun x hx e => by
    have : ofN R p = some x.1 := (ofN_iff h).2 (by rw [← e]; exact hx)
    rw [m4] at this; cases this
  have hR : R.take (plc R s) ++ R.drop (plc R s) = R := List.take_append_drop _ _
  have hs := h.srt
  have hp := h.pid
  rw [← hR, List.pairwise_append] at hs hp
  have hb : ∀ x, x ∈ R.take (plc R s) → ltT x.1 s = true := by
    intro x hx
    obtain ⟨i, hi, rfl⟩ := List.mem_iff_getElem.1 hx
    rw [List.length_take] at hi
    obtain ⟨y, hy, hl⟩ := plc_lt (R := R) (s := s) (i := i) (by omega)
    rw [List.getElem_take]
    rw [List.getElem?_eq_getElem (by omega)] at hy
    cases hy
    exact hl
  have ha : ∀ x, x ∈ R.drop (plc R s) → ltT s x.1 = true := by
    intro x hx
    have hlt : plc R s < R.length := by
      have := List.length_pos_of_mem hx
      rw [List.length_drop] at this; omega
    have h0 : ltT (R[plc R s]).1 s = false := by
      have := List.findIdx_getElem (p := fun x : NP => !ltT x.1 s) (xs := R) (w := hlt)
      rw [Bool.not_eq_true'] at this
      exact this
    have hm0 : R[plc R s] ∈ R := List.getElem_mem _
    have h1 : ltT s (R[plc R s]).1 = true := ltT_total h0 (hno _ hm0)
    rw [List.drop_eq_getElem_cons hlt] at hx
    rcases List.mem_cons.1 hx with rfl | hx
    · exact h1
    · have hq := hs.2.1
      rw [List.drop_eq_getElem_cons hlt, List.pairwise_cons] at hq
      exact ltT_trans h1 (hq.1 x hx)
  refine ⟨?_, ?_, fun x hx => ?_⟩
  · unfold insN
    rw [List.pairwise_append]
    refine ⟨hs.1, List.pairwise_cons.2 ⟨fun x hx => ha x hx, hs.2.1⟩, fun x hx y hy => ?_⟩
    rcases List.mem_cons.1 hy with rfl | hy
    · exact hb x hx
    · exact hs.2.2 x hx y hy
  · unfold insN
    rw [List.pairwise_append]
    refine ⟨hp.1, List.pairwise_cons.2 ⟨fun x hx => fun e => hnp x (List.mem_of_mem_drop hx) e.symm, hp.2.1⟩, fun x hx y hy => ?_⟩
    rcases List.mem_cons.1 hy with rfl | hy
    · exact hnp x (List.mem_of_mem_take hx)
    · exact hp.2.2 x hx y hy
  · rcases mem_insN.1 hx with rfl | hx
    · exact ⟨m1, m3, hw⟩
    · exact h.ok x hx
theorem Reg.cut {R : List NP} (h : Reg R) (i : Nat) : Reg (R.eraseIdx i) :=
  ⟨h.srt.sublist (List.eraseIdx_sublist _ _), h.pid.sublist (List.eraseIdx_sublist _ _), fun x hx => h.ok x (List.mem_of_mem_eraseIdx hx)⟩
theorem mem_cut {R : List NP} (h : Reg R) {i : Nat} (hi : i < R.length) {x : NP} : x ∈ R.eraseIdx i ↔ x ∈ R ∧ x ≠ R[i] := by
  rw [List.mem_eraseIdx_iff_getElem]
  constructor
  · rintro ⟨j, hj, hne, rfl⟩
    refine ⟨List.getElem_mem _, fun e => ?_⟩
    rcases Nat.lt_trichotomy i j with hl | hl | hl
    · have := List.pairwise_iff_getElem.1 h.srt i j hi hj hl
      rw [e, ltT_irrefl] at this; cases this
    · exact hne hl.symm
    · have := List.pairwise_iff_getElem.1 h.srt j i hj hi hl
      rw [e, ltT_irrefl] at this; cases this
  · rintro ⟨hx, hne⟩
    obtain ⟨j, hj, rfl⟩ := List.mem_iff_getElem.1 hx
    exact ⟨j, hj, fun e => hne (by subst e; rfl), rfl⟩
theorem Reg.reg {R : List NP} (h : Reg R) (s : ByteArray) {p : Int} (hw : wfi p) : Reg (regN R s p) := by
  unfold regN
  split
  · rename_i hm; exact h.ins hm hw
  · exact h
theorem whN_ins {R : List NP} (h : Reg R) {s : ByteArray} {p : Int} (hm : may R s p = true) (hw : wfi p) (t : ByteArray) : whN (insN R s p) t = if t = s then some p else whN R t := by
  apply Option.ext
  intro q
  rw [whN_iff (h.ins hm hw), mem_insN]
  split
  · rename_i e
    subst e
    constructor
    · rintro (e | e)
      · injection e with _ e; rw [e]
      · exact absurd (may_iff.1 hm).2.1 (by rw [(whN_iff h).2 e]; simp)
    · intro e; injection e with e; rw [e]; exact .inl rfl
  · rename_i hne
    rw [whN_iff h]
    constructor
    · rintro (e | e)
      · injection e with e _; exact absurd e hne
      · exact e
    · exact .inr
theorem ofN_ins {R : List NP} (h : Reg R) {s : ByteArray} {p : Int} (hm : may R s p = true) (hw : wfi p) (q : Int) : ofN (insN R s p) q = if q = p then some s else ofN R q := by
  apply Option.ext
  intro t
  rw [ofN_iff (h.ins hm hw), mem_insN]
  split
  · rename_i e
    subst e
    constructor
    · rintro (e | e)
      · injection e with e _; rw [e]
      · exact absurd (may_iff.1 hm).2.2.2 (by rw [(ofN_iff h).2 e]; simp)
    · intro e; injection e with e; rw [e]; exact .inl rfl
  · rename_i hne
    rw [ofN_iff h]
    constructor
    · rintro (e | e)
      · injection e with _ e; exact absurd e hne
      · exact e
    · exact .inr
theorem whN_cut {R : List NP} (h : Reg R) {i : Nat} (hi : i < R.length) (t : ByteArray) : whN (R.eraseIdx i) t = if t = R[i].1 then none else whN R t := by
  apply Option.ext
  intro q
  rw [whN_iff (h.cut i), mem_cut h hi]
  split
  · rename_i e
    constructor
    · rintro ⟨h1, h2⟩; exact absurd (h.same h1 (List.getElem_mem hi) e) h2
    · intro e; cases e
  · rename_i hne
    rw [whN_iff h]
    exact ⟨fun h => h.1, fun h1 => ⟨h1, fun e => hne (by rw [← e])⟩⟩
theorem ofN_cut {R : List NP} (h : Reg R) {i : Nat} (hi : i < R.length) (q : Int) : ofN (R.eraseIdx i) q = if q = R[i].2 then none else ofN R q := by
  apply Option.ext
  intro t
  rw [ofN_iff (h.cut i), mem_cut h hi]
  split
  · rename_i e
    constructor
    · rintro ⟨h1, h2⟩; exact absurd (h.sameP h1 (List.getElem_mem hi) e) h2
    · intro e; cases e
  · rename_i hne
    rw [ofN_iff h]
    exact ⟨fun h => h.1, fun h1 => ⟨h1, fun e => hne (by rw [← e])⟩⟩
/-- Where a name is: its place, and whose it is. -/
theorem whN_at {R : List NP} {s : ByteArray} {p : Int} (h : whN R s = some p) : posN R s < R.length ∧ ∀ hi : posN R s < R.length, R[posN R s] = (s, p) := by
  unfold whN at h
  obtain ⟨x, hx, rfl⟩ := Option.map_eq_some_iff.1 h
  have e1 : posN R s < R.length := List.findIdx_lt_length.2 ⟨x, List.mem_of_find?_eq_some hx, find_at hx⟩
  refine ⟨e1, fun hi => ?_⟩
  have h2 : R[posN R s]? = some x := by
    unfold posN
    rw [← List.find?_eq_getElem?_findIdx]; exact hx
  rw [List.getElem?_eq_getElem hi] at h2
  injection h2 with h2
  have h3 := eqT_iff.1 (find_at hx)
  rw [h2, ← h3]
theorem ofN_at {R : List NP} {s : ByteArray} {p : Int} (h : ofN R p = some s) : posP R p < R.length ∧ ∀ hi : posP R p < R.length, R[posP R p] = (s, p) := by
  unfold ofN at h
  obtain ⟨x, hx, rfl⟩ := Option.map_eq_some_iff.1 h
  have e1 : posP R p < R.length := List.findIdx_lt_length.2 ⟨x, List.mem_of_find?_eq_some hx, find_at hx⟩
  refine ⟨e1, fun hi => ?_⟩
  have h2 : R[posP R p]? = some x := by
    unfold posP
    rw [← List.find?_eq_getElem?_findIdx]; exact hx
  rw [List.getElem?_eq_getElem hi] at h2
  injection h2 with h2
  have h3 := List.find?_some hx
  simp only [beq_iff_eq] at h3
  rw [h2, ← h3]
theorem whN_gone {R : List NP} {s : ByteArray} (h : whN R s = none) : unrN R s = R := by
  unfold whN at h
  simp only [Option.map_eq_none_iff, List.find?_eq_none] at h
  have : posN R s = R.length := List.findIdx_eq_length.2 (fun x hx => by simpa using h x hx)
  unfold unrN
  rw [this]
  exact List.eraseIdx_of_length_le (Nat.le_refl _)
theorem ofN_gone {R : List NP} {p : Int} (h : ofN R p = none) : relN R p = R := by
  unfold ofN at h
  simp only [Option.map_eq_none_iff, List.find?_eq_none] at h
  have : posP R p = R.length := List.findIdx_eq_length.2 (fun x hx => by simpa using h x hx)
  unfold relN
  rw [this]
  exact List.eraseIdx_of_length_le (Nat.le_refl _)
theorem ok_size {s : ByteArray} (h : okN s = true) : 1 ≤ s.size ∧ s.size ≤ 64 ∧ s ≠ und := by
  unfold okN at h
  simp only [Bool.and_eq_true, Bool.not_eq_true', beq_eq_false_iff_ne, decide_eq_true_eq] at h
  exact ⟨by omega, h.1.2, eqT_ne.1 h.2⟩
end Go.Proofs.Ytfhgohpldpnkbaa
