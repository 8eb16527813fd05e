import Derived.Test.YtdpfmmbfidknfaaGreatDoorG24
import Derived.Test.YtdpfmmbfidknfaaGreatDoorG43
import Derived.Test.YtdpfmmbfidknfaaGreatDoorG42
import Derived.Maps.AppendAt
/- What the parser tells of two sources with the same nodes. -/
namespace Go.Proofs.YtdpfmmbfidknfaaGreatDoor
open Go.RowKit Go.Lib

/-- What the parser tells of two such sources with the same nodes. -/
theorem twin_src {s t : ByteArray} {e e' : Ex} (he : Ok12 e) (he' : Ok12 e') (hs : s.data.toList = headB ++ (txt e ++ [46])) (ht : t.data.toList = headB ++ (txt e' ++ [46])) (hsz : s.size ≤ 65536) (htz : t.size ≤ 65536)
    (w : e.WF) (w' : e'.WF) (d : e.dep ≤ 199) (d' : e'.dep ≤ 199) (z : e.sz ≤ 16000) (hz : e'.sz = e.sz) (hem : e'.emit 1 = e.emit 1) :
    ∃ r st st', parseP s = .ok (r, st) ∧ parseP t = .ok (r, st') ∧ st.ns.map bareN = st'.ns.map bareN := by
  obtain ⟨l, h1, h2⟩ := all_src s e he hs hsz
  obtain ⟨l', h1', h2'⟩ := all_src t e' he' ht htz
  have hb : (srcT e).map bareT = srcT e := by rw [← h2, List.map_map]; congr 1
  have hb' : (srcT e').map bareT = srcT e' := by rw [← h2', List.map_map]; congr 1
  have q1 := tree_blind l (srcT e) (h2.trans hb.symm)
  have q2 := tree_blind l' (srcT e') (h2'.trans hb'.symm)
  rw [whole e w d z] at q1
  rw [whole e' w' d' (by omega)] at q2
  have p1 : parseP s = Gm.module (Gm.expr 201) ⟨l, [], 0⟩ := by unfold parseP; rw [h1]; rfl
  have p2 : parseP t = Gm.module (Gm.expr 201) ⟨l', [], 0⟩ := by unfold parseP; rw [h1']; rfl
  rw [← p1] at q1
  rw [← p2] at q2
  have hn : ndOf e' = ndOf e := by unfold ndOf; rw [hz, hem]
  cases hp : parseP s with
  | error x => rw [hp] at q1; exact q1.elim
  | ok a =>
    cases hq : parseP t with
    | error x => rw [hq] at q2; exact q2.elim
    | ok b =>
      obtain ⟨r, st⟩ := a
      obtain ⟨r', st'⟩ := b
      rw [hp] at q1
      rw [hq] at q2
      obtain ⟨rfl, g1⟩ := q1
      obtain ⟨rfl, g2⟩ := q2
      refine ⟨_, st, st', rfl, by rw [hz], ?_⟩
      have k1 := Gm.bare_ns g1
      have k2 := Gm.bare_ns g2
      rw [k1, k2, hn]
end Go.Proofs.YtdpfmmbfidknfaaGreatDoor


/- GramBinds: two rows of texts that grow, beside the operators; and what holds of what was picked. -/
namespace Go.Proofs.YtdpfmmbfidknfaaGreatDoor
open Go.RowKit Go.Lib

abbrev SrT : TypeId := 9
def sX (l : List ByteArray) : List Value := l.map Value.string
theorem infoStr : (Tryz.prog.info? SrT).map (fun i => (i.zero, i.size, i.bytes)) = some (some (.string ⟨#[]⟩), 1, 16) := by kernel_rfl
theorem info_str : ∃ i0, Tryz.prog.info? SrT = some i0 ∧ i0.zero = some (.string ⟨#[]⟩) ∧ i0.size = 1 ∧ i0.bytes = 16 := by
  have h := infoStr
  cases hi : Tryz.prog.info? SrT with
  | none => rw [hi] at h; cases h
  | some i =>
    rw [hi] at h
    simp only [Option.map_some, Option.some.injEq, Prod.mk.injEq] at h
    exact ⟨i, rfl, h.1, h.2.1, h.2.2⟩

structure Rw2 (w0 w : World) (ab : Nat) (V4 V5 : Value) (L4 L5 : List ByteArray) : Prop where
  o4 : w.ownsRow w0.heap.size SrT 1 V4 L4.length (sX L4)
  o5 : w.ownsRow w0.heap.size SrT 1 V5 L5.length (sX L5)
  n4 : V4.ownBlock ≠ some ab
  n5 : V5.ownBlock ≠ some ab
  n45 : ∀ k, V4.ownBlock = some k → V5.ownBlock ≠ some k
  all : StrRow w (some ⟨ab, 0, none⟩) ((List.range 12).map opX)
  bel : Below w0.heap.size w0 w
  lt : ab < w.heap.size

theorem grown_bel {w w' : World} {row : Option Nat} {B : Nat} (h : w.grownBy w' row) (hB : B ≤ w.heap.size) (hr : ∀ k, row = some k → B ≤ k) : Below B w w' :=
  ⟨h.os, h.tape, h.output, h.size, fun k hk => h.block k (by omega) (fun e => by have := hr k e.symm; omega)⟩
theorem Rw2.keep {w0 w w' : World} {ab : Nat} {V4 V5 : Value} {L4 L5 : List ByteArray} (h : Rw2 w0 w ab V4 V5 L4 L5) (hb : Below w.heap.size w w') : Rw2 w0 w' ab V4 V5 L4 L5 := by
  have hg : w.grownBy w' none := ⟨hb.os, hb.tape, hb.output, hb.size, fun k hk _ => hb.block k hk⟩
  exact ⟨h.o4.kept hg (by cases V4.ownBlock <;> simp), h.o5.kept hg (by cases V5.ownBlock <;> simp), h.n4, h.n5, h.n45, h.all.keep hb, h.bel.trans (hb.mono h.bel.size), Nat.lt_of_lt_of_le h.lt hb.size⟩
theorem StrRow.grown {w w' : World} {ab : Nat} {row : Option Nat} {L : List ByteArray} (h : StrRow w (some ⟨ab, 0, none⟩) L) (hg : w.grownBy w' row) (hne : some ab ≠ row) : StrRow w' (some ⟨ab, 0, none⟩) L := by
  intro j x hj
  obtain ⟨b, o, h1, h2, h3⟩ := h j x hj
  obtain ⟨rfl, rfl⟩ : ab = b ∧ 0 = o := by simpa using h1
  exact ⟨ab, 0, rfl, Nat.lt_of_lt_of_le h2 hg.size, hg.cell h3 hne⟩
theorem sX_app (L : List ByteArray) (s : ByteArray) : sX (L ++ [s]) = sX L ++ [.string s] := by simp [sX]

theorem Rw2.app4 {w0 w X w' : World} {ab : Nat} {V4 V5 V' : Value} {L4 L5 : List ByteArray} {s : ByteArray} (h : Rw2 w0 w ab V4 V5 L4 L5) (hX : Below w.heap.size w X) (ho : w'.ownsRow w0.heap.size SrT 1 V' (L4.length + 1) (sX L4 ++ [.string s])) (hg : X.grownBy w' V4.ownBlock) (hat : V'.ownBlock = V4.ownBlock ∨ V'.ownBlock = some X.heap.size) : Rw2 w0 w' ab V' V5 (L4 ++ [s]) L5 := by
  have hK := h.keep hX
  have hlX := hX.size
  have hl := h.lt
  have hne : V5.ownBlock = none ∨ V5.ownBlock ≠ V4.ownBlock := by
    cases e5 : V5.ownBlock with
    | none => exact .inl rfl
    | some k => exact .inr (fun e => h.n45 k e.symm e5)
  refine ⟨by rw [sX_app, List.length_append]; exact ho, hK.o5.kept hg hne, ?_, h.n5, ?_, hK.all.grown hg (fun e => h.n4 e.symm), hK.bel.trans (grown_bel hg hK.bel.size (fun k hk => (hK.o4.lt k hk).1)), Nat.lt_of_lt_of_le hK.lt hg.size⟩
  · rcases hat with e | e
    · rw [e]; exact h.n4
    · rw [e]; intro e2; have := Option.some.inj e2; omega
  · intro k hk
    rcases hat with e | e
    · exact h.n45 k (e ▸ hk)
    · intro e5
      rw [e] at hk
      have := Option.some.inj hk
      have := (h.o5.lt k e5).2
      omega
theorem Rw2.app5 {w0 w X w' : World} {ab : Nat} {V4 V5 V' : Value} {L4 L5 : List ByteArray} {s : ByteArray} (h : Rw2 w0 w ab V4 V5 L4 L5) (hX : Below w.heap.size w X) (ho : w'.ownsRow w0.heap.size SrT 1 V' (L5.length + 1) (sX L5 ++ [.string s])) (hg : X.grownBy w' V5.ownBlock) (hat : V'.ownBlock = V5.ownBlock ∨ V'.ownBlock = some X.heap.size) : Rw2 w0 w' ab V4 V' L4 (L5 ++ [s]) := by
  have hK := h.keep hX
  have hlX := hX.size
  have hl := h.lt
  have hne : V4.ownBlock = none ∨ V4.ownBlock ≠ V5.ownBlock := by
    cases e4 : V4.ownBlock with
    | none => exact .inl rfl
    | some k => exact .inr (fun e => h.n45 k e4 e.symm)
  refine ⟨hK.o4.kept hg hne, by rw [sX_app, List.length_append]; exact ho, h.n4, ?_, ?_, hK.all.grown hg (fun e => h.n5 e.symm), hK.bel.trans (grown_bel hg hK.bel.size (fun k hk => (hK.o5.lt k hk).1)), Nat.lt_of_lt_of_le hK.lt hg.size⟩
  · rcases hat with e | e
    · rw [e]; exact h.n5
    · rw [e]; intro e2; have := Option.some.inj e2; omega
  · intro k hk
    rcases hat with e | e
    · rw [e]; exact h.n45 k hk
    · intro e5
      rw [e] at e5
      have := Option.some.inj e5
      have := (h.o4.lt k hk).2
      omega
/-- A row of texts, as the law's own functions read it. -/
theorem own_str {w : World} {B n : Nat} {V : Value} {L : List ByteArray} (h : w.ownsRow B SrT 1 V n (sX L)) : ∃ a c, V = .slice a n c ∧ n = L.length ∧ n ≤ c ∧ StrRow w a L := by
  have hn : n = L.length := by have := h.1; simp [sX] at this; omega
  rcases h.2 with ⟨rfl, h0⟩ | ⟨g, cap, cur, rfl, _, hh, hc, _⟩
  · refine ⟨none, 0, by rw [h0], hn, by omega, fun j x hj => ?_⟩
    have := (List.getElem?_eq_some_iff.1 hj).1
    omega
  · refine ⟨_, cap, rfl, hn, hc, fun j x hj => ?_⟩
    have hcl := h.cells (g := g) rfl j (.string x) (by simp [sX, hj])
    have e1 : (⟨g, 0, none⟩ : Addr).add j = ⟨g, 0 + j, none⟩ := by unfold Addr.add; split <;> simp_all
    rw [e1] at hcl
    exact ⟨g, 0, rfl, (Array.getElem?_eq_some_iff.1 hh).1, hcl⟩

theorem opX_small (s : Nat) (hs : s < 12) : (opX s).size ≤ 7 := of12 (P := fun s => (opX s).size ≤ 7) (by decide) (by decide) (by decide) (by decide) (by decide) (by decide) (by decide) (by decide) (by decide) (by decide) (by decide) (by decide) s hs
theorem txt_small : ∀ e : Ex, Ok12 e → e.noBr → (txt (full e)).length ≤ 12 * e.sz
  | .d n, _, _ => by simp [full, txt, Ex.sz]
  | .o s l r, h, hn => by
    have h1 := txt_small l h.2.1 hn.1
    have h2 := txt_small r h.2.2 hn.2
    have h3 : (opB s).length ≤ 7 := opX_small s h.1
    simp only [full, txt, Ex.sz, List.length_cons, List.length_append, List.length_nil]
    omega
  | .br e, _, hn => hn.elim
/-- What was picked so far. -/
structure Pk (l x : List Nat) (R : ByteArray) (la : Bool) (m : Nat) : Prop where
  rB : R.data.toList = rowB x l
  xl : x.length = l.length + 1
  lm : l.length ≤ m
  s12 : ∀ s ∈ l, s < 12
  n10 : ∀ n ∈ x, n < 10
  cmp : Cmp1 l
  las : la = false → ∀ i, i < l.length → lvAt l i = 3 → ∃ k, i < k ∧ k < l.length ∧ lvAt l k < 3
  rz : R.size ≤ 10 * l.length + 1
theorem lvAt_app {l : List Nat} {s i : Nat} (h : i < l.length) : lvAt (l ++ [s]) i = lvAt l i := by
  unfold lvAt
  rw [List.getD_eq_getElem?_getD, List.getD_eq_getElem?_getD, List.getElem?_append_left h]
theorem lvAt_last (l : List Nat) (s : Nat) : lvAt (l ++ [s]) l.length = lev s := by
  unfold lvAt
  rw [List.getD_eq_getElem?_getD, List.getElem?_append_right (Nat.le_refl _)]
  simp
theorem Pk.new : Pk [] [0] ⟨#[48]⟩ false 0 := ⟨rfl, rfl, Nat.le_refl _, fun s h => by simp at h, fun n h => by simp at h; omega, fun i j _ h => by simp at h, fun _ i h => by simp at h, Nat.le_refl _⟩
theorem Pk.skip {l x : List Nat} {R : ByteArray} {la : Bool} {m : Nat} (h : Pk l x R la m) : Pk l x R la (m + 1) := ⟨h.rB, h.xl, Nat.le_succ_of_le h.lm, h.s12, h.n10, h.cmp, h.las, h.rz⟩
theorem rowB_snoc (s n : Nat) {x l : List Nat} (h : x.length = l.length + 1) : rowB (x ++ [n]) (l ++ [s]) = rowB x l ++ 32 :: (opB s ++ 32 :: [dB n]) := by
  have := rowB_cut s l [] x [n] h
  exact this
theorem Pk.step {l x : List Nat} {R : ByteArray} {la : Bool} {m s n : Nat} (h : Pk l x R la m) (hs : s < 12) (hn : n < 10) (hc : lev s = 3 → la = false) (la' : Bool) (hla : la' = (if lev s = 3 then true else if lev s < 3 then false else la)) :
    Pk (l ++ [s]) (x ++ [n]) (R ++ ⟨#[32]⟩ ++ opX s ++ ⟨#[32]⟩ ++ dX n) la' (m + 1) := by
  refine ⟨?_, by simp [h.xl], by simp; exact h.lm, fun t ht => ?_, fun t ht => ?_, ?_, ?_, ?_⟩
  · rw [rowB_snoc s n h.xl]
    simp only [ByteArray.data_append, Array.toList_append, h.rB, List.append_assoc, List.cons_append, List.nil_append, dX, opB]
  · rcases List.mem_append.1 ht with ht | ht
    · exact h.s12 t ht
    · simp at ht; omega
  · rcases List.mem_append.1 ht with ht | ht
    · exact h.n10 t ht
    · simp at ht; omega
  · intro i j hij hj h1 h2
    rw [List.length_append, List.length_singleton] at hj
    by_cases e : j < l.length
    · rw [lvAt_app (by omega)] at h1
      rw [lvAt_app e] at h2
      obtain ⟨k, a, b, c⟩ := h.cmp i j hij e h1 h2
      exact ⟨k, a, b, by rw [lvAt_app (by omega)]; exact c⟩
    · obtain rfl : j = l.length := by omega
      rw [lvAt_last] at h2
      rw [lvAt_app hij] at h1
      obtain ⟨k, a, b, c⟩ := h.las (hc h2) i hij h1
      exact ⟨k, a, b, by rw [lvAt_app b]; exact c⟩
  · intro hf i hi h1
    rw [List.length_append, List.length_singleton] at hi ⊢
    rw [hf] at hla
    by_cases e3 : lev s = 3
    · rw [if_pos e3] at hla; cases hla
    · rw [if_neg e3] at hla
      have hil : i < l.length := by
        rcases Nat.lt_or_ge i l.length with g | g
        · exact g
        · obtain rfl : i = l.length := by omega
          rw [lvAt_last] at h1
          exact absurd h1 e3
      rw [lvAt_app hil] at h1
      by_cases e4 : lev s < 3
      · exact ⟨l.length, hil, by omega, by rw [lvAt_last]; exact e4⟩
      · rw [if_neg e4] at hla
        obtain ⟨k, a, b, c⟩ := h.las hla.symm i hil h1
        exact ⟨k, a, by omega, by rw [lvAt_app b]; exact c⟩
  · have := opX_small s hs
    have := h.rz
    simp only [ByteArray.size_append, List.length_append, List.length_singleton]
    have h5 : (⟨#[32]⟩ : ByteArray).size = 1 := rfl
    have h6 : (dX n).size = 1 := rfl
    omega
end Go.Proofs.YtdpfmmbfidknfaaGreatDoor


