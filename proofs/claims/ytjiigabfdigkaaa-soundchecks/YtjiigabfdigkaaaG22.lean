import Derived.Test.YtjiigabfdigkaaaG15
import Derived.WideKeyEntry
/- A view that grows: what else stays. -/
namespace Go.Proofs.Ytjiigabfdigkaaa
open Go.RowKit Go.Lib Go.Maps Go.WideMaps

theorem CM.nocell {α : Type} {K : TypeId} {lit : α → Lit} {ok : α → Prop} {w : World} {b : Nat} {L : List α} (h : CM K lit ok w b L) (i : Nat) : w.cell? ⟨b, i, none⟩ = none := by
  obtain ⟨D, ⟨es, clock, h1, -⟩, -⟩ := h
  unfold World.cell?
  rw [h1]
theorem FM.nocell {w : World} {b n : Nat} {g : Int → Option Nat} (h : FM w b n g) (i : Nat) : w.cell? ⟨b, i, none⟩ = none := by
  obtain ⟨D, ⟨es, clock, h1, -⟩, -⟩ := h
  unfold World.cell?
  rw [h1]
/-- Blocks without cells. -/
def Nocells (w : World) (S : Nat → Prop) : Prop := ∀ b, S b → ∀ i, w.cell? ⟨b, i, none⟩ = none
theorem RowC.but {α : Type} {sz : Nat} {enc : α → List Value} {S : Nat → Prop} {w w' : World} {q : Option Addr} {l : List α} (h : RowC sz enc w q l) (hz : 0 < sz) (he : ∀ x, ∃ v, (enc x)[0]? = some v) (hb : But S w w') (hS : Nocells w S) : RowC sz enc w' q l := by
  intro j x hj
  obtain ⟨b, o, rfl, hlt, hc⟩ := h j x hj
  obtain ⟨v, hv⟩ := he x
  have hn : ¬ S b := fun hs => by
    have h0 := hc 0 hz
    rw [hS b hs, hv] at h0
    cases h0
  exact ⟨b, o, rfl, Nat.lt_of_lt_of_le hlt hb.size, fun i hi => (hb.cell (p := ⟨b, o + j * sz + i, none⟩) hlt hn).trans (hc i hi)⟩
theorem PcIn.but {S : Nat → Prop} {w w' : World} {p : Pc} (h : PcIn w p) (hb : But S w w') (hS : Nocells w S) : PcIn w' p :=
  ⟨h.links.but (by omega) (fun _ => ⟨_, rfl⟩) hb hS, h.origins.but (by omega) (fun _ => ⟨_, rfl⟩) hb hS, h.targets.but (by omega) (fun _ => ⟨_, rfl⟩) hb hS, h.names.but (by omega) (fun _ => ⟨_, rfl⟩) hb hS, h.ll, h.lo, h.lt, h.ln, h.li⟩
theorem StIn.but {S : Nat → Prop} {w w' : World} {pa : Option Addr} {ps : List Pc} {la : Option Addr} {ls : List Ln} (h : StIn w pa ps la ls) (hb : But S w w') (hS : Nocells w S) : StIn w' pa ps la ls :=
  ⟨h.procs.but (by omega) (fun _ => ⟨_, rfl⟩) hb hS, fun p hp => (h.each p hp).but hb hS, h.lanes.but (by omega) (fun _ => ⟨_, rfl⟩) hb hS, fun l hl => ⟨(h.sigs l hl).1.but (by omega) (fun _ => ⟨_, rfl⟩) hb hS, (h.sigs l hl).2⟩, h.lp, h.ll⟩
theorem At.nocell {S : Nat → Prop} {w : World} {b : Nat} {v : Value} {vs : List Value} (h : At w b (v :: vs)) (hS : Nocells w S) : ¬ S b := fun hs => by
  have h0 := (h.1 0 v rfl).1
  rw [hS b hs] at h0
  cases h0

/-- The halves that a process has, as ties. -/
def lnkT (p : Pc) (l : List Hf) : List Tie := l.map (fun h => ⟨0, p.pid, 0, h.pid⟩)
def monT (k : Int) (p : Pc) (l : List Mn) : List Tie := l.map (fun m => ⟨k, p.pid, m.ref, m.pid⟩)
def tiesOf (p : Pc) : List Tie := lnkT p p.links ++ monT 1 p p.origins ++ monT 2 p p.targets
theorem take_map_step {α β : Type} {f : α → β} {l : List α} {k : Nat} {x : α} (hx : l[k]? = some x) : (l.take (k + 1)).map f = (l.take k).map f ++ [f x] := by
  rw [List.take_add_one, hx]
  simp
/-- Behind a count: the rest of the view stays. -/
theorem VW.tie {w w' : World} {vb : Nat} {pa : Option Addr} {np cp fb nb tb n : Nat} {g : Int → Option Nat} {NL : List ByteArray} {TL TL' : List Tie} (h : VW w vb pa np cp fb nb tb n g NL TL) (hb : But (fun k => k = tb) w w') (h1 : vb ≠ tb) (h2 : fb ≠ tb) (h3 : nb ≠ tb) (ht : CM VT tieL wft w' tb TL') : VW w' vb pa np cp fb nb tb n g NL TL' :=
  ⟨h.box.but hb h1, h.first.but hb h2, h.names.but hb h3, ht⟩
theorem VW.name {w w' : World} {vb : Nat} {pa : Option Addr} {np cp fb nb tb n : Nat} {g : Int → Option Nat} {NL NL' : List ByteArray} {TL : List Tie} (h : VW w vb pa np cp fb nb tb n g NL TL) (hb : But (fun k => k = nb) w w') (h1 : vb ≠ nb) (h2 : fb ≠ nb) (h3 : tb ≠ nb) (ht : CM VS strL (fun s => s.size ≤ maxLen) w' nb NL') : VW w' vb pa np cp fb nb tb n g NL' TL :=
  ⟨h.box.but hb h1, h.first.but hb h2, ht, h.ties.but hb h3⟩
theorem VW.place {w w' : World} {vb : Nat} {pa : Option Addr} {np cp fb nb tb n n' : Nat} {g g' : Int → Option Nat} {NL : List ByteArray} {TL : List Tie} (h : VW w vb pa np cp fb nb tb n g NL TL) (hb : But (fun k => k = fb) w w') (h1 : vb ≠ fb) (h2 : nb ≠ fb) (h3 : tb ≠ fb) (ht : FM w' fb n' g') : VW w' vb pa np cp fb nb tb n' g' NL TL :=
  ⟨h.box.but hb h1, ht, h.names.but hb h2, h.ties.but hb h3⟩
end Go.Proofs.Ytjiigabfdigkaaa


/- One more of a key, as m[k]++ goes: the entry, then the store. -/
namespace Go.Proofs.Ytjiigabfdigkaaa
open Go.RowKit Go.Lib Go.Maps Go.WideMaps

theorem vKeyS : KeyLaw Try.prog VS := string_law Try.underlying9
set_option maxRecDepth 100000 in
theorem vKeyT : KeyLaw Try.prog VT := deep_law_laid laidOut20 (m := 2) (by omega) rowVT (by kernel_rfl) wideVT

/-- What the entry leaves is what storing its own value leaves. -/
theorem entry_update {P : Program} {w w1 : World} {t k e : TypeId} {b : Nat} {es : Array MapEntry} {clock : Nat} (K : KeyLaw P k) (ht : P.underlying t = some (.map k e)) {z : Value} (hz : ∀ u : World, (zeroValue e).run P u = .ok z u) (hb : w.heap[b]? = some (.map es clock))
    (hks : ∀ x ∈ es.toList, ∃ l, keyOf P k x.key = some l) {key : Value} {kl : Lit} (hkey : keyOf P k key = some kl) {v0 st : Value} (hrun : (Instr.mapEntry t (.map (some b)) key).run P w = .ok (.tuple #[v0, st]) w1) :
    (Instr.mapUpdate t (.map (some b)) key v0).run P w = .ok () w1 := by
  rcases K.find w hkey es.toList hks with ⟨h1, -⟩ | ⟨j, e0, h1, h2, h3⟩
  · simp only [Instr.mapEntry, Sem.run_bind, Go.run_underlying ht, MapKept.run_getObj_map hb, K.check w false hkey, h1, hz, MapKept.run_setObj_map _ hb, Result.andThen, Sem.run_pure] at hrun
    injection hrun with hv hw
    injection hv with hv
    have hv0 : z = v0 := by injection hv with hv; injection hv
    subst hv0
    rw [← hw]
    simp [Instr.mapUpdate, Go.run_underlying ht, MapKept.run_getObj_map hb, K.check w false hkey, h1, MapKept.run_setObj_map _ hb, Result.andThen]
  · have hj : es[j]? = some e0 := by simpa using h2
    simp [Instr.mapEntry, Go.run_underlying ht, MapKept.run_getObj_map hb, K.check w false hkey, h1, hj, h3, K.stays w hkey, MapKept.run_setObj_map _ hb, Result.andThen] at hrun
    obtain ⟨⟨rfl, -⟩, rfl⟩ := hrun
    have hmod : es.modify j (fun e => { key := key, val := e.val, born := e.born }) = es.modify j (fun e => { key := key, val := e0.val, born := e.born }) := by
      apply Array.ext_getElem?
      intro i
      rw [Array.getElem?_modify, Array.getElem?_modify]
      by_cases e : j = i
      · subst e; simp [hj]
      · simp [e]
    simp [Instr.mapUpdate, Go.run_underlying ht, MapKept.run_getObj_map hb, K.check w false hkey, h1, hj, h3, K.stays w hkey, MapKept.run_setObj_map _ hb, Result.andThen, hmod]
/-- What the entry tells first is what a look tells. -/
theorem entry_look {P : Program} {w w1 : World} {t k e : TypeId} {b : Nat} {es : Array MapEntry} {clock : Nat} (K : KeyLaw P k) (ht : P.underlying t = some (.map k e)) {z : Value} (hz : ∀ u : World, (zeroValue e).run P u = .ok z u) (hb : w.heap[b]? = some (.map es clock))
    (hks : ∀ x ∈ es.toList, ∃ l, keyOf P k x.key = some l) {key : Value} {kl : Lit} (hkey : keyOf P k key = some kl) {v0 st u : Value} (hrun : (Instr.mapEntry t (.map (some b)) key).run P w = .ok (.tuple #[v0, st]) w1)
    (hlook : (Instr.lookup t (.map (some b)) key false).run P w = .ok u w) : v0 = u := by
  rcases K.find w hkey es.toList hks with ⟨h1, -⟩ | ⟨j, e0, h1, h2, h3⟩
  · simp [Instr.mapEntry, Go.run_underlying ht, MapKept.run_getObj_map hb, K.check w false hkey, h1, hz, MapKept.run_setObj_map _ hb, Result.andThen] at hrun
    simp [Instr.lookup, Go.run_underlying ht, MapKept.run_getObj_map hb, K.check w _ hkey, h1, hz, Result.andThen] at hlook
    exact hrun.1.1.symm.trans hlook
  · have hj : es[j]? = some e0 := by simpa using h2
    simp [Instr.mapEntry, Go.run_underlying ht, MapKept.run_getObj_map hb, K.check w false hkey, h1, hj, h3, K.stays w hkey, MapKept.run_setObj_map _ hb, Result.andThen] at hrun
    simp [Instr.lookup, Go.run_underlying ht, MapKept.run_getObj_map hb, K.check w _ hkey, h1, Result.andThen] at hlook
    exact hrun.1.1.symm.trans hlook

open Go.ChangeMaps in
/-- One more of a key. -/
theorem CM.incr {α : Type} {K M : TypeId} {lit : α → Lit} {ok : α → Prop} {w : World} {b : Nat} {L : List α} (hK : KeyLaw Try.prog K) (hM : Try.prog.underlying M = some (.map K VI)) (h : CM K lit ok w b L) {a : α} {v : Value} (hk : keyOf Try.prog K v = some (lit a)) (ha : ok a) (hinj : ∀ x, ok x → lit x = lit a → x = a) (hn : L.length < maxLen) :
    ∃ (st : Int) (w1 : World), (Instr.mapEntry M (.map (some b)) v).run Try.prog w = .ok (.tuple #[.int .i64 (cnt a L : Nat), .int .i64 st]) w1 ∧ But (fun k => k = b) w w1 ∧
      (Instr.lookup M (.map (some b)) v false).run Try.prog w1 = .ok (.int .i64 (cnt a L : Nat)) w1 ∧
      ∃ w3, (Instr.entryStore M (.map (some b)) (.int .i64 st) (.int .i64 ((cnt a L + 1 : Nat) : Int))).run Try.prog w1 = .ok () w3 ∧ CM K lit ok w3 b (L ++ [a]) ∧ But (fun k => k = b) w w3 := by
  have KK := Keyed.of_law hK
  have hlk := h.look KK hM hk ha
  obtain ⟨w', hup, hcm, hbut⟩ := h.store KK hM hk (KK.key hk) ha hinj hn
  obtain ⟨D, hown, -, h2⟩ := h
  obtain ⟨es, clock, hb, F, hs, hD⟩ := id hown
  obtain ⟨v0, st, es1, clock1, he, -, hst⟩ := Go.WideElems.entry_then_store hK hM (z := .int .i64 0) (fun u => vZero u) hb F hk
  have hks := F.keys
  have hv0 := entry_look hK hM (z := .int .i64 0) (fun u => vZero u) hb hks hk he hlk
  have hu0 := entry_update hK hM (z := .int .i64 0) (fun u => vZero u) hb hks hk he
  subst hv0
  obtain ⟨w1', hr1, ho1, ht1⟩ := hown.store KK hM hn hk (iElem_mk (cnt a L : Nat))
  rw [hu0] at hr1
  injection hr1 with _ hw1
  subst hw1
  obtain ⟨u, ps, hrun1, hv1⟩ := ho1.lookup KK hM (vZero _) (iElem_mk 0) hk
  rw [atKey_put_same hown.isMap (KK.key hk)] at hv1
  rw [iElem_inv hv1] at hrun1
  obtain ⟨es', clock', hs1, hs2⟩ := hst (setBlock w b (.map es1 clock1)) (.int .i64 ((cnt a L + 1 : Nat) : Int)) (by
    have hlt := (Array.getElem?_eq_some_iff.1 hb).1
    simp [setBlock, hlt])
  rw [hup] at hs2
  injection hs2 with _ hw2
  have hww : setBlock (setBlock w b (.map es1 clock1)) b (.map es' clock') = w' := by
    rw [hw2]
    simp [setBlock]
  rw [hww] at hs1
  exact ⟨(st : Int), _, he, turned_but ht1, hrun1, w', hs1, hcm, hbut⟩

theorem step_entry {P : Program} {w w1 : World} {ops : Array Oper} {o : Oper} {a : Act} {K : Act → World → Prop} {Q : Exit → Act → World → Prop} {E : Prop} (hgd : o.guard = none) (t : TypeId) (m x : Operand) (hop : o.op = Op.mapEntry t m x) {mv v u : Value} (hm : a.eval m = mv) (hx : a.eval x = v)
    (hrun : (Instr.mapEntry t mv v).run P w = .ok u w1) (h : K (a.put o.dst u) w1) : if Region.wanted o (yielded ops a.tmps) = true then Oper.wp P o a w K Q else E := by
  have hw : Region.wanted o (yielded ops a.tmps) = true := by simp [Region.wanted, hgd]
  rw [if_pos hw]
  unfold Oper.wp
  simp [execOp, hop, hm, hx, hrun, Result.andThen]
  exact h
theorem step_mapup {P : Program} {w w1 : World} {ops : Array Oper} {o : Oper} {a : Act} {K : Act → World → Prop} {Q : Exit → Act → World → Prop} {E : Prop} (hgd : o.guard = none) (t : TypeId) (m s x : Operand) (hop : o.op = Op.mapUpdate t m s x) {mv sv v : Value} (hm : a.eval m = mv) (hs : a.eval s = sv) (hx : a.eval x = v)
    (hrun : (Instr.mapUpdate t mv sv v).run P w = .ok () w1) (h : K (a.put o.dst undef) w1) : if Region.wanted o (yielded ops a.tmps) = true then Oper.wp P o a w K Q else E := by
  have hw : Region.wanted o (yielded ops a.tmps) = true := by simp [Region.wanted, hgd]
  rw [if_pos hw]
  unfold Oper.wp
  simp [execOp, hop, hm, hs, hx, hrun, Result.andThen]
  exact h
theorem step_estore {P : Program} {w w1 : World} {ops : Array Oper} {o : Oper} {a : Act} {K : Act → World → Prop} {Q : Exit → Act → World → Prop} {E : Prop} (hgd : o.guard = none) (t : TypeId) (m s x : Operand) (hop : o.op = Op.entryStore t m s x) {mv sv v : Value} (hm : a.eval m = mv) (hs : a.eval s = sv) (hx : a.eval x = v)
    (hrun : (Instr.entryStore t mv sv v).run P w = .ok () w1) (h : K (a.put o.dst undef) w1) : if Region.wanted o (yielded ops a.tmps) = true then Oper.wp P o a w K Q else E := by
  have hw : Region.wanted o (yielded ops a.tmps) = true := by simp [Region.wanted, hgd]
  rw [if_pos hw]
  unfold Oper.wp
  simp [execOp, hop, hm, hs, hx, hrun, Result.andThen]
  exact h
end Go.Proofs.Ytjiigabfdigkaaa


