import Derived.Test.YtjiigabfdigkaaaG04
import Derived.Maps.Own
import Derived.Maps.OwnOps
import Derived.Maps.OwnSet
import Derived.Maps.Views
import Derived.DeepKeys4
import Derived.Test.YtjiigabfdigkaaaG09
/- Maps of counts, and of places. -/
namespace Go.Proofs.Ytjiigabfdigkaaa
open Go.RowKit Go.Lib Go.Maps Go.WideMaps

abbrev VI : Nat := 3
abbrev VS : Nat := 9
abbrev VT : Nat := 85
abbrev VMF : Nat := 67
abbrev VMN : Nat := 68
abbrev VMT : Nat := 69
theorem vLawI : Keyed Try.prog VI := int_keyed Try.underlying3
theorem vLawS : Keyed Try.prog VS := string_keyed Try.underlying9
theorem laidOut20 : laidOutB Try.prog = true := by kernel_rfl
theorem rowVT : (VT : TypeId) < Try.prog.types.size := of_decide_eq_true (by kernel_rfl)
theorem wideVT : (match Try.prog.underlying VT with | some (.array _ _) | some (.struct _) => true | _ => false) = true := by rw [Try.underlying85]
set_option maxRecDepth 100000 in
theorem vLawT : Keyed Try.prog VT := Keyed.of_law (deep_law_laid laidOut20 (m := 2) (by omega) rowVT (by kernel_rfl) wideVT)
theorem vUndF : Try.prog.underlying VMF = some (.map VI VI) := Try.underlying67
theorem vUndN : Try.prog.underlying VMN = some (.map VS VI) := Try.underlying68
theorem vUndT : Try.prog.underlying VMT = some (.map VT VI) := Try.underlying69
theorem vZero (w : World) : (zeroValue VI).run Try.prog w = .ok (.int .i64 0) w := by kernel_rfl

def iElem (v : Value) : Option (DataW Unit × List MemPlace) :=
  match v with
  | .int .i64 n => some (.lit (.int .i64 n), [])
  | _ => none
theorem iElem_mk (n : Int) : iElem (.int .i64 n) = some (.lit (.int .i64 n), []) := rfl
theorem iElem_inv {v : Value} {n : Int} {ps : List MemPlace} (h : iElem v = some (.lit (.int .i64 n), ps)) : v = .int .i64 n := by
  unfold iElem at h
  split at h
  · simp at h; rw [h.1]
  · cases h

def wfi (a : Int) : Prop := (Lit.int .i64 a).wf = true
structure Tie where
  k : Int
  o : Int
  r : Int
  wi : Int
abbrev tieV (t : Tie) : Value := .agg #[.int .i64 t.k, .int .i64 t.o, .int .i64 t.r, .int .i64 t.wi]
def wft (t : Tie) : Prop := wfi t.k ∧ wfi t.o ∧ wfi t.r ∧ wfi t.wi
def tieL (t : Tie) : Lit := .string (keyBytes [.int .i64 t.k, .int .i64 t.o, .int .i64 t.r, .int .i64 t.wi])
theorem formedVT {c0 c1 c2 c3 : Value} : (Value.agg #[c0, c1, c2, c3]).formed Try.prog VT = true := by
  have : Try.prog.cellsOf VT = 4 := by kernel_rfl
  simp [Value.formed, Try.underlying85, this]
theorem keyTie {t : Tie} (h : wft t) : keyOf Try.prog VT (tieV t) = some (tieL t) := by
  have hk : Try.prog.keyType VT = true := by kernel_rfl
  have hc : Try.prog.cellsOf VT = 4 := by kernel_rfl
  have hi : Try.prog.cellsOf VI = 1 := by kernel_rfl
  have hs : Try.prog.types.size + 1 = (Try.prog.types.size - 1) + 1 + 1 := by
    have := rowVT; omega
  unfold keyOf
  rw [Try.underlying85]
  simp only [hk, formedVT, Bool.and_self, if_true]
  rw [hs]
  unfold Program.keyLits
  rw [Try.underlying85]
  have e1 : ∀ (m : Nat) (x : Int), wfi x → Try.prog.keyLits (m + 1) 3 [.int .i64 x] = some [.int .i64 x] := by
    intro m x hx
    unfold Program.keyLits
    rw [Try.underlying3]
    unfold wfi at hx
    simp [hx]
  have hcs : (tieV t).cells.toList = [.int .i64 t.k, .int .i64 t.o, .int .i64 t.r, .int .i64 t.wi] := by simp [Value.cells]
  rw [hcs]
  simp [hc, hi, e1 _ _ h.1, e1 _ _ h.2.1, e1 _ _ h.2.2.1, e1 _ _ h.2.2.2, tieL, List.mapM_cons, List.mapM_nil]
theorem tieL_inj {a b : Tie} (ha : wft a) (hb : wft b) (h : tieL a = tieL b) : a = b := by
  have := vLawT.inj (keyTie ha) (h ▸ keyTie hb)
  obtain ⟨a1, a2, a3, a4⟩ := a
  obtain ⟨b1, b2, b3, b4⟩ := b
  simp at this
  obtain ⟨rfl, rfl, rfl, rfl⟩ := this
  rfl
abbrev strL (s : ByteArray) : Lit := .string s.data.toList
theorem keyStr {s : ByteArray} (h : s.size ≤ maxLen) : keyOf Try.prog VS (.string s) = some (strL s) := keyOf_string_mk Try.underlying9 h
theorem keyInt {q : Int} (h : wfi q) : keyOf Try.prog VI (.int .i64 q) = some (.int .i64 q) := keyOf_int_mk Try.underlying3 h
theorem strL_inj {s t : ByteArray} (h : strL s = strL t) : s = t := by
  injection h with h
  exact ByteArray.ext (Array.ext' h)
abbrev z0 : DataW Unit := .lit (.int .i64 0)

/-- How often a thing is in a row. -/
noncomputable def cnt {α : Type} (a : α) : List α → Nat
  | [] => 0
  | x :: r => (open Classical in if x = a then 1 else 0) + cnt a r
theorem cnt_app {α : Type} (a : α) (l m : List α) : cnt a (l ++ m) = cnt a l + cnt a m := by
  induction l with
  | nil => simp [cnt]
  | cons x r ih => simp only [List.cons_append, cnt, ih]; omega
theorem cnt_le {α : Type} (a : α) (l : List α) : cnt a l ≤ l.length := by
  induction l with
  | nil => simp [cnt]
  | cons x r ih => simp only [cnt, List.length_cons]; split <;> omega
theorem cnt_pos {α : Type} (a : α) (l : List α) : 0 < cnt a l ↔ a ∈ l := by
  induction l with
  | nil => simp [cnt]
  | cons x r ih =>
    simp only [cnt, List.mem_cons]
    by_cases e : x = a
    · simp [e]; omega
    · rw [if_neg e, Nat.zero_add, ih]
      constructor
      · exact .inr
      · rintro (h | h)
        · exact absurd h.symm e
        · exact h
theorem cnt_nodup {α : Type} (l : List α) : l.Nodup ↔ ∀ a ∈ l, cnt a l ≤ 1 := by
  induction l with
  | nil => simp
  | cons x r ih =>
    rw [List.nodup_cons, ih]
    constructor
    · rintro ⟨hx, h⟩ a ha
      simp only [cnt]
      have hz : ∀ b, b ∉ r → cnt b r = 0 := fun b hb => by
        have := (not_congr (cnt_pos b r)).2 hb; omega
      by_cases e : x = a
      · subst e; simp [hz x hx]
      · rw [if_neg e, Nat.zero_add]
        rcases List.mem_cons.1 ha with h' | h'
        · exact absurd h'.symm e
        · exact h a h'
    · intro h
      refine ⟨fun hx => ?_, fun a ha => ?_⟩
      · have h1 := h x (by simp)
        have h2 := (cnt_pos x r).2 hx
        simp [cnt] at h1
        omega
      · have h1 := h a (by simp [ha])
        simp only [cnt] at h1
        omega

/-- A map of counts: how often each key was counted. -/
def CM {α : Type} (K : TypeId) (lit : α → Lit) (ok : α → Prop) (w : World) (b : Nat) (L : List α) : Prop :=
  ∃ D : DataW Unit, w.ownsMap Try.prog K iElem b L.length D ∧ (∀ a ∈ L, ok a) ∧ ∀ a, ok a → D.atKey (lit a) z0 = .lit (.int .i64 (cnt a L : Nat))
theorem own_but {k : TypeId} {f : Value → Option (DataW Unit × List MemPlace)} {S : Nat → Prop} {w w' : World} {b n : Nat} {D : DataW Unit} (h : w.ownsMap Try.prog k f b n D) (hb : But S w w') (hs : ¬ S b) : w'.ownsMap Try.prog k f b n D := by
  have hlt := h.lt
  obtain ⟨es, clock, h1, h2⟩ := h
  exact ⟨es, clock, (hb.block b hlt hs).trans h1, h2⟩
theorem turned_but {w w' : World} {b : Nat} (h : w.mapTurned w' b) : But (fun k => k = b) w w' := by
  have hg := h.grown
  exact ⟨hg.os, hg.tape, hg.output, hg.size, fun k hk hs => hg.block k hk (fun e => hs (by simpa using e))⟩
section
variable {α : Type} {K : TypeId} {lit : α → Lit} {ok : α → Prop} {w w' : World} {b : Nat} {L : List α}
theorem CM.lt (h : CM K lit ok w b L) : b < w.heap.size := by
  obtain ⟨D, h, -⟩ := h
  exact h.lt
theorem CM.but {S : Nat → Prop} (h : CM K lit ok w b L) (hb : But S w w') (hs : ¬ S b) : CM K lit ok w' b L := by
  obtain ⟨D, h, r⟩ := h
  exact ⟨D, own_but h hb hs, r⟩
theorem cm_made (w : World) : CM K lit ok (w.alloc (.map #[] 0)) w.heap.size ([] : List α) :=
  ⟨_, World.ownsMap_made w _ _ _, fun a h => (by cases h), fun a _ => rfl⟩
theorem CM.look {M : TypeId} (hK : Keyed Try.prog K) (hM : Try.prog.underlying M = some (.map K VI)) (h : CM K lit ok w b L) {a : α} {v : Value} (hk : keyOf Try.prog K v = some (lit a)) (ha : ok a) :
    (Instr.lookup M (.map (some b)) v false).run Try.prog w = .ok (.int .i64 (cnt a L : Nat)) w := by
  obtain ⟨D, hown, -, h2⟩ := h
  obtain ⟨u, ps, hrun, hv⟩ := hown.lookup hK hM (vZero w) (iElem_mk 0) hk
  rw [h2 a ha] at hv
  rw [iElem_inv hv] at hrun
  exact hrun
theorem CM.store {M : TypeId} (hK : Keyed Try.prog K) (hM : Try.prog.underlying M = some (.map K VI)) (h : CM K lit ok w b L) {a : α} {v : Value} (hk : keyOf Try.prog K v = some (lit a)) (hy : WideAt.IsKeyLit (lit a)) (ha : ok a) (hinj : ∀ x, ok x → lit x = lit a → x = a) (hn : L.length < maxLen) :
    ∃ w', (Instr.mapUpdate M (.map (some b)) v (.int .i64 ((cnt a L + 1 : Nat) : Int))).run Try.prog w = .ok () w' ∧ CM K lit ok w' b (L ++ [a]) ∧ But (fun k => k = b) w w' := by
  obtain ⟨D, hown, h1, h2⟩ := h
  obtain ⟨w', hrun, ho, ht⟩ := hown.store hK hM hn hk (iElem_mk ((cnt a L + 1 : Nat) : Int))
  have hMap := hown.isMap
  refine ⟨w', hrun, ⟨_, by rw [List.length_append]; exact ho, fun x hx => ?_, fun x hx => ?_⟩, turned_but ht⟩
  · rcases List.mem_append.1 hx with h | h
    · exact h1 x h
    · rw [List.mem_singleton.1 h]; exact ha
  · rw [cnt_app]
    by_cases e : x = a
    · subst e
      rw [atKey_put_same hMap hy]
      simp [cnt]
    · rw [atKey_put_other (fun k => e (hinj x hx k)), h2 x hx]
      have : ¬ a = x := fun k => e k.symm
      simp [cnt, this]
end
/-- A map of places. -/
def FM (w : World) (b n : Nat) (g : Int → Option Nat) : Prop :=
  ∃ D : DataW Unit, w.ownsMap Try.prog VI iElem b n D ∧ ∀ q, Maps.has D (.int .i64 q) = (g q).isSome ∧ ∀ m : Nat, g q = some m → D.atKey (.int .i64 q) z0 = .lit (.int .i64 (m : Int))
section
variable {w w' : World} {b n : Nat} {g : Int → Option Nat}
theorem FM.lt (h : FM w b n g) : b < w.heap.size := by
  obtain ⟨D, h, -⟩ := h
  exact h.lt
theorem FM.but {S : Nat → Prop} (h : FM w b n g) (hb : But S w w') (hs : ¬ S b) : FM w' b n g := by
  obtain ⟨D, h, r⟩ := h
  exact ⟨D, own_but h hb hs, r⟩
theorem fm_made (w : World) : FM (w.alloc (.map #[] 0)) w.heap.size 0 (fun _ => none) :=
  ⟨_, World.ownsMap_made w _ _ _, fun q => ⟨rfl, fun m h => by cases h⟩⟩
theorem FM.look (h : FM w b n g) {q : Int} (hq : wfi q) : (Instr.lookup VMF (.map (some b)) (.int .i64 q) true).run Try.prog w = .ok (.tuple #[.int .i64 (((g q).getD 0 : Nat) : Int), .bool (g q).isSome]) w := by
  obtain ⟨D, hown, h2⟩ := h
  obtain ⟨u, ps, hrun, hv⟩ := hown.look_ok vLawI vUndF (vZero w) (iElem_mk 0) (keyInt hq)
  obtain ⟨e1, e2⟩ := h2 q
  rw [e1] at hrun
  cases hw : g q with
  | none =>
    rw [hw] at e1 hrun
    rw [atKey_of_not_has e1] at hv
    rw [iElem_inv hv] at hrun
    exact hrun
  | some p =>
    rw [hw] at hrun
    rw [e2 p hw] at hv
    rw [iElem_inv hv] at hrun
    exact hrun
theorem FM.store (h : FM w b n g) {q : Int} (hq : wfi q) (hn : n < maxLen) (m : Nat) :
    ∃ w', (Instr.mapUpdate VMF (.map (some b)) (.int .i64 q) (.int .i64 (m : Int))).run Try.prog w = .ok () w' ∧ FM w' b (n + 1) (fun x => if x = q then some m else g x) ∧ But (fun k => k = b) w w' := by
  obtain ⟨D, hown, h2⟩ := h
  obtain ⟨w', hrun, ho, ht⟩ := hown.store vLawI vUndF hn (keyInt hq) (iElem_mk (m : Int))
  have hMap := hown.isMap
  refine ⟨w', hrun, ⟨_, ho, fun x => ?_⟩, turned_but ht⟩
  by_cases e : x = q
  · subst e
    simp only [if_true]
    exact ⟨has_put_same hMap (show WideAt.IsKeyLit (.int .i64 x) from trivial) _, fun k hk => by injection hk with hk; rw [atKey_put_same hMap (show WideAt.IsKeyLit (.int .i64 x) from trivial), hk]⟩
  · simp only [if_neg e]
    have hne : Lit.int .i64 x ≠ .int .i64 q := fun k => e (by injection k)
    exact ⟨(has_put_other hne _).trans (h2 x).1, fun k hk => (atKey_put_other hne _ _).trans ((h2 x).2 k hk)⟩
end
end Go.Proofs.Ytjiigabfdigkaaa


/- A view in memory: whether a half is there, whether a process is gone. -/
namespace Go.Proofs.Ytjiigabfdigkaaa
open Go.RowKit Go.Lib Go.Maps Go.WideMaps

/-- A view: where the first with a pid is, which names, which ties there are. -/
structure VW (w : World) (vb : Nat) (pa : Option Addr) (np cp fb nb tb n : Nat) (g : Int → Option Nat) (NL : List ByteArray) (TL : List Tie) : Prop where
  box : At w vb [.slice pa np cp, .map (some fb), .map (some nb), .map (some tb)]
  first : FM w fb n g
  names : CM VS strL (fun s => s.size ≤ maxLen) w nb NL
  ties : CM VT tieL wft w tb TL
theorem VW.but {S : Nat → Prop} {w w' : World} {vb : Nat} {pa : Option Addr} {np cp fb nb tb n : Nat} {g : Int → Option Nat} {NL : List ByteArray} {TL : List Tie} (h : VW w vb pa np cp fb nb tb n g NL TL) (hb : But S w w') (h0 : ¬ S vb) (h1 : ¬ S fb) (h2 : ¬ S nb) (h3 : ¬ S tb) : VW w' vb pa np cp fb nb tb n g NL TL :=
  ⟨h.box.but hb h0, h.first.but hb h1, h.names.but hb h2, h.ties.but hb h3⟩
theorem VW.keep {w w' : World} {vb : Nat} {pa : Option Addr} {np cp fb nb tb n : Nat} {g : Int → Option Nat} {NL : List ByteArray} {TL : List Tie} (h : VW w vb pa np cp fb nb tb n g NL TL) (hb : Below w.heap.size w w') : VW w' vb pa np cp fb nb tb n g NL TL :=
  h.but (But.of_below (S := fun _ => False) hb) (fun h => h) (fun h => h) (fun h => h) (fun h => h)

theorem wpList_cnt {α : Type} {K M : TypeId} {lit : α → Lit} {ok : α → Prop} {b : Nat} {L : List α} {w : World} {ops : Array Oper} {rest : List Oper} {o : Oper} {a : Act} {Q : Exit → Act → World → Prop} (hg : o.guard = none) (m x : Operand) (hop : o.op = Op.lookup M m x false)
    (hK : Keyed Try.prog K) (hM : Try.prog.underlying M = some (.map K VI)) (h : CM K lit ok w b L) {y : α} {v : Value} (hk : keyOf Try.prog K v = some (lit y)) (ha : ok y)
    (hm : a.eval m = .map (some b)) (hx : a.eval x = v) (hQ : wpList Try.prog ops Q rest (a.put o.dst (.int .i64 (cnt y L : Nat))) w) : wpList Try.prog ops Q (o :: rest) a w := by
  refine wpList_plain hg fun K' hK' => ?_
  unfold Oper.wp
  simp [execOp, hop, hm, hx, h.look hK hM hk ha, Result.andThen]
  exact hK' _ _ hQ

set_option maxHeartbeats 1000000 in
set_option maxRecDepth 10000 in
theorem vhas_any {w : World} {vb : Nat} {pa : Option Addr} {np cp fb nb tb n : Nat} {g : Int → Option Nat} {NL : List ByteArray} {TL : List Tie} (hv : VW w vb pa np cp fb nb tb n g NL TL) (t : Tie) (ht : wft t) :
    Calls Try.prog 51 #[.pointer (some ⟨vb, 0, none⟩), tieV t] w (Says (t ∈ TL) w) := by
  have HV := hidb hv
  have HT := hidb ht
  clear hv ht
  have HX0 := hidb (At.new w [.int .i64 t.k, .int .i64 t.o, .int .i64 t.r, .int .i64 t.wi] 85)
  go_enter Try.func51, Try.ntmps51
  go_wp2_with fail
  obtain ⟨W0, hW0⟩ : ∃ W0, w.alloc (.cells #[.int .i64 t.k, .int .i64 t.o, .int .i64 t.r, .int .i64 t.wi] 85) = W0 := ⟨_, rfl⟩
  have HB1 : Hid (Below w.heap.size w W0) := hidb (by rw [← hW0]; exact below_new w _)
  rw [hW0] at HX0 ⊢
  clear hW0
  have HVK := hidb (HV.out.keep (HB1.out.drew))
  have HXK := hidb (HX0.out.keep (Below.refl _ W0).drew)
  have hlk := HVK.out.ties.look vLawT vUndT (keyTie HT.out) HT.out
  obtain ⟨v3, -⟩ := HVK.out.box.1 3 _ rfl
  obtain ⟨x0, -⟩ := HXK.out.1 0 _ rfl
  obtain ⟨x1, -⟩ := HXK.out.1 1 _ rfl
  obtain ⟨x2, -⟩ := HXK.out.1 2 _ rfl
  obtain ⟨x3, -⟩ := HXK.out.1 3 _ rfl
  go_region
  all_goals go_wp2_with fail
  go_ret
  exact ⟨⟨_, rfl, by rw [decide_eq_true_eq, cnt_pos]⟩, HB1.out.drew⟩

/-- Where the first with a pid is. -/
def fst (ps : List Pc) (q : Int) : Option Nat := ps.findIdx? (fun p => p.pid == q)
theorem fi_fst (ps : List Pc) (q : Int) : fi ps q = match fst ps q with
  | some i => (i : Int)
  | none => -1 := rfl
set_option maxHeartbeats 1000000 in
set_option maxRecDepth 10000 in
theorem isgone_any {w : World} {vb : Nat} {pa : Option Addr} {np cp fb nb tb n : Nat} {ps : List Pc} {NL : List ByteArray} {TL : List Tie} (hv : VW w vb pa np cp fb nb tb n (fst ps) NL TL) (hr : RowC 13 Pc.cells w pa ps) (hn : ps.length = np) (pid : Int) (hp : wfi pid) :
    Calls Try.prog 52 #[.pointer (some ⟨vb, 0, none⟩), .int .i64 pid] w (Says (Gone ps pid) w) := by
  have HV := hidb hv
  have HT := hidb hp
  have HR := hidb hr
  have HN := hidb hn
  obtain ⟨v0, -⟩ := hv.box.1 0 _ rfl
  obtain ⟨v1, -⟩ := hv.box.1 1 _ rfl
  have hlk := hv.first.look hp
  clear hv hp hr hn
  have HF := hidb (fi_fst ps pid)
  cases hf : fst ps pid with
  | none =>
    rw [hf] at hlk
    have HG : Hid (Gone ps pid) := hidb (by
      have h := HF.out
      rw [hf] at h
      intro m p hm _
      rw [h] at hm
      simp at hm)
    clear hf HF
    go_enter Try.func52, Try.ntmps52
    go_wp2_with fail
    go_ret
    exact ⟨⟨true, rfl, fun _ => HG.out, fun _ => rfl⟩, Below.refl _ _⟩
  | some m =>
    rw [hf] at hlk
    have hfi : fi ps pid = (m : Int) := by have h := HF.out; rw [hf] at h; exact h
    have hml : m < ps.length := by
      unfold fst at hf
      rw [List.findIdx?_eq_some_iff_getElem] at hf
      exact hf.1
    obtain ⟨p, b, o, hp, rfl, hlt, hc⟩ := HR.out.at m hml
    have hmb : (m : Int) < (np : Int) := by have := HN.out; omega
    have hmz : (0 : Int) ≤ (m : Int) := by omega
    have c1 : w.cell? ⟨b, o + m * 13 + 1, none⟩ = some (.int .i64 p.st) := hc 1 (by omega)
    have HG : Hid (Gone ps pid ↔ p.st = 4) := hidb (by
      constructor
      · intro h; exact h m p hfi hp
      · intro h m' p' h1 h2
        obtain rfl : m = m' := by rw [hfi] at h1; omega
        rw [hp] at h2
        obtain rfl := Option.some.inj h2
        exact h)
    clear hf HF hfi hp hc hml
    go_enter Try.func52, Try.ntmps52
    go_wp2_with fail
    all_goals
      go_ret
      exact ⟨⟨_, rfl, by rw [HG.out]; first | (simp [*]; done) | (simp [*]; intro h; omega)⟩, by first | exact Below.refl _ _ | exact (Below.refl _ _).drew | exact below_drewN (Below.refl _ _) _⟩
end Go.Proofs.Ytjiigabfdigkaaa


