import Derived.Test.YtdpfmmbfidknfaaGreatDoorG12
import Derived.Lib.LaidU8
import Derived.ProofKit
import Derived.LaidMore
import Derived.OpenShut
import Derived.Stop.Joined
/- What the rows' condition on the tables gives the walks; and that the start-up's own heap meets it. -/
namespace Go.Proofs.YtdpfmmbfidknfaaGreatDoor
open Go.ChangeShapes Go.WideShapes Go.ChangeAt Go.WideMaps Go.WideElems Go.RowKit Go.Lib

theorem own : ownKnob Tryz.prog.godebug = none := by kernel_rfl

def laid6 : List (String × DataW Unit) := [("unicode/utf8.acceptRanges", Rows.laid_unicode_utf8_acceptRanges), ("math.pow10tab", Rows.laid_math_pow10tab), ("math.pow10postab32", Rows.laid_math_pow10postab32), ("math.pow10negtab32", Rows.laid_math_pow10negtab32), ("exitwave/lex.signs", Rows.laid_exitwave_lex_signs), ("unicode/utf8.first", Rows.laid_unicode_utf8_first)]

/-- The start-up's heap, the pinned table in its place. -/
noncomputable def doorW (os : Os) : World :=
  { World.doorLaid Tryz.prog 400 os with heap := (World.doorLaid Tryz.prog 400 os).heap.modify 5 fun
    | .cells _ t fz => .cells (Lib.firstTab.map fun z => Value.int .u8 z).toArray t fz
    | o => o }

set_option maxRecDepth 1000000 in
theorem door_met (os : Os) (args : Array Value) : laidMetH Tryz.prog laid6 ((doorW os).forCall (fun _ _ => 0) ⟨#[], args, []⟩).memory :=
  laidMetH_of_parts3 (fuel := 8) (laidMet_of_run' 8 (by kernel_rfl) (by kernel_rfl)) (by kernel_rfl) (by kernel_rfl)

theorem gPost : Tryz.prog.globalNamed "math.pow10postab32" = some 2 := by kernel_rfl
theorem tPost : (Tryz.prog.globals[2]?).map (·.type) = some 110 := by kernel_rfl
theorem gTab : Tryz.prog.globalNamed "math.pow10tab" = some 3 := by kernel_rfl
theorem tTab : (Tryz.prog.globals[3]?).map (·.type) = some 111 := by kernel_rfl
theorem gSig : Tryz.prog.globalNamed "exitwave/lex.signs" = some 1 := by kernel_rfl
theorem tSig : (Tryz.prog.globals[1]?).map (·.type) = some 84 := by kernel_rfl

theorem trod_flt {H : Type} {enc : TypeId × Value → H} {P : Program} {w : World} {base : Nat} {spare : Nat → Bool} {held : Bool} {fuel : Nat} {t : TypeId} {cs : List Value} {x : DataW H × List MemPlace} {k : FloatKind} (ht : P.underlying t = some (.float k)) (h : DataW.trod enc P w base spare held fuel t cs = some x) : ∃ n, cs = [.float k n] ∧ x = (.lit (.float k n), []) := by
  cases fuel with
  | zero => simp [DataW.trod] at h
  | succ n =>
    unfold DataW.trod at h
    rw [ht] at h
    split at h <;> simp_all

theorem reads_float {W : World} {name : String} {g n : Nat} {t : TypeId} {ds : List (DataW Unit)} (h : VarReads Tryz.prog W name (.agg ds)) (hg : Tryz.prog.globalNamed name = some g) (ht : (Tryz.prog.globals[g]?).map (·.type) = some t)
    (hu : Tryz.prog.underlying t = some (.array n 31)) (i : Nat) (hi : i < n) (x : Nat) (hx : ds[i]? = some (.lit (.float .f64 x))) : W.cell? ⟨g, i, none⟩ = some (.float .f64 x) := by
  obtain ⟨g', t', cs, fuel, p, hg', hty, hvar, hd⟩ := h
  obtain rfl := Option.some.inj (hg.symm.trans hg')
  obtain rfl := Option.some.inj (ht.symm.trans hty)
  obtain ⟨fuel', d, q, h1, h2⟩ := array_elem hu hd i hi
  have hc : Tryz.prog.cellsOf 31 = 1 := by kernel_rfl
  rw [hc] at h2
  rw [hx] at h1
  cases h1
  obtain ⟨z, hz, he⟩ := trod_flt Tryz.underlying31 h2
  have hv := World.var?_cell hg' hvar i
  cases he
  have h3 : cs.toList[i]? = some (.float .f64 x) := by
    have := congrArg (·[0]?) hz
    simpa [List.getElem?_take, List.getElem?_drop] using this
  rw [hv, ← Array.getElem?_toList, h3]

theorem reads_string {W : World} {name : String} {g n : Nat} {t : TypeId} {ds : List (DataW Unit)} (h : VarReads Tryz.prog W name (.agg ds)) (hg : Tryz.prog.globalNamed name = some g) (ht : (Tryz.prog.globals[g]?).map (·.type) = some t)
    (hu : Tryz.prog.underlying t = some (.array n 9)) (i : Nat) (hi : i < n) (l : List UInt8) (hx : ds[i]? = some (.lit (.string l))) : W.cell? ⟨g, i, none⟩ = some (.string ⟨l.toArray⟩) := by
  obtain ⟨g', t', cs, fuel, p, hg', hty, hvar, hd⟩ := h
  obtain rfl := Option.some.inj (hg.symm.trans hg')
  obtain rfl := Option.some.inj (ht.symm.trans hty)
  obtain ⟨fuel', d, q, h1, h2⟩ := array_elem hu hd i hi
  have hc : Tryz.prog.cellsOf 9 = 1 := by kernel_rfl
  rw [hc] at h2
  rw [hx] at h1
  cases h1
  obtain ⟨z, hz, he, _⟩ := DataW.trod_string Tryz.underlying9 h2
  have hv := World.var?_cell hg' hvar i
  have hl : l = z.data.toList := by
    have := congrArg Prod.fst he
    simpa using this
  have h3 : cs.toList[i]? = some (.string z) := by
    have := congrArg (·[0]?) hz
    simpa [List.getElem?_take, List.getElem?_drop] using this
  rw [hv, ← Array.getElem?_toList, h3, hl]

theorem lexTab {W : World} (h : laidMetH Tryz.prog laid6 W) : LexTab W := by
  rw [MakeChecks.laidMetH_plain _ _ _ (by kernel_rfl)] at h
  have r1 := Lib.laidMet.reads h (.head _)
  have r2 := Lib.laidMet.reads h (.tail _ (.head _))
  have r3 := Lib.laidMet.reads h (.tail _ (.tail _ (.head _)))
  have r5 := Lib.laidMet.reads h (.tail _ (.tail _ (.tail _ (.tail _ (.head _)))))
  have r6 := Lib.laidMet.reads h (.tail _ (.tail _ (.tail _ (.tail _ (.tail _ (.head _))))))
  have e1 : (Rows.laid_unicode_utf8_acceptRanges : DataW Unit) = acceptData := by kernel_rfl
  have e6 : Rows.laid_unicode_utf8_first = firstData := by kernel_rfl
  rw [e1] at r1
  rw [e6] at r6
  refine ⟨utf8Tabs_of_reads (ρ := Tryz.lays197_ren) { Tryz.lays197 with } ⟨by kernel_rfl, by kernel_rfl, by kernel_rfl, by kernel_rfl, by kernel_rfl, by kernel_rfl, by kernel_rfl⟩ r6 r1, ⟨?_, ?_⟩, ?_⟩
  · exact reads_float r3 gPost tPost Tryz.underlying110 0 (by omega) _ rfl
  · intro k x hk
    have hk16 : k < 16 := (List.getElem?_eq_some_iff.1 hk).1
    refine reads_float r2 gTab tTab Tryz.underlying111 k (by omega) x ?_
    match k, hk16, hk with
    | 0, _, hk => cases hk; rfl
    | 1, _, hk => cases hk; rfl
    | 2, _, hk => cases hk; rfl
    | 3, _, hk => cases hk; rfl
    | 4, _, hk => cases hk; rfl
    | 5, _, hk => cases hk; rfl
    | 6, _, hk => cases hk; rfl
    | 7, _, hk => cases hk; rfl
    | 8, _, hk => cases hk; rfl
    | 9, _, hk => cases hk; rfl
    | 10, _, hk => cases hk; rfl
    | 11, _, hk => cases hk; rfl
    | 12, _, hk => cases hk; rfl
    | 13, _, hk => cases hk; rfl
    | 14, _, hk => cases hk; rfl
    | 15, _, hk => cases hk; rfl
  · intro j v hj
    have hj27 : j < 27 := (List.getElem?_eq_some_iff.1 hj).1
    match j, hj27, hj with
    | 0, _, hj => cases hj; exact reads_string r5 gSig tSig Tryz.underlying84 0 (by omega) _ rfl
    | 1, _, hj => cases hj; exact reads_string r5 gSig tSig Tryz.underlying84 1 (by omega) _ rfl
    | 2, _, hj => cases hj; exact reads_string r5 gSig tSig Tryz.underlying84 2 (by omega) _ rfl
    | 3, _, hj => cases hj; exact reads_string r5 gSig tSig Tryz.underlying84 3 (by omega) _ rfl
    | 4, _, hj => cases hj; exact reads_string r5 gSig tSig Tryz.underlying84 4 (by omega) _ rfl
    | 5, _, hj => cases hj; exact reads_string r5 gSig tSig Tryz.underlying84 5 (by omega) _ rfl
    | 6, _, hj => cases hj; exact reads_string r5 gSig tSig Tryz.underlying84 6 (by omega) _ rfl
    | 7, _, hj => cases hj; exact reads_string r5 gSig tSig Tryz.underlying84 7 (by omega) _ rfl
    | 8, _, hj => cases hj; exact reads_string r5 gSig tSig Tryz.underlying84 8 (by omega) _ rfl
    | 9, _, hj => cases hj; exact reads_string r5 gSig tSig Tryz.underlying84 9 (by omega) _ rfl
    | 10, _, hj => cases hj; exact reads_string r5 gSig tSig Tryz.underlying84 10 (by omega) _ rfl
    | 11, _, hj => cases hj; exact reads_string r5 gSig tSig Tryz.underlying84 11 (by omega) _ rfl
    | 12, _, hj => cases hj; exact reads_string r5 gSig tSig Tryz.underlying84 12 (by omega) _ rfl
    | 13, _, hj => cases hj; exact reads_string r5 gSig tSig Tryz.underlying84 13 (by omega) _ rfl
    | 14, _, hj => cases hj; exact reads_string r5 gSig tSig Tryz.underlying84 14 (by omega) _ rfl
    | 15, _, hj => cases hj; exact reads_string r5 gSig tSig Tryz.underlying84 15 (by omega) _ rfl
    | 16, _, hj => cases hj; exact reads_string r5 gSig tSig Tryz.underlying84 16 (by omega) _ rfl
    | 17, _, hj => cases hj; exact reads_string r5 gSig tSig Tryz.underlying84 17 (by omega) _ rfl
    | 18, _, hj => cases hj; exact reads_string r5 gSig tSig Tryz.underlying84 18 (by omega) _ rfl
    | 19, _, hj => cases hj; exact reads_string r5 gSig tSig Tryz.underlying84 19 (by omega) _ rfl
    | 20, _, hj => cases hj; exact reads_string r5 gSig tSig Tryz.underlying84 20 (by omega) _ rfl
    | 21, _, hj => cases hj; exact reads_string r5 gSig tSig Tryz.underlying84 21 (by omega) _ rfl
    | 22, _, hj => cases hj; exact reads_string r5 gSig tSig Tryz.underlying84 22 (by omega) _ rfl
    | 23, _, hj => cases hj; exact reads_string r5 gSig tSig Tryz.underlying84 23 (by omega) _ rfl
    | 24, _, hj => cases hj; exact reads_string r5 gSig tSig Tryz.underlying84 24 (by omega) _ rfl
    | 25, _, hj => cases hj; exact reads_string r5 gSig tSig Tryz.underlying84 25 (by omega) _ rfl
    | 26, _, hj => cases hj; exact reads_string r5 gSig tSig Tryz.underlying84 26 (by omega) _ rfl
end Go.Proofs.YtdpfmmbfidknfaaGreatDoor


