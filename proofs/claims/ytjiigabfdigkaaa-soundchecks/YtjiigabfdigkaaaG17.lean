import Derived.Test.YtjiigabfdigkaaaG15
import Derived.Test.YtjiigabfdigkaaaG16
import Derived.Test.YtjiigabfdigkaaaG11
/- Whether a process breaks a rule, as the program asks. -/
namespace Go.Proofs.Ytjiigabfdigkaaa
open Go.RowKit

attribute [local go_sem] store_float
/-- What a rule asks of a process. -/
def RuP (ps : List Pc) (NL : List ByteArray) (TL : List Tie) (i : Nat) (p : Pc) : Nat → Prop
  | 1 => p.pid = (i : Int) + 1 ∧ Rise (p.links.map Hf.pid) ∧ Rise (p.origins.map Mn.ref) ∧ Rise (p.targets.map Mn.ref)
  | 2 => GhOk p
  | 3 => LivOk p
  | 4 => MisOk p NL
  | 5 => SetL p
  | 6 => Alv p.st → LnkOk p TL
  | 7 => Alv p.st → DedOk ps p
  | 8 => Alv p.st → UprOk p TL
  | _ => True
end Go.Proofs.Ytjiigabfdigkaaa


/- Whether a process breaks rule 1. -/
namespace Go.Proofs.Ytjiigabfdigkaaa
open Go.RowKit
attribute [local go_sem] store_float
set_option maxHeartbeats 4000000 in
set_option maxRecDepth 10000 in
theorem breaks1_any {w : World} {vb : Nat} {pa : Option Addr} {np cp fb nb tb n : Nat} {ps : List Pc} {NL : List ByteArray} {TL : List Tie} (hv : VW w vb pa np cp fb nb tb n (fst ps) NL TL) (hr : RowC 13 Pc.cells w pa ps) (hn : ps.length = np) (hnp : np ≤ 1000) {i : Nat} {p : Pc} (hi : ps[i]? = some p) (hp : PcIn w p) (hwf : PcWf p) : Calls Try.prog 18 #[.pointer (some ⟨vb, 0, none⟩), .int .i64 1, .int .i64 (i : Int)] w (Says (¬ RuP ps NL TL i p 1) w) := by
  obtain ⟨A, hA⟩ : ∃ A : Prop, RuP ps NL TL i p 1 = A := ⟨_, rfl⟩
  have HAA : Hid (A = RuP ps NL TL i p 1) := hidb hA.symm
  rw [hA]
  clear hA
  have HV := hidb hv
  have HPI := hidb hp
  have HWF := hidb hwf
  have HR := hidb hr
  have HN := hidb hn
  have hil : i < np := by have := (List.getElem?_eq_some_iff.1 hi).1; omega
  have hib : (i : Int) < (np : Int) := by omega
  have hiz : (0 : Int) ≤ (i : Int) := by omega
  have hiw : IntKind.i64.wrap ((i : Int) + 1) = (i : Int) + 1 := by rw [IntKind.wrap_i64]; omega
  obtain ⟨b, o, rfl, hlt, hc⟩ := hr i p hi
  obtain ⟨v0, -⟩ := hv.box.1 0 _ rfl
  have c0 : w.cell? ⟨b, o + i * 13, none⟩ = some (.int .i64 p.pid) := hc 0 (by omega)
  have c1 : w.cell? ⟨b, o + i * 13 + 1, none⟩ = some (.int .i64 p.st) := hc 1 (by omega)
  have c2 : w.cell? ⟨b, o + i * 13 + 2, none⟩ = some (.int .i64 p.rk) := hc 2 (by omega)
  have c3 : w.cell? ⟨b, o + i * 13 + 3, none⟩ = some (.int .i64 p.rn) := hc 3 (by omega)
  have c4 : w.cell? ⟨b, o + i * 13 + 4, none⟩ = some (.float .f64 p.rf) := hc 4 (by omega)
  have c5 : w.cell? ⟨b, o + i * 13 + 5, none⟩ = some (.string p.rs) := hc 5 (by omega)
  have c6 : w.cell? ⟨b, o + i * 13 + 6, none⟩ = some (.slice p.ra p.rl p.rc) := hc 6 (by omega)
  have c7 : w.cell? ⟨b, o + i * 13 + 7, none⟩ = some (.bool p.trap) := hc 7 (by omega)
  have c8 : w.cell? ⟨b, o + i * 13 + 8, none⟩ = some (.slice p.ia p.il p.ic) := hc 8 (by omega)
  have c9 : w.cell? ⟨b, o + i * 13 + 9, none⟩ = some (.slice p.la p.ll p.lc) := hc 9 (by omega)
  have c10 : w.cell? ⟨b, o + i * 13 + 10, none⟩ = some (.slice p.oa p.ol p.oc) := hc 10 (by omega)
  have c11 : w.cell? ⟨b, o + i * 13 + 11, none⟩ = some (.slice p.ta p.tl p.tc) := hc 11 (by omega)
  have c12 : w.cell? ⟨b, o + i * 13 + 12, none⟩ = some (.slice p.na p.nl p.nc) := hc 12 (by omega)
  clear hv hp hwf hr hn hi hc
  have HX0 := hidb (At.new w [.int .i64 p.pid, .int .i64 p.st, .int .i64 p.rk, .int .i64 p.rn, .float .f64 p.rf, .string p.rs, .slice p.ra p.rl p.rc, .bool p.trap, .slice p.ia p.il p.ic, .slice p.la p.ll p.lc, .slice p.oa p.ol p.oc, .slice p.ta p.tl p.tc, .slice p.na p.nl p.nc] 45)
  obtain ⟨x0, -⟩ := HX0.out.1 0 _ rfl
  have HB1 : Hid (Below w.heap.size w (w.alloc (.cells #[.int .i64 p.pid, .int .i64 p.st, .int .i64 p.rk, .int .i64 p.rn, .float .f64 p.rf, .string p.rs, .slice p.ra p.rl p.rc, .bool p.trap, .slice p.ia p.il p.ic, .slice p.la p.ll p.lc, .slice p.oa p.ol p.oc, .slice p.ta p.tl p.tc, .slice p.na p.nl p.nc] 45))) := hidb (below_new w _)
  go_enter Try.func18, Try.ntmps18
  by_cases he : p.pid = (i : Int) + 1
  · have HE := hidb he
    have he1 : (p.pid != (i : Int) + 1) = false := by simpa using he
    have he2 : (p.pid == (i : Int) + 1) = true := by simpa using he
    clear he
    go_wp2_with fail
    refine (hasorder_any _ p (HPI.out.keep HB1.out)).mono ?_
    rintro e w5 ⟨⟨r, rfl, hr⟩, hb5⟩
    have HR5 := hidb hr
    have HB5 := hidb (HB1.out.trans (hb5.mono HB1.out.size))
    clear hr hb5
    go_wp2_with fail
    go_ret
    rw [HAA.out]
    exact ⟨⟨!r, rfl, by cases r
                        · exact ⟨fun _ h => (by have h9 := HR5.out.2 h.2; cases h9), fun _ => rfl⟩
                        · exact ⟨fun h => (by cases h), fun h => absurd ⟨HE.out, HR5.out.1 rfl⟩ h⟩⟩, HB5.out⟩
  · have HE := hidb he
    have he1 : (p.pid != (i : Int) + 1) = true := by simpa using he
    have he2 : (p.pid == (i : Int) + 1) = false := by simpa using he
    clear he
    go_wp2_with fail
    go_ret
    rw [HAA.out]
    exact ⟨⟨true, rfl, fun _ h => HE.out h.1, fun _ => rfl⟩, HB1.out⟩
end Go.Proofs.Ytjiigabfdigkaaa


