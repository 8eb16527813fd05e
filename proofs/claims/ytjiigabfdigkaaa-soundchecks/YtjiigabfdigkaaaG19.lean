import Derived.Test.YtjiigabfdigkaaaG17
/- Whether a process breaks rule 4. -/
namespace Go.Proofs.Ytjiigabfdigkaaa
open Go.RowKit
attribute [local go_sem] store_float
set_option maxHeartbeats 4000000 in
set_option maxRecDepth 10000 in
theorem breaks4_any {w : World} {vb : Nat} {pa : Option Addr} {np cp fb nb tb n : Nat} {ps : List Pc} {NL : List ByteArray} {TL : List Tie} (hv : VW w vb pa np cp fb nb tb n (fst ps) NL TL) (hr : RowC 13 Pc.cells w pa ps) (hn : ps.length = np) (hnp : np ≤ 1000) {i : Nat} {p : Pc} (hi : ps[i]? = some p) (hp : PcIn w p) (hwf : PcWf p) : Calls Try.prog 18 #[.pointer (some ⟨vb, 0, none⟩), .int .i64 4, .int .i64 (i : Int)] w (Says (¬ RuP ps NL TL i p 4) w) := by
  obtain ⟨A, hA⟩ : ∃ A : Prop, RuP ps NL TL i p 4 = A := ⟨_, rfl⟩
  have HAA : Hid (A = RuP ps NL TL i p 4) := hidb hA.symm
  rw [hA]
  clear hA
  have HV := hidb hv
  have HPI := hidb hp
  have HWF := hidb hwf
  have HR := hidb hr
  have HN := hidb hn
  have hil : i < np := by have := (List.getElem?_eq_some_iff.1 hi).1; omega
  have hib : (i : Int) < (np : Int) := by omega
  have hiz : (0 : Int) ≤ (i : Int) := by omega
  have hiw : IntKind.i64.wrap ((i : Int) + 1) = (i : Int) + 1 := by rw [IntKind.wrap_i64]; omega
  obtain ⟨b, o, rfl, hlt, hc⟩ := hr i p hi
  obtain ⟨v0, -⟩ := hv.box.1 0 _ rfl
  have c0 : w.cell? ⟨b, o + i * 13, none⟩ = some (.int .i64 p.pid) := hc 0 (by omega)
  have c1 : w.cell? ⟨b, o + i * 13 + 1, none⟩ = some (.int .i64 p.st) := hc 1 (by omega)
  have c2 : w.cell? ⟨b, o + i * 13 + 2, none⟩ = some (.int .i64 p.rk) := hc 2 (by omega)
  have c3 : w.cell? ⟨b, o + i * 13 + 3, none⟩ = some (.int .i64 p.rn) := hc 3 (by omega)
  have c4 : w.cell? ⟨b, o + i * 13 + 4, none⟩ = some (.float .f64 p.rf) := hc 4 (by omega)
  have c5 : w.cell? ⟨b, o + i * 13 + 5, none⟩ = some (.string p.rs) := hc 5 (by omega)
  have c6 : w.cell? ⟨b, o + i * 13 + 6, none⟩ = some (.slice p.ra p.rl p.rc) := hc 6 (by omega)
  have c7 : w.cell? ⟨b, o + i * 13 + 7, none⟩ = some (.bool p.trap) := hc 7 (by omega)
  have c8 : w.cell? ⟨b, o + i * 13 + 8, none⟩ = some (.slice p.ia p.il p.ic) := hc 8 (by omega)
  have c9 : w.cell? ⟨b, o + i * 13 + 9, none⟩ = some (.slice p.la p.ll p.lc) := hc 9 (by omega)
  have c10 : w.cell? ⟨b, o + i * 13 + 10, none⟩ = some (.slice p.oa p.ol p.oc) := hc 10 (by omega)
  have c11 : w.cell? ⟨b, o + i * 13 + 11, none⟩ = some (.slice p.ta p.tl p.tc) := hc 11 (by omega)
  have c12 : w.cell? ⟨b, o + i * 13 + 12, none⟩ = some (.slice p.na p.nl p.nc) := hc 12 (by omega)
  clear hv hp hwf hr hn hi hc
  have HX0 := hidb (At.new w [.int .i64 p.pid, .int .i64 p.st, .int .i64 p.rk, .int .i64 p.rn, .float .f64 p.rf, .string p.rs, .slice p.ra p.rl p.rc, .bool p.trap, .slice p.ia p.il p.ic, .slice p.la p.ll p.lc, .slice p.oa p.ol p.oc, .slice p.ta p.tl p.tc, .slice p.na p.nl p.nc] 45)
  obtain ⟨x0, -⟩ := HX0.out.1 0 _ rfl
  have HB1 : Hid (Below w.heap.size w (w.alloc (.cells #[.int .i64 p.pid, .int .i64 p.st, .int .i64 p.rk, .int .i64 p.rn, .float .f64 p.rf, .string p.rs, .slice p.ra p.rl p.rc, .bool p.trap, .slice p.ia p.il p.ic, .slice p.la p.ll p.lc, .slice p.oa p.ol p.oc, .slice p.ta p.tl p.tc, .slice p.na p.nl p.nc] 45))) := hidb (below_new w _)
  go_enter Try.func18, Try.ntmps18
  go_wp2_with fail
  refine (misnamed_any (HV.out.keep HB1.out) p (HPI.out.keep HB1.out) HWF.out).mono ?_
  rintro e w5 ⟨⟨r, rfl, hr⟩, hb5⟩
  have HR5 := hidb hr
  have HB5 := hidb (HB1.out.trans (hb5.mono HB1.out.size))
  clear hr hb5
  go_wp2_with fail
  go_ret
  rw [HAA.out]
  exact ⟨⟨r, rfl, HR5.out⟩, HB5.out⟩
end Go.Proofs.Ytjiigabfdigkaaa


/- Whether a process breaks rule 5. -/
namespace Go.Proofs.Ytjiigabfdigkaaa
open Go.RowKit
attribute [local go_sem] store_float
set_option maxHeartbeats 4000000 in
set_option maxRecDepth 10000 in
theorem breaks5_any {w : World} {vb : Nat} {pa : Option Addr} {np cp fb nb tb n : Nat} {ps : List Pc} {NL : List ByteArray} {TL : List Tie} (hv : VW w vb pa np cp fb nb tb n (fst ps) NL TL) (hr : RowC 13 Pc.cells w pa ps) (hn : ps.length = np) (hnp : np ≤ 1000) {i : Nat} {p : Pc} (hi : ps[i]? = some p) (hp : PcIn w p) (hwf : PcWf p) : Calls Try.prog 18 #[.pointer (some ⟨vb, 0, none⟩), .int .i64 5, .int .i64 (i : Int)] w (Says (¬ RuP ps NL TL i p 5) w) := by
  obtain ⟨A, hA⟩ : ∃ A : Prop, RuP ps NL TL i p 5 = A := ⟨_, rfl⟩
  have HAA : Hid (A = RuP ps NL TL i p 5) := hidb hA.symm
  rw [hA]
  clear hA
  have HV := hidb hv
  have HPI := hidb hp
  have HWF := hidb hwf
  have HR := hidb hr
  have HN := hidb hn
  have hil : i < np := by have := (List.getElem?_eq_some_iff.1 hi).1; omega
  have hib : (i : Int) < (np : Int) := by omega
  have hiz : (0 : Int) ≤ (i : Int) := by omega
  have hiw : IntKind.i64.wrap ((i : Int) + 1) = (i : Int) + 1 := by rw [IntKind.wrap_i64]; omega
  obtain ⟨b, o, rfl, hlt, hc⟩ := hr i p hi
  obtain ⟨v0, -⟩ := hv.box.1 0 _ rfl
  have c0 : w.cell? ⟨b, o + i * 13, none⟩ = some (.int .i64 p.pid) := hc 0 (by omega)
  have c1 : w.cell? ⟨b, o + i * 13 + 1, none⟩ = some (.int .i64 p.st) := hc 1 (by omega)
  have c2 : w.cell? ⟨b, o + i * 13 + 2, none⟩ = some (.int .i64 p.rk) := hc 2 (by omega)
  have c3 : w.cell? ⟨b, o + i * 13 + 3, none⟩ = some (.int .i64 p.rn) := hc 3 (by omega)
  have c4 : w.cell? ⟨b, o + i * 13 + 4, none⟩ = some (.float .f64 p.rf) := hc 4 (by omega)
  have c5 : w.cell? ⟨b, o + i * 13 + 5, none⟩ = some (.string p.rs) := hc 5 (by omega)
  have c6 : w.cell? ⟨b, o + i * 13 + 6, none⟩ = some (.slice p.ra p.rl p.rc) := hc 6 (by omega)
  have c7 : w.cell? ⟨b, o + i * 13 + 7, none⟩ = some (.bool p.trap) := hc 7 (by omega)
  have c8 : w.cell? ⟨b, o + i * 13 + 8, none⟩ = some (.slice p.ia p.il p.ic) := hc 8 (by omega)
  have c9 : w.cell? ⟨b, o + i * 13 + 9, none⟩ = some (.slice p.la p.ll p.lc) := hc 9 (by omega)
  have c10 : w.cell? ⟨b, o + i * 13 + 10, none⟩ = some (.slice p.oa p.ol p.oc) := hc 10 (by omega)
  have c11 : w.cell? ⟨b, o + i * 13 + 11, none⟩ = some (.slice p.ta p.tl p.tc) := hc 11 (by omega)
  have c12 : w.cell? ⟨b, o + i * 13 + 12, none⟩ = some (.slice p.na p.nl p.nc) := hc 12 (by omega)
  clear hv hp hwf hr hn hi hc
  have HX0 := hidb (At.new w [.int .i64 p.pid, .int .i64 p.st, .int .i64 p.rk, .int .i64 p.rn, .float .f64 p.rf, .string p.rs, .slice p.ra p.rl p.rc, .bool p.trap, .slice p.ia p.il p.ic, .slice p.la p.ll p.lc, .slice p.oa p.ol p.oc, .slice p.ta p.tl p.tc, .slice p.na p.nl p.nc] 45)
  obtain ⟨x0, -⟩ := HX0.out.1 0 _ rfl
  have HB1 : Hid (Below w.heap.size w (w.alloc (.cells #[.int .i64 p.pid, .int .i64 p.st, .int .i64 p.rk, .int .i64 p.rn, .float .f64 p.rf, .string p.rs, .slice p.ra p.rl p.rc, .bool p.trap, .slice p.ia p.il p.ic, .slice p.la p.ll p.lc, .slice p.oa p.ol p.oc, .slice p.ta p.tl p.tc, .slice p.na p.nl p.nc] 45))) := hidb (below_new w _)
  go_enter Try.func18, Try.ntmps18
  go_wp2_with fail
  refine (unsettled_any _ p (HPI.out.keep HB1.out)).mono ?_
  rintro e w5 ⟨⟨r, rfl, hr⟩, hb5⟩
  have HR5 := hidb hr
  have HB5 := hidb (HB1.out.trans (hb5.mono HB1.out.size))
  clear hr hb5
  go_wp2_with fail
  go_ret
  rw [HAA.out]
  exact ⟨⟨r, rfl, HR5.out⟩, HB5.out⟩
end Go.Proofs.Ytjiigabfdigkaaa


