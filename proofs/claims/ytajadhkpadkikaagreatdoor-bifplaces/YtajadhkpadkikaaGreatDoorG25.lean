import Derived.Test.YtajadhkpadkikaaGreatDoorG01
import Derived.WalkSmall
import Derived.Deep.DrawnRows
import Derived.BigQuiet
import Derived.ProofKit
import Derived.Defers
import Derived.Recover
import Derived.Deep.RegionLaw
/- The tables of builtins and operators: a row in memory; find. -/
namespace Go.Proofs.YtajadhkpadkikaaGreatDoor
open Go.RowKit Go.Lib
attribute [local go_sem] store_float f64bits
attribute [local go_sem ↓] Go.wp_at_zero Go.wp_at_succ

theorem store_func (a : Addr) (f : Fn) (x y : Array Value) (m : Mode) (w : World) : (store a (.func f x y) m).run Tryz.prog w = stored Tryz.prog w a (.func f x y) m := run_store Tryz.prog w a _ m rfl
theorem store_nilFunc (a : Addr) (m : Mode) (w : World) : (store a .nilFunc m).run Tryz.prog w = stored Tryz.prog w a .nilFunc m := run_store Tryz.prog w a _ m rfl
attribute [local go_sem] store_func store_nilFunc

/-- A row of a table: its name, how many arguments, which function. -/
abbrev Brw : Type := ByteArray × Int × Nat
abbrev Brw.val (r : Brw) : Value := .agg #[.string r.1, .int .i64 r.2.1, .func (.func r.2.2) #[] #[]]
abbrev zrow : Value := .agg #[.string ⟨#[]⟩, .int .i64 0, .nilFunc]
theorem btl_inj {a b : ByteArray} (h : a.toList = b.toList) : a = b := by
  rw [ByteArray.toList_eq, ByteArray.toList_eq] at h
  exact ByteArray.ext (Array.toList_inj.1 h)
def TBl (w : World) (b : Nat) (l : List Brw) : Prop := ∀ (i : Nat) (r : Brw), l[i]? = some r → w.cell? ⟨b, i * 3, none⟩ = some (.string r.1) ∧ w.cell? ⟨b, i * 3 + 1, none⟩ = some (.int .i64 r.2.1) ∧ w.cell? ⟨b, i * 3 + 2, none⟩ = some (.func (.func r.2.2) #[] #[])
def bhit (nm : ByteArray) (n : Int) (r : Brw) : Bool := decide (r.2.1 = n) && decide (r.1 = nm)
def bfnd (l : List Brw) (nm : ByteArray) (n : Int) : Option Brw := l.find? (bhit nm n)

theorem bfnd_at {l : List Brw} {nm : ByteArray} {n : Int} {i : Nat} {r : Brw} (hb : ∀ (j : Nat) (q : Brw), j < i → l[j]? = some q → bhit nm n q = false) (hi : l[i]? = some r) (hh : bhit nm n r = true) : bfnd l nm n = some r := by
  induction l generalizing i with
  | nil => simp at hi
  | cons x t ih =>
    cases i with
    | zero => obtain rfl : x = r := by simpa using hi
              simp [bfnd, List.find?, hh]
    | succ i =>
      have h0 := hb 0 x (by omega) rfl
      have := ih (i := i) (fun j q hj hq => hb (j + 1) q (by omega) (by simpa using hq)) (by simpa using hi)
      simpa [bfnd, List.find?, h0] using this
theorem bfnd_no {l : List Brw} {nm : ByteArray} {n : Int} (hb : ∀ (j : Nat) (q : Brw), l[j]? = some q → bhit nm n q = false) : bfnd l nm n = none := by
  unfold bfnd
  rw [List.find?_eq_none]
  intro x hx
  obtain ⟨j, hj⟩ := List.getElem?_of_mem hx
  simp [hb j x hj]

set_option maxRecDepth 100000 in
set_option maxHeartbeats 4000000 in
theorem find_any {w : World} {b cap : Nat} {l : List Brw} (hT : TBl w b l) (nm : ByteArray) (n : Int) (hl : l.length ≤ 1000) :
    Calls Tryz.prog 33 #[.slice (some ⟨b, 0, none⟩) l.length cap, .string nm, .int .i64 n] w fun e w' => ((∃ r, bfnd l nm n = some r ∧ e = .returned (.tuple #[r.val, .bool true])) ∨ bfnd l nm n = none ∧ e = .returned (.tuple #[zrow, .bool false])) ∧ Below w.heap.size w w' := by
  have HT := hidb hT
  have HL := hidb hl
  obtain ⟨N, hN⟩ : ∃ N, l.length = N := ⟨_, rfl⟩
  have HN := hidb hN
  rw [hN]
  clear hT hl hN
  go_enter Tryz.func33, Tryz.ntmps33
  go_wp2_with fail
  go_loopw [12] (fun iv wr => ∃ i : Nat, i ≤ N ∧ iv = .int .i64 (i : Int) ∧ Below w.heap.size w wr ∧ Tri wr w.heap.size (.string ⟨#[]⟩) (.int .i64 0) .nilFunc ∧ ∀ (j : Nat) (q : Brw), j < i → l[j]? = some q → bhit nm n q = false) (fun iv _ => N - (RowKit.intOf iv).toNat)
  case atStart => exact ⟨0, by omega, rfl, (Below.refl _ _).alloc (Nat.le_refl _) _, Tri.new _ _ _ _ _, fun j q hj => by omega⟩
  case round =>
  obtain ⟨i, hi, rfl, hb, ht, hno⟩ := hrel
  have r0 := ht.c0
  have r1 := ht.c1
  have r2 := ht.c2
  have g0 := ht.f0
  have g1 := ht.f1
  have g2 := ht.f2
  have HTR := hidb ht
  have hlt := ht.lt
  have HB := hidb hb
  have HO := hidb hno
  have HI := hidb hi
  clear hb hno hi ht
  by_cases hil : i < N
  · obtain ⟨⟨rn, ra, rf⟩, hr⟩ : ∃ r, l[i]? = some r := ⟨_, List.getElem?_eq_getElem (by have := HN.out; omega)⟩
    obtain ⟨y0, y1, y2⟩ := HT.out i _ hr
    have hbl : b < w.heap.size := World.block_lt_of_cell? _ _ y0
    have z0 := (HB.out.cell (p := ⟨b, i * 3, none⟩) hbl).trans y0
    have z1 := (HB.out.cell (p := ⟨b, i * 3 + 1, none⟩) hbl).trans y1
    have z2 := (HB.out.cell (p := ⟨b, i * 3 + 2, none⟩) hbl).trans y2
    simp only at z0 z1 z2
    have e1 : (i : Int) < (N : Int) := by omega
    have e2 : (0 : Int) ≤ (i : Int) := by omega
    have HE : Hid (wrap64 ((i : Int) + 1) = ((i + 1 : Nat) : Int)) := hidb (by have := HL.out; have := HN.out; unfold wrap64; omega)
    have HR := hidb hr
    clear y0 y1 y2 hr
    by_cases hq : ra = n
    · subst hq
      by_cases hs : rn = nm
      · subst hs
        go_wp2_with fail
        have tr := (((HTR.out.set0 (.string rn)).set1 (.int .i64 ra)).set2 (.func (.func rf) #[] #[])).keep (below_new _ (.cells #[.string rn, .int .i64 ra, .func (.func rf) #[] #[]] 69))
        have q0 := tr.c0
        have q1 := tr.c1
        have q2 := tr.c2
        refine bodyPost_ret (v := .tuple #[Brw.val (rn, ra, rf), .bool true]) (by simp [results, Tryz.results33, go_sem, q0, q1, q2]) rfl ⟨.inl ⟨_, bfnd_at HO.out HR.out (by simp [bhit]), rfl⟩, ?_⟩
        exact (((HB.out.setCell (Nat.le_refl _) _).setCell (Nat.le_refl _) _).setCell (Nat.le_refl _) _).alloc (by have := HB.out.size; simpa using this) _
      · have hs' : (rn.toList == nm.toList) = false := by simpa using fun h => hs (btl_inj h)
        have hs2 : ¬ rn.toList = nm.toList := by simpa using hs'
        have HQ := hidb hs
        clear hs
        go_wp2_with fail
        go_roundw
        case rel => exact ⟨i + 1, by omega, by rw [HE.out], HB.out.alloc HB.out.size _, HTR.out.keep (below_new _ _), fun j q hj hjq => by
          by_cases e : j < i
          · exact HO.out j q e hjq
          · obtain rfl : j = i := by omega
            obtain rfl := Option.some.inj (HR.out.symm.trans hjq)
            simp [bhit, HQ.out]⟩
        case measure => rw [HE.out]; simp only [RowKit.intOf, Int.toNat_natCast]; omega
    · have hq' : (ra == n) = false := by simpa using hq
      have HQ := hidb hq
      clear hq
      go_wp2_with fail
      go_roundw
      case rel => exact ⟨i + 1, by omega, by rw [HE.out], HB.out.alloc HB.out.size _, HTR.out.keep (below_new _ _), fun j q hj hjq => by
        by_cases e : j < i
        · exact HO.out j q e hjq
        · obtain rfl : j = i := by omega
          obtain rfl := Option.some.inj (HR.out.symm.trans hjq)
          simp [bhit, HQ.out]⟩
      case measure => rw [HE.out]; simp only [RowKit.intOf, Int.toNat_natCast]; omega
  · have e1 : ¬ (i : Int) < (N : Int) := by omega
    go_wp2_with fail
    have tr := ((HTR.out.set0 (.string ⟨#[]⟩)).set1 (.int .i64 0)).set2 .nilFunc
    have q0 := tr.c0
    have q1 := tr.c1
    have q2 := tr.c2
    refine bodyPost_ret (v := .tuple #[zrow, .bool false]) (by simp [results, Tryz.results33, go_sem, q0, q1, q2]) rfl ⟨.inr ⟨bfnd_no (fun j q hq => HO.out j q (by have := (List.getElem?_eq_some_iff.1 hq).1; have := HN.out; omega) hq), rfl⟩, ?_⟩
    exact (((HB.out.setCell (Nat.le_refl _) _).setCell (Nat.le_refl _) _).setCell (Nat.le_refl _) _)
end Go.Proofs.YtajadhkpadkikaaGreatDoor


/- What a builtin raises, and what is recovered. -/
namespace Go.Proofs.YtajadhkpadkikaaGreatDoor
open Go.RowKit Go.Lib
attribute [local go_sem] store_float f64bits
attribute [local go_sem ↓] Go.wp_at_zero Go.wp_at_succ

abbrev RT : Nat := 93
abbrev raisedBy (e : Int) : Ending := .panicked [{ v := .iface RT (.int .i64 e), recovered := false }]

set_option maxHeartbeats 2000000 in
set_option maxRecDepth 100000 in
theorem must_ok (e : Int) (w : World) : Calls Tryz.prog 98 #[.bool true, .int .i64 e] w fun r w' => r = .returned (.tuple #[]) ∧ w' = w := by
  go_enter Tryz.func98, Tryz.ntmps98
  go_wp2_with fail
  go_end0
  exact ⟨rfl, rfl⟩
set_option maxHeartbeats 2000000 in
set_option maxRecDepth 100000 in
theorem must_no (e : Int) (w : World) : Calls Tryz.prog 98 #[.bool false, .int .i64 e] w fun r w' => r = raisedBy e ∧ Below w.heap.size w w' := by
  go_enter Tryz.func98, Tryz.ntmps98
  go_wp2_with fail
  exact ⟨rfl, rfl, Below.refl _ _⟩

def mb (e : Int) : Int := if e = 4 then 13 else e

set_option maxHeartbeats 2000000 in
set_option maxRecDepth 100000 in
theorem mustBe_ok (w : World) : Calls Tryz.prog 87 #[.int .i64 0] w fun r w' => r = .returned (.tuple #[]) ∧ w' = w := by
  go_enter Tryz.func87, Tryz.ntmps87
  go_wp2_with (go_at_call 98; refine (must_ok _ _).mono ?_; rintro r w1 ⟨rfl, rfl⟩)
  go_end0
  exact ⟨rfl, rfl⟩
set_option maxHeartbeats 2000000 in
set_option maxRecDepth 100000 in
theorem mustBe_no (e : Int) (he : e ≠ 0) (w : World) : Calls Tryz.prog 87 #[.int .i64 e] w fun r w' => r = raisedBy (mb e) ∧ Below w.heap.size w w' := by
  by_cases h4 : e = 4
  · subst h4
    go_enter Tryz.func87, Tryz.ntmps87
    go_wp2_with (go_at_call 98; refine (must_no _ _).mono ?_; rintro r w1 ⟨rfl, hb⟩)
    exact ⟨rfl, rfl, hb⟩
  · have h1 : (e != 4) = true := by simpa using h4
    have h2 : (e == 0) = false := by simpa using he
    have hm : mb e = e := if_neg h4
    rw [hm]
    clear h4 he hm
    have M0 := trivial
    go_enter Tryz.func87, Tryz.ntmps87
    go_wp2_with (first
      | (clear M0; go_at_call 98; refine (must_ok _ _).mono ?_; rintro r w1 ⟨rfl, rfl⟩)
      | (go_at_call 98; refine (must_no _ _).mono ?_; rintro r w1 ⟨rfl, hb⟩))
    exact ⟨rfl, rfl, hb⟩

set_option maxHeartbeats 2000000 in
set_option maxRecDepth 100000 in
theorem bcatch_idle (p q : Nat) (w : World) :
    CallsD Tryz.prog 86 #[.pointer (some ⟨p, 0, none⟩), .pointer (some ⟨q, 0, none⟩)] .returning w fun e u' w' => e = .returned (.tuple #[]) ∧ u' = .returning ∧ w' = w := by
  refine callsD_of_wpS Tryz.func86 rfl fun c₀ cs hu => ?_
  apply wpS_seq
  apply wpS_region
  simp [wpOpsS, go_sem, recoverD, hu, Tryz.ntmps86, Exit.thenS]
  refine wpS_of_wp ?_
  go_wp2_with fail
  cases c₀
  simp_all [bodyPostS, results, Tryz.results86]

theorem ta_raised (v : Value) (w : World) : (Instr.typeAssert (.iface RT v) 20 RT true).run Tryz.prog w = .ok (.tuple #[v, .bool true]) w := by kernel_rfl
attribute [local go_sem] ta_raised

set_option maxHeartbeats 4000000 in
set_option maxRecDepth 100000 in
theorem bcatch_raised (p q : Nat) (hne : p ≠ q) (er : Int) (older : List PanicEntry) (v0 v1 v2 v3 v4 v5 : Value) (w : World) (hp : Box w p v0 v1 v2 v3 v4) (hq : w.cell? ⟨q, 0, none⟩ = some v5) (hqf : w.frozen? ⟨q, 0, none⟩ = false) :
    CallsD Tryz.prog 86 #[.pointer (some ⟨p, 0, none⟩), .pointer (some ⟨q, 0, none⟩)] (.panicking ({ v := .iface RT (.int .i64 er), recovered := false } :: older)) w fun e u' w' =>
      e = .returned (.tuple #[]) ∧ u' = .panicking ({ v := .iface RT (.int .i64 er), recovered := true } :: older) ∧ Box w' p (.int .i64 0) (.int .i64 0) (.float .f64 0) (.string ⟨#[]⟩) (.slice none 0 0) ∧ w'.cell? ⟨q, 0, none⟩ = some (.int .i64 er) ∧ But (fun k => k = p ∨ k = q) w w' := by
  refine callsD_of_wpS Tryz.func86 rfl fun c₀ cs hu => ?_
  apply wpS_seq
  apply wpS_region
  simp [wpOpsS, go_sem, recoverD, hu, Tryz.ntmps86, Exit.thenS]
  refine wpS_of_wp ?_
  have c0 := hp.c0; have c1 := hp.c1; have c2 := hp.c2; have c3 := hp.c3; have c4 := hp.c4
  have f0 := hp.f0; have f1 := hp.f1; have f2 := hp.f2; have f3 := hp.f3; have f4 := hp.f4
  have hpl : p < w.heap.size := World.block_lt_of_cell? _ _ c0
  have hql : q < w.heap.size := World.block_lt_of_cell? _ _ hq
  have HP := hidb hp
  clear hp
  go_wp2_with fail
  have bx := (HP.out.set (.int .i64 0) (.int .i64 0) (.float .f64 0) (.string ⟨#[]⟩) (.slice none 0 0)).other1 (c := q) (i := 0) (fun e => hne e.symm) (.int .i64 er)
  have bt : But (fun k => k = p ∨ k = q) w ((set5 w p (.int .i64 0) (.int .i64 0) (.float .f64 0) (.string ⟨#[]⟩) (.slice none 0 0)).setCell ⟨q, 0, none⟩ (.int .i64 er)) :=
    ((((((But.refl (fun k => k = p ∨ k = q) w).setCell (p := ⟨p, 0, none⟩) (fun _ => .inl rfl) _).setCell (p := ⟨p, 1, none⟩) (fun _ => .inl rfl) _).setCell (p := ⟨p, 2, none⟩) (fun _ => .inl rfl) _).setCell (p := ⟨p, 3, none⟩) (fun _ => .inl rfl) _).setCell (p := ⟨p, 4, none⟩) (fun _ => .inl rfl) _).setCell (p := ⟨q, 0, none⟩) (fun _ => .inr rfl) _
  have hc : ((set5 w p (.int .i64 0) (.int .i64 0) (.float .f64 0) (.string ⟨#[]⟩) (.slice none 0 0)).setCell ⟨q, 0, none⟩ (.int .i64 er)).cell? ⟨q, 0, none⟩ = some (.int .i64 er) := by
    refine World.cell?_setCell_same' _ _ _ ?_
    have h0 : (set5 w p (.int .i64 0) (.int .i64 0) (.float .f64 0) (.string ⟨#[]⟩) (.slice none 0 0)).cell? ⟨q, 0, none⟩ = some v5 := by
      unfold set5
      simp only [World.cell?_setCell_other _ _ _ _ (ne_blk3 _ _ _ _ hne)]
      exact hq
    rw [h0]; rfl
  exact ⟨rfl, _, rfl, .tuple #[], by simp [results, Tryz.results86], rfl, rfl, bx, hc, bt⟩
end Go.Proofs.YtajadhkpadkikaaGreatDoor


