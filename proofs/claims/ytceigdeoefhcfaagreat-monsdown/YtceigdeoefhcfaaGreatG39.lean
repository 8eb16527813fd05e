import Derived.Test.YtceigdeoefhcfaaGreatG33
import Derived.Test.YtceigdeoefhcfaaGreatG38
import Derived.Deep.RegionHeld3
import Derived.Deep.RegionWith
import Derived.BigQuiet
import Derived.Deep.LoopGhost
import Derived.Deep.OwnRows
import Derived.WalkSmall
/- A region that draws its order: operations with a guard. -/
namespace Go.Proofs.YtceigdeoefhcfaaGreat
section
variable {P : Program} {md : Region.Mode} {Q : Exit → Act → World → Prop} {S : World → Prop} {D : List Nat}
/-- A guarded operation that is wanted. -/
theorem wpAnyD_takeG {l : List Oper} {i : Nat} {oi : Oper} {v : Value} {fuel : Nat} {listed : Array Bool} {a : Act} {w : World} (hi : l[i]? = some oi)
    (hs : Region.noSelect l.toArray = true) (hf : Region.free md l.toArray listed i = true) (hr : (Region.ready md l.toArray listed).contains i = true) (hD : D.all (waitsB md l.toArray i) = true)
    (hQ : ∀ c a w, Q (.panic c) (a.put oi.dst v) w → Q (.panic c) a w) (hS : S w) (hw : Region.wanted oi (yielded l.toArray a.tmps) = true) (hy : ∀ w, S w → (execOp a.eval oi).run P w = .ok (.value v) w)
    (h : wpAnyD P md l.toArray Q S D fuel (listed.setIfInBounds i true) (a.put oi.dst v) w) : wpAnyD P md l.toArray Q S D (fuel + 1) listed a w :=
  wpAnyD_take (by simpa using hi) hs hf hr hD hQ hS (.inl ⟨hw, hy⟩) h
/-- One that is not. -/
theorem wpAnyD_skipG {l : List Oper} {i : Nat} {oi : Oper} {fuel : Nat} {listed : Array Bool} {a : Act} {w : World} (hi : l[i]? = some oi)
    (hs : Region.noSelect l.toArray = true) (hf : Region.free md l.toArray listed i = true) (hr : (Region.ready md l.toArray listed).contains i = true) (hD : D.all (waitsB md l.toArray i) = true)
    (hQ : ∀ c a w, Q (.panic c) (a.put oi.dst undef) w → Q (.panic c) a w) (hS : S w) (hw : Region.wanted oi (yielded l.toArray a.tmps) = false)
    (h : wpAnyD P md l.toArray Q S D fuel (listed.setIfInBounds i true) (a.put oi.dst undef) w) : wpAnyD P md l.toArray Q S D (fuel + 1) listed a w :=
  wpAnyD_take (by simpa using hi) hs hf hr hD hQ hS (.inr ⟨hw, rfl⟩) h
end
end Go.Proofs.YtceigdeoefhcfaaGreat


/- MonsDown: the walk, walked. -/
namespace Go.Proofs.YtceigdeoefhcfaaGreat
open Go.RowKit Go.Lib
open MV (Hf hf0 getL insL delL Rise Wfk TB Nw Rst KV MnT mvs)
attribute [local go_sem] store_float f64bits
attribute [local go_sem ↓] Go.wp_at_zero Go.wp_at_succ

variable {Yg : Nat → Prop} {wG : World} {w0 w w' : World} {wb ta tb eb N refs : Nat} {O T O' T' : List KV} {p q : List Sg} {dead : Bool} {dn : List Nat}
theorem infoB : ∃ i0, Tryz.prog.info? 4 = some i0 ∧ i0.zero = some (.bool false) ∧ i0.size = 1 ∧ i0.bytes = 1 := info_parts (show (Tryz.prog.info? 4).map (fun i => (i.zero, i.size, i.bytes)) = some (some (.bool false), 1, 1) by kernel_rfl)

set_option maxRecDepth 100000 in
set_option maxHeartbeats 16000000 in
theorem monsDown_of (PD : Hid (∀ (w1 W : World) (gs : List Bool) (O T : List KV) (p q : List Sg) (dead : Bool) (refs : Nat) (dn : List Nat) (wb ta tb eb G N n i : Nat), gs.length = n → GR W G gs → DM (fun k => k = G) w1 W wb ta tb eb O T p q dead refs dn N → Iv (gp gs) i O T p q dead refs dn N → i ≤ 3000 → ∀ (op rf : Int), (op = 2 → isK rf O = true → gp gs rf) → Calls Tryz.prog 7 #[.pointer (some ⟨wb, 0, none⟩), .agg #[.int .i64 op, .int .i64 rf]] W fun e w' => e = .returned (.tuple #[]) ∧ Pst w1 w' wb ta tb eb G n (i + 1))) (v0 : Value) (l : List (Int × Int)) (w : World) (hl1 : MC w v0 l) :
    Calls Tryz.prog 3 #[v0] w fun e w' => e = .returned (.bool true) ∧ Below w.heap.size w w' := by
  obtain ⟨q1, c1, rfl, hcl1⟩ := hl1
  have HC1 := hidb hcl1
  clear hcl1
  by_cases z1 : l.length > 2000
  · have e1 : (2000 : Int) < (l.length : Int) := by omega
    go_enter Tryz.func3, Tryz.ntmps3
    go_wp2_with (go_at_call 4; refine (known15_any _).mono ?_; rintro e w1 ⟨rfl, hb1⟩; have HB1 := hidb hb1; clear hb1)
    go_ret
    exact ⟨rfl, HB1.out⟩
  have e1 : ¬ (2000 : Int) < (l.length : Int) := by omega
  have HZ : Hid (l.length ≤ 2000) := hidb (by omega)
  clear z1
  have CN1 : Hid (∀ w, Calls Tryz.prog 5 #[] w fun e w' => e = .returned (.pointer (some ⟨w.heap.size, 0, none⟩)) ∧ Hid (MTab w' w.heap.size (fun _ => False) [] [] ∧ Below w.heap.size w w' ∧ w.heap.size < w'.heap.size)) := hidb (fun w => (mnew_any w).mono (by rintro e w' ⟨rfl, h1, h2, h3⟩; exact ⟨rfl, hidb ⟨h1, h2, by omega⟩⟩))
  have CN2 := CN1
  have CE : Hid (∀ w, Calls Tryz.prog 6 #[] w fun e w' => e = .returned (.pointer (some ⟨w.heap.size, 0, none⟩)) ∧ Hid ((∀ w0, Below w0.heap.size w0 w → EO w0 w' w.heap.size (.map none) (fun _ _ => none) 0 0) ∧ Below w.heap.size w w' ∧ w.heap.size < w'.heap.size)) := hidb (fun w => (newE w).mono (by rintro e w' ⟨rfl, rfl⟩; exact ⟨rfl, hidb ⟨fun w0 hb => eo_new w0 w hb, below_new _ _, by simp⟩⟩))
  obtain ⟨i0, hi0, hz0, hz1, hz2⟩ := infoB
  have hby : i0.bytes * (l.length + 1) ≤ 281474976710656 := by rw [hz2]; have := HZ.out; omega
  go_enter Tryz.func3, Tryz.ntmps3
  go_wp2_with (first
    | (go_at_call 4; refine (known15_any _).mono ?_; rintro e w1 ⟨rfl, hb1⟩; have HB1 := hidb hb1; clear hb1)
    | (go_at_call 5; refine (CN1.out _).mono ?_; clear CN1; rintro e w2 ⟨rfl, HN1⟩)
    | (go_at_call 5; refine (CN2.out _).mono ?_; clear CN2; rintro e w3 ⟨rfl, HN2⟩)
    | (go_at_call 6; refine (CE.out _).mono ?_; clear CE; rintro e w4 ⟨rfl, HN3⟩)
    | (at_make; refine wpList_make_row _ rfl _ _ 32 rfl 4 i0 (.bool false) Tryz.underlying32 hi0 hz0 hz1 rfl _ _ (l.length + 1) rfl rfl hby (by have := HZ.out; omega) ?_))
  clear hi0 hz0 hz1 hz2 hby e1
  have HST : Hid (Pst w1 ((w4.alloc (.cells #[.pointer (some ⟨w1.heap.size, 0, none⟩), .pointer (some ⟨w2.heap.size, 0, none⟩), .pointer (some ⟨w3.heap.size, 0, none⟩), .bool false, .int .i64 0, .slice none 0 0] 31)).alloc (.cells (madeCells #[.bool false] (l.length + 1)) 4)) w4.heap.size w1.heap.size w2.heap.size w3.heap.size (w4.heap.size + 1) (l.length + 1) 0) := hidb (by
    obtain ⟨a1, a2, a3⟩ := HN1.out
    obtain ⟨b1, b2, b3⟩ := HN2.out
    obtain ⟨c1, c2, c3⟩ := HN3.out
    have e : (w4.alloc (.cells #[.pointer (some ⟨w1.heap.size, 0, none⟩), .pointer (some ⟨w2.heap.size, 0, none⟩), .pointer (some ⟨w3.heap.size, 0, none⟩), .bool false, .int .i64 0, .slice none 0 0] 31)).heap.size = w4.heap.size + 1 := by simp
    have h := DM.start 31 (.cells (madeCells #[.bool false] (l.length + 1)) 4) a1 a3 b1 b2 b3 (c1 w1 (a2.trans (b2.mono a2.size))) c2 c3
    have g := GR.new (w4.alloc (.cells #[.pointer (some ⟨w1.heap.size, 0, none⟩), .pointer (some ⟨w2.heap.size, 0, none⟩), .pointer (some ⟨w3.heap.size, 0, none⟩), .bool false, .int .i64 0, .slice none 0 0] 31)) 4 (l.length + 1)
    rw [e] at h g
    exact ⟨_, [], [], [], [], false, 0, [], 0, by simp, g, h, Iv.start⟩)
  have HNE : Hid (w1.heap.size ≠ w4.heap.size) := hidb (by have := HN1.out.2.2; have := HN2.out.2.2; have := HN3.out.2.2; omega)
  generalize w4.heap.size + 1 = G at *
  generalize w4.heap.size = wb at *
  generalize w2.heap.size = tb at *
  generalize w3.heap.size = eb at *
  generalize htaq : w1.heap.size = ta at *
  clear HN1 HN2 HN3
  go_loopw [5] (fun iv wr => ∃ (i : Nat), iv = .int .i64 (i : Int) ∧ i ≤ l.length ∧ Pst w1 wr wb ta tb eb G (l.length + 1) i) (fun iv _ => l.length - (RowKit.intOf iv).toNat)
  case atStart => exact ⟨0, rfl, by omega, HST.out⟩
  case round =>
  obtain ⟨i, rfl, hi, hST⟩ := hrel
  have HSX := hidb hST
  have HI := hidb hi
  clear hi hST HST
  by_cases hlt : i < l.length
  · have hlt' : (i : Int) < (l.length : Int) := by omega
    obtain ⟨x0, x1, hx⟩ : ∃ x0 x1 : Int, l[i]? = some (x0, x1) := ⟨_, _, List.getElem?_eq_getElem hlt⟩
    obtain ⟨b, o, rfl, y0, y1⟩ := HC1.out i _ hx
    have hbw : b < w.heap.size := World.block_lt_of_cell? _ _ y0
    have hbr := HB1.out.trans (HSX.out.low.mono HB1.out.size)
    have m0 := (hbr.cell (p := ⟨b, o + i * 2, none⟩) hbw).trans y0
    have m1 := (hbr.cell (p := ⟨b, o + i * 2 + 1, none⟩) hbw).trans y1
    simp only at m0 m1
    have s0 : (0 : Int) ≤ (i : Int) := by omega
    have HLT := hidb hlt
    have HW : Hid (wrap64 ((i : Int) + 1) = ((i + 1 : Nat) : Int)) := hidb (by have := HZ.out; unfold wrap64; omega)
    have hz5 := HZ.out
    have hi5 := HI.out
    obtain ⟨gs, O, T, p, q, dead, refs, dn, N, hgl, hG, hD, hV⟩ := HSX.out
    by_cases hA : x0 = 2 ∧ 1 ≤ x1 ∧ x1 ≤ (l.length : Int)
    · obtain ⟨rfl, ha1, ha2⟩ := hA
      obtain ⟨m, rfl⟩ : ∃ m : Nat, x1 = (m : Int) := ⟨x1.toNat, by omega⟩
      obtain ⟨c, hc⟩ : ∃ c, gs[m]? = some c := ⟨_, List.getElem?_eq_getElem (by omega)⟩
      obtain ⟨zc, zf⟩ := hG.2 m c hc
      obtain ⟨V5, hS5, -, hxw, -⟩ := hD.box
      have k4 := hS5.c4
      have hwG : wb ≠ G := hxw
      have hGl := hD.xs (k := G) rfl
      have hbG : b ≠ G := by have := HB1.out.size; omega
      have d1 : decide ((1 : Int) ≤ (m : Int)) = true := by simpa using ha1
      have d2 : decide ((m : Int) ≤ (l.length : Int)) = true := by simpa using ha2
      have s3 : (m : Int) < ((l.length + 1 : Nat) : Int) := by omega
      have s4 : (m : Int) < (l.length : Int) + 1 := by omega
      have s5 : (0 : Int) ≤ (m : Int) := by omega
      have CW : Hid (∀ v : Bool, ((m : Int) ≤ (refs : Int) → v = true) → (c = true → v = true) → Calls Tryz.prog 7 #[.pointer (some ⟨wb, 0, none⟩), .agg #[.int .i64 2, .int .i64 (m : Int)]] (wr.drew.setCell ⟨G, m, none⟩ (.bool v)) fun e w' => e = .returned (.tuple #[]) ∧ Pst w1 w' wb ta tb eb G (l.length + 1) (i + 1)) := hidb (fun v hv1 hv2 => PD.out _ _ _ _ _ _ _ _ _ _ _ _ _ _ _ _ _ _ (by simpa using hgl) ((show GR wr.drew G gs from hG).set hc v) ((hD.keep ((Below.refl _ _).drew)).poke ((But.refl (fun k => k = G) wr.drew).setCell (p := ⟨G, m, none⟩) (fun _ => rfl) _)) (hV.gone (fun r hr => gp_set hc hv2 r hr)) (by omega) 2 (m : Int) (fun _ hk => by
        obtain ⟨y, hy, e⟩ := isK_mem.1 hk
        have h9 := hV.bs.o y hy
        rw [hv1 (by omega)]
        exact gp_set_self hc))
      clear hgl hG hD hV hx y0 y1 hbw hbr hz5 hi5 hlt hc hS5 hxw hGl ha1 ha2
      by_cases hr : (m : Int) ≤ (refs : Int)
      · have d3 : decide ((m : Int) ≤ (refs : Int)) = true := by simpa using hr
        have d4 : decide (m ≤ refs) = true := by simpa using hr
        have d5 : m ≤ refs := by omega
        have CD := hidb (CW.out true (fun _ => rfl) (fun _ => rfl))
        clear CW hr
        go_wp2_with fail
        have HS0 : Hid (wr.cell? ⟨b, o + i * 2 + 1, none⟩ = some (.int .i64 (m : Int)) ∧ wr.cell? ⟨wb, 4, none⟩ = some (.int .i64 (refs : Int)) ∧ wr.cell? ⟨G, m, none⟩ = some (.bool c)) := hidb ⟨m1, k4, zc⟩
        refine wp_region_D (fun w' => w'.cell? ⟨b, o + i * 2 + 1, none⟩ = some (.int .i64 (m : Int)) ∧ w'.cell? ⟨wb, 4, none⟩ = some (.int .i64 (refs : Int)) ∧ w'.cell? ⟨G, m, none⟩ = some (.bool c)) [27] (by kernel_rfl) ?_
        refine wpAnyD_takeL (i := 0) (v := ?vv0_0) rfl (by kernel_rfl) (by kernel_rfl) (by kernel_rfl) (by kernel_rfl) (fun _ _ _ h => h) HS0.out rfl ?hy0_0 ?_
        case hy0_0 => intro wy hSw; obtain ⟨t1, t2, t3⟩ := hSw; go_simp; try with_reducible rfl
        simp only [Act.put, List.setIfInBounds_toArray, List.set_cons_zero, List.set_cons_succ]
        refine wpAnyD_takeL (i := 1) (v := ?vv0_1) rfl (by kernel_rfl) (by kernel_rfl) (by kernel_rfl) (by kernel_rfl) (fun _ _ _ h => h) HS0.out rfl ?hy0_1 ?_
        case hy0_1 => intro wy hSw; obtain ⟨t1, t2, t3⟩ := hSw; go_simp; try with_reducible rfl
        simp only [Act.put, List.setIfInBounds_toArray, List.set_cons_zero, List.set_cons_succ]
        refine wpAnyD_takeL (i := 2) (v := ?vv0_2) rfl (by kernel_rfl) (by kernel_rfl) (by kernel_rfl) (by kernel_rfl) (fun _ _ _ h => h) HS0.out rfl ?hy0_2 ?_
        case hy0_2 => intro wy hSw; obtain ⟨t1, t2, t3⟩ := hSw; go_simp; try with_reducible rfl
        simp only [Act.put, List.setIfInBounds_toArray, List.set_cons_zero, List.set_cons_succ]
        refine wpAnyD_takeL (i := 3) (v := ?vv0_3) rfl (by kernel_rfl) (by kernel_rfl) (by kernel_rfl) (by kernel_rfl) (fun _ _ _ h => h) HS0.out rfl ?hy0_3 ?_
        case hy0_3 => intro wy hSw; obtain ⟨t1, t2, t3⟩ := hSw; go_simp; try with_reducible rfl
        simp only [Act.put, List.setIfInBounds_toArray, List.set_cons_zero, List.set_cons_succ]
        refine wpAnyD_takeL (i := 4) (v := ?vv0_4) rfl (by kernel_rfl) (by kernel_rfl) (by kernel_rfl) (by kernel_rfl) (fun _ _ _ h => h) HS0.out rfl ?hy0_4 ?_
        case hy0_4 => intro wy hSw; obtain ⟨t1, t2, t3⟩ := hSw; go_simp; try with_reducible rfl
        simp only [Act.put, List.setIfInBounds_toArray, List.set_cons_zero, List.set_cons_succ]
        refine wpAnyD_takeL (i := 5) (v := ?vv0_5) rfl (by kernel_rfl) (by kernel_rfl) (by kernel_rfl) (by kernel_rfl) (fun _ _ _ h => h) HS0.out rfl ?hy0_5 ?_
        case hy0_5 => intro wy hSw; obtain ⟨t1, t2, t3⟩ := hSw; go_simp; try with_reducible rfl
        simp only [Act.put, List.setIfInBounds_toArray, List.set_cons_zero, List.set_cons_succ]
        refine wpAnyD_takeL (i := 6) (v := ?vv0_6) rfl (by kernel_rfl) (by kernel_rfl) (by kernel_rfl) (by kernel_rfl) (fun _ _ _ h => h) HS0.out rfl ?hy0_6 ?_
        case hy0_6 => intro wy hSw; obtain ⟨t1, t2, t3⟩ := hSw; go_simp; try with_reducible rfl
        simp only [Act.put, List.setIfInBounds_toArray, List.set_cons_zero, List.set_cons_succ]
        refine wpAnyD_takeL (i := 7) (v := ?vv0_7) rfl (by kernel_rfl) (by kernel_rfl) (by kernel_rfl) (by kernel_rfl) (fun _ _ _ h => h) HS0.out rfl ?hy0_7 ?_
        case hy0_7 => intro wy hSw; obtain ⟨t1, t2, t3⟩ := hSw; go_simp; try with_reducible rfl
        simp only [Act.put, List.setIfInBounds_toArray, List.set_cons_zero, List.set_cons_succ]
        refine wpAnyD_takeL (i := 8) (v := ?vv0_8) rfl (by kernel_rfl) (by kernel_rfl) (by kernel_rfl) (by kernel_rfl) (fun _ _ _ h => h) HS0.out rfl ?hy0_8 ?_
        case hy0_8 => intro wy hSw; obtain ⟨t1, t2, t3⟩ := hSw; go_simp; try with_reducible rfl
        simp only [Act.put, List.setIfInBounds_toArray, List.set_cons_zero, List.set_cons_succ]
        refine wpAnyD_takeL (i := 9) (v := ?vv0_9) rfl (by kernel_rfl) (by kernel_rfl) (by kernel_rfl) (by kernel_rfl) (fun _ _ _ h => h) HS0.out rfl ?hy0_9 ?_
        case hy0_9 => intro wy hSw; obtain ⟨t1, t2, t3⟩ := hSw; go_simp; try with_reducible rfl
        simp only [Act.put, List.setIfInBounds_toArray, List.set_cons_zero, List.set_cons_succ]
        refine wpAnyD_takeL (i := 10) (v := ?vv0_10) rfl (by kernel_rfl) (by kernel_rfl) (by kernel_rfl) (by kernel_rfl) (fun _ _ _ h => h) HS0.out rfl ?hy0_10 ?_
        case hy0_10 => intro wy hSw; obtain ⟨t1, t2, t3⟩ := hSw; go_simp; try with_reducible rfl
        simp only [Act.put, List.setIfInBounds_toArray, List.set_cons_zero, List.set_cons_succ]
        refine wpAnyD_takeL (i := 11) (v := ?vv0_11) rfl (by kernel_rfl) (by kernel_rfl) (by kernel_rfl) (by kernel_rfl) (fun _ _ _ h => h) HS0.out rfl ?hy0_11 ?_
        case hy0_11 => intro wy hSw; obtain ⟨t1, t2, t3⟩ := hSw; go_simp; try with_reducible rfl
        simp only [Act.put, List.setIfInBounds_toArray, List.set_cons_zero, List.set_cons_succ]
        refine wpAnyD_takeL (i := 12) (v := ?vv0_12) rfl (by kernel_rfl) (by kernel_rfl) (by kernel_rfl) (by kernel_rfl) (fun _ _ _ h => h) HS0.out rfl ?hy0_12 ?_
        case hy0_12 => intro wy hSw; obtain ⟨t1, t2, t3⟩ := hSw; go_simp; try with_reducible rfl
        simp only [Act.put, List.setIfInBounds_toArray, List.set_cons_zero, List.set_cons_succ]
        refine wpAnyD_takeL (i := 13) (v := ?vv0_13) rfl (by kernel_rfl) (by kernel_rfl) (by kernel_rfl) (by kernel_rfl) (fun _ _ _ h => h) HS0.out rfl ?hy0_13 ?_
        case hy0_13 => intro wy hSw; obtain ⟨t1, t2, t3⟩ := hSw; go_simp; try with_reducible rfl
        simp only [Act.put, List.setIfInBounds_toArray, List.set_cons_zero, List.set_cons_succ]
        refine wpAnyD_takeL (i := 14) (v := ?vv0_14) rfl (by kernel_rfl) (by kernel_rfl) (by kernel_rfl) (by kernel_rfl) (fun _ _ _ h => h) HS0.out rfl ?hy0_14 ?_
        case hy0_14 => intro wy hSw; obtain ⟨t1, t2, t3⟩ := hSw; go_simp; try with_reducible rfl
        simp only [Act.put, List.setIfInBounds_toArray, List.set_cons_zero, List.set_cons_succ]
        refine wpAnyD_takeL (i := 15) (v := ?vv0_15) rfl (by kernel_rfl) (by kernel_rfl) (by kernel_rfl) (by kernel_rfl) (fun _ _ _ h => h) HS0.out rfl ?hy0_15 ?_
        case hy0_15 => intro wy hSw; obtain ⟨t1, t2, t3⟩ := hSw; go_simp; try with_reducible rfl
        simp only [Act.put, List.setIfInBounds_toArray, List.set_cons_zero, List.set_cons_succ]
        refine wpAnyD_takeL (i := 16) (v := ?vv0_16) rfl (by kernel_rfl) (by kernel_rfl) (by kernel_rfl) (by kernel_rfl) (fun _ _ _ h => h) HS0.out rfl ?hy0_16 ?_
        case hy0_16 => intro wy hSw; obtain ⟨t1, t2, t3⟩ := hSw; go_simp; try with_reducible rfl
        simp only [Act.put, List.setIfInBounds_toArray, List.set_cons_zero, List.set_cons_succ]
        refine wpAnyD_skipG (i := 17) rfl (by kernel_rfl) (by kernel_rfl) (by kernel_rfl) (by kernel_rfl) (fun _ _ _ h => h) HS0.out (by simp [Region.wanted, yielded]) ?_
        simp only [Act.put, List.setIfInBounds_toArray, List.set_cons_zero, List.set_cons_succ]
        refine wpAnyD_skipG (i := 18) rfl (by kernel_rfl) (by kernel_rfl) (by kernel_rfl) (by kernel_rfl) (fun _ _ _ h => h) HS0.out (by simp [Region.wanted, yielded]) ?_
        simp only [Act.put, List.setIfInBounds_toArray, List.set_cons_zero, List.set_cons_succ]
        refine wpAnyD_skipG (i := 19) rfl (by kernel_rfl) (by kernel_rfl) (by kernel_rfl) (by kernel_rfl) (fun _ _ _ h => h) HS0.out (by simp [Region.wanted, yielded]) ?_
        simp only [Act.put, List.setIfInBounds_toArray, List.set_cons_zero, List.set_cons_succ]
        refine wpAnyD_skipG (i := 20) rfl (by kernel_rfl) (by kernel_rfl) (by kernel_rfl) (by kernel_rfl) (fun _ _ _ h => h) HS0.out (by simp [Region.wanted, yielded]) ?_
        simp only [Act.put, List.setIfInBounds_toArray, List.set_cons_zero, List.set_cons_succ]
        refine wpAnyD_skipG (i := 21) rfl (by kernel_rfl) (by kernel_rfl) (by kernel_rfl) (by kernel_rfl) (fun _ _ _ h => h) HS0.out (by simp [Region.wanted, yielded]) ?_
        simp only [Act.put, List.setIfInBounds_toArray, List.set_cons_zero, List.set_cons_succ]
        refine wpAnyD_skipG (i := 22) rfl (by kernel_rfl) (by kernel_rfl) (by kernel_rfl) (by kernel_rfl) (fun _ _ _ h => h) HS0.out (by simp [Region.wanted, yielded]) ?_
        simp only [Act.put, List.setIfInBounds_toArray, List.set_cons_zero, List.set_cons_succ]
        refine wpAnyD_skipG (i := 23) rfl (by kernel_rfl) (by kernel_rfl) (by kernel_rfl) (by kernel_rfl) (fun _ _ _ h => h) HS0.out (by simp [Region.wanted, yielded]) ?_
        simp only [Act.put, List.setIfInBounds_toArray, List.set_cons_zero, List.set_cons_succ]
        refine wpAnyD_skipG (i := 24) rfl (by kernel_rfl) (by kernel_rfl) (by kernel_rfl) (by kernel_rfl) (fun _ _ _ h => h) HS0.out (by simp [Region.wanted, yielded]) ?_
        simp only [Act.put, List.setIfInBounds_toArray, List.set_cons_zero, List.set_cons_succ]
        refine wpAnyD_takeL (i := 25) (v := ?vv0_25) rfl (by kernel_rfl) (by kernel_rfl) (by kernel_rfl) (by kernel_rfl) (fun _ _ _ h => h) HS0.out rfl ?hy0_25 ?_
        case hy0_25 => intro wy hSw; obtain ⟨t1, t2, t3⟩ := hSw; go_simp; try with_reducible rfl
        simp only [Act.put, List.setIfInBounds_toArray, List.set_cons_zero, List.set_cons_succ]
        refine wpAnyD_takeL (i := 26) (v := ?vv0_26) rfl (by kernel_rfl) (by kernel_rfl) (by kernel_rfl) (by kernel_rfl) (fun _ _ _ h => h) HS0.out rfl ?hy0_26 ?_
        case hy0_26 => intro wy hSw; obtain ⟨t1, t2, t3⟩ := hSw; go_simp; try with_reducible rfl
        simp only [Act.put, List.setIfInBounds_toArray, List.set_cons_zero, List.set_cons_succ]
        refine wpAnyD_stepL (i := 27) (by kernel_rfl) rfl (fun K hK => ?_)
        go_simp
        refine hK _ _ (fun hh => absurd (List.mem_singleton.2 rfl) hh) ?_
        clear hK K
        refine wpAnyD_done (by kernel_rfl) ?_ _
        go_wp2_with (go_at_call 7; refine CD.out.mono ?_; clear CD; rintro e w6 ⟨rfl, hR⟩; have HR := hidb hR; clear hR)
        go_roundw
        case rel => exact ⟨i + 1, by first | rfl | (rw [HW.out]), (by have := HI.out; have := HLT.out; omega), HR.out⟩
        case measure =>
          have := HLT.out
          try rw [HW.out]
          simp only [RowKit.intOf]
          omega
      · have d3 : decide ((m : Int) ≤ (refs : Int)) = false := by simpa using hr
        have d4 : decide (m ≤ refs) = false := by simpa using (show ¬ m ≤ refs by omega)
        have d5 : ¬ m ≤ refs := by omega
        have CD := hidb (CW.out c (fun h => absurd h hr) (fun h => h))
        clear CW hr
        go_wp2_with fail
        have HS0 : Hid (wr.cell? ⟨b, o + i * 2 + 1, none⟩ = some (.int .i64 (m : Int)) ∧ wr.cell? ⟨wb, 4, none⟩ = some (.int .i64 (refs : Int)) ∧ wr.cell? ⟨G, m, none⟩ = some (.bool c)) := hidb ⟨m1, k4, zc⟩
        refine wp_region_D (fun w' => w'.cell? ⟨b, o + i * 2 + 1, none⟩ = some (.int .i64 (m : Int)) ∧ w'.cell? ⟨wb, 4, none⟩ = some (.int .i64 (refs : Int)) ∧ w'.cell? ⟨G, m, none⟩ = some (.bool c)) [27] (by kernel_rfl) ?_
        refine wpAnyD_takeL (i := 0) (v := ?vv1_0) rfl (by kernel_rfl) (by kernel_rfl) (by kernel_rfl) (by kernel_rfl) (fun _ _ _ h => h) HS0.out rfl ?hy1_0 ?_
        case hy1_0 => intro wy hSw; obtain ⟨t1, t2, t3⟩ := hSw; go_simp; try with_reducible rfl
        simp only [Act.put, List.setIfInBounds_toArray, List.set_cons_zero, List.set_cons_succ]
        refine wpAnyD_takeL (i := 1) (v := ?vv1_1) rfl (by kernel_rfl) (by kernel_rfl) (by kernel_rfl) (by kernel_rfl) (fun _ _ _ h => h) HS0.out rfl ?hy1_1 ?_
        case hy1_1 => intro wy hSw; obtain ⟨t1, t2, t3⟩ := hSw; go_simp; try with_reducible rfl
        simp only [Act.put, List.setIfInBounds_toArray, List.set_cons_zero, List.set_cons_succ]
        refine wpAnyD_takeL (i := 2) (v := ?vv1_2) rfl (by kernel_rfl) (by kernel_rfl) (by kernel_rfl) (by kernel_rfl) (fun _ _ _ h => h) HS0.out rfl ?hy1_2 ?_
        case hy1_2 => intro wy hSw; obtain ⟨t1, t2, t3⟩ := hSw; go_simp; try with_reducible rfl
        simp only [Act.put, List.setIfInBounds_toArray, List.set_cons_zero, List.set_cons_succ]
        refine wpAnyD_takeL (i := 3) (v := ?vv1_3) rfl (by kernel_rfl) (by kernel_rfl) (by kernel_rfl) (by kernel_rfl) (fun _ _ _ h => h) HS0.out rfl ?hy1_3 ?_
        case hy1_3 => intro wy hSw; obtain ⟨t1, t2, t3⟩ := hSw; go_simp; try with_reducible rfl
        simp only [Act.put, List.setIfInBounds_toArray, List.set_cons_zero, List.set_cons_succ]
        refine wpAnyD_takeL (i := 4) (v := ?vv1_4) rfl (by kernel_rfl) (by kernel_rfl) (by kernel_rfl) (by kernel_rfl) (fun _ _ _ h => h) HS0.out rfl ?hy1_4 ?_
        case hy1_4 => intro wy hSw; obtain ⟨t1, t2, t3⟩ := hSw; go_simp; try with_reducible rfl
        simp only [Act.put, List.setIfInBounds_toArray, List.set_cons_zero, List.set_cons_succ]
        refine wpAnyD_takeL (i := 5) (v := ?vv1_5) rfl (by kernel_rfl) (by kernel_rfl) (by kernel_rfl) (by kernel_rfl) (fun _ _ _ h => h) HS0.out rfl ?hy1_5 ?_
        case hy1_5 => intro wy hSw; obtain ⟨t1, t2, t3⟩ := hSw; go_simp; try with_reducible rfl
        simp only [Act.put, List.setIfInBounds_toArray, List.set_cons_zero, List.set_cons_succ]
        refine wpAnyD_takeL (i := 6) (v := ?vv1_6) rfl (by kernel_rfl) (by kernel_rfl) (by kernel_rfl) (by kernel_rfl) (fun _ _ _ h => h) HS0.out rfl ?hy1_6 ?_
        case hy1_6 => intro wy hSw; obtain ⟨t1, t2, t3⟩ := hSw; go_simp; try with_reducible rfl
        simp only [Act.put, List.setIfInBounds_toArray, List.set_cons_zero, List.set_cons_succ]
        refine wpAnyD_takeL (i := 7) (v := ?vv1_7) rfl (by kernel_rfl) (by kernel_rfl) (by kernel_rfl) (by kernel_rfl) (fun _ _ _ h => h) HS0.out rfl ?hy1_7 ?_
        case hy1_7 => intro wy hSw; obtain ⟨t1, t2, t3⟩ := hSw; go_simp; try with_reducible rfl
        simp only [Act.put, List.setIfInBounds_toArray, List.set_cons_zero, List.set_cons_succ]
        refine wpAnyD_takeL (i := 8) (v := ?vv1_8) rfl (by kernel_rfl) (by kernel_rfl) (by kernel_rfl) (by kernel_rfl) (fun _ _ _ h => h) HS0.out rfl ?hy1_8 ?_
        case hy1_8 => intro wy hSw; obtain ⟨t1, t2, t3⟩ := hSw; go_simp; try with_reducible rfl
        simp only [Act.put, List.setIfInBounds_toArray, List.set_cons_zero, List.set_cons_succ]
        refine wpAnyD_takeL (i := 9) (v := ?vv1_9) rfl (by kernel_rfl) (by kernel_rfl) (by kernel_rfl) (by kernel_rfl) (fun _ _ _ h => h) HS0.out rfl ?hy1_9 ?_
        case hy1_9 => intro wy hSw; obtain ⟨t1, t2, t3⟩ := hSw; go_simp; try with_reducible rfl
        simp only [Act.put, List.setIfInBounds_toArray, List.set_cons_zero, List.set_cons_succ]
        refine wpAnyD_takeL (i := 10) (v := ?vv1_10) rfl (by kernel_rfl) (by kernel_rfl) (by kernel_rfl) (by kernel_rfl) (fun _ _ _ h => h) HS0.out rfl ?hy1_10 ?_
        case hy1_10 => intro wy hSw; obtain ⟨t1, t2, t3⟩ := hSw; go_simp; try with_reducible rfl
        simp only [Act.put, List.setIfInBounds_toArray, List.set_cons_zero, List.set_cons_succ]
        refine wpAnyD_takeL (i := 11) (v := ?vv1_11) rfl (by kernel_rfl) (by kernel_rfl) (by kernel_rfl) (by kernel_rfl) (fun _ _ _ h => h) HS0.out rfl ?hy1_11 ?_
        case hy1_11 => intro wy hSw; obtain ⟨t1, t2, t3⟩ := hSw; go_simp; try with_reducible rfl
        simp only [Act.put, List.setIfInBounds_toArray, List.set_cons_zero, List.set_cons_succ]
        refine wpAnyD_takeL (i := 12) (v := ?vv1_12) rfl (by kernel_rfl) (by kernel_rfl) (by kernel_rfl) (by kernel_rfl) (fun _ _ _ h => h) HS0.out rfl ?hy1_12 ?_
        case hy1_12 => intro wy hSw; obtain ⟨t1, t2, t3⟩ := hSw; go_simp; try with_reducible rfl
        simp only [Act.put, List.setIfInBounds_toArray, List.set_cons_zero, List.set_cons_succ]
        refine wpAnyD_takeL (i := 13) (v := ?vv1_13) rfl (by kernel_rfl) (by kernel_rfl) (by kernel_rfl) (by kernel_rfl) (fun _ _ _ h => h) HS0.out rfl ?hy1_13 ?_
        case hy1_13 => intro wy hSw; obtain ⟨t1, t2, t3⟩ := hSw; go_simp; try with_reducible rfl
        simp only [Act.put, List.setIfInBounds_toArray, List.set_cons_zero, List.set_cons_succ]
        refine wpAnyD_takeL (i := 14) (v := ?vv1_14) rfl (by kernel_rfl) (by kernel_rfl) (by kernel_rfl) (by kernel_rfl) (fun _ _ _ h => h) HS0.out rfl ?hy1_14 ?_
        case hy1_14 => intro wy hSw; obtain ⟨t1, t2, t3⟩ := hSw; go_simp; try with_reducible rfl
        simp only [Act.put, List.setIfInBounds_toArray, List.set_cons_zero, List.set_cons_succ]
        refine wpAnyD_takeL (i := 15) (v := ?vv1_15) rfl (by kernel_rfl) (by kernel_rfl) (by kernel_rfl) (by kernel_rfl) (fun _ _ _ h => h) HS0.out rfl ?hy1_15 ?_
        case hy1_15 => intro wy hSw; obtain ⟨t1, t2, t3⟩ := hSw; go_simp; try with_reducible rfl
        simp only [Act.put, List.setIfInBounds_toArray, List.set_cons_zero, List.set_cons_succ]
        refine wpAnyD_takeL (i := 16) (v := ?vv1_16) rfl (by kernel_rfl) (by kernel_rfl) (by kernel_rfl) (by kernel_rfl) (fun _ _ _ h => h) HS0.out rfl ?hy1_16 ?_
        case hy1_16 => intro wy hSw; obtain ⟨t1, t2, t3⟩ := hSw; go_simp; try with_reducible rfl
        simp only [Act.put, List.setIfInBounds_toArray, List.set_cons_zero, List.set_cons_succ]
        refine wpAnyD_takeG (i := 17) (v := ?vv1_17) rfl (by kernel_rfl) (by kernel_rfl) (by kernel_rfl) (by kernel_rfl) (fun _ _ _ h => h) HS0.out (by simp [Region.wanted, yielded]) ?hy1_17 ?_
        case hy1_17 => intro wy hSw; obtain ⟨t1, t2, t3⟩ := hSw; go_simp; try with_reducible rfl
        simp only [Act.put, List.setIfInBounds_toArray, List.set_cons_zero, List.set_cons_succ]
        refine wpAnyD_takeG (i := 18) (v := ?vv1_18) rfl (by kernel_rfl) (by kernel_rfl) (by kernel_rfl) (by kernel_rfl) (fun _ _ _ h => h) HS0.out (by simp [Region.wanted, yielded]) ?hy1_18 ?_
        case hy1_18 => intro wy hSw; obtain ⟨t1, t2, t3⟩ := hSw; go_simp; try with_reducible rfl
        simp only [Act.put, List.setIfInBounds_toArray, List.set_cons_zero, List.set_cons_succ]
        refine wpAnyD_takeG (i := 19) (v := ?vv1_19) rfl (by kernel_rfl) (by kernel_rfl) (by kernel_rfl) (by kernel_rfl) (fun _ _ _ h => h) HS0.out (by simp [Region.wanted, yielded]) ?hy1_19 ?_
        case hy1_19 => intro wy hSw; obtain ⟨t1, t2, t3⟩ := hSw; go_simp; try with_reducible rfl
        simp only [Act.put, List.setIfInBounds_toArray, List.set_cons_zero, List.set_cons_succ]
        refine wpAnyD_takeG (i := 20) (v := ?vv1_20) rfl (by kernel_rfl) (by kernel_rfl) (by kernel_rfl) (by kernel_rfl) (fun _ _ _ h => h) HS0.out (by simp [Region.wanted, yielded]) ?hy1_20 ?_
        case hy1_20 => intro wy hSw; obtain ⟨t1, t2, t3⟩ := hSw; go_simp; try with_reducible rfl
        simp only [Act.put, List.setIfInBounds_toArray, List.set_cons_zero, List.set_cons_succ]
        refine wpAnyD_takeG (i := 21) (v := ?vv1_21) rfl (by kernel_rfl) (by kernel_rfl) (by kernel_rfl) (by kernel_rfl) (fun _ _ _ h => h) HS0.out (by simp [Region.wanted, yielded]) ?hy1_21 ?_
        case hy1_21 => intro wy hSw; obtain ⟨t1, t2, t3⟩ := hSw; go_simp; try with_reducible rfl
        simp only [Act.put, List.setIfInBounds_toArray, List.set_cons_zero, List.set_cons_succ]
        refine wpAnyD_takeG (i := 22) (v := ?vv1_22) rfl (by kernel_rfl) (by kernel_rfl) (by kernel_rfl) (by kernel_rfl) (fun _ _ _ h => h) HS0.out (by simp [Region.wanted, yielded]) ?hy1_22 ?_
        case hy1_22 => intro wy hSw; obtain ⟨t1, t2, t3⟩ := hSw; go_simp; try with_reducible rfl
        simp only [Act.put, List.setIfInBounds_toArray, List.set_cons_zero, List.set_cons_succ]
        refine wpAnyD_takeG (i := 23) (v := ?vv1_23) rfl (by kernel_rfl) (by kernel_rfl) (by kernel_rfl) (by kernel_rfl) (fun _ _ _ h => h) HS0.out (by simp [Region.wanted, yielded]) ?hy1_23 ?_
        case hy1_23 => intro wy hSw; obtain ⟨t1, t2, t3⟩ := hSw; go_simp; try with_reducible rfl
        simp only [Act.put, List.setIfInBounds_toArray, List.set_cons_zero, List.set_cons_succ]
        refine wpAnyD_takeG (i := 24) (v := ?vv1_24) rfl (by kernel_rfl) (by kernel_rfl) (by kernel_rfl) (by kernel_rfl) (fun _ _ _ h => h) HS0.out (by simp [Region.wanted, yielded]) ?hy1_24 ?_
        case hy1_24 => intro wy hSw; obtain ⟨t1, t2, t3⟩ := hSw; go_simp; try with_reducible rfl
        simp only [Act.put, List.setIfInBounds_toArray, List.set_cons_zero, List.set_cons_succ]
        refine wpAnyD_takeL (i := 25) (v := ?vv1_25) rfl (by kernel_rfl) (by kernel_rfl) (by kernel_rfl) (by kernel_rfl) (fun _ _ _ h => h) HS0.out rfl ?hy1_25 ?_
        case hy1_25 => intro wy hSw; obtain ⟨t1, t2, t3⟩ := hSw; go_simp; try with_reducible rfl
        simp only [Act.put, List.setIfInBounds_toArray, List.set_cons_zero, List.set_cons_succ]
        refine wpAnyD_takeL (i := 26) (v := ?vv1_26) rfl (by kernel_rfl) (by kernel_rfl) (by kernel_rfl) (by kernel_rfl) (fun _ _ _ h => h) HS0.out rfl ?hy1_26 ?_
        case hy1_26 => intro wy hSw; obtain ⟨t1, t2, t3⟩ := hSw; go_simp; try with_reducible rfl
        simp only [Act.put, List.setIfInBounds_toArray, List.set_cons_zero, List.set_cons_succ]
        refine wpAnyD_stepL (i := 27) (by kernel_rfl) rfl (fun K hK => ?_)
        go_simp
        refine hK _ _ (fun hh => absurd (List.mem_singleton.2 rfl) hh) ?_
        clear hK K
        refine wpAnyD_done (by kernel_rfl) ?_ _
        go_wp2_with (go_at_call 7; refine CD.out.mono ?_; clear CD; rintro e w6 ⟨rfl, hR⟩; have HR := hidb hR; clear hR)
        go_roundw
        case rel => exact ⟨i + 1, by first | rfl | (rw [HW.out]), (by have := HI.out; have := HLT.out; omega), HR.out⟩
        case measure =>
          have := HLT.out
          try rw [HW.out]
          simp only [RowKit.intOf]
          omega
    · have CD : Hid (Calls Tryz.prog 7 #[.pointer (some ⟨wb, 0, none⟩), .agg #[.int .i64 x0, .int .i64 x1]] wr fun e w' => e = .returned (.tuple #[]) ∧ Pst w1 w' wb ta tb eb G (l.length + 1) (i + 1)) := hidb (PD.out _ _ _ _ _ _ _ _ _ _ _ _ _ _ _ _ _ _ hgl hG hD hV (by omega) x0 x1 (fun e hk => by
        obtain ⟨y, hy, rfl⟩ := isK_mem.1 hk
        have := hV.bs.o y hy
        have := hV.bs.r
        exact absurd ⟨e, by omega, by omega⟩ hA))
      have hB : x0 ≠ 2 ∨ (x0 = 2 ∧ ¬ 1 ≤ x1) ∨ (x0 = 2 ∧ 1 ≤ x1 ∧ ¬ x1 ≤ (l.length : Int)) := by omega
      clear hgl hG hD hV hA hx y0 y1 hbw hbr hz5 hi5 hlt
      rcases hB with hB | ⟨rfl, hB⟩ | ⟨rfl, hB1, hB⟩
      · have d1 : (x0 == 2) = false := by simpa using hB
        clear hB
        go_wp2_with (go_at_call 7; refine CD.out.mono ?_; clear CD; rintro e w6 ⟨rfl, hR⟩; have HR := hidb hR; clear hR)
        go_roundw
        case rel => exact ⟨i + 1, by first | rfl | (rw [HW.out]), (by have := HI.out; have := HLT.out; omega), HR.out⟩
        case measure =>
          have := HLT.out
          try rw [HW.out]
          simp only [RowKit.intOf]
          omega
      · have d1 : decide ((1 : Int) ≤ x1) = false := by simpa using hB
        clear hB
        go_wp2_with (go_at_call 7; refine CD.out.mono ?_; clear CD; rintro e w6 ⟨rfl, hR⟩; have HR := hidb hR; clear hR)
        go_roundw
        case rel => exact ⟨i + 1, by first | rfl | (rw [HW.out]), (by have := HI.out; have := HLT.out; omega), HR.out⟩
        case measure =>
          have := HLT.out
          try rw [HW.out]
          simp only [RowKit.intOf]
          omega
      · have d1 : decide ((1 : Int) ≤ x1) = true := by simpa using hB1
        have d2 : decide (x1 ≤ (l.length : Int)) = false := by simpa using hB
        clear hB hB1
        go_wp2_with (go_at_call 7; refine CD.out.mono ?_; clear CD; rintro e w6 ⟨rfl, hR⟩; have HR := hidb hR; clear hR)
        go_roundw
        case rel => exact ⟨i + 1, by first | rfl | (rw [HW.out]), (by have := HI.out; have := HLT.out; omega), HR.out⟩
        case measure =>
          have := HLT.out
          try rw [HW.out]
          simp only [RowKit.intOf]
          omega
  · obtain rfl : i = l.length := by have := HI.out; omega
    have hlt' : ¬ ((l.length : Nat) : Int) < ((l.length : Nat) : Int) := by omega
    obtain ⟨gs, O, T, p, q, dead, refs, dn, N, hgl, hG, hD, hV⟩ := HSX.out
    have HPL : Hid (PL w1 wr wb ta tb eb G gs l.length p.length q.length) := hidb ⟨O, T, p, q, dead, refs, dn, N, hG, hD, hV, rfl, Nat.le_refl _⟩
    have HGL := hidb hgl
    have HN3 : Hid (l.length ≤ 3000) := hidb (by have := HZ.out; omega)
    generalize p.length = p0 at *
    generalize q.length = q0 at *
    clear hgl hG hD hV hlt HSX HI
    generalize wr = wA at *
    go_wp2_with fail
    go_loopg [] (2 * p0 + q0) (fun gk wx => ∃ pl ql, 2 * pl + ql ≤ gk ∧ PL w1 wx wb ta tb eb G gs l.length pl ql)
    case atStart => exact ⟨_, _, Nat.le_refl _, HPL.out⟩
    case round =>
    obtain ⟨pl, ql, hle, hPL⟩ := hrel
    obtain ⟨n, hn, c2, hall, hz, hnz⟩ := hPL.all HN3.out
    have HALL := hidb hall
    by_cases h0 : n = 0
    · have hF := (hz h0).fin HN3.out HGL.out
      have HLW := hidb hPL.low
      subst h0
      clear hz hnz hPL hle hn hall HPL
      obtain ⟨O2, T2, dead2, refs2, V, hF⟩ := hF
      have HF := hidb hF
      have f0 := hF.c0; have f1 := hF.c1; have f3 := hF.c3; have f4 := hF.c4; have f5 := hF.c5
      have hwl := hF.lt
      have hr2 := hF.r
      clear hF
      generalize wr = wB at *
      have HRL : Hid (refs2 ≤ 2000) := hidb (by have := HZ.out; omega)
      have HRI : Hid (refs2 ≤ l.length) := hidb hr2
      clear hr2
      go_wp2_with (go_at_call 8; refine HALL.out.mono ?_; clear HALL; rintro e wa ⟨rfl, hwa⟩; subst hwa)
      go_loopw [6] (fun iv wx => ∃ (m : Nat) (z : Int), z = (m : Int) + 1 ∧ m ≤ refs2 ∧ iv = .int .i64 z ∧ wx = wa) (fun iv _ => refs2 + 1 - (RowKit.intOf iv).toNat)
      case atStart => exact ⟨0, 1, rfl, Nat.zero_le _, rfl, rfl⟩
      case round =>
      obtain ⟨m, z, hM, hm, rfl, hwr⟩ := hrel
      subst hwr
      have HMM := hidb hM
      by_cases hmr : m < refs2
      · obtain ⟨c, b, gv, cap, rfl, zc, zb, hc1, hdc⟩ := HF.out.row m hmr
        rw [show m + 1 = z.toNat by omega] at zb
        have HMR := hidb hmr
        have g1 : z ≤ (refs2 : Int) := by omega
        rw [show m = z.toNat - 1 by omega] at zc
        have g2 : wrap64 (z - 1) = z - 1 := by have := HRL.out; unfold wrap64; omega
        have g3 : (0 : Int) ≤ z - 1 := by omega
        have g3' : (1 : Int) ≤ z := by omega
        have g4 : z - 1 < (refs2 : Int) := by omega
        have g4' : z.toNat - 1 < refs2 := by omega
        have g5 : (0 : Int) ≤ z := by omega
        have g6 : z < ((l.length + 1 : Nat) : Int) := by have := HRI.out; omega
        have g6' : z < (l.length : Int) + 1 := by have := HRI.out; omega
        have HG7 : Hid (wrap64 (z + 1) = z + 1) := hidb (by have := HRL.out; unfold wrap64; omega)
        clear hM
        clear hm hmr
        have hcc : c = 0 ∨ c = 1 := by omega
        rcases hcc with rfl | rfl
        · cases dead2 with
          | false =>
            clear hdc hc1
            go_wp2_with fail
            go_roundw
            case rel => exact ⟨m + 1, z + 1, (by have := HMM.out; omega), HMR.out, (by first | rfl | (rw [HG7.out])), (by first | rfl | trivial)⟩
            case measure => (have := HMR.out; have := HMM.out; (try rw [HG7.out]); simp only [RowKit.intOf]; omega)
          | true =>
            obtain rfl : b = true := by have := hdc rfl; simpa using this
            clear hdc hc1
            go_wp2_with fail
            go_roundw
            case rel => exact ⟨m + 1, z + 1, (by have := HMM.out; omega), HMR.out, (by first | rfl | (rw [HG7.out])), (by first | rfl | trivial)⟩
            case measure => (have := HMR.out; have := HMM.out; (try rw [HG7.out]); simp only [RowKit.intOf]; omega)
        · cases dead2 with
          | false =>
            clear hdc hc1
            go_wp2_with fail
            go_roundw
            case rel => exact ⟨m + 1, z + 1, (by have := HMM.out; omega), HMR.out, (by first | rfl | (rw [HG7.out])), (by first | rfl | trivial)⟩
            case measure => (have := HMR.out; have := HMM.out; (try rw [HG7.out]); simp only [RowKit.intOf]; omega)
          | true =>
            clear hdc hc1
            cases b
            · go_wp2_with fail
              go_roundw
              case rel => exact ⟨m + 1, z + 1, (by have := HMM.out; omega), HMR.out, (by first | rfl | (rw [HG7.out])), (by first | rfl | trivial)⟩
              case measure => (have := HMR.out; have := HMM.out; (try rw [HG7.out]); simp only [RowKit.intOf]; omega)
            · go_wp2_with fail
              go_roundw
              case rel => exact ⟨m + 1, z + 1, (by have := HMM.out; omega), HMR.out, (by first | rfl | (rw [HG7.out])), (by first | rfl | trivial)⟩
              case measure => (have := HMR.out; have := HMM.out; (try rw [HG7.out]); simp only [RowKit.intOf]; omega)
      · obtain rfl : m = refs2 := by omega
        have g1 : ¬ z ≤ (m : Int) := by omega
        clear hM hm hmr
        have CO : Hid (Calls Tryz.prog 9 #[.pointer (some ⟨ta, 0, none⟩)] wr fun e w' => ∃ a c, e = .returned (.slice a O2.length c) ∧ Below wr.heap.size wr w' ∧ w'.ownsRow wr.heap.size MnT 3 (.slice a O2.length c) O2.length (mvs O2)) := hidb (by
          obtain ⟨D, hMT⟩ := HF.out.o
          refine (morigins_any hMT HF.out.ol).mono ?_
          rintro e w' ⟨V1, rfl, hb, ho⟩
          obtain ⟨a, c, rfl⟩ := MV.own_sl ho
          exact ⟨a, c, rfl, hb, ho⟩)
        have CT : Hid (∀ W, Below wr.heap.size wr W → Calls Tryz.prog 10 #[.pointer (some ⟨tb, 0, none⟩)] W fun e w' => ∃ a c, e = .returned (.slice a T2.length c) ∧ Below W.heap.size W w' ∧ w'.ownsRow W.heap.size MnT 3 (.slice a T2.length c) T2.length (mvs T2)) := hidb (fun W hW => by
          obtain ⟨D, hMT⟩ := HF.out.t
          refine (mtargets_any (hMT.keep hW) HF.out.tl).mono ?_
          rintro e w' ⟨V1, rfl, hb, ho⟩
          obtain ⟨a, c, rfl⟩ := MV.own_sl ho
          exact ⟨a, c, rfl, hb, ho⟩)
        have HDE := hidb HF.out.de
        have HAL := hidb HF.out.al
        have HOL := hidb HF.out.ol
        have HBW : Hid (Below w.heap.size w wr) := hidb (HB1.out.trans (HLW.out.mono HB1.out.size))
        clear HF f5
        cases dead2 with
        | true =>
          obtain ⟨rfl, rfl⟩ := HDE.out rfl
          clear HAL HDE HOL
          go_wp2_with (first
            | (go_at_call 9; refine CO.out.mono ?_; clear CO; rintro e w9 ⟨a9, c9, rfl, hb9, -⟩; have HB9 := hidb hb9; have n1 := (hb9.cell (p := ⟨wb, 1, none⟩) hwl).trans f1; have n3 := (hb9.cell (p := ⟨wb, 3, none⟩) hwl).trans f3; clear hb9)
            | (go_at_call 10; refine (CT.out _ HB9.out).mono ?_; clear CT; rintro e w10 ⟨aA, cA, rfl, hbA, -⟩; have HBA := hidb (HB9.out.trans (hbA.mono HB9.out.size)); have o3 := (HBA.out.cell (p := ⟨wb, 3, none⟩) hwl).trans f3; clear hbA))
          go_ret
          exact ⟨by first | rfl | simp, HBW.out.trans (HBA.out.mono HBW.out.size)⟩
        | false =>
          obtain ⟨hlen, hel⟩ := HAL.out rfl
          have HEL := hidb hel
          have HTL : Hid (T2.length = O2.length) := hidb hlen.symm
          clear HAL HDE hel hlen
          have CT2 : Hid (∀ W, Below wr.heap.size wr W → Calls Tryz.prog 10 #[.pointer (some ⟨tb, 0, none⟩)] W fun e w' => ∃ a c, e = .returned (.slice a O2.length c) ∧ Below W.heap.size W w' ∧ w'.ownsRow W.heap.size MnT 3 (.slice a O2.length c) O2.length (mvs T2)) := hidb (fun W hW => by have := CT.out W hW; rw [HTL.out] at this; exact this)
          clear CT
          obtain ⟨L2, hL2⟩ : ∃ L2, O2.length = L2 := ⟨_, rfl⟩
          have HL2 := hidb hL2
          rw [hL2] at CO CT2 HOL
          clear hL2
          go_wp2_with (first
            | (go_at_call 9; refine CO.out.mono ?_; clear CO; rintro e w9 ⟨a9, c9, rfl, hb9, ho9⟩; have HO9 := hidb ho9; have HB9 := hidb hb9; have n1 := (hb9.cell (p := ⟨wb, 1, none⟩) hwl).trans f1; have n3 := (hb9.cell (p := ⟨wb, 3, none⟩) hwl).trans f3; clear hb9 ho9)
            | (go_at_call 10; refine (CT2.out _ HB9.out).mono ?_; clear CT2; rintro e w10 ⟨aA, cA, rfl, hbA, hoA⟩; have HOA := hidb hoA; have HBX := hidb hbA; have HBA := hidb (HB9.out.trans (hbA.mono HB9.out.size)); have o3 := (HBA.out.cell (p := ⟨wb, 3, none⟩) hwl).trans f3; clear hbA hoA))
          clear n1 n3 o3 f1 f3 f4 g1
          go_loopw [9] (fun iv wx => ∃ j : Nat, j ≤ L2 ∧ iv = .int .i64 (j : Int) ∧ Below w10.heap.size w10 wx) (fun iv _ => L2 - (RowKit.intOf iv).toNat)
          case atStart => exact ⟨0, Nat.zero_le _, rfl, Below.refl _ _⟩
          case round =>
          obtain ⟨j, hj, rfl, hbx⟩ := hrel
          have HBY := hidb hbx
          by_cases hjl : j < L2
          · obtain ⟨x, hx⟩ : ∃ x, O2[j]? = some x := ⟨_, List.getElem?_eq_getElem (by have := HL2.out; omega)⟩
            obtain ⟨y, hy⟩ : ∃ y, T2[j]? = some y := ⟨_, List.getElem?_eq_getElem (by have := HL2.out; have := HTL.out; omega)⟩
            obtain ⟨e1, e2, e3⟩ := HEL.out j x y hx hy
            obtain ⟨gx, cx, ex, x0, x1, -⟩ := MV.row_get HO9.out hx
            obtain ⟨gy, cy, ey, y0, y1, -⟩ := MV.row_get HOA.out hy
            obtain ⟨rfl, rfl⟩ : a9 = some ⟨gx, 0, none⟩ ∧ c9 = cx := by simpa using ex
            obtain ⟨rfl, rfl⟩ : aA = some ⟨gy, 0, none⟩ ∧ cA = cy := by simpa using ey
            rw [e2] at x1
            rw [e3] at y1
            rw [← e1] at y0
            have hgx : gx < w9.heap.size := World.block_lt_of_cell? _ _ x0
            have hgy : gy < w10.heap.size := World.block_lt_of_cell? _ _ y0
            have hb9x := HBX.out.trans (hbx.mono HBX.out.size)
            have q0 := (hb9x.cell (p := ⟨gx, j * 3, none⟩) hgx).trans x0
            have q1 := (hb9x.cell (p := ⟨gx, j * 3 + 1, none⟩) hgx).trans x1
            have q2 := (hbx.cell (p := ⟨gy, j * 3, none⟩) hgy).trans y0
            have q3 := (hbx.cell (p := ⟨gy, j * 3 + 1, none⟩) hgy).trans y1
            generalize x.2.a = xa at *
            have k1 : (xa != xa) = false := by simp
            have k2 : (0 : Int) ≤ (j : Int) := by omega
            have k3 : (j : Int) < (L2 : Int) := by omega
            have HK4 : Hid (wrap64 ((j : Int) + 1) = ((j + 1 : Nat) : Int)) := hidb (by have := HOL.out; unfold wrap64; omega)
            have HJL := hidb hjl
            clear hx hy e1 e2 e3 ex ey x0 x1 y0 y1 hgx hgy hb9x hbx hj hjl
            go_wp2_with fail
            go_big_quiet (fail)
            have HBZ := hidb (below_drewN HBY.out nq)
            clear HBY q0 q1 q2 q3
            generalize wr.drewN nq = wZ at *
            go_wp2_with fail
            go_roundw
            case rel => exact ⟨j + 1, HJL.out, (by first | rfl | (rw [HK4.out])), HBZ.out⟩
            case measure => (have := HJL.out; (try rw [HK4.out]); simp only [RowKit.intOf]; omega)
          · obtain rfl : j = L2 := by omega
            have k3 : ¬ (j : Int) < (j : Int) := by omega
            clear hbx
            go_wp2_with fail
            go_ret
            exact ⟨rfl, (HBW.out.trans (HBA.out.mono HBW.out.size)).trans (HBY.out.mono (HBW.out.trans (HBA.out.mono HBW.out.size)).size)⟩
    · have h1 : (0 : Int) < (n : Int) := by omega
      have C4 := hidb (hPL.does4 HN3.out 0)
      have HM : Hid (2 * (pl - 1) + (ql + min pl 1 - 1) < gk) := hidb (by have := hnz h0; omega)
      clear hPL hz hnz hle hn hall HPL h0
      go_wp2_with (first
        | (go_at_call 8; refine HALL.out.mono ?_; clear HALL; rintro e wa ⟨rfl, hwa⟩; subst hwa)
        | (go_at_call 7; refine C4.out.mono ?_; clear C4; rintro e w7 ⟨rfl, hR7⟩; have C3 := hidb (hR7.does3 HN3.out 0); clear hR7)
        | (go_at_call 7; refine C3.out.mono ?_; clear C3; rintro e w8 ⟨rfl, hR8⟩; have HR8 := hidb hR8; clear hR8))
      go_roundg (2 * (pl - 1) + (ql + min pl 1 - 1))
      case measure => exact HM.out
      case rel => exact ⟨pl - 1, ql + min pl 1 - 1, Nat.le_refl _, HR8.out⟩

theorem monsDown_walk (v0 : Value) (l : List (Int × Int)) (w : World) (hl1 : MC w v0 l) :
    Calls Tryz.prog 3 #[v0] w fun e w' => e = .returned (.bool true) ∧ Below w.heap.size w w' :=
  monsDown_of (hidb (fun _ _ _ _ _ _ _ _ _ _ _ _ _ _ _ _ _ _ hl hg h hi hN op rf hk => Pst.does hl hg h hi hN op rf hk)) v0 l w hl1
end Go.Proofs.YtceigdeoefhcfaaGreat


