import Derived.Test.YtgljglindgbjaaaGreatDoorG15
import Derived.Test.YtgljglindgbjaaaGreatDoorG16
/- The three tables. -/
namespace Go.Proofs.YtgljglindgbjaaaGreatDoor
open Go.RowKit Go.Lib
attribute [local go_sem] store_float f64bits store_func store_nilFunc
attribute [local go_sem ↓] Go.wp_at_zero Go.wp_at_succ

def brws : List Brw → List Value
  | [] => []
  | x :: r => .string x.1 :: .int .i64 x.2.1 :: .func (.func x.2.2) #[] #[] :: brws r
theorem brws_get : ∀ {l : List Brw} {j : Nat} {x : Brw}, l[j]? = some x → (brws l)[j * 3]? = some (.string x.1) ∧ (brws l)[j * 3 + 1]? = some (.int .i64 x.2.1) ∧ (brws l)[j * 3 + 2]? = some (.func (.func x.2.2) #[] #[])
  | [], _, _, h => by simp at h
  | y :: r, 0, x, h => by simp at h; subst h; simp [brws]
  | y :: r, j + 1, x, h => by
    have := brws_get (l := r) (j := j) (x := x) (by simpa using h)
    simp only [brws]
    rw [show (j + 1) * 3 = j * 3 + 1 + 1 + 1 by omega, show j * 3 + 1 + 1 + 1 + 1 = (j * 3 + 1) + 1 + 1 + 1 by omega, show j * 3 + 1 + 1 + 1 + 2 = (j * 3 + 2) + 1 + 1 + 1 by omega]
    simpa using this
theorem tbl_new (w : World) (l : List Brw) (t : TypeId) : TBl (w.alloc (.cells (brws l).toArray t)) w.heap.size l := by
  intro i r h
  have := brws_get h
  rw [World.cell?_alloc_new, World.cell?_alloc_new, World.cell?_alloc_new]
  simpa using this
theorem TBl.keep {w w' : World} {b : Nat} {l : List Brw} (h : TBl w b l) (hb : Below w.heap.size w w') : TBl w' b l := fun i r hr =>
  have q := h i r hr
  have hl : b < w.heap.size := World.block_lt_of_cell? _ _ q.1
  ⟨(hb.cell (p := ⟨b, i * 3, none⟩) hl).trans q.1, (hb.cell (p := ⟨b, i * 3 + 1, none⟩) hl).trans q.2.1, (hb.cell (p := ⟨b, i * 3 + 2, none⟩) hl).trans q.2.2⟩

def opsL : List Brw := [(⟨#[43]⟩, 2, 30), (⟨#[45]⟩, 2, 30), (⟨#[42]⟩, 2, 30), (⟨#[47]⟩, 2, 30), (⟨#[100, 105, 118]⟩, 2, 30), (⟨#[114, 101, 109]⟩, 2, 30), (⟨#[61, 61]⟩, 2, 31), (⟨#[47, 61]⟩, 2, 32), (⟨#[61, 60]⟩, 2, 33), (⟨#[60]⟩, 2, 34), (⟨#[62, 61]⟩, 2, 35), (⟨#[62]⟩, 2, 36), (⟨#[61, 58, 61]⟩, 2, 37), (⟨#[61, 47, 61]⟩, 2, 38), (⟨#[43, 43]⟩, 2, 39), (⟨#[45]⟩, 1, 40), (⟨#[110, 111, 116]⟩, 1, 41)]
set_option maxRecDepth 100000 in
set_option maxHeartbeats 4000000 in
theorem operators_any (w : World) : Calls Tryz.prog 15 #[] w fun e w' => ∃ b, e = .returned (.slice (some ⟨b, 0, none⟩) 17 17) ∧ TBl w' b opsL ∧ Below w.heap.size w w' := by
  go_enter Tryz.func15, Tryz.ntmps15
  go_wp2_with fail
  refine bodyPost_ret (v := .slice (some ⟨w.heap.size, 0, none⟩) 17 17) (by simp [results, Tryz.results15, go_sem]) rfl ⟨_, rfl, tbl_new w opsL 55, below_new _ _⟩

def grdL : List Brw := [(⟨#[97, 98, 115]⟩, 1, 56), (⟨#[102, 108, 111, 97, 116]⟩, 1, 57), (⟨#[116, 114, 117, 110, 99]⟩, 1, 58), (⟨#[114, 111, 117, 110, 100]⟩, 1, 58), (⟨#[102, 108, 111, 111, 114]⟩, 1, 58), (⟨#[99, 101, 105, 108]⟩, 1, 58), (⟨#[104, 100]⟩, 1, 59), (⟨#[116, 108]⟩, 1, 60), (⟨#[108, 101, 110, 103, 116, 104]⟩, 1, 61), (⟨#[116, 117, 112, 108, 101, 95, 115, 105, 122, 101]⟩, 1, 62), (⟨#[101, 108, 101, 109, 101, 110, 116]⟩, 2, 63), (⟨#[105, 115, 95, 97, 116, 111, 109]⟩, 1, 64), (⟨#[105, 115, 95, 105, 110, 116, 101, 103, 101, 114]⟩, 1, 65), (⟨#[105, 115, 95, 102, 108, 111, 97, 116]⟩, 1, 66), (⟨#[105, 115, 95, 110, 117, 109, 98, 101, 114]⟩, 1, 67), (⟨#[105, 115, 95, 108, 105, 115, 116]⟩, 1, 68), (⟨#[105, 115, 95, 116, 117, 112, 108, 101]⟩, 1, 69), (⟨#[105, 115, 95, 112, 105, 100]⟩, 1, 70), (⟨#[105, 115, 95, 114, 101, 102, 101, 114, 101, 110, 99, 101]⟩, 1, 71), (⟨#[105, 115, 95, 102, 117, 110, 99, 116, 105, 111, 110]⟩, 1, 72), (⟨#[105, 115, 95, 98, 111, 111, 108, 101, 97, 110]⟩, 1, 73), (⟨#[105, 115, 95, 102, 117, 110, 99, 116, 105, 111, 110]⟩, 2, 74), (⟨#[109, 105, 110]⟩, 2, 75), (⟨#[109, 97, 120]⟩, 2, 76)]
set_option maxRecDepth 100000 in
set_option maxHeartbeats 4000000 in
theorem guards_any (w : World) : Calls Tryz.prog 25 #[] w fun e w' => ∃ b, e = .returned (.slice (some ⟨b, 0, none⟩) 24 24) ∧ TBl w' b grdL ∧ Below w.heap.size w w' := by
  go_enter Tryz.func25, Tryz.ntmps25
  go_wp2_with fail
  refine bodyPost_ret (v := .slice (some ⟨w.heap.size, 0, none⟩) 24 24) (by simp [results, Tryz.results25, go_sem]) rfl ⟨_, rfl, tbl_new w grdL 55, below_new _ _⟩

def othL : List Brw := [(⟨#[115, 101, 116, 101, 108, 101, 109, 101, 110, 116]⟩, 3, 77), (⟨#[116, 117, 112, 108, 101, 95, 116, 111, 95, 108, 105, 115, 116]⟩, 1, 78), (⟨#[108, 105, 115, 116, 95, 116, 111, 95, 116, 117, 112, 108, 101]⟩, 1, 79), (⟨#[97, 116, 111, 109, 95, 116, 111, 95, 108, 105, 115, 116]⟩, 1, 80), (⟨#[108, 105, 115, 116, 95, 116, 111, 95, 97, 116, 111, 109]⟩, 1, 81), (⟨#[105, 110, 116, 101, 103, 101, 114, 95, 116, 111, 95, 108, 105, 115, 116]⟩, 1, 82), (⟨#[108, 105, 115, 116, 95, 116, 111, 95, 105, 110, 116, 101, 103, 101, 114]⟩, 1, 83), (⟨#[102, 108, 111, 97, 116, 95, 116, 111, 95, 108, 105, 115, 116]⟩, 1, 84), (⟨#[98, 105, 116, 115]⟩, 1, 85), (⟨#[114, 101, 118, 101, 114, 115, 101]⟩, 1, 86), (⟨#[115, 111, 114, 116]⟩, 1, 87), (⟨#[109, 101, 109, 98, 101, 114]⟩, 2, 88), (⟨#[110, 116, 104]⟩, 2, 89), (⟨#[115, 105, 122, 101]⟩, 1, 90)]
set_option maxRecDepth 100000 in
set_option maxHeartbeats 4000000 in
theorem others_any (w : World) : Calls Tryz.prog 26 #[] w fun e w' => ∃ b, e = .returned (.slice (some ⟨b, 0, none⟩) 14 14) ∧ TBl w' b othL ∧ Below w.heap.size w w' := by
  go_enter Tryz.func26, Tryz.ntmps26
  go_wp2_with fail
  refine bodyPost_ret (v := .slice (some ⟨w.heap.size, 0, none⟩) 14 14) (by simp [results, Tryz.results26, go_sem]) rfl ⟨_, rfl, tbl_new w othL 55, below_new _ _⟩

end Go.Proofs.YtgljglindgbjaaaGreatDoor


/- reckon: the first row of the tables that fits. -/
namespace Go.Proofs.YtgljglindgbjaaaGreatDoor
open Go.RowKit Go.Lib Go.Deep
attribute [local go_sem] store_float f64bits store_func store_nilFunc
attribute [local go_sem ↓] Go.wp_at_zero Go.wp_at_succ

theorem Ans.base {P : Tr → Prop} {E : Int → Prop} {w W : World} {e : Ending} {w' : World} (h : Ans P E W e w') (hb : Below w.heap.size w W) : Ans P E w e w' := by
  refine ⟨hb.trans (h.1.mono hb.size), ?_⟩
  rcases h.2 with ⟨t, t', h1, h2, h3, h4, h5⟩ | h
  · exact .inl ⟨t, t', h1, h2, h3, in_base hb.size _ h4, h5⟩
  · exact .inr h

/-- Tables in memory, one behind the other. -/
def TSs (w : World) (tb : Nat) (tabs : List (Nat × List Brw)) : Prop := ∀ (i : Nat) (q : Nat × List Brw), tabs[i]? = some q → w.cell? ⟨tb, i, none⟩ = some (.slice (some ⟨q.1, 0, none⟩) q.2.length q.2.length) ∧ TBl w q.1 q.2 ∧ q.2.length ≤ 1000
def bfndT (tabs : List (Nat × List Brw)) (nm : ByteArray) (n : Int) : Option Brw := tabs.findSome? (fun q => bfnd q.2 nm n)
theorem bfndT_at {tabs : List (Nat × List Brw)} {nm : ByteArray} {n : Int} {i : Nat} {q : Nat × List Brw} {r : Brw} (hb : ∀ (j : Nat) (p : Nat × List Brw), j < i → tabs[j]? = some p → bfnd p.2 nm n = none) (hi : tabs[i]? = some q) (hr : bfnd q.2 nm n = some r) : bfndT tabs nm n = some r := by
  induction tabs generalizing i with
  | nil => simp at hi
  | cons x t ih =>
    cases i with
    | zero => obtain rfl : x = q := by simpa using hi
              simp [bfndT, List.findSome?, hr]
    | succ i =>
      have h0 := hb 0 x (by omega) rfl
      have := ih (i := i) (fun j p hj hp => hb (j + 1) p (by omega) (by simpa using hp)) (by simpa using hi)
      simpa [bfndT, List.findSome?, h0] using this
theorem bfndT_no {tabs : List (Nat × List Brw)} {nm : ByteArray} {n : Int} (hb : ∀ (j : Nat) (p : Nat × List Brw), tabs[j]? = some p → bfnd p.2 nm n = none) : bfndT tabs nm n = none := by
  unfold bfndT
  rw [List.findSome?_eq_none_iff]
  intro x hx
  obtain ⟨j, hj⟩ := List.getElem?_of_mem hx
  exact hb j x hj

set_option maxHeartbeats 16000000 in
set_option maxRecDepth 100000 in
theorem reckon_any {P : Tr → Prop} {E : Int → Prop} {nm : ByteArray} {a : Option Addr} {n c tb cp : Nat} {ar : Value} {w : World} {tabs : List (Nat × List Brw)}
    (har : ar = .nilFunc ∨ ∃ g, ar = .func (.func g) #[] #[]) (hT : TSs w tb tabs) (hl : tabs.length ≤ 1000)
    (hA : ∀ r, bfndT tabs nm (n : Int) = some r → ∀ W, Below w.heap.size w W → Calls Tryz.prog 29 #[.agg #[.string nm, .slice a n c, ar], .func (.func r.2.2) #[] #[]] W (Ans P E W))
    (hN : bfndT tabs nm (n : Int) = none → E 5) :
    Calls Tryz.prog 14 #[.agg #[.string nm, .slice a n c, ar], .slice (some ⟨tb, 0, none⟩) tabs.length cp] w (Ans P E w) := by
  have HT := hidb hT
  have HA := hidb hA
  have HN := hidb hN
  have HL := hidb hl
  obtain ⟨N, hN'⟩ : ∃ N, tabs.length = N := ⟨_, rfl⟩
  have HNN := hidb hN'
  rw [hN']
  obtain ⟨PP, hPP⟩ : ∃ PP : Ending → World → Prop, Ans P E w = PP := ⟨_, rfl⟩
  have HPP := hidb hPP
  rw [hPP]
  clear hT hA hN hl hN' hPP
  rcases har with rfl | ⟨g, rfl⟩
  · go_enter Tryz.func14, Tryz.ntmps14
    go_wp2_with fail
    go_loopw [12] (fun iv wr => ∃ i : Nat, i ≤ N ∧ iv = .int .i64 (i : Int) ∧ Below w.heap.size w wr ∧ Tri wr w.heap.size (.string nm) (.slice a n c) .nilFunc ∧ Box wr (w.heap.size + 1) (.int .i64 0) (.int .i64 0) (.float .f64 0) (.string ⟨#[]⟩) (.slice none 0 0) ∧ ∀ (j : Nat) (q : Nat × List Brw), j < i → tabs[j]? = some q → bfnd q.2 nm (n : Int) = none) (fun iv _ => N - (RowKit.intOf iv).toNat)
    case atStart =>
      refine ⟨0, by omega, rfl, (below_new w _).alloc (by simp) _, (Tri.new w _ _ _ _).keep (below_new _ _), ?_, fun j q hj => by omega⟩
      have := Box.new (w.alloc (.cells #[.string nm, .slice a n c, .nilFunc] CT)) 27 (.int .i64 0) (.int .i64 0) (.float .f64 0) (.string ⟨#[]⟩) (.slice none 0 0)
      simpa using this
    case round =>
    obtain ⟨i, hi, rfl, hb, ht, hx, hno⟩ := hrel
    have t0 := ht.c0; have t1 := ht.c1; have t2 := ht.c2; have tl := ht.lt
    have x0 := hx.c0; have x1 := hx.c1; have x2 := hx.c2; have x3 := hx.c3; have x4 := hx.c4
    have y0 := hx.f0; have y1 := hx.f1; have y2 := hx.f2; have y3 := hx.f3; have y4 := hx.f4; have xl := hx.lt
    have HTR := hidb ht
    have HX := hidb hx
    have HB := hidb hb
    have HO := hidb hno
    have HI := hidb hi
    clear hb hno hi ht hx
    by_cases hil : i < N
    · obtain ⟨⟨b, l⟩, hq⟩ : ∃ q, tabs[i]? = some q := ⟨_, List.getElem?_eq_getElem (by have := HNN.out; omega)⟩
      obtain ⟨z0, z1, z2⟩ := HT.out i _ hq
      have z3 := (HB.out.cell (p := ⟨tb, i, none⟩) (World.block_lt_of_cell? _ _ z0)).trans z0
      simp only at z3 z1 z2
      have e1 : (i : Int) < (N : Int) := by omega
      have e2 : (0 : Int) ≤ (i : Int) := by omega
      have HE : Hid (wrap64 ((i : Int) + 1) = ((i + 1 : Nat) : Int)) := hidb (by have := HL.out; have := HNN.out; unfold wrap64; omega)
      have HQ := hidb hq
      have FD := hidb (find_any (cap := l.length) (fun i r hr => by
        have hk := z1 i r hr
        have hbl : b < w.heap.size := World.block_lt_of_cell? _ _ hk.1
        exact (⟨(HB.out.cell (p := ⟨b, i * 3, none⟩) hbl).trans hk.1, (HB.out.cell (p := ⟨b, i * 3 + 1, none⟩) hbl).trans hk.2.1, (HB.out.cell (p := ⟨b, i * 3 + 2, none⟩) hbl).trans hk.2.2⟩ : _ ∧ _ ∧ _) : TBl wr b l) nm (n : Int) z2)
      clear z0 z1 z2 hq
      go_wp2_with fail
      refine FD.out.mono ?_
      rintro e w2 ⟨(⟨⟨rn, ra, rf⟩, hf, rfl⟩ | ⟨hf, rfl⟩), hb2⟩
      · have HB2 := hidb (HB.out.trans (hb2.mono HB.out.size))
        have HTR2 := hidb (HTR.out.keep hb2)
        have HX2 := hidb (HX.out.keep hb2)
        have HF := hidb (bfndT_at HO.out HQ.out hf)
        clear t0 t1 t2 tl x0 x1 x2 x3 x4 y0 y1 y2 y3 y4 xl hb2 hf z3 FD
        have t0 := HTR2.out.c0; have t1 := HTR2.out.c1; have t2 := HTR2.out.c2; have tl := HTR2.out.lt
        simp only [Brw.val]
        go_wp2_with fail
        have hbW := HB2.out.alloc HB2.out.size (.cells #[.string rn, .int .i64 ra, .func (.func rf) #[] #[]] 55)
        refine (HA.out _ HF.out _ hbW).mono ?_
        rintro e w3 hans
        have HX3 := hidb ((HX2.out.keep (below_new w2 (.cells #[.string rn, .int .i64 ra, .func (.func rf) #[] #[]] 55))).keep hans.1)
        have HXL : Hid (w.heap.size + 1 < w2.heap.size) := hidb HX2.out.lt
        have HBW := hidb hbW
        have HB3 := hidb (hbW.trans (hans.1.mono hbW.size))
        clear t0 t1 t2 tl hbW
        have x0 := HX3.out.c0; have x1 := HX3.out.c1; have x2 := HX3.out.c2; have x3 := HX3.out.c3; have x4 := HX3.out.c4
        have y0 := HX3.out.f0; have y1 := HX3.out.f1; have y2 := HX3.out.f2; have y3 := HX3.out.f3; have y4 := HX3.out.f4
        obtain ⟨-, ⟨t, ⟨k2, n2, f2, s2, a2, c2, ks2⟩, g1, g2, g3, g4, rfl⟩ | ⟨er, g1, rfl⟩⟩ := hans
        · have HG := hidb (And.intro g1 (And.intro g2 (And.intro g3 g4)))
          clear g1 g2 g3 g4
          simp only [Tr.val, Tr.cells]
          go_wp2_with fail
          have bx9 := HX3.out.set (.int .i64 k2) (.int .i64 n2) (.float .f64 f2) (.string s2) (.slice a2 ks2.length c2)
          have k0 := bx9.c0; have k1 := bx9.c1; have k2' := bx9.c2; have k3 := bx9.c3; have k4 := bx9.c4
          simp only [set5] at k0 k1 k2' k3 k4
          refine bodyPost_ret (v := .tuple #[Tr.val (.mk k2 n2 f2 s2 a2 c2 ks2), .int .i64 0]) (by simp [Tr.val, Tr.cells, results, Tryz.results14, go_sem, k0, k1, k2', k3, k4]) rfl ?_
          rw [← HPP.out]
          refine ⟨(((((HB3.out.setCell (by simp) _).setCell (by simp) _).setCell (by simp) _).setCell (by simp) _).setCell (by simp) _), .inl ⟨_, _, HG.out.1, HG.out.2.1, HG.out.2.2.1, ?_, rfl⟩⟩
          have hz := HXL.out
          have hy := HB2.out.size
          exact in_base (by simp; omega) _ (in_set (in_set (in_set (in_set (in_set HG.out.2.2.2 (p := ⟨w.heap.size + 1, 0, none⟩) (by simp; omega) _) (p := ⟨w.heap.size + 1, 1, none⟩) (by simp; omega) _) (p := ⟨w.heap.size + 1, 2, none⟩) (by simp; omega) _) (p := ⟨w.heap.size + 1, 3, none⟩) (by simp; omega) _) (p := ⟨w.heap.size + 1, 4, none⟩) (by simp; omega) _)
        · have HG := hidb g1
          clear g1
          go_wp2_with fail
          have bx9 := HX3.out.set (.int .i64 0) (.int .i64 0) (.float .f64 0) (.string ⟨#[]⟩) (.slice none 0 0)
          have k0 := bx9.c0; have k1 := bx9.c1; have k2' := bx9.c2; have k3 := bx9.c3; have k4 := bx9.c4
          simp only [set5] at k0 k1 k2' k3 k4
          refine bodyPost_ret (v := .tuple #[zterm, .int .i64 er]) (by simp [results, Tryz.results14, go_sem, k0, k1, k2', k3, k4]) rfl ?_
          rw [← HPP.out]
          exact ⟨(((((HB3.out.setCell (by simp) _).setCell (by simp) _).setCell (by simp) _).setCell (by simp) _).setCell (by simp) _), .inr ⟨_, HG.out, rfl⟩⟩
      · have HB2 := hidb (HB.out.trans (hb2.mono HB.out.size))
        have HTR2 := hidb (HTR.out.keep hb2)
        have HX2 := hidb (HX.out.keep hb2)
        have HF := hidb hf
        clear t0 t1 t2 tl x0 x1 x2 x3 x4 y0 y1 y2 y3 y4 xl hb2 hf z3 FD
        go_wp2_with fail
        go_roundw
        case rel => exact ⟨i + 1, by omega, by rw [HE.out], HB2.out.alloc HB2.out.size _, HTR2.out.keep (below_new _ _), HX2.out.keep (below_new _ _), fun j q hj hjq => by
          by_cases e : j < i
          · exact HO.out j q e hjq
          · obtain rfl : j = i := by omega
            obtain rfl := Option.some.inj (HQ.out.symm.trans hjq)
            exact HF.out⟩
        case measure => rw [HE.out]; simp only [RowKit.intOf, Int.toNat_natCast]; omega
    · have e1 : ¬ (i : Int) < (N : Int) := by omega
      go_wp2_with fail
      have bx9 := HX.out.set (.int .i64 0) (.int .i64 0) (.float .f64 0) (.string ⟨#[]⟩) (.slice none 0 0)
      have k0 := bx9.c0; have k1 := bx9.c1; have k2' := bx9.c2; have k3 := bx9.c3; have k4 := bx9.c4
      simp only [set5] at k0 k1 k2' k3 k4
      refine bodyPost_ret (v := .tuple #[zterm, .int .i64 5]) (by simp [results, Tryz.results14, go_sem, k0, k1, k2', k3, k4]) rfl ?_
      rw [← HPP.out]
      exact ⟨(((((HB.out.setCell (by simp) _).setCell (by simp) _).setCell (by simp) _).setCell (by simp) _).setCell (by simp) _), .inr ⟨5, .inl (HN.out (bfndT_no (fun j q hq => HO.out j q (by have := (List.getElem?_eq_some_iff.1 hq).1; have := HNN.out; omega) hq))), rfl⟩⟩
  · go_enter Tryz.func14, Tryz.ntmps14
    go_wp2_with fail
    go_loopw [12] (fun iv wr => ∃ i : Nat, i ≤ N ∧ iv = .int .i64 (i : Int) ∧ Below w.heap.size w wr ∧ Tri wr w.heap.size (.string nm) (.slice a n c) (.func (.func g) #[] #[]) ∧ Box wr (w.heap.size + 1) (.int .i64 0) (.int .i64 0) (.float .f64 0) (.string ⟨#[]⟩) (.slice none 0 0) ∧ ∀ (j : Nat) (q : Nat × List Brw), j < i → tabs[j]? = some q → bfnd q.2 nm (n : Int) = none) (fun iv _ => N - (RowKit.intOf iv).toNat)
    case atStart =>
      refine ⟨0, by omega, rfl, (below_new w _).alloc (by simp) _, (Tri.new w _ _ _ _).keep (below_new _ _), ?_, fun j q hj => by omega⟩
      have := Box.new (w.alloc (.cells #[.string nm, .slice a n c, (.func (.func g) #[] #[])] CT)) 27 (.int .i64 0) (.int .i64 0) (.float .f64 0) (.string ⟨#[]⟩) (.slice none 0 0)
      simpa using this
    case round =>
    obtain ⟨i, hi, rfl, hb, ht, hx, hno⟩ := hrel
    have t0 := ht.c0; have t1 := ht.c1; have t2 := ht.c2; have tl := ht.lt
    have x0 := hx.c0; have x1 := hx.c1; have x2 := hx.c2; have x3 := hx.c3; have x4 := hx.c4
    have y0 := hx.f0; have y1 := hx.f1; have y2 := hx.f2; have y3 := hx.f3; have y4 := hx.f4; have xl := hx.lt
    have HTR := hidb ht
    have HX := hidb hx
    have HB := hidb hb
    have HO := hidb hno
    have HI := hidb hi
    clear hb hno hi ht hx
    by_cases hil : i < N
    · obtain ⟨⟨b, l⟩, hq⟩ : ∃ q, tabs[i]? = some q := ⟨_, List.getElem?_eq_getElem (by have := HNN.out; omega)⟩
      obtain ⟨z0, z1, z2⟩ := HT.out i _ hq
      have z3 := (HB.out.cell (p := ⟨tb, i, none⟩) (World.block_lt_of_cell? _ _ z0)).trans z0
      simp only at z3 z1 z2
      have e1 : (i : Int) < (N : Int) := by omega
      have e2 : (0 : Int) ≤ (i : Int) := by omega
      have HE : Hid (wrap64 ((i : Int) + 1) = ((i + 1 : Nat) : Int)) := hidb (by have := HL.out; have := HNN.out; unfold wrap64; omega)
      have HQ := hidb hq
      have FD := hidb (find_any (cap := l.length) (fun i r hr => by
        have hk := z1 i r hr
        have hbl : b < w.heap.size := World.block_lt_of_cell? _ _ hk.1
        exact (⟨(HB.out.cell (p := ⟨b, i * 3, none⟩) hbl).trans hk.1, (HB.out.cell (p := ⟨b, i * 3 + 1, none⟩) hbl).trans hk.2.1, (HB.out.cell (p := ⟨b, i * 3 + 2, none⟩) hbl).trans hk.2.2⟩ : _ ∧ _ ∧ _) : TBl wr b l) nm (n : Int) z2)
      clear z0 z1 z2 hq
      go_wp2_with fail
      refine FD.out.mono ?_
      rintro e w2 ⟨(⟨⟨rn, ra, rf⟩, hf, rfl⟩ | ⟨hf, rfl⟩), hb2⟩
      · have HB2 := hidb (HB.out.trans (hb2.mono HB.out.size))
        have HTR2 := hidb (HTR.out.keep hb2)
        have HX2 := hidb (HX.out.keep hb2)
        have HF := hidb (bfndT_at HO.out HQ.out hf)
        clear t0 t1 t2 tl x0 x1 x2 x3 x4 y0 y1 y2 y3 y4 xl hb2 hf z3 FD
        have t0 := HTR2.out.c0; have t1 := HTR2.out.c1; have t2 := HTR2.out.c2; have tl := HTR2.out.lt
        simp only [Brw.val]
        go_wp2_with fail
        have hbW := HB2.out.alloc HB2.out.size (.cells #[.string rn, .int .i64 ra, .func (.func rf) #[] #[]] 55)
        refine (HA.out _ HF.out _ hbW).mono ?_
        rintro e w3 hans
        have HX3 := hidb ((HX2.out.keep (below_new w2 (.cells #[.string rn, .int .i64 ra, .func (.func rf) #[] #[]] 55))).keep hans.1)
        have HXL : Hid (w.heap.size + 1 < w2.heap.size) := hidb HX2.out.lt
        have HBW := hidb hbW
        have HB3 := hidb (hbW.trans (hans.1.mono hbW.size))
        clear t0 t1 t2 tl hbW
        have x0 := HX3.out.c0; have x1 := HX3.out.c1; have x2 := HX3.out.c2; have x3 := HX3.out.c3; have x4 := HX3.out.c4
        have y0 := HX3.out.f0; have y1 := HX3.out.f1; have y2 := HX3.out.f2; have y3 := HX3.out.f3; have y4 := HX3.out.f4
        obtain ⟨-, ⟨t, ⟨k2, n2, f2, s2, a2, c2, ks2⟩, g1, g2, g3, g4, rfl⟩ | ⟨er, g1, rfl⟩⟩ := hans
        · have HG := hidb (And.intro g1 (And.intro g2 (And.intro g3 g4)))
          clear g1 g2 g3 g4
          simp only [Tr.val, Tr.cells]
          go_wp2_with fail
          have bx9 := HX3.out.set (.int .i64 k2) (.int .i64 n2) (.float .f64 f2) (.string s2) (.slice a2 ks2.length c2)
          have k0 := bx9.c0; have k1 := bx9.c1; have k2' := bx9.c2; have k3 := bx9.c3; have k4 := bx9.c4
          simp only [set5] at k0 k1 k2' k3 k4
          refine bodyPost_ret (v := .tuple #[Tr.val (.mk k2 n2 f2 s2 a2 c2 ks2), .int .i64 0]) (by simp [Tr.val, Tr.cells, results, Tryz.results14, go_sem, k0, k1, k2', k3, k4]) rfl ?_
          rw [← HPP.out]
          refine ⟨(((((HB3.out.setCell (by simp) _).setCell (by simp) _).setCell (by simp) _).setCell (by simp) _).setCell (by simp) _), .inl ⟨_, _, HG.out.1, HG.out.2.1, HG.out.2.2.1, ?_, rfl⟩⟩
          have hz := HXL.out
          have hy := HB2.out.size
          exact in_base (by simp; omega) _ (in_set (in_set (in_set (in_set (in_set HG.out.2.2.2 (p := ⟨w.heap.size + 1, 0, none⟩) (by simp; omega) _) (p := ⟨w.heap.size + 1, 1, none⟩) (by simp; omega) _) (p := ⟨w.heap.size + 1, 2, none⟩) (by simp; omega) _) (p := ⟨w.heap.size + 1, 3, none⟩) (by simp; omega) _) (p := ⟨w.heap.size + 1, 4, none⟩) (by simp; omega) _)
        · have HG := hidb g1
          clear g1
          go_wp2_with fail
          have bx9 := HX3.out.set (.int .i64 0) (.int .i64 0) (.float .f64 0) (.string ⟨#[]⟩) (.slice none 0 0)
          have k0 := bx9.c0; have k1 := bx9.c1; have k2' := bx9.c2; have k3 := bx9.c3; have k4 := bx9.c4
          simp only [set5] at k0 k1 k2' k3 k4
          refine bodyPost_ret (v := .tuple #[zterm, .int .i64 er]) (by simp [results, Tryz.results14, go_sem, k0, k1, k2', k3, k4]) rfl ?_
          rw [← HPP.out]
          exact ⟨(((((HB3.out.setCell (by simp) _).setCell (by simp) _).setCell (by simp) _).setCell (by simp) _).setCell (by simp) _), .inr ⟨_, HG.out, rfl⟩⟩
      · have HB2 := hidb (HB.out.trans (hb2.mono HB.out.size))
        have HTR2 := hidb (HTR.out.keep hb2)
        have HX2 := hidb (HX.out.keep hb2)
        have HF := hidb hf
        clear t0 t1 t2 tl x0 x1 x2 x3 x4 y0 y1 y2 y3 y4 xl hb2 hf z3 FD
        go_wp2_with fail
        go_roundw
        case rel => exact ⟨i + 1, by omega, by rw [HE.out], HB2.out.alloc HB2.out.size _, HTR2.out.keep (below_new _ _), HX2.out.keep (below_new _ _), fun j q hj hjq => by
          by_cases e : j < i
          · exact HO.out j q e hjq
          · obtain rfl : j = i := by omega
            obtain rfl := Option.some.inj (HQ.out.symm.trans hjq)
            exact HF.out⟩
        case measure => rw [HE.out]; simp only [RowKit.intOf, Int.toNat_natCast]; omega
    · have e1 : ¬ (i : Int) < (N : Int) := by omega
      go_wp2_with fail
      have bx9 := HX.out.set (.int .i64 0) (.int .i64 0) (.float .f64 0) (.string ⟨#[]⟩) (.slice none 0 0)
      have k0 := bx9.c0; have k1 := bx9.c1; have k2' := bx9.c2; have k3 := bx9.c3; have k4 := bx9.c4
      simp only [set5] at k0 k1 k2' k3 k4
      refine bodyPost_ret (v := .tuple #[zterm, .int .i64 5]) (by simp [results, Tryz.results14, go_sem, k0, k1, k2', k3, k4]) rfl ?_
      rw [← HPP.out]
      exact ⟨(((((HB.out.setCell (by simp) _).setCell (by simp) _).setCell (by simp) _).setCell (by simp) _).setCell (by simp) _), .inr ⟨5, .inl (HN.out (bfndT_no (fun j q hq => HO.out j q (by have := (List.getElem?_eq_some_iff.1 hq).1; have := HNN.out; omega) hq))), rfl⟩⟩
end Go.Proofs.YtgljglindgbjaaaGreatDoor


/- Op, Call. -/
namespace Go.Proofs.YtgljglindgbjaaaGreatDoor
open Go.RowKit Go.Lib Go.Deep
attribute [local go_sem] store_float f64bits store_func store_nilFunc
attribute [local go_sem ↓] Go.wp_at_zero Go.wp_at_succ

theorem Tld.mono {P : Tr → Prop} {E : Int → Prop} {B B' : Nat} {w : World} {e : Ending} {w' : World} (h : Tld P E B w e w') (hB : B ≤ B') : Tld P E B' w e w' := by
  refine ⟨h.1, ?_⟩
  rcases h.2 with ⟨t, h1, h2, h3, h4, h5⟩ | h
  · exact .inl ⟨t, h1, h2, h3, on_mono (fun k hk => by omega) t h4, h5⟩
  · exact .inr h
/-- A builtin's contract: of arguments that lie in w. -/
structure TC (f : Nat) (P : Tr → Prop) (E : Int → Prop) (cv : Value) (w : World) : Prop where
  ent : ∀ args w, (callFunc f args).run Tryz.prog w = .ok (.enter f args) w
  ok : ∀ W, Below w.heap.size w W → Calls Tryz.prog f #[cv] W (Tld P E w.heap.size W)
theorem TC.ans {f : Nat} {P : Tr → Prop} {E : Int → Prop} {nm : ByteArray} {a : Option Addr} {n c : Nat} {ar : Value} {w : World} (h : TC f P E (.agg #[.string nm, .slice a n c, ar]) w) (har : ar = .nilFunc ∨ ∃ g, ar = .func (.func g) #[] #[]) {W1 : World} (hb : Below w.heap.size w W1) :
    Calls Tryz.prog 29 #[.agg #[.string nm, .slice a n c, ar], .func (.func f) #[] #[]] W1 (Ans P E W1) :=
  answer_any h.ent har fun W hW => (h.ok W (hb.trans (hW.mono hb.size))).mono fun _ _ q => q.mono hb.size

set_option maxHeartbeats 8000000 in
set_option maxRecDepth 100000 in
theorem op_any {P : Tr → Prop} {E : Int → Prop} {nm : ByteArray} {a : Option Addr} {n c : Nat} {w : World}
    (hA : ∀ r, bfnd opsL nm (n : Int) = some r → TC r.2.2 P E (.agg #[.string nm, .slice a n c, .nilFunc]) w) (hN : bfnd opsL nm (n : Int) = none → E 5) :
    Calls Tryz.prog 6 #[.string nm, .slice a n c] w (Ans P E w) := by
  have HA := hidb hA
  have HN := hidb hN
  have HX0 := hidb (Box.new w 27 (.int .i64 0) (.int .i64 0) (.float .f64 0) (.string ⟨#[]⟩) (.slice none 0 0))
  obtain ⟨PP, hPP⟩ : ∃ PP : Ending → World → Prop, Ans P E w = PP := ⟨_, rfl⟩
  have HPP := hidb hPP
  rw [hPP]
  clear hA hN hPP
  go_enter Tryz.func6, Tryz.ntmps6
  go_wp2_with fail
  refine (operators_any _).mono ?_
  rintro e w2 ⟨b, rfl, hT, hb2⟩
  have HT := hidb hT
  have HB2 := hidb hb2
  clear hT hb2
  go_wp2_with fail
  obtain ⟨V, hV⟩ : ∃ V, w2.alloc (.cells #[.slice (some ⟨b, 0, none⟩) 17 17] 43) = V := ⟨_, rfl⟩
  have hbV : Below w2.heap.size w2 V := by rw [← hV]; exact below_new _ _
  have hbX : Below (w.alloc (.cells #[.int .i64 0, .int .i64 0, .float .f64 0, .string ⟨#[]⟩, .slice none 0 0] 27)).heap.size (w.alloc (.cells #[.int .i64 0, .int .i64 0, .float .f64 0, .string ⟨#[]⟩, .slice none 0 0] 27)) V := HB2.out.trans (hbV.mono HB2.out.size)
  have hTS : TSs V w2.heap.size [(b, opsL)] := by
    intro i q hq
    cases i with
    | zero => obtain rfl : (b, opsL) = q := by simpa using hq
              exact ⟨by rw [← hV, World.cell?_alloc_new]; rfl, HT.out.keep hbV, by show opsL.length ≤ 1000; decide⟩
    | succ i => simp at hq
  rw [hV]
  have hbw : Below w.heap.size w V := (below_new w _).trans (hbX.mono (by simp))
  refine (reckon_any (P := P) (E := E) (cp := 1) (.inl rfl) hTS (by simp) (fun r hr W hW => (HA.out r (by simpa [bfndT] using hr)).ans (.inl rfl) (hbw.trans (hW.mono hbw.size))) (fun h => HN.out (by simpa [bfndT] using h))).mono ?_
  clear hTS hV hbV hbw
  rintro e w8 hans
  have HX8 := hidb (HX0.out.keep (hbX.trans (hans.1.mono hbX.size)))
  have HXL : Hid (w.heap.size < V.heap.size) := hidb (Nat.lt_of_lt_of_le HX0.out.lt hbX.size)
  have hbW0 : Below w.heap.size w V := (below_new w _).trans (hbX.mono (by simp))
  have HB8 := hidb (hbW0.trans (hans.1.mono hbW0.size))
  have HV := hidb hbW0.size
  clear hbX hbW0
  have x0 := HX8.out.c0; have x1 := HX8.out.c1; have x2 := HX8.out.c2; have x3 := HX8.out.c3; have x4 := HX8.out.c4
  have y0 := HX8.out.f0; have y1 := HX8.out.f1; have y2 := HX8.out.f2; have y3 := HX8.out.f3; have y4 := HX8.out.f4
  obtain ⟨-, ⟨t, ⟨k2, n2, f2, s2, a2, c2, ks2⟩, g1, g2, g3, g4, rfl⟩ | ⟨er, g1, rfl⟩⟩ := hans
  · have HG := hidb (And.intro g1 (And.intro g2 (And.intro g3 g4)))
    clear g1 g2 g3 g4
    simp only [Tr.val, Tr.cells]
    go_wp2_with fail
    have bx9 := HX8.out.set (.int .i64 k2) (.int .i64 n2) (.float .f64 f2) (.string s2) (.slice a2 ks2.length c2)
    have k0 := bx9.c0; have k1 := bx9.c1; have k2' := bx9.c2; have k3 := bx9.c3; have k4 := bx9.c4
    simp only [set5] at k0 k1 k2' k3 k4
    refine bodyPost_ret (v := .tuple #[Tr.val (.mk k2 n2 f2 s2 a2 c2 ks2), .int .i64 0]) (by simp [Tr.val, Tr.cells, results, Tryz.results6, go_sem, k0, k1, k2', k3, k4]) rfl ?_
    rw [← HPP.out]
    refine ⟨(((((HB8.out.setCell (by simp) _).setCell (by simp) _).setCell (by simp) _).setCell (by simp) _).setCell (by simp) _), .inl ⟨_, _, HG.out.1, HG.out.2.1, HG.out.2.2.1, ?_, rfl⟩⟩
    have hz := HXL.out
    have hv := HV.out
    exact in_base hv _ (in_set (in_set (in_set (in_set (in_set HG.out.2.2.2 (p := ⟨w.heap.size, 0, none⟩) hz _) (p := ⟨w.heap.size, 1, none⟩) hz _) (p := ⟨w.heap.size, 2, none⟩) hz _) (p := ⟨w.heap.size, 3, none⟩) hz _) (p := ⟨w.heap.size, 4, none⟩) hz _)
  · have HG := hidb g1
    clear g1
    go_wp2_with fail
    have bx9 := HX8.out.set (.int .i64 0) (.int .i64 0) (.float .f64 0) (.string ⟨#[]⟩) (.slice none 0 0)
    have k0 := bx9.c0; have k1 := bx9.c1; have k2' := bx9.c2; have k3 := bx9.c3; have k4 := bx9.c4
    simp only [set5] at k0 k1 k2' k3 k4
    refine bodyPost_ret (v := .tuple #[zterm, .int .i64 er]) (by simp [results, Tryz.results6, go_sem, k0, k1, k2', k3, k4]) rfl ?_
    rw [← HPP.out]
    exact ⟨(((((HB8.out.setCell (by simp) _).setCell (by simp) _).setCell (by simp) _).setCell (by simp) _).setCell (by simp) _), .inr ⟨_, HG.out, rfl⟩⟩
set_option maxHeartbeats 8000000 in
set_option maxRecDepth 100000 in
theorem call_any {P : Tr → Prop} {E : Int → Prop} {nm : ByteArray} {a : Option Addr} {n c g : Nat} {w : World}
    (hA : ∀ r, ((bfnd grdL nm (n : Int)).or (bfnd othL nm (n : Int))) = some r → TC r.2.2 P E (.agg #[.string nm, .slice a n c, .func (.func g) #[] #[]]) w) (hN : ((bfnd grdL nm (n : Int)).or (bfnd othL nm (n : Int))) = none → E 5) :
    Calls Tryz.prog 10 #[.string nm, .slice a n c, .func (.func g) #[] #[]] w (Ans P E w) := by
  have HA := hidb hA
  have HN := hidb hN
  have HX0 := hidb (Box.new w 27 (.int .i64 0) (.int .i64 0) (.float .f64 0) (.string ⟨#[]⟩) (.slice none 0 0))
  obtain ⟨PP, hPP⟩ : ∃ PP : Ending → World → Prop, Ans P E w = PP := ⟨_, rfl⟩
  have HPP := hidb hPP
  rw [hPP]
  clear hA hN hPP
  go_enter Tryz.func10, Tryz.ntmps10
  go_wp2_with fail
  refine (guards_any _).mono ?_
  rintro e w2 ⟨b, rfl, hT, hb2⟩
  have HT := hidb hT
  have HB2 := hidb hb2
  clear hT hb2
  go_wp2_with fail
  refine (others_any _).mono ?_
  rintro e w3 ⟨b3, rfl, hT3, hb3⟩
  have HT3 := hidb hT3
  have HTa := hidb (HT.out.keep hb3)
  have HB3 := hidb (HB2.out.trans (hb3.mono HB2.out.size))
  clear hT3 hb3
  go_wp2_with fail
  obtain ⟨V, hV⟩ : ∃ V, w3.alloc (.cells #[.slice (some ⟨b, 0, none⟩) 24 24, .slice (some ⟨b3, 0, none⟩) 14 14] 43) = V := ⟨_, rfl⟩
  have hbV : Below w3.heap.size w3 V := by rw [← hV]; exact below_new _ _
  have hbX : Below (w.alloc (.cells #[.int .i64 0, .int .i64 0, .float .f64 0, .string ⟨#[]⟩, .slice none 0 0] 27)).heap.size (w.alloc (.cells #[.int .i64 0, .int .i64 0, .float .f64 0, .string ⟨#[]⟩, .slice none 0 0] 27)) V := HB3.out.trans (hbV.mono HB3.out.size)
  have hTS : TSs V w3.heap.size [(b, grdL), (b3, othL)] := by
    intro i q hq
    cases i with
    | zero => obtain rfl : (b, grdL) = q := by simpa using hq
              exact ⟨by rw [← hV, World.cell?_alloc_new]; rfl, HTa.out.keep hbV, by show grdL.length ≤ 1000; decide⟩
    | succ i =>
      cases i with
      | zero => obtain rfl : (b3, othL) = q := by simpa using hq
                exact ⟨by rw [← hV, World.cell?_alloc_new]; rfl, HT3.out.keep hbV, by show othL.length ≤ 1000; decide⟩
      | succ i => simp at hq
  have hbf : bfndT [(b, grdL), (b3, othL)] nm (n : Int) = (bfnd grdL nm (n : Int)).or (bfnd othL nm (n : Int)) := by
    unfold bfndT
    cases h1 : bfnd grdL nm (n : Int) <;> cases h2 : bfnd othL nm (n : Int) <;> simp [List.findSome?, h1, h2]
  rw [hV]
  have hbw : Below w.heap.size w V := (below_new w _).trans (hbX.mono (by simp))
  refine (reckon_any (P := P) (E := E) (cp := 2) (.inr ⟨_, rfl⟩) hTS (by simp) (fun r hr W hW => (HA.out r (by rw [← hbf]; exact hr)).ans (.inr ⟨_, rfl⟩) (hbw.trans (hW.mono hbw.size))) (fun h => HN.out (by rw [← hbf]; exact h))).mono ?_
  clear hTS hV hbV hbw hbf
  rintro e w8 hans
  have HX8 := hidb (HX0.out.keep (hbX.trans (hans.1.mono hbX.size)))
  have HXL : Hid (w.heap.size < V.heap.size) := hidb (Nat.lt_of_lt_of_le HX0.out.lt hbX.size)
  have hbW0 : Below w.heap.size w V := (below_new w _).trans (hbX.mono (by simp))
  have HB8 := hidb (hbW0.trans (hans.1.mono hbW0.size))
  have HV := hidb hbW0.size
  clear hbX hbW0
  have x0 := HX8.out.c0; have x1 := HX8.out.c1; have x2 := HX8.out.c2; have x3 := HX8.out.c3; have x4 := HX8.out.c4
  have y0 := HX8.out.f0; have y1 := HX8.out.f1; have y2 := HX8.out.f2; have y3 := HX8.out.f3; have y4 := HX8.out.f4
  obtain ⟨-, ⟨t, ⟨k2, n2, f2, s2, a2, c2, ks2⟩, g1, g2, g3, g4, rfl⟩ | ⟨er, g1, rfl⟩⟩ := hans
  · have HG := hidb (And.intro g1 (And.intro g2 (And.intro g3 g4)))
    clear g1 g2 g3 g4
    simp only [Tr.val, Tr.cells]
    go_wp2_with fail
    have bx9 := HX8.out.set (.int .i64 k2) (.int .i64 n2) (.float .f64 f2) (.string s2) (.slice a2 ks2.length c2)
    have k0 := bx9.c0; have k1 := bx9.c1; have k2' := bx9.c2; have k3 := bx9.c3; have k4 := bx9.c4
    simp only [set5] at k0 k1 k2' k3 k4
    refine bodyPost_ret (v := .tuple #[Tr.val (.mk k2 n2 f2 s2 a2 c2 ks2), .int .i64 0]) (by simp [Tr.val, Tr.cells, results, Tryz.results10, go_sem, k0, k1, k2', k3, k4]) rfl ?_
    rw [← HPP.out]
    refine ⟨(((((HB8.out.setCell (by simp) _).setCell (by simp) _).setCell (by simp) _).setCell (by simp) _).setCell (by simp) _), .inl ⟨_, _, HG.out.1, HG.out.2.1, HG.out.2.2.1, ?_, rfl⟩⟩
    have hz := HXL.out
    have hv := HV.out
    exact in_base hv _ (in_set (in_set (in_set (in_set (in_set HG.out.2.2.2 (p := ⟨w.heap.size, 0, none⟩) hz _) (p := ⟨w.heap.size, 1, none⟩) hz _) (p := ⟨w.heap.size, 2, none⟩) hz _) (p := ⟨w.heap.size, 3, none⟩) hz _) (p := ⟨w.heap.size, 4, none⟩) hz _)
  · have HG := hidb g1
    clear g1
    go_wp2_with fail
    have bx9 := HX8.out.set (.int .i64 0) (.int .i64 0) (.float .f64 0) (.string ⟨#[]⟩) (.slice none 0 0)
    have k0 := bx9.c0; have k1 := bx9.c1; have k2' := bx9.c2; have k3 := bx9.c3; have k4 := bx9.c4
    simp only [set5] at k0 k1 k2' k3 k4
    refine bodyPost_ret (v := .tuple #[zterm, .int .i64 er]) (by simp [results, Tryz.results10, go_sem, k0, k1, k2', k3, k4]) rfl ?_
    rw [← HPP.out]
    exact ⟨(((((HB8.out.setCell (by simp) _).setCell (by simp) _).setCell (by simp) _).setCell (by simp) _).setCell (by simp) _), .inr ⟨_, HG.out, rfl⟩⟩
end Go.Proofs.YtgljglindgbjaaaGreatDoor


