import Derived.Test.YtdpfmmbfidknfaaGreatDoorG49
import Derived.Test.YtdpfmmbfidknfaaGreatDoorG50
import Derived.Laws.World
/- GramBrackets, walked. -/
namespace Go.Proofs.YtdpfmmbfidknfaaGreatDoor
open Go.RowKit Go.Lib
attribute [local go_sem] store_float f64bits
attribute [local go_sem ↓] Go.wp_at_zero Go.wp_at_succ

/-- A node's cells. -/
structure NdAt (w : World) (q i : Nat) (m : Nd) (a : Option Addr) (c : Nat) : Prop where
  c0 : w.cell? ⟨q, i * 6, none⟩ = some (.int .i64 m.k)
  c1 : w.cell? ⟨q, i * 6 + 1, none⟩ = some (.string m.x)
  c2 : w.cell? ⟨q, i * 6 + 2, none⟩ = some (.int .i64 m.n)
  c3 : w.cell? ⟨q, i * 6 + 3, none⟩ = some (.float .f64 m.f)
  c4 : w.cell? ⟨q, i * 6 + 4, none⟩ = some (.slice a m.l.length c)
  c5 : w.cell? ⟨q, i * 6 + 5, none⟩ = some (.int .i64 (m.p : Int))
  lt : q < w.heap.size
theorem NdAt.keep {w w' : World} {q i : Nat} {m : Nd} {a : Option Addr} {c : Nat} (h : NdAt w q i m a c) (hb : Below w.heap.size w w') : NdAt w' q i m a c :=
  ⟨(hb.cell (p := ⟨q, i * 6, none⟩) h.lt).trans h.c0, (hb.cell (p := ⟨q, i * 6 + 1, none⟩) h.lt).trans h.c1, (hb.cell (p := ⟨q, i * 6 + 2, none⟩) h.lt).trans h.c2, (hb.cell (p := ⟨q, i * 6 + 3, none⟩) h.lt).trans h.c3, (hb.cell (p := ⟨q, i * 6 + 4, none⟩) h.lt).trans h.c4, (hb.cell (p := ⟨q, i * 6 + 5, none⟩) h.lt).trans h.c5, Nat.lt_of_lt_of_le h.lt hb.size⟩
theorem nd_at {w : World} {B : Nat} {q L c : Nat} {N : List Nd} (h : Nodes w B (.slice (some ⟨q, 0, none⟩) L c) N) {i : Nat} {m : Nd} (hm : N[i]? = some m) : ∃ a c', NdAt w q i m a c' ∧ i < L ∧ ∀ (k x : Nat), m.l[k]? = some x → ∃ b, a = some ⟨b, 0, none⟩ ∧ b < w.heap.size ∧ w.cell? ⟨b, k, none⟩ = some (.int .i64 (x : Int)) := by
  obtain ⟨a0, c0, hV, hn⟩ := h.head
  obtain ⟨h1, rfl, rfl⟩ : some (⟨q, 0, none⟩ : Addr) = a0 ∧ L = N.length ∧ c = c0 := by simpa using hV
  obtain ⟨q', v, hq, hlt, hL, hc⟩ := hn i m hm
  rw [← h1] at hq
  obtain rfl : q = q' := by simpa using hq
  obtain ⟨a, c', rfl, hr⟩ := hL.head
  refine ⟨a, c', ⟨hc 0 (by omega), hc 1 (by omega), hc 2 (by omega), hc 3 (by omega), hc 4 (by omega), hc 5 (by omega), hlt⟩, (List.getElem?_eq_some_iff.1 hm).1, fun k x hk => ?_⟩
  obtain ⟨b, h2, h3, h4⟩ := hr k x hk
  exact ⟨b, h2, h3, h4 k x hk⟩

set_option maxHeartbeats 16000000 in
set_option maxRecDepth 100000 in
theorem GramBrackets_walk (x : ByteArray) (w : World) (hT : LexTab w) : Calls Tryz.prog 3 #[.string x] w fun e w' => e = .returned (.bool true) ∧ Below w.heap.size w w' := by
  have cK := known6_any w hT
  by_cases hl : 2000 < x.size
  · have h1 : (2000 : Int) < (x.size : Int) := by omega
    go_enter Tryz.func3, Tryz.ntmps3
    go_wp2_with (first
      | (go_at_call 5; refine cK.mono ?_; rintro e w1 ⟨rfl, hb1⟩))
    go_ret
    exact ⟨rfl, hb1⟩
  have h1 : ¬ (2000 : Int) < (x.size : Int) := by omega
  have GT : ∀ {wx : World}, Below w.heap.size w wx → LexTab wx := fun hb => hT.but (But.of_below (S := fun _ => False) hb) (fun _ e => e.elim)
  have q1 : ¬ 9223372036854775807 < 20 + x.size := by omega
  have q2 : ¬ 9223372036854775807 < 20 + x.size + 2 := by omega
  go_enter Tryz.func3, Tryz.ntmps3
  go_wp2_with (first
    | (go_at_call 5; refine cK.mono ?_; rintro e w1 ⟨rfl, hb1⟩; have HB1 := hidb hb1; clear hb1))
  cases hp : parseP ((⟨#[45, 109, 111, 100, 117, 108, 101, 40, 109, 41, 46, 32, 102, 40, 41, 32, 45, 62, 32, 123]⟩ : ByteArray) ++ x ++ ⟨#[125, 46]⟩) with
  | error q =>
    obtain ⟨er, p⟩ := q
    have her := (parse_err _ hp).1
    have k3 : (er == 0) = false := by simpa using her
    have k4 : (er != 0) = true := by simpa using her
    refine (Parse_any _ w1 (GT HB1.out)).mono ?_
    intro e w2 hR
    rw [hp] at hR
    obtain ⟨V, rfl, hN, hb2⟩ : ∃ V, e = .returned (.tuple #[.agg #[V, iv 0], .agg #[.int .i64 er, .int .i64 ((p : Nat) : Int)]]) ∧ Nodes w2 w1.heap.size V [] ∧ Below w1.heap.size w1 w2 := hR.flat
    obtain ⟨va, vm, vc, rfl⟩ := nodes_sl hN
    have HB2 := hidb (HB1.out.trans (hb2.mono HB1.out.size))
    clear hR hN hb2 her hp
    go_wp2_with fail
    all_goals
      go_ret
      exact ⟨rfl, (HB2.out.alloc HB2.out.size _).alloc (by have := HB2.out.size; simp; omega) _⟩
  | ok q =>
    obtain ⟨r, st⟩ := q
    obtain ⟨s2, hs2⟩ : ∃ s2, (⟨#[45, 109, 111, 100, 117, 108, 101, 40, 109, 41, 46, 32, 102, 40, 41, 32, 45, 62, 32, 123, 40]⟩ : ByteArray) ++ x ++ ⟨#[10, 41, 125, 46]⟩ = s2 := ⟨_, rfl⟩
    have hsrc : Srcs ((⟨#[45, 109, 111, 100, 117, 108, 101, 40, 109, 41, 46, 32, 102, 40, 41, 32, 45, 62, 32, 123]⟩ : ByteArray) ++ x ++ ⟨#[125, 46]⟩) s2 x.data.toList := by
      refine ⟨?_, ?_, by show x.size ≤ 2000; omega⟩
      · simp only [ByteArray.data_append, Array.toList_append, headB, List.append_assoc]
        rfl
      · rw [← hs2]
        simp only [ByteArray.data_append, Array.toList_append, headB, List.append_assoc]
        rfl
    obtain ⟨iF, iC, b0, a0, lf, lc, l0, hBR, hC⟩ := brackets_tree hsrc hp
    have hT := tree_facts _ hp
    have HTF := hidb hT
    refine (Parse_any _ w1 (GT HB1.out)).mono ?_
    intro e w2 hR
    rw [hp] at hR
    obtain ⟨V, rfl, hN, hb2⟩ : ∃ V, e = .returned (.tuple #[.agg #[V, iv r], .agg #[.int .i64 0, .int .i64 0]]) ∧ Nodes w2 w1.heap.size V st.ns ∧ Below w1.heap.size w1 w2 := hR.flat
    obtain ⟨va, vm, vc, rfl⟩ := nodes_sl hN
    have HB2 := hidb (HB1.out.trans (hb2.mono HB1.out.size))
    have hX : Below w2.heap.size w2 ((w2.alloc (Obj.cells #[.slice va vm vc, .int .i64 (r : Int)] 25)).alloc (Obj.cells #[.int .i64 0, .int .i64 0] 28)) := ((Below.refl _ _).alloc (Nat.le_refl _) _).alloc (by simp) _
    have hDa : Duo ((w2.alloc (Obj.cells #[.slice va vm vc, .int .i64 (r : Int)] 25)).alloc (Obj.cells #[.int .i64 0, .int .i64 0] 28)) w2.heap.size (.slice va vm vc) (.int .i64 (r : Int)) := (Duo.new w2 _ _ _).keep (below_new _ _)
    have hDf : Duo ((w2.alloc (Obj.cells #[.slice va vm vc, .int .i64 (r : Int)] 25)).alloc (Obj.cells #[.int .i64 0, .int .i64 0] 28)) (w2.heap.size + 1) (.int .i64 0) (.int .i64 0) := by
      have := Duo.new (w2.alloc (Obj.cells #[.slice va vm vc, .int .i64 (r : Int)] 25)) 28 (.int .i64 0) (.int .i64 0)
      simpa using this
    have hNX := hN.but (But.of_below (S := fun _ => False) hX) (fun _ h => h.elim)
    have HX := hidb (HB2.out.trans (hX.mono HB2.out.size))
    have HDa := hidb hDa
    have HDf := hidb hDf
    have HNX := hidb hNX
    have HTB := hidb (And.intro HB2.out.size (And.intro hX (fun (Z : World) (hz : Below w2.heap.size w2 Z) => hN.but (But.of_below (S := fun _ => False) hz) (fun _ h => h.elim))))
    clear hR hN hb2 hX hDa hDf hT
    go_wp2_with fail
    generalize ((w2.alloc (Obj.cells #[.slice va vm vc, .int .i64 (r : Int)] 25)).alloc (Obj.cells #[.int .i64 0, .int .i64 0] 28)) = X at HX HDa HDf HNX hNX HTB ⊢
    generalize w2.heap.size = tb at HDa HDf HTB ⊢
    obtain ⟨⟨mR, hR, eR⟩, ⟨fR, hlf⟩, ⟨mF, hF, eF⟩, ⟨mC, hCc, eC⟩, ⟨fC, hlc⟩, ⟨m1, hm1, e1⟩, ⟨mB, hBm, eB⟩, ⟨fB, hl0⟩, ⟨mA, hA⟩⟩ := hBR
    obtain ⟨q, rfl⟩ : ∃ q, va = some ⟨q, 0, none⟩ := by
      obtain ⟨a0, c0, hV, hn⟩ := hNX.head
      obtain ⟨h2, -⟩ : va = a0 ∧ _ := by simpa using hV
      obtain ⟨q, v, hq, -⟩ := hn r mR hR
      exact ⟨q, h2.trans hq⟩
    obtain ⟨aR, cR, nR, bR, rR⟩ := nd_at hNX hR
    obtain ⟨aF, cF, nF, bF, rF⟩ := nd_at hNX hF
    obtain ⟨aC, cC, nC, bC, rC⟩ := nd_at hNX hCc
    obtain ⟨a1, c1, n1, bd1, r1⟩ := nd_at hNX hm1
    obtain ⟨aB, cB, nB, bB, rB⟩ := nd_at hNX hBm
    obtain ⟨aA, cA, nA, bA, -⟩ := nd_at hNX hA
    obtain ⟨kR, rfl, kRl, kRc⟩ := rR 0 iF (by rw [eR, hlf]; rfl)
    obtain ⟨kF, rfl, kFl, kFc⟩ := rF 0 iC (by rw [eF]; rfl)
    obtain ⟨kC, rfl, kCl, kCc⟩ := rC 0 (b0 + 1) (by rw [eC, hlc]; rfl)
    obtain ⟨k1, rfl, k1l, k1c⟩ := r1 1 b0 (by rw [e1]; rfl)
    obtain ⟨kB, rfl, kBl, kBc⟩ := rB 0 a0 (by rw [eB, hl0]; rfl)
    have CF : Hid (∀ W, Below X.heap.size X W → (W.cell? ⟨tb, 0, none⟩ = some (.slice (some ⟨q, 0, none⟩) vm vc) ∧ W.cell? ⟨tb, 1, none⟩ = some (.int .i64 (r : Int))) ∧ (NdAt W q r mR (some ⟨kR, 0, none⟩) cR ∧ W.cell? ⟨kR, 0, none⟩ = some (.int .i64 (iF : Int))) ∧ (NdAt W q iF mF (some ⟨kF, 0, none⟩) cF ∧ W.cell? ⟨kF, 0, none⟩ = some (.int .i64 (iC : Int))) ∧ (NdAt W q iC mC (some ⟨kC, 0, none⟩) cC ∧ W.cell? ⟨kC, 0, none⟩ = some (.int .i64 ((b0 : Int) + 1))) ∧ (NdAt W q (b0 + 1) m1 (some ⟨k1, 0, none⟩) c1 ∧ W.cell? ⟨k1, 1, none⟩ = some (.int .i64 (b0 : Int))) ∧ (NdAt W q b0 mB (some ⟨kB, 0, none⟩) cB ∧ W.cell? ⟨kB, 0, none⟩ = some (.int .i64 (a0 : Int))) ∧ NdAt W q a0 mA aA cA) := hidb (fun W hb => by
      refine ⟨⟨(HDa.out.keep hb).1, (HDa.out.keep hb).2⟩, ⟨nR.keep hb, (hb.cell (p := ⟨kR, 0, none⟩) kRl).trans kRc⟩, ⟨nF.keep hb, (hb.cell (p := ⟨kF, 0, none⟩) kFl).trans kFc⟩, ⟨nC.keep hb, (hb.cell (p := ⟨kC, 0, none⟩) kCl).trans ?_⟩, ⟨n1.keep hb, (hb.cell (p := ⟨k1, 1, none⟩) k1l).trans k1c⟩, ⟨nB.keep hb, (hb.cell (p := ⟨kB, 0, none⟩) kBl).trans kBc⟩, nA.keep hb⟩
      rw [kCc]
      rfl)
    obtain ⟨LR, hLR⟩ : ∃ L, mR.l.length = L := ⟨_, rfl⟩
    obtain ⟨LF, hLF⟩ : ∃ L, mF.l.length = L := ⟨_, rfl⟩
    obtain ⟨LC, hLC⟩ : ∃ L, mC.l.length = L := ⟨_, rfl⟩
    obtain ⟨L1, hL1⟩ : ∃ L, m1.l.length = L := ⟨_, rfl⟩
    obtain ⟨LB, hLB⟩ : ∃ L, mB.l.length = L := ⟨_, rfl⟩
    obtain ⟨LA, hLA⟩ : ∃ L, mA.l.length = L := ⟨_, rfl⟩
    have pR : 0 < LR := by rw [← hLR, eR, hlf]; simp
    have pF : 0 < LF := by rw [← hLF, eF]; simp
    have pC : 0 < LC := by rw [← hLC, eC, hlc]; simp
    have p1 : L1 = 2 := by rw [← hL1, e1]; rfl
    subst p1
    have pB : 0 < LB := by rw [← hLB, eB, hl0]; simp
    have i1 : (0 : Int) < (LR : Int) := by omega
    have i2 : (0 : Int) < (LF : Int) := by omega
    have i3 : (0 : Int) < (LC : Int) := by omega
    have i4 : (0 : Int) < (LB : Int) := by omega
    have j1 : (r : Int) < (vm : Int) := by omega
    have j2 : (iF : Int) < (vm : Int) := by omega
    have j3 : (iC : Int) < (vm : Int) := by omega
    have j4 : (b0 : Int) + 1 < (vm : Int) := by omega
    have j5 : (b0 : Int) < (vm : Int) := by omega
    have j6 : (a0 : Int) < (vm : Int) := by omega
    have g1 : (0 : Int) ≤ (r : Int) := by omega
    have g2 : (0 : Int) ≤ (iF : Int) := by omega
    have g3 : (0 : Int) ≤ (iC : Int) := by omega
    have g4 : (0 : Int) ≤ (b0 : Int) + 1 := by omega
    have g5 : (0 : Int) ≤ (b0 : Int) := by omega
    have g6 : (0 : Int) ≤ (a0 : Int) := by omega
    have t4 : ((b0 : Int) + 1).toNat = b0 + 1 := by omega
    have HEQ := hidb (And.intro (And.intro (show LR = lf.length by rw [← hLR, eR]) (show LC = lc.length by rw [← hLC, eC])) (And.intro (show LB = l0.length by rw [← hLB, eB]) (And.intro hA hLA)))
    have CT : Hid (∀ W, Below X.heap.size X W → W.cell? ⟨tb, 0, none⟩ = some (.slice (some ⟨q, 0, none⟩) vm vc) ∧ W.cell? ⟨tb, 1, none⟩ = some (.int .i64 (r : Int))) := hidb (fun W hb => (CF.out W hb).1)
    have CR : Hid (∀ W, Below X.heap.size X W → W.cell? ⟨q, r * 6 + 4, none⟩ = some (.slice (some ⟨kR, 0, none⟩) LR cR) ∧ W.cell? ⟨kR, 0, none⟩ = some (.int .i64 (iF : Int))) := hidb (fun W hb => by have := (CF.out W hb).2.1; rw [← hLR]; exact ⟨this.1.c4, this.2⟩)
    have CN : ∀ {W : World} {i : Nat} {m : Nd} {a : Option Addr} {c L : Nat}, NdAt W q i m a c → m.l.length = L → W.cell? ⟨q, i * 6, none⟩ = some (.int .i64 m.k) ∧ W.cell? ⟨q, i * 6 + 1, none⟩ = some (.string m.x) ∧ W.cell? ⟨q, i * 6 + 2, none⟩ = some (.int .i64 m.n) ∧ W.cell? ⟨q, i * 6 + 3, none⟩ = some (.float .f64 m.f) ∧ W.cell? ⟨q, i * 6 + 4, none⟩ = some (.slice a L c) ∧ W.cell? ⟨q, i * 6 + 5, none⟩ = some (.int .i64 (m.p : Int)) := fun h e => by rw [← e]; exact ⟨h.c0, h.c1, h.c2, h.c3, h.c4, h.c5⟩
    have CFn : Hid (∀ W, Below X.heap.size X W → (W.cell? ⟨q, iF * 6, none⟩ = some (.int .i64 mF.k) ∧ W.cell? ⟨q, iF * 6 + 1, none⟩ = some (.string mF.x) ∧ W.cell? ⟨q, iF * 6 + 2, none⟩ = some (.int .i64 mF.n) ∧ W.cell? ⟨q, iF * 6 + 3, none⟩ = some (.float .f64 mF.f) ∧ W.cell? ⟨q, iF * 6 + 4, none⟩ = some (.slice (some ⟨kF, 0, none⟩) LF cF) ∧ W.cell? ⟨q, iF * 6 + 5, none⟩ = some (.int .i64 (mF.p : Int))) ∧ W.cell? ⟨kF, 0, none⟩ = some (.int .i64 (iC : Int))) := hidb (fun W hb => by have := (CF.out W hb).2.2.1; exact ⟨CN this.1 hLF, this.2⟩)
    have CC : Hid (∀ W, Below X.heap.size X W → W.cell? ⟨q, iC * 6 + 4, none⟩ = some (.slice (some ⟨kC, 0, none⟩) LC cC) ∧ W.cell? ⟨kC, 0, none⟩ = some (.int .i64 ((b0 : Int) + 1))) := hidb (fun W hb => by have := (CF.out W hb).2.2.2.1; rw [← hLC]; exact ⟨this.1.c4, this.2⟩)
    have C1 : Hid (∀ W, Below X.heap.size X W → W.cell? ⟨q, (b0 + 1) * 6 + 4, none⟩ = some (.slice (some ⟨k1, 0, none⟩) 2 c1) ∧ W.cell? ⟨k1, 1, none⟩ = some (.int .i64 (b0 : Int))) := hidb (fun W hb => by have := (CF.out W hb).2.2.2.2.1; rw [← hL1]; exact ⟨this.1.c4, this.2⟩)
    have CB : Hid (∀ W, Below X.heap.size X W → (W.cell? ⟨q, b0 * 6, none⟩ = some (.int .i64 mB.k) ∧ W.cell? ⟨q, b0 * 6 + 1, none⟩ = some (.string mB.x) ∧ W.cell? ⟨q, b0 * 6 + 2, none⟩ = some (.int .i64 mB.n) ∧ W.cell? ⟨q, b0 * 6 + 3, none⟩ = some (.float .f64 mB.f) ∧ W.cell? ⟨q, b0 * 6 + 4, none⟩ = some (.slice (some ⟨kB, 0, none⟩) LB cB) ∧ W.cell? ⟨q, b0 * 6 + 5, none⟩ = some (.int .i64 (mB.p : Int))) ∧ W.cell? ⟨kB, 0, none⟩ = some (.int .i64 (a0 : Int))) := hidb (fun W hb => by have := (CF.out W hb).2.2.2.2.2.1; exact ⟨CN this.1 hLB, this.2⟩)
    have CA : Hid (∀ W, Below X.heap.size X W → W.cell? ⟨q, a0 * 6, none⟩ = some (.int .i64 mA.k) ∧ W.cell? ⟨q, a0 * 6 + 4, none⟩ = some (.slice aA LA cA)) := hidb (fun W hb => by have := (CF.out W hb).2.2.2.2.2.2; rw [← hLA]; exact ⟨this.c0, this.c4⟩)
    have HC := hidb hC
    have HSR := hidb hsrc
    clear CN CF nR nF nC n1 nB nA kRc kFc kCc k1c kBc hLR hLF hLC hL1 hLB hLA eR eF eC e1 eB hlf hlc hl0 rR rF rC r1 rB hR hF hCc hm1 hBm hA hNX bR bF bC bd1 bB bA hC hsrc hp kRl kFl kCl k1l kBl
    generalize mF.k = fk at *
    generalize mF.x = fx at *
    generalize mF.n = fn at *
    generalize mF.f = ff at *
    generalize mF.p = fp at *
    generalize mB.k = bk at *
    generalize mB.x = bx at *
    generalize mB.n = bn at *
    generalize mB.f = bf at *
    generalize mB.p = bp at *
    have HY8 : Hid (Below X.heap.size X X) := hidb (Below.refl _ _)
    have HS8 : Hid (∀ W9, Below X.heap.size X W9 → W9.cell? ⟨tb, 0, none⟩ = some (.slice (some ⟨q, 0, none⟩) vm vc) ∧ W9.cell? ⟨tb, 1, none⟩ = some (.int .i64 (r : Int)) ∧ W9.cell? ⟨q, r * 6 + 4, none⟩ = some (.slice (some ⟨kR, 0, none⟩) LR cR) ∧ W9.cell? ⟨kR, 0, none⟩ = some (.int .i64 (iF : Int)) ∧ W9.cell? ⟨q, iF * 6, none⟩ = some (.int .i64 fk) ∧ W9.cell? ⟨q, iF * 6 + 1, none⟩ = some (.string fx) ∧ W9.cell? ⟨q, iF * 6 + 2, none⟩ = some (.int .i64 fn) ∧ W9.cell? ⟨q, iF * 6 + 3, none⟩ = some (.float .f64 ff) ∧ W9.cell? ⟨q, iF * 6 + 4, none⟩ = some (.slice (some ⟨kF, 0, none⟩) LF cF) ∧ W9.cell? ⟨q, iF * 6 + 5, none⟩ = some (.int .i64 (fp : Int))) := hidb (fun W9 hb => by
      have h1 := CT.out W9 hb
      have h2 := CR.out W9 hb
      have h3 := (CFn.out W9 hb).1
      exact ⟨h1.1, h1.2, h2.1, h2.2, h3.1, h3.2.1, h3.2.2.1, h3.2.2.2.1, h3.2.2.2.2.1, h3.2.2.2.2.2⟩)
    refine wp_region_D (fun W9 => W9.cell? ⟨tb, 0, none⟩ = some (.slice (some ⟨q, 0, none⟩) vm vc) ∧ W9.cell? ⟨tb, 1, none⟩ = some (.int .i64 (r : Int)) ∧ W9.cell? ⟨q, r * 6 + 4, none⟩ = some (.slice (some ⟨kR, 0, none⟩) LR cR) ∧ W9.cell? ⟨kR, 0, none⟩ = some (.int .i64 (iF : Int)) ∧ W9.cell? ⟨q, iF * 6, none⟩ = some (.int .i64 fk) ∧ W9.cell? ⟨q, iF * 6 + 1, none⟩ = some (.string fx) ∧ W9.cell? ⟨q, iF * 6 + 2, none⟩ = some (.int .i64 fn) ∧ W9.cell? ⟨q, iF * 6 + 3, none⟩ = some (.float .f64 ff) ∧ W9.cell? ⟨q, iF * 6 + 4, none⟩ = some (.slice (some ⟨kF, 0, none⟩) LF cF) ∧ W9.cell? ⟨q, iF * 6 + 5, none⟩ = some (.int .i64 (fp : Int))) [14] (by kernel_rfl) ?_
    have HD8 := hidb ((HY8.out).drew)
    have HT8 := hidb (HS8.out _ HD8.out)
    refine wpAnyD_takeL (i := 0) (v := ?vv0r8) rfl (by kernel_rfl) (by kernel_rfl) (by kernel_rfl) (by kernel_rfl) (fun _ _ _ h => h) HT8.out rfl ?hy0r8 ?_
    case hy0r8 => intro wy hSw; obtain ⟨y0, y1, y2, y3, y4, y5, y6, y7, y8, y9⟩ := hSw; go_simp; try with_reducible rfl
    simp only [Act.put, List.setIfInBounds_toArray, List.set_cons_zero, List.set_cons_succ]
    refine wpAnyD_takeL (i := 1) (v := ?vv1r8) rfl (by kernel_rfl) (by kernel_rfl) (by kernel_rfl) (by kernel_rfl) (fun _ _ _ h => h) HT8.out rfl ?hy1r8 ?_
    case hy1r8 => intro wy hSw; obtain ⟨y0, y1, y2, y3, y4, y5, y6, y7, y8, y9⟩ := hSw; go_simp; try with_reducible rfl
    simp only [Act.put, List.setIfInBounds_toArray, List.set_cons_zero, List.set_cons_succ]
    refine wpAnyD_takeL (i := 2) (v := ?vv2r8) rfl (by kernel_rfl) (by kernel_rfl) (by kernel_rfl) (by kernel_rfl) (fun _ _ _ h => h) HT8.out rfl ?hy2r8 ?_
    case hy2r8 => intro wy hSw; obtain ⟨y0, y1, y2, y3, y4, y5, y6, y7, y8, y9⟩ := hSw; go_simp; try with_reducible rfl
    simp only [Act.put, List.setIfInBounds_toArray, List.set_cons_zero, List.set_cons_succ]
    refine wpAnyD_takeL (i := 3) (v := ?vv3r8) rfl (by kernel_rfl) (by kernel_rfl) (by kernel_rfl) (by kernel_rfl) (fun _ _ _ h => h) HT8.out rfl ?hy3r8 ?_
    case hy3r8 => intro wy hSw; obtain ⟨y0, y1, y2, y3, y4, y5, y6, y7, y8, y9⟩ := hSw; go_simp; try with_reducible rfl
    simp only [Act.put, List.setIfInBounds_toArray, List.set_cons_zero, List.set_cons_succ]
    refine wpAnyD_takeL (i := 4) (v := ?vv4r8) rfl (by kernel_rfl) (by kernel_rfl) (by kernel_rfl) (by kernel_rfl) (fun _ _ _ h => h) HT8.out rfl ?hy4r8 ?_
    case hy4r8 => intro wy hSw; obtain ⟨y0, y1, y2, y3, y4, y5, y6, y7, y8, y9⟩ := hSw; go_simp; try with_reducible rfl
    simp only [Act.put, List.setIfInBounds_toArray, List.set_cons_zero, List.set_cons_succ]
    refine wpAnyD_takeL (i := 5) (v := ?vv5r8) rfl (by kernel_rfl) (by kernel_rfl) (by kernel_rfl) (by kernel_rfl) (fun _ _ _ h => h) HT8.out rfl ?hy5r8 ?_
    case hy5r8 => intro wy hSw; obtain ⟨y0, y1, y2, y3, y4, y5, y6, y7, y8, y9⟩ := hSw; go_simp; try with_reducible rfl
    simp only [Act.put, List.setIfInBounds_toArray, List.set_cons_zero, List.set_cons_succ]
    refine wpAnyD_takeL (i := 6) (v := ?vv6r8) rfl (by kernel_rfl) (by kernel_rfl) (by kernel_rfl) (by kernel_rfl) (fun _ _ _ h => h) HT8.out rfl ?hy6r8 ?_
    case hy6r8 => intro wy hSw; obtain ⟨y0, y1, y2, y3, y4, y5, y6, y7, y8, y9⟩ := hSw; go_simp; try with_reducible rfl
    simp only [Act.put, List.setIfInBounds_toArray, List.set_cons_zero, List.set_cons_succ]
    refine wpAnyD_takeL (i := 7) (v := ?vv7r8) rfl (by kernel_rfl) (by kernel_rfl) (by kernel_rfl) (by kernel_rfl) (fun _ _ _ h => h) HT8.out rfl ?hy7r8 ?_
    case hy7r8 => intro wy hSw; obtain ⟨y0, y1, y2, y3, y4, y5, y6, y7, y8, y9⟩ := hSw; go_simp; try with_reducible rfl
    simp only [Act.put, List.setIfInBounds_toArray, List.set_cons_zero, List.set_cons_succ]
    refine wpAnyD_takeL (i := 8) (v := ?vv8r8) rfl (by kernel_rfl) (by kernel_rfl) (by kernel_rfl) (by kernel_rfl) (fun _ _ _ h => h) HT8.out rfl ?hy8r8 ?_
    case hy8r8 => intro wy hSw; obtain ⟨y0, y1, y2, y3, y4, y5, y6, y7, y8, y9⟩ := hSw; go_simp; try with_reducible rfl
    simp only [Act.put, List.setIfInBounds_toArray, List.set_cons_zero, List.set_cons_succ]
    refine wpAnyD_takeL (i := 9) (v := ?vv9r8) rfl (by kernel_rfl) (by kernel_rfl) (by kernel_rfl) (by kernel_rfl) (fun _ _ _ h => h) HT8.out rfl ?hy9r8 ?_
    case hy9r8 => intro wy hSw; obtain ⟨y0, y1, y2, y3, y4, y5, y6, y7, y8, y9⟩ := hSw; go_simp; try with_reducible rfl
    simp only [Act.put, List.setIfInBounds_toArray, List.set_cons_zero, List.set_cons_succ]
    refine wpAnyD_takeL (i := 10) (v := ?vv10r8) rfl (by kernel_rfl) (by kernel_rfl) (by kernel_rfl) (by kernel_rfl) (fun _ _ _ h => h) HT8.out rfl ?hy10r8 ?_
    case hy10r8 => intro wy hSw; obtain ⟨y0, y1, y2, y3, y4, y5, y6, y7, y8, y9⟩ := hSw; go_simp; try with_reducible rfl
    simp only [Act.put, List.setIfInBounds_toArray, List.set_cons_zero, List.set_cons_succ]
    refine wpAnyD_takeL (i := 11) (v := ?vv11r8) rfl (by kernel_rfl) (by kernel_rfl) (by kernel_rfl) (by kernel_rfl) (fun _ _ _ h => h) HT8.out rfl ?hy11r8 ?_
    case hy11r8 => intro wy hSw; obtain ⟨y0, y1, y2, y3, y4, y5, y6, y7, y8, y9⟩ := hSw; go_simp; try with_reducible rfl
    simp only [Act.put, List.setIfInBounds_toArray, List.set_cons_zero, List.set_cons_succ]
    refine wpAnyD_takeL (i := 12) (v := ?vv12r8) rfl (by kernel_rfl) (by kernel_rfl) (by kernel_rfl) (by kernel_rfl) (fun _ _ _ h => h) HT8.out rfl ?hy12r8 ?_
    case hy12r8 => intro wy hSw; obtain ⟨y0, y1, y2, y3, y4, y5, y6, y7, y8, y9⟩ := hSw; go_simp; try with_reducible rfl
    simp only [Act.put, List.setIfInBounds_toArray, List.set_cons_zero, List.set_cons_succ]
    refine wpAnyD_stepL (i := 13) (by kernel_rfl) rfl (fun K hK => ?_)
    go_simp
    have HA8 : Hid (Below X.heap.size X ((X.alloc (Obj.cells #[.int .i64 0, .string ⟨#[]⟩, .int .i64 0, .float .f64 0, .slice none 0 0, .int .i64 0] 34)).drew)) := hidb ((HY8.out.alloc HY8.out.size _).drew)
    refine hK _ _ (fun _ => HS8.out _ HA8.out) ?_
    clear hK K
    refine wpAnyD_stepL (i := 14) (by kernel_rfl) rfl (fun K hK => ?_)
    have HB8 := Six.new X 34 (.int .i64 0) (.string ⟨#[]⟩) (.int .i64 0) (.float .f64 0) (.slice none 0 0) (.int .i64 0)
    obtain ⟨z0, z1, z2, z3, z4, z5, y0, y1, y2, y3, y4, y5, -⟩ := HB8
    go_simp
    clear z0 z1 z2 z3 z4 z5 y0 y1 y2 y3 y4 y5
    refine hK _ _ (fun h => absurd (List.mem_singleton.2 rfl) h) ?_
    clear hK K
    refine wpAnyD_done (by kernel_rfl) ?_ _
    have HSZ : Hid (∀ W, Below X.heap.size X W → X.heap.size ≤ W.heap.size) := hidb (fun W h => h.size)
    have HY9 : Hid (Below X.heap.size X (X.alloc (Obj.cells #[.int .i64 fk, .string fx, .int .i64 fn, .float .f64 ff, .slice (some ⟨kF, 0, none⟩) LF cF, .int .i64 (fp : Int)] 34)).drew) := hidb ((below_new X _).drew)
    obtain ⟨nb, hnb⟩ : ∃ nb, X.heap.size = nb := ⟨_, rfl⟩
    have Nn : Hid ((X.alloc (Obj.cells #[.int .i64 fk, .string fx, .int .i64 fn, .float .f64 ff, .slice (some ⟨kF, 0, none⟩) LF cF, .int .i64 (fp : Int)] 34)).drew.cell? ⟨nb, 4, none⟩ = some (.slice (some ⟨kF, 0, none⟩) LF cF) ∧ nb < (X.alloc (Obj.cells #[.int .i64 fk, .string fx, .int .i64 fn, .float .f64 ff, .slice (some ⟨kF, 0, none⟩) LF cF, .int .i64 (fp : Int)] 34)).drew.heap.size) := hidb (by
      rw [← hnb]
      have h := (Six.new X 34 (.int .i64 fk) (.string fx) (.int .i64 fn) (.float .f64 ff) (.slice (some ⟨kF, 0, none⟩) LF cF) (.int .i64 (fp : Int))).keep (Below.refl _ _).drew
      exact ⟨h.c4, h.lt⟩)
    have HNB := hidb hnb
    generalize (X.alloc (Obj.cells #[.int .i64 fk, .string fx, .int .i64 fn, .float .f64 ff, .slice (some ⟨kF, 0, none⟩) LF cF, .int .i64 (fp : Int)] 34)).drew = Y9 at HY9 Nn ⊢
    rw [hnb]
    clear hnb
    go_wp2_with fail
    have HS9 : Hid (∀ W9, Below Y9.heap.size Y9 W9 → W9.cell? ⟨tb, 0, none⟩ = some (.slice (some ⟨q, 0, none⟩) vm vc) ∧ W9.cell? ⟨nb, 4, none⟩ = some (.slice (some ⟨kF, 0, none⟩) LF cF) ∧ W9.cell? ⟨kF, 0, none⟩ = some (.int .i64 (iC : Int)) ∧ W9.cell? ⟨q, iC * 6 + 4, none⟩ = some (.slice (some ⟨kC, 0, none⟩) LC cC) ∧ W9.cell? ⟨kC, 0, none⟩ = some (.int .i64 ((b0 : Int) + 1)) ∧ W9.cell? ⟨q, (b0 + 1) * 6 + 4, none⟩ = some (.slice (some ⟨k1, 0, none⟩) 2 c1) ∧ W9.cell? ⟨k1, 1, none⟩ = some (.int .i64 (b0 : Int)) ∧ W9.cell? ⟨q, b0 * 6, none⟩ = some (.int .i64 bk) ∧ W9.cell? ⟨q, b0 * 6 + 1, none⟩ = some (.string bx) ∧ W9.cell? ⟨q, b0 * 6 + 2, none⟩ = some (.int .i64 bn) ∧ W9.cell? ⟨q, b0 * 6 + 3, none⟩ = some (.float .f64 bf) ∧ W9.cell? ⟨q, b0 * 6 + 4, none⟩ = some (.slice (some ⟨kB, 0, none⟩) LB cB) ∧ W9.cell? ⟨q, b0 * 6 + 5, none⟩ = some (.int .i64 (bp : Int))) := hidb (fun W9 hb => by
      have hx := HY9.out.trans (hb.mono HY9.out.size)
      have h1 := CT.out W9 hx
      have h2 := CFn.out W9 hx
      have h3 := CC.out W9 hx
      have h4 := C1.out W9 hx
      have h5 := (CB.out W9 hx).1
      have h6 := (hb.cell (p := ⟨nb, 4, none⟩) Nn.out.2).trans Nn.out.1
      exact ⟨h1.1, h6, h2.2, h3.1, h3.2, h4.1, h4.2, h5.1, h5.2.1, h5.2.2.1, h5.2.2.2.1, h5.2.2.2.2.1, h5.2.2.2.2.2⟩)
    refine wp_region_D (fun W9 => W9.cell? ⟨tb, 0, none⟩ = some (.slice (some ⟨q, 0, none⟩) vm vc) ∧ W9.cell? ⟨nb, 4, none⟩ = some (.slice (some ⟨kF, 0, none⟩) LF cF) ∧ W9.cell? ⟨kF, 0, none⟩ = some (.int .i64 (iC : Int)) ∧ W9.cell? ⟨q, iC * 6 + 4, none⟩ = some (.slice (some ⟨kC, 0, none⟩) LC cC) ∧ W9.cell? ⟨kC, 0, none⟩ = some (.int .i64 ((b0 : Int) + 1)) ∧ W9.cell? ⟨q, (b0 + 1) * 6 + 4, none⟩ = some (.slice (some ⟨k1, 0, none⟩) 2 c1) ∧ W9.cell? ⟨k1, 1, none⟩ = some (.int .i64 (b0 : Int)) ∧ W9.cell? ⟨q, b0 * 6, none⟩ = some (.int .i64 bk) ∧ W9.cell? ⟨q, b0 * 6 + 1, none⟩ = some (.string bx) ∧ W9.cell? ⟨q, b0 * 6 + 2, none⟩ = some (.int .i64 bn) ∧ W9.cell? ⟨q, b0 * 6 + 3, none⟩ = some (.float .f64 bf) ∧ W9.cell? ⟨q, b0 * 6 + 4, none⟩ = some (.slice (some ⟨kB, 0, none⟩) LB cB) ∧ W9.cell? ⟨q, b0 * 6 + 5, none⟩ = some (.int .i64 (bp : Int))) [23] (by kernel_rfl) ?_
    have HD9 := hidb (Below.refl Y9.heap.size Y9).drew
    have HT9 := hidb (HS9.out _ HD9.out)
    refine wpAnyD_takeL (i := 0) (v := ?vv0r9) rfl (by kernel_rfl) (by kernel_rfl) (by kernel_rfl) (by kernel_rfl) (fun _ _ _ h => h) HT9.out rfl ?hy0r9 ?_
    case hy0r9 => intro wy hSw; obtain ⟨y0, y1, y2, y3, y4, y5, y6, y7, y8, y9, y10, y11, y12⟩ := hSw; go_simp; try with_reducible rfl
    simp only [Act.put, List.setIfInBounds_toArray, List.set_cons_zero, List.set_cons_succ]
    refine wpAnyD_takeL (i := 1) (v := ?vv1r9) rfl (by kernel_rfl) (by kernel_rfl) (by kernel_rfl) (by kernel_rfl) (fun _ _ _ h => h) HT9.out rfl ?hy1r9 ?_
    case hy1r9 => intro wy hSw; obtain ⟨y0, y1, y2, y3, y4, y5, y6, y7, y8, y9, y10, y11, y12⟩ := hSw; go_simp; try with_reducible rfl
    simp only [Act.put, List.setIfInBounds_toArray, List.set_cons_zero, List.set_cons_succ]
    refine wpAnyD_takeL (i := 2) (v := ?vv2r9) rfl (by kernel_rfl) (by kernel_rfl) (by kernel_rfl) (by kernel_rfl) (fun _ _ _ h => h) HT9.out rfl ?hy2r9 ?_
    case hy2r9 => intro wy hSw; obtain ⟨y0, y1, y2, y3, y4, y5, y6, y7, y8, y9, y10, y11, y12⟩ := hSw; go_simp; try with_reducible rfl
    simp only [Act.put, List.setIfInBounds_toArray, List.set_cons_zero, List.set_cons_succ]
    refine wpAnyD_takeL (i := 3) (v := ?vv3r9) rfl (by kernel_rfl) (by kernel_rfl) (by kernel_rfl) (by kernel_rfl) (fun _ _ _ h => h) HT9.out rfl ?hy3r9 ?_
    case hy3r9 => intro wy hSw; obtain ⟨y0, y1, y2, y3, y4, y5, y6, y7, y8, y9, y10, y11, y12⟩ := hSw; go_simp; try with_reducible rfl
    simp only [Act.put, List.setIfInBounds_toArray, List.set_cons_zero, List.set_cons_succ]
    refine wpAnyD_takeL (i := 4) (v := ?vv4r9) rfl (by kernel_rfl) (by kernel_rfl) (by kernel_rfl) (by kernel_rfl) (fun _ _ _ h => h) HT9.out rfl ?hy4r9 ?_
    case hy4r9 => intro wy hSw; obtain ⟨y0, y1, y2, y3, y4, y5, y6, y7, y8, y9, y10, y11, y12⟩ := hSw; go_simp; try with_reducible rfl
    simp only [Act.put, List.setIfInBounds_toArray, List.set_cons_zero, List.set_cons_succ]
    refine wpAnyD_takeL (i := 5) (v := ?vv5r9) rfl (by kernel_rfl) (by kernel_rfl) (by kernel_rfl) (by kernel_rfl) (fun _ _ _ h => h) HT9.out rfl ?hy5r9 ?_
    case hy5r9 => intro wy hSw; obtain ⟨y0, y1, y2, y3, y4, y5, y6, y7, y8, y9, y10, y11, y12⟩ := hSw; go_simp; try with_reducible rfl
    simp only [Act.put, List.setIfInBounds_toArray, List.set_cons_zero, List.set_cons_succ]
    refine wpAnyD_takeL (i := 6) (v := ?vv6r9) rfl (by kernel_rfl) (by kernel_rfl) (by kernel_rfl) (by kernel_rfl) (fun _ _ _ h => h) HT9.out rfl ?hy6r9 ?_
    case hy6r9 => intro wy hSw; obtain ⟨y0, y1, y2, y3, y4, y5, y6, y7, y8, y9, y10, y11, y12⟩ := hSw; go_simp; try with_reducible rfl
    simp only [Act.put, List.setIfInBounds_toArray, List.set_cons_zero, List.set_cons_succ]
    refine wpAnyD_takeL (i := 7) (v := ?vv7r9) rfl (by kernel_rfl) (by kernel_rfl) (by kernel_rfl) (by kernel_rfl) (fun _ _ _ h => h) HT9.out rfl ?hy7r9 ?_
    case hy7r9 => intro wy hSw; obtain ⟨y0, y1, y2, y3, y4, y5, y6, y7, y8, y9, y10, y11, y12⟩ := hSw; go_simp; try with_reducible rfl
    simp only [Act.put, List.setIfInBounds_toArray, List.set_cons_zero, List.set_cons_succ]
    refine wpAnyD_takeL (i := 8) (v := ?vv8r9) rfl (by kernel_rfl) (by kernel_rfl) (by kernel_rfl) (by kernel_rfl) (fun _ _ _ h => h) HT9.out rfl ?hy8r9 ?_
    case hy8r9 => intro wy hSw; obtain ⟨y0, y1, y2, y3, y4, y5, y6, y7, y8, y9, y10, y11, y12⟩ := hSw; go_simp; try with_reducible rfl
    simp only [Act.put, List.setIfInBounds_toArray, List.set_cons_zero, List.set_cons_succ]
    refine wpAnyD_takeL (i := 9) (v := ?vv9r9) rfl (by kernel_rfl) (by kernel_rfl) (by kernel_rfl) (by kernel_rfl) (fun _ _ _ h => h) HT9.out rfl ?hy9r9 ?_
    case hy9r9 => intro wy hSw; obtain ⟨y0, y1, y2, y3, y4, y5, y6, y7, y8, y9, y10, y11, y12⟩ := hSw; go_simp; try with_reducible rfl
    simp only [Act.put, List.setIfInBounds_toArray, List.set_cons_zero, List.set_cons_succ]
    refine wpAnyD_takeL (i := 10) (v := ?vv10r9) rfl (by kernel_rfl) (by kernel_rfl) (by kernel_rfl) (by kernel_rfl) (fun _ _ _ h => h) HT9.out rfl ?hy10r9 ?_
    case hy10r9 => intro wy hSw; obtain ⟨y0, y1, y2, y3, y4, y5, y6, y7, y8, y9, y10, y11, y12⟩ := hSw; go_simp; try with_reducible rfl
    simp only [Act.put, List.setIfInBounds_toArray, List.set_cons_zero, List.set_cons_succ]
    refine wpAnyD_takeL (i := 11) (v := ?vv11r9) rfl (by kernel_rfl) (by kernel_rfl) (by kernel_rfl) (by kernel_rfl) (fun _ _ _ h => h) HT9.out rfl ?hy11r9 ?_
    case hy11r9 => intro wy hSw; obtain ⟨y0, y1, y2, y3, y4, y5, y6, y7, y8, y9, y10, y11, y12⟩ := hSw; go_simp; try with_reducible rfl
    simp only [Act.put, List.setIfInBounds_toArray, List.set_cons_zero, List.set_cons_succ]
    refine wpAnyD_takeL (i := 12) (v := ?vv12r9) rfl (by kernel_rfl) (by kernel_rfl) (by kernel_rfl) (by kernel_rfl) (fun _ _ _ h => h) HT9.out rfl ?hy12r9 ?_
    case hy12r9 => intro wy hSw; obtain ⟨y0, y1, y2, y3, y4, y5, y6, y7, y8, y9, y10, y11, y12⟩ := hSw; go_simp; try with_reducible rfl
    simp only [Act.put, List.setIfInBounds_toArray, List.set_cons_zero, List.set_cons_succ]
    refine wpAnyD_takeL (i := 13) (v := ?vv13r9) rfl (by kernel_rfl) (by kernel_rfl) (by kernel_rfl) (by kernel_rfl) (fun _ _ _ h => h) HT9.out rfl ?hy13r9 ?_
    case hy13r9 => intro wy hSw; obtain ⟨y0, y1, y2, y3, y4, y5, y6, y7, y8, y9, y10, y11, y12⟩ := hSw; go_simp; try with_reducible rfl
    simp only [Act.put, List.setIfInBounds_toArray, List.set_cons_zero, List.set_cons_succ]
    refine wpAnyD_takeL (i := 14) (v := ?vv14r9) rfl (by kernel_rfl) (by kernel_rfl) (by kernel_rfl) (by kernel_rfl) (fun _ _ _ h => h) HT9.out rfl ?hy14r9 ?_
    case hy14r9 => intro wy hSw; obtain ⟨y0, y1, y2, y3, y4, y5, y6, y7, y8, y9, y10, y11, y12⟩ := hSw; go_simp; try with_reducible rfl
    simp only [Act.put, List.setIfInBounds_toArray, List.set_cons_zero, List.set_cons_succ]
    refine wpAnyD_takeL (i := 15) (v := ?vv15r9) rfl (by kernel_rfl) (by kernel_rfl) (by kernel_rfl) (by kernel_rfl) (fun _ _ _ h => h) HT9.out rfl ?hy15r9 ?_
    case hy15r9 => intro wy hSw; obtain ⟨y0, y1, y2, y3, y4, y5, y6, y7, y8, y9, y10, y11, y12⟩ := hSw; go_simp; try with_reducible rfl
    simp only [Act.put, List.setIfInBounds_toArray, List.set_cons_zero, List.set_cons_succ]
    refine wpAnyD_takeL (i := 16) (v := ?vv16r9) rfl (by kernel_rfl) (by kernel_rfl) (by kernel_rfl) (by kernel_rfl) (fun _ _ _ h => h) HT9.out rfl ?hy16r9 ?_
    case hy16r9 => intro wy hSw; obtain ⟨y0, y1, y2, y3, y4, y5, y6, y7, y8, y9, y10, y11, y12⟩ := hSw; go_simp; try with_reducible rfl
    simp only [Act.put, List.setIfInBounds_toArray, List.set_cons_zero, List.set_cons_succ]
    refine wpAnyD_takeL (i := 17) (v := ?vv17r9) rfl (by kernel_rfl) (by kernel_rfl) (by kernel_rfl) (by kernel_rfl) (fun _ _ _ h => h) HT9.out rfl ?hy17r9 ?_
    case hy17r9 => intro wy hSw; obtain ⟨y0, y1, y2, y3, y4, y5, y6, y7, y8, y9, y10, y11, y12⟩ := hSw; go_simp; try with_reducible rfl
    simp only [Act.put, List.setIfInBounds_toArray, List.set_cons_zero, List.set_cons_succ]
    refine wpAnyD_takeL (i := 18) (v := ?vv18r9) rfl (by kernel_rfl) (by kernel_rfl) (by kernel_rfl) (by kernel_rfl) (fun _ _ _ h => h) HT9.out rfl ?hy18r9 ?_
    case hy18r9 => intro wy hSw; obtain ⟨y0, y1, y2, y3, y4, y5, y6, y7, y8, y9, y10, y11, y12⟩ := hSw; go_simp; try with_reducible rfl
    simp only [Act.put, List.setIfInBounds_toArray, List.set_cons_zero, List.set_cons_succ]
    refine wpAnyD_takeL (i := 19) (v := ?vv19r9) rfl (by kernel_rfl) (by kernel_rfl) (by kernel_rfl) (by kernel_rfl) (fun _ _ _ h => h) HT9.out rfl ?hy19r9 ?_
    case hy19r9 => intro wy hSw; obtain ⟨y0, y1, y2, y3, y4, y5, y6, y7, y8, y9, y10, y11, y12⟩ := hSw; go_simp; try with_reducible rfl
    simp only [Act.put, List.setIfInBounds_toArray, List.set_cons_zero, List.set_cons_succ]
    refine wpAnyD_takeL (i := 20) (v := ?vv20r9) rfl (by kernel_rfl) (by kernel_rfl) (by kernel_rfl) (by kernel_rfl) (fun _ _ _ h => h) HT9.out rfl ?hy20r9 ?_
    case hy20r9 => intro wy hSw; obtain ⟨y0, y1, y2, y3, y4, y5, y6, y7, y8, y9, y10, y11, y12⟩ := hSw; go_simp; try with_reducible rfl
    simp only [Act.put, List.setIfInBounds_toArray, List.set_cons_zero, List.set_cons_succ]
    refine wpAnyD_takeL (i := 21) (v := ?vv21r9) rfl (by kernel_rfl) (by kernel_rfl) (by kernel_rfl) (by kernel_rfl) (fun _ _ _ h => h) HT9.out rfl ?hy21r9 ?_
    case hy21r9 => intro wy hSw; obtain ⟨y0, y1, y2, y3, y4, y5, y6, y7, y8, y9, y10, y11, y12⟩ := hSw; go_simp; try with_reducible rfl
    simp only [Act.put, List.setIfInBounds_toArray, List.set_cons_zero, List.set_cons_succ]
    refine wpAnyD_stepL (i := 22) (by kernel_rfl) rfl (fun K hK => ?_)
    go_simp
    have HA9 : Hid (Below Y9.heap.size Y9 ((Y9.alloc (Obj.cells #[.int .i64 0, .string ⟨#[]⟩, .int .i64 0, .float .f64 0, .slice none 0 0, .int .i64 0] 34)).drew)) := hidb (((Below.refl _ _).alloc (Nat.le_refl _) _).drew)
    refine hK _ _ (fun _ => HS9.out _ HA9.out) ?_
    clear hK K
    refine wpAnyD_stepL (i := 23) (by kernel_rfl) rfl (fun K hK => ?_)
    have HB9 := Six.new Y9 34 (.int .i64 0) (.string ⟨#[]⟩) (.int .i64 0) (.float .f64 0) (.slice none 0 0) (.int .i64 0)
    obtain ⟨z0, z1, z2, z3, z4, z5, y0, y1, y2, y3, y4, y5, -⟩ := HB9
    go_simp
    clear z0 z1 z2 z3 z4 z5 y0 y1 y2 y3 y4 y5
    refine hK _ _ (fun h => absurd (List.mem_singleton.2 rfl) h) ?_
    clear hK K
    refine wpAnyD_done (by kernel_rfl) ?_ _
    have HY10 : Hid (Below X.heap.size X (Y9.alloc (Obj.cells #[.int .i64 bk, .string bx, .int .i64 bn, .float .f64 bf, .slice (some ⟨kB, 0, none⟩) LB cB, .int .i64 (bp : Int)] 34)).drew ∧ Below Y9.heap.size Y9 (Y9.alloc (Obj.cells #[.int .i64 bk, .string bx, .int .i64 bn, .float .f64 bf, .slice (some ⟨kB, 0, none⟩) LB cB, .int .i64 (bp : Int)] 34)).drew) := hidb ⟨(HY9.out.alloc HY9.out.size _).drew, (below_new Y9 _).drew⟩
    obtain ⟨cb, hcb⟩ : ∃ cb, Y9.heap.size = cb := ⟨_, rfl⟩
    have Nc : Hid ((Y9.alloc (Obj.cells #[.int .i64 bk, .string bx, .int .i64 bn, .float .f64 bf, .slice (some ⟨kB, 0, none⟩) LB cB, .int .i64 (bp : Int)] 34)).drew.cell? ⟨cb, 4, none⟩ = some (.slice (some ⟨kB, 0, none⟩) LB cB) ∧ cb < (Y9.alloc (Obj.cells #[.int .i64 bk, .string bx, .int .i64 bn, .float .f64 bf, .slice (some ⟨kB, 0, none⟩) LB cB, .int .i64 (bp : Int)] 34)).drew.heap.size) := hidb (by
      rw [← hcb]
      have h := (Six.new Y9 34 (.int .i64 bk) (.string bx) (.int .i64 bn) (.float .f64 bf) (.slice (some ⟨kB, 0, none⟩) LB cB) (.int .i64 (bp : Int))).keep (Below.refl _ _).drew
      exact ⟨h.c4, h.lt⟩)
    generalize (Y9.alloc (Obj.cells #[.int .i64 bk, .string bx, .int .i64 bn, .float .f64 bf, .slice (some ⟨kB, 0, none⟩) LB cB, .int .i64 (bp : Int)] 34)).drew = Y10 at HY10 Nc ⊢
    rw [hcb]
    have HCB := hidb hcb
    clear hcb
    go_wp2_with fail
    have HKA : Hid (mA.k = mA.k) := hidb rfl
    obtain ⟨ak, hak⟩ : ∃ k, mA.k = k := ⟨_, rfl⟩
    have HAK := hidb hak
    have HD10 := hidb HY10.out.1.drew
    have HT10 : Hid (Y10.drew.cell? ⟨tb, 0, none⟩ = some (.slice (some ⟨q, 0, none⟩) vm vc) ∧ Y10.drew.cell? ⟨tb, 1, none⟩ = some (.int .i64 (r : Int)) ∧ Y10.drew.cell? ⟨q, r * 6 + 4, none⟩ = some (.slice (some ⟨kR, 0, none⟩) LR cR) ∧ Y10.drew.cell? ⟨nb, 4, none⟩ = some (.slice (some ⟨kF, 0, none⟩) LF cF) ∧ Y10.drew.cell? ⟨kF, 0, none⟩ = some (.int .i64 (iC : Int)) ∧ Y10.drew.cell? ⟨q, iC * 6 + 4, none⟩ = some (.slice (some ⟨kC, 0, none⟩) LC cC) ∧ Y10.drew.cell? ⟨cb, 4, none⟩ = some (.slice (some ⟨kB, 0, none⟩) LB cB) ∧ Y10.drew.cell? ⟨kB, 0, none⟩ = some (.int .i64 (a0 : Int)) ∧ Y10.drew.cell? ⟨q, a0 * 6, none⟩ = some (.int .i64 ak) ∧ Y10.drew.cell? ⟨q, a0 * 6 + 4, none⟩ = some (.slice aA LA cA)) := hidb (by
      have hx := HD10.out
      have h1 := CT.out _ hx
      have h2 := (CR.out _ hx).1
      have h3 := ((Below.refl _ Y10).drew.cell (p := ⟨cb, 4, none⟩) Nc.out.2).trans Nc.out.1
      have h4 := (((HY10.out.2.drew).cell (p := ⟨nb, 4, none⟩) Nn.out.2)).trans Nn.out.1
      have h5 := (CFn.out _ hx).2
      have h6 := (CC.out _ hx).1
      have h7 := (CB.out _ hx).2
      have h8 := CA.out _ hx
      rw [hak] at h8
      exact ⟨h1.1, h1.2, h2, h4, h5, h6, h3, h7, h8.1, h8.2⟩)
    clear hak HKA
    refine wp_region_D (fun W9 => W9.cell? ⟨tb, 0, none⟩ = some (.slice (some ⟨q, 0, none⟩) vm vc) ∧ W9.cell? ⟨tb, 1, none⟩ = some (.int .i64 (r : Int)) ∧ W9.cell? ⟨q, r * 6 + 4, none⟩ = some (.slice (some ⟨kR, 0, none⟩) LR cR) ∧ W9.cell? ⟨nb, 4, none⟩ = some (.slice (some ⟨kF, 0, none⟩) LF cF) ∧ W9.cell? ⟨kF, 0, none⟩ = some (.int .i64 (iC : Int)) ∧ W9.cell? ⟨q, iC * 6 + 4, none⟩ = some (.slice (some ⟨kC, 0, none⟩) LC cC) ∧ W9.cell? ⟨cb, 4, none⟩ = some (.slice (some ⟨kB, 0, none⟩) LB cB) ∧ W9.cell? ⟨kB, 0, none⟩ = some (.int .i64 (a0 : Int)) ∧ W9.cell? ⟨q, a0 * 6, none⟩ = some (.int .i64 ak) ∧ W9.cell? ⟨q, a0 * 6 + 4, none⟩ = some (.slice aA LA cA)) [] (by kernel_rfl) ?_
    generalize Y10.drew = Y11 at HD10 HT10 ⊢
    refine wpAnyD_takeL (i := 0) (v := ?vv0x10n1) rfl (by kernel_rfl) (by kernel_rfl) (by kernel_rfl) (by kernel_rfl) (fun _ _ _ h => h) HT10.out rfl ?hy0x10n1 ?_
    case hy0x10n1 => intro wy hSw; obtain ⟨y0, y1, y2, y3, y4, y5, y6, y7, y8, y9⟩ := hSw; go_simp; try with_reducible rfl
    simp only [Act.put, List.setIfInBounds_toArray, List.set_cons_zero, List.set_cons_succ]
    refine wpAnyD_takeL (i := 1) (v := ?vv1x10n2) rfl (by kernel_rfl) (by kernel_rfl) (by kernel_rfl) (by kernel_rfl) (fun _ _ _ h => h) HT10.out rfl ?hy1x10n2 ?_
    case hy1x10n2 => intro wy hSw; obtain ⟨y0, y1, y2, y3, y4, y5, y6, y7, y8, y9⟩ := hSw; go_simp; try with_reducible rfl
    simp only [Act.put, List.setIfInBounds_toArray, List.set_cons_zero, List.set_cons_succ]
    refine wpAnyD_takeL (i := 2) (v := ?vv2x10n3) rfl (by kernel_rfl) (by kernel_rfl) (by kernel_rfl) (by kernel_rfl) (fun _ _ _ h => h) HT10.out rfl ?hy2x10n3 ?_
    case hy2x10n3 => intro wy hSw; obtain ⟨y0, y1, y2, y3, y4, y5, y6, y7, y8, y9⟩ := hSw; go_simp; try with_reducible rfl
    simp only [Act.put, List.setIfInBounds_toArray, List.set_cons_zero, List.set_cons_succ]
    refine wpAnyD_takeL (i := 3) (v := ?vv3x10n4) rfl (by kernel_rfl) (by kernel_rfl) (by kernel_rfl) (by kernel_rfl) (fun _ _ _ h => h) HT10.out rfl ?hy3x10n4 ?_
    case hy3x10n4 => intro wy hSw; obtain ⟨y0, y1, y2, y3, y4, y5, y6, y7, y8, y9⟩ := hSw; go_simp; try with_reducible rfl
    simp only [Act.put, List.setIfInBounds_toArray, List.set_cons_zero, List.set_cons_succ]
    refine wpAnyD_takeL (i := 4) (v := ?vv4x10n5) rfl (by kernel_rfl) (by kernel_rfl) (by kernel_rfl) (by kernel_rfl) (fun _ _ _ h => h) HT10.out rfl ?hy4x10n5 ?_
    case hy4x10n5 => intro wy hSw; obtain ⟨y0, y1, y2, y3, y4, y5, y6, y7, y8, y9⟩ := hSw; go_simp; try with_reducible rfl
    simp only [Act.put, List.setIfInBounds_toArray, List.set_cons_zero, List.set_cons_succ]
    refine wpAnyD_takeL (i := 5) (v := ?vv5x10n6) rfl (by kernel_rfl) (by kernel_rfl) (by kernel_rfl) (by kernel_rfl) (fun _ _ _ h => h) HT10.out rfl ?hy5x10n6 ?_
    case hy5x10n6 => intro wy hSw; obtain ⟨y0, y1, y2, y3, y4, y5, y6, y7, y8, y9⟩ := hSw; go_simp; try with_reducible rfl
    simp only [Act.put, List.setIfInBounds_toArray, List.set_cons_zero, List.set_cons_succ]
    refine wpAnyD_takeL (i := 6) (v := ?vv6x10n7) rfl (by kernel_rfl) (by kernel_rfl) (by kernel_rfl) (by kernel_rfl) (fun _ _ _ h => h) HT10.out rfl ?hy6x10n7 ?_
    case hy6x10n7 => intro wy hSw; obtain ⟨y0, y1, y2, y3, y4, y5, y6, y7, y8, y9⟩ := hSw; go_simp; try with_reducible rfl
    simp only [Act.put, List.setIfInBounds_toArray, List.set_cons_zero, List.set_cons_succ]
    refine wpAnyD_takeL (i := 7) (v := ?vv7x10n8) rfl (by kernel_rfl) (by kernel_rfl) (by kernel_rfl) (by kernel_rfl) (fun _ _ _ h => h) HT10.out rfl ?hy7x10n8 ?_
    case hy7x10n8 => intro wy hSw; obtain ⟨y0, y1, y2, y3, y4, y5, y6, y7, y8, y9⟩ := hSw; go_simp; try with_reducible rfl
    simp only [Act.put, List.setIfInBounds_toArray, List.set_cons_zero, List.set_cons_succ]
    by_cases n1 : (LR : Int) = 1
    rotate_left
    · skip
      refine wpAnyD_takeL (i := 8) (v := .bool true) rfl (by kernel_rfl) (by kernel_rfl) (by kernel_rfl) (by kernel_rfl) (fun _ _ _ h => h) HT10.out rfl ?cc8true ?_
      case cc8true => intro wy hSw; go_simp; first | done | simp [n1]
      simp only [Act.put, List.setIfInBounds_toArray, List.set_cons_zero, List.set_cons_succ]
      refine wpAnyD_takeL (i := 9) (v := ?vv9x10n9) rfl (by kernel_rfl) (by kernel_rfl) (by kernel_rfl) (by kernel_rfl) (fun _ _ _ h => h) HT10.out rfl ?hy9x10n9 ?_
      case hy9x10n9 => intro wy hSw; obtain ⟨y0, y1, y2, y3, y4, y5, y6, y7, y8, y9⟩ := hSw; go_simp; try with_reducible rfl
      simp only [Act.put, List.setIfInBounds_toArray, List.set_cons_zero, List.set_cons_succ]
      refine wpAnyD_skipG (i := 10) rfl (by kernel_rfl) (by kernel_rfl) (by kernel_rfl) (by kernel_rfl) (fun _ _ _ h => h) HT10.out (by simp [Region.wanted, yielded]) ?_
      simp only [Act.put, List.setIfInBounds_toArray, List.set_cons_zero, List.set_cons_succ]
      refine wpAnyD_skipG (i := 11) rfl (by kernel_rfl) (by kernel_rfl) (by kernel_rfl) (by kernel_rfl) (fun _ _ _ h => h) HT10.out (by simp [Region.wanted, yielded]) ?_
      simp only [Act.put, List.setIfInBounds_toArray, List.set_cons_zero, List.set_cons_succ]
      refine wpAnyD_skipG (i := 12) rfl (by kernel_rfl) (by kernel_rfl) (by kernel_rfl) (by kernel_rfl) (fun _ _ _ h => h) HT10.out (by simp [Region.wanted, yielded]) ?_
      simp only [Act.put, List.setIfInBounds_toArray, List.set_cons_zero, List.set_cons_succ]
      refine wpAnyD_skipG (i := 13) rfl (by kernel_rfl) (by kernel_rfl) (by kernel_rfl) (by kernel_rfl) (fun _ _ _ h => h) HT10.out (by simp [Region.wanted, yielded]) ?_
      simp only [Act.put, List.setIfInBounds_toArray, List.set_cons_zero, List.set_cons_succ]
      refine wpAnyD_skipG (i := 14) rfl (by kernel_rfl) (by kernel_rfl) (by kernel_rfl) (by kernel_rfl) (fun _ _ _ h => h) HT10.out (by simp [Region.wanted, yielded]) ?_
      simp only [Act.put, List.setIfInBounds_toArray, List.set_cons_zero, List.set_cons_succ]
      refine wpAnyD_skipG (i := 15) rfl (by kernel_rfl) (by kernel_rfl) (by kernel_rfl) (by kernel_rfl) (fun _ _ _ h => h) HT10.out (by simp [Region.wanted, yielded]) ?_
      simp only [Act.put, List.setIfInBounds_toArray, List.set_cons_zero, List.set_cons_succ]
      refine wpAnyD_skipG (i := 16) rfl (by kernel_rfl) (by kernel_rfl) (by kernel_rfl) (by kernel_rfl) (fun _ _ _ h => h) HT10.out (by simp [Region.wanted, yielded]) ?_
      simp only [Act.put, List.setIfInBounds_toArray, List.set_cons_zero, List.set_cons_succ]
      refine wpAnyD_skipG (i := 17) rfl (by kernel_rfl) (by kernel_rfl) (by kernel_rfl) (by kernel_rfl) (fun _ _ _ h => h) HT10.out (by simp [Region.wanted, yielded]) ?_
      simp only [Act.put, List.setIfInBounds_toArray, List.set_cons_zero, List.set_cons_succ]
      refine wpAnyD_skipG (i := 18) rfl (by kernel_rfl) (by kernel_rfl) (by kernel_rfl) (by kernel_rfl) (fun _ _ _ h => h) HT10.out (by simp [Region.wanted, yielded]) ?_
      simp only [Act.put, List.setIfInBounds_toArray, List.set_cons_zero, List.set_cons_succ]
      refine wpAnyD_skipG (i := 19) rfl (by kernel_rfl) (by kernel_rfl) (by kernel_rfl) (by kernel_rfl) (fun _ _ _ h => h) HT10.out (by simp [Region.wanted, yielded]) ?_
      simp only [Act.put, List.setIfInBounds_toArray, List.set_cons_zero, List.set_cons_succ]
      refine wpAnyD_skipG (i := 20) rfl (by kernel_rfl) (by kernel_rfl) (by kernel_rfl) (by kernel_rfl) (fun _ _ _ h => h) HT10.out (by simp [Region.wanted, yielded]) ?_
      simp only [Act.put, List.setIfInBounds_toArray, List.set_cons_zero, List.set_cons_succ]
      refine wpAnyD_takeL (i := 21) (v := ?vv21x10n10) rfl (by kernel_rfl) (by kernel_rfl) (by kernel_rfl) (by kernel_rfl) (fun _ _ _ h => h) HT10.out rfl ?hy21x10n10 ?_
      case hy21x10n10 => intro wy hSw; obtain ⟨y0, y1, y2, y3, y4, y5, y6, y7, y8, y9⟩ := hSw; go_simp; try with_reducible rfl
      simp only [Act.put, List.setIfInBounds_toArray, List.set_cons_zero, List.set_cons_succ]
      refine wpAnyD_takeL (i := 22) (v := ?vv22x10n11) rfl (by kernel_rfl) (by kernel_rfl) (by kernel_rfl) (by kernel_rfl) (fun _ _ _ h => h) HT10.out rfl ?hy22x10n11 ?_
      case hy22x10n11 => intro wy hSw; obtain ⟨y0, y1, y2, y3, y4, y5, y6, y7, y8, y9⟩ := hSw; go_simp; try with_reducible rfl
      simp only [Act.put, List.setIfInBounds_toArray, List.set_cons_zero, List.set_cons_succ]
      refine wpAnyD_skipG (i := 23) rfl (by kernel_rfl) (by kernel_rfl) (by kernel_rfl) (by kernel_rfl) (fun _ _ _ h => h) HT10.out (by simp [Region.wanted, yielded]) ?_
      simp only [Act.put, List.setIfInBounds_toArray, List.set_cons_zero, List.set_cons_succ]
      refine wpAnyD_skipG (i := 24) rfl (by kernel_rfl) (by kernel_rfl) (by kernel_rfl) (by kernel_rfl) (fun _ _ _ h => h) HT10.out (by simp [Region.wanted, yielded]) ?_
      simp only [Act.put, List.setIfInBounds_toArray, List.set_cons_zero, List.set_cons_succ]
      refine wpAnyD_skipG (i := 25) rfl (by kernel_rfl) (by kernel_rfl) (by kernel_rfl) (by kernel_rfl) (fun _ _ _ h => h) HT10.out (by simp [Region.wanted, yielded]) ?_
      simp only [Act.put, List.setIfInBounds_toArray, List.set_cons_zero, List.set_cons_succ]
      refine wpAnyD_skipG (i := 26) rfl (by kernel_rfl) (by kernel_rfl) (by kernel_rfl) (by kernel_rfl) (fun _ _ _ h => h) HT10.out (by simp [Region.wanted, yielded]) ?_
      simp only [Act.put, List.setIfInBounds_toArray, List.set_cons_zero, List.set_cons_succ]
      refine wpAnyD_takeL (i := 27) (v := ?vv27x10n12) rfl (by kernel_rfl) (by kernel_rfl) (by kernel_rfl) (by kernel_rfl) (fun _ _ _ h => h) HT10.out rfl ?hy27x10n12 ?_
      case hy27x10n12 => intro wy hSw; obtain ⟨y0, y1, y2, y3, y4, y5, y6, y7, y8, y9⟩ := hSw; go_simp; try with_reducible rfl
      simp only [Act.put, List.setIfInBounds_toArray, List.set_cons_zero, List.set_cons_succ]
      refine wpAnyD_takeL (i := 28) (v := ?vv28x10n13) rfl (by kernel_rfl) (by kernel_rfl) (by kernel_rfl) (by kernel_rfl) (fun _ _ _ h => h) HT10.out rfl ?hy28x10n13 ?_
      case hy28x10n13 => intro wy hSw; obtain ⟨y0, y1, y2, y3, y4, y5, y6, y7, y8, y9⟩ := hSw; go_simp; try with_reducible rfl
      simp only [Act.put, List.setIfInBounds_toArray, List.set_cons_zero, List.set_cons_succ]
      refine wpAnyD_skipG (i := 29) rfl (by kernel_rfl) (by kernel_rfl) (by kernel_rfl) (by kernel_rfl) (fun _ _ _ h => h) HT10.out (by simp [Region.wanted, yielded]) ?_
      simp only [Act.put, List.setIfInBounds_toArray, List.set_cons_zero, List.set_cons_succ]
      refine wpAnyD_skipG (i := 30) rfl (by kernel_rfl) (by kernel_rfl) (by kernel_rfl) (by kernel_rfl) (fun _ _ _ h => h) HT10.out (by simp [Region.wanted, yielded]) ?_
      simp only [Act.put, List.setIfInBounds_toArray, List.set_cons_zero, List.set_cons_succ]
      refine wpAnyD_skipG (i := 31) rfl (by kernel_rfl) (by kernel_rfl) (by kernel_rfl) (by kernel_rfl) (fun _ _ _ h => h) HT10.out (by simp [Region.wanted, yielded]) ?_
      simp only [Act.put, List.setIfInBounds_toArray, List.set_cons_zero, List.set_cons_succ]
      refine wpAnyD_skipG (i := 32) rfl (by kernel_rfl) (by kernel_rfl) (by kernel_rfl) (by kernel_rfl) (fun _ _ _ h => h) HT10.out (by simp [Region.wanted, yielded]) ?_
      simp only [Act.put, List.setIfInBounds_toArray, List.set_cons_zero, List.set_cons_succ]
      refine wpAnyD_skipG (i := 33) rfl (by kernel_rfl) (by kernel_rfl) (by kernel_rfl) (by kernel_rfl) (fun _ _ _ h => h) HT10.out (by simp [Region.wanted, yielded]) ?_
      simp only [Act.put, List.setIfInBounds_toArray, List.set_cons_zero, List.set_cons_succ]
      refine wpAnyD_skipG (i := 34) rfl (by kernel_rfl) (by kernel_rfl) (by kernel_rfl) (by kernel_rfl) (fun _ _ _ h => h) HT10.out (by simp [Region.wanted, yielded]) ?_
      simp only [Act.put, List.setIfInBounds_toArray, List.set_cons_zero, List.set_cons_succ]
      refine wpAnyD_skipG (i := 35) rfl (by kernel_rfl) (by kernel_rfl) (by kernel_rfl) (by kernel_rfl) (fun _ _ _ h => h) HT10.out (by simp [Region.wanted, yielded]) ?_
      simp only [Act.put, List.setIfInBounds_toArray, List.set_cons_zero, List.set_cons_succ]
      refine wpAnyD_skipG (i := 36) rfl (by kernel_rfl) (by kernel_rfl) (by kernel_rfl) (by kernel_rfl) (fun _ _ _ h => h) HT10.out (by simp [Region.wanted, yielded]) ?_
      simp only [Act.put, List.setIfInBounds_toArray, List.set_cons_zero, List.set_cons_succ]
      refine wpAnyD_skipG (i := 37) rfl (by kernel_rfl) (by kernel_rfl) (by kernel_rfl) (by kernel_rfl) (fun _ _ _ h => h) HT10.out (by simp [Region.wanted, yielded]) ?_
      simp only [Act.put, List.setIfInBounds_toArray, List.set_cons_zero, List.set_cons_succ]
      refine wpAnyD_skipG (i := 38) rfl (by kernel_rfl) (by kernel_rfl) (by kernel_rfl) (by kernel_rfl) (fun _ _ _ h => h) HT10.out (by simp [Region.wanted, yielded]) ?_
      simp only [Act.put, List.setIfInBounds_toArray, List.set_cons_zero, List.set_cons_succ]
      refine wpAnyD_skipG (i := 39) rfl (by kernel_rfl) (by kernel_rfl) (by kernel_rfl) (by kernel_rfl) (fun _ _ _ h => h) HT10.out (by simp [Region.wanted, yielded]) ?_
      simp only [Act.put, List.setIfInBounds_toArray, List.set_cons_zero, List.set_cons_succ]
      refine wpAnyD_takeL (i := 40) (v := ?vv40x10n14) rfl (by kernel_rfl) (by kernel_rfl) (by kernel_rfl) (by kernel_rfl) (fun _ _ _ h => h) HT10.out rfl ?hy40x10n14 ?_
      case hy40x10n14 => intro wy hSw; obtain ⟨y0, y1, y2, y3, y4, y5, y6, y7, y8, y9⟩ := hSw; go_simp; try with_reducible rfl
      simp only [Act.put, List.setIfInBounds_toArray, List.set_cons_zero, List.set_cons_succ]
      refine wpAnyD_takeL (i := 41) (v := ?vv41x10n15) rfl (by kernel_rfl) (by kernel_rfl) (by kernel_rfl) (by kernel_rfl) (fun _ _ _ h => h) HT10.out rfl ?hy41x10n15 ?_
      case hy41x10n15 => intro wy hSw; obtain ⟨y0, y1, y2, y3, y4, y5, y6, y7, y8, y9⟩ := hSw; go_simp; try with_reducible rfl
      simp only [Act.put, List.setIfInBounds_toArray, List.set_cons_zero, List.set_cons_succ]
      refine wpAnyD_skipG (i := 42) rfl (by kernel_rfl) (by kernel_rfl) (by kernel_rfl) (by kernel_rfl) (fun _ _ _ h => h) HT10.out (by simp [Region.wanted, yielded]) ?_
      simp only [Act.put, List.setIfInBounds_toArray, List.set_cons_zero, List.set_cons_succ]
      refine wpAnyD_skipG (i := 43) rfl (by kernel_rfl) (by kernel_rfl) (by kernel_rfl) (by kernel_rfl) (fun _ _ _ h => h) HT10.out (by simp [Region.wanted, yielded]) ?_
      simp only [Act.put, List.setIfInBounds_toArray, List.set_cons_zero, List.set_cons_succ]
      refine wpAnyD_skipG (i := 44) rfl (by kernel_rfl) (by kernel_rfl) (by kernel_rfl) (by kernel_rfl) (fun _ _ _ h => h) HT10.out (by simp [Region.wanted, yielded]) ?_
      simp only [Act.put, List.setIfInBounds_toArray, List.set_cons_zero, List.set_cons_succ]
      refine wpAnyD_skipG (i := 45) rfl (by kernel_rfl) (by kernel_rfl) (by kernel_rfl) (by kernel_rfl) (fun _ _ _ h => h) HT10.out (by simp [Region.wanted, yielded]) ?_
      simp only [Act.put, List.setIfInBounds_toArray, List.set_cons_zero, List.set_cons_succ]
      refine wpAnyD_skipG (i := 46) rfl (by kernel_rfl) (by kernel_rfl) (by kernel_rfl) (by kernel_rfl) (fun _ _ _ h => h) HT10.out (by simp [Region.wanted, yielded]) ?_
      simp only [Act.put, List.setIfInBounds_toArray, List.set_cons_zero, List.set_cons_succ]
      refine wpAnyD_skipG (i := 47) rfl (by kernel_rfl) (by kernel_rfl) (by kernel_rfl) (by kernel_rfl) (fun _ _ _ h => h) HT10.out (by simp [Region.wanted, yielded]) ?_
      simp only [Act.put, List.setIfInBounds_toArray, List.set_cons_zero, List.set_cons_succ]
      refine wpAnyD_skipG (i := 48) rfl (by kernel_rfl) (by kernel_rfl) (by kernel_rfl) (by kernel_rfl) (fun _ _ _ h => h) HT10.out (by simp [Region.wanted, yielded]) ?_
      simp only [Act.put, List.setIfInBounds_toArray, List.set_cons_zero, List.set_cons_succ]
      refine wpAnyD_skipG (i := 49) rfl (by kernel_rfl) (by kernel_rfl) (by kernel_rfl) (by kernel_rfl) (fun _ _ _ h => h) HT10.out (by simp [Region.wanted, yielded]) ?_
      simp only [Act.put, List.setIfInBounds_toArray, List.set_cons_zero, List.set_cons_succ]
      refine wpAnyD_skipG (i := 50) rfl (by kernel_rfl) (by kernel_rfl) (by kernel_rfl) (by kernel_rfl) (fun _ _ _ h => h) HT10.out (by simp [Region.wanted, yielded]) ?_
      simp only [Act.put, List.setIfInBounds_toArray, List.set_cons_zero, List.set_cons_succ]
      refine wpAnyD_skipG (i := 51) rfl (by kernel_rfl) (by kernel_rfl) (by kernel_rfl) (by kernel_rfl) (fun _ _ _ h => h) HT10.out (by simp [Region.wanted, yielded]) ?_
      simp only [Act.put, List.setIfInBounds_toArray, List.set_cons_zero, List.set_cons_succ]
      refine wpAnyD_takeL (i := 52) (v := ?vv52x10n16) rfl (by kernel_rfl) (by kernel_rfl) (by kernel_rfl) (by kernel_rfl) (fun _ _ _ h => h) HT10.out rfl ?hy52x10n16 ?_
      case hy52x10n16 => intro wy hSw; obtain ⟨y0, y1, y2, y3, y4, y5, y6, y7, y8, y9⟩ := hSw; go_simp; try with_reducible rfl
      simp only [Act.put, List.setIfInBounds_toArray, List.set_cons_zero, List.set_cons_succ]
      refine wpAnyD_done (by kernel_rfl) ?_ _
      go_wp2_with fail
      go_ret
      exact ⟨rfl, HX.out.trans (HD10.out.mono HX.out.size)⟩
    refine wpAnyD_takeL (i := 8) (v := .bool false) rfl (by kernel_rfl) (by kernel_rfl) (by kernel_rfl) (by kernel_rfl) (fun _ _ _ h => h) HT10.out rfl ?cc8false ?_
    case cc8false => intro wy hSw; go_simp; first | done | simp [n1]
    simp only [Act.put, List.setIfInBounds_toArray, List.set_cons_zero, List.set_cons_succ]
    refine wpAnyD_takeL (i := 9) (v := ?vv9x10n17) rfl (by kernel_rfl) (by kernel_rfl) (by kernel_rfl) (by kernel_rfl) (fun _ _ _ h => h) HT10.out rfl ?hy9x10n17 ?_
    case hy9x10n17 => intro wy hSw; obtain ⟨y0, y1, y2, y3, y4, y5, y6, y7, y8, y9⟩ := hSw; go_simp; try with_reducible rfl
    simp only [Act.put, List.setIfInBounds_toArray, List.set_cons_zero, List.set_cons_succ]
    refine wpAnyD_takeG (i := 10) (v := ?vv10x10n18) rfl (by kernel_rfl) (by kernel_rfl) (by kernel_rfl) (by kernel_rfl) (fun _ _ _ h => h) HT10.out (by simp [Region.wanted, yielded]) ?hy10x10n18 ?_
    case hy10x10n18 => intro wy hSw; obtain ⟨y0, y1, y2, y3, y4, y5, y6, y7, y8, y9⟩ := hSw; go_simp; try with_reducible rfl
    simp only [Act.put, List.setIfInBounds_toArray, List.set_cons_zero, List.set_cons_succ]
    refine wpAnyD_takeG (i := 11) (v := ?vv11x10n19) rfl (by kernel_rfl) (by kernel_rfl) (by kernel_rfl) (by kernel_rfl) (fun _ _ _ h => h) HT10.out (by simp [Region.wanted, yielded]) ?hy11x10n19 ?_
    case hy11x10n19 => intro wy hSw; obtain ⟨y0, y1, y2, y3, y4, y5, y6, y7, y8, y9⟩ := hSw; go_simp; try with_reducible rfl
    simp only [Act.put, List.setIfInBounds_toArray, List.set_cons_zero, List.set_cons_succ]
    refine wpAnyD_takeG (i := 12) (v := ?vv12x10n20) rfl (by kernel_rfl) (by kernel_rfl) (by kernel_rfl) (by kernel_rfl) (fun _ _ _ h => h) HT10.out (by simp [Region.wanted, yielded]) ?hy12x10n20 ?_
    case hy12x10n20 => intro wy hSw; obtain ⟨y0, y1, y2, y3, y4, y5, y6, y7, y8, y9⟩ := hSw; go_simp; try with_reducible rfl
    simp only [Act.put, List.setIfInBounds_toArray, List.set_cons_zero, List.set_cons_succ]
    refine wpAnyD_takeG (i := 13) (v := ?vv13x10n21) rfl (by kernel_rfl) (by kernel_rfl) (by kernel_rfl) (by kernel_rfl) (fun _ _ _ h => h) HT10.out (by simp [Region.wanted, yielded]) ?hy13x10n21 ?_
    case hy13x10n21 => intro wy hSw; obtain ⟨y0, y1, y2, y3, y4, y5, y6, y7, y8, y9⟩ := hSw; go_simp; try with_reducible rfl
    simp only [Act.put, List.setIfInBounds_toArray, List.set_cons_zero, List.set_cons_succ]
    refine wpAnyD_takeG (i := 14) (v := ?vv14x10n22) rfl (by kernel_rfl) (by kernel_rfl) (by kernel_rfl) (by kernel_rfl) (fun _ _ _ h => h) HT10.out (by simp [Region.wanted, yielded]) ?hy14x10n22 ?_
    case hy14x10n22 => intro wy hSw; obtain ⟨y0, y1, y2, y3, y4, y5, y6, y7, y8, y9⟩ := hSw; go_simp; try with_reducible rfl
    simp only [Act.put, List.setIfInBounds_toArray, List.set_cons_zero, List.set_cons_succ]
    refine wpAnyD_takeG (i := 15) (v := ?vv15x10n23) rfl (by kernel_rfl) (by kernel_rfl) (by kernel_rfl) (by kernel_rfl) (fun _ _ _ h => h) HT10.out (by simp [Region.wanted, yielded]) ?hy15x10n23 ?_
    case hy15x10n23 => intro wy hSw; obtain ⟨y0, y1, y2, y3, y4, y5, y6, y7, y8, y9⟩ := hSw; go_simp; try with_reducible rfl
    simp only [Act.put, List.setIfInBounds_toArray, List.set_cons_zero, List.set_cons_succ]
    refine wpAnyD_takeG (i := 16) (v := ?vv16x10n24) rfl (by kernel_rfl) (by kernel_rfl) (by kernel_rfl) (by kernel_rfl) (fun _ _ _ h => h) HT10.out (by simp [Region.wanted, yielded]) ?hy16x10n24 ?_
    case hy16x10n24 => intro wy hSw; obtain ⟨y0, y1, y2, y3, y4, y5, y6, y7, y8, y9⟩ := hSw; go_simp; try with_reducible rfl
    simp only [Act.put, List.setIfInBounds_toArray, List.set_cons_zero, List.set_cons_succ]
    refine wpAnyD_takeG (i := 17) (v := ?vv17x10n25) rfl (by kernel_rfl) (by kernel_rfl) (by kernel_rfl) (by kernel_rfl) (fun _ _ _ h => h) HT10.out (by simp [Region.wanted, yielded]) ?hy17x10n25 ?_
    case hy17x10n25 => intro wy hSw; obtain ⟨y0, y1, y2, y3, y4, y5, y6, y7, y8, y9⟩ := hSw; go_simp; try with_reducible rfl
    simp only [Act.put, List.setIfInBounds_toArray, List.set_cons_zero, List.set_cons_succ]
    refine wpAnyD_takeG (i := 18) (v := ?vv18x10n26) rfl (by kernel_rfl) (by kernel_rfl) (by kernel_rfl) (by kernel_rfl) (fun _ _ _ h => h) HT10.out (by simp [Region.wanted, yielded]) ?hy18x10n26 ?_
    case hy18x10n26 => intro wy hSw; obtain ⟨y0, y1, y2, y3, y4, y5, y6, y7, y8, y9⟩ := hSw; go_simp; try with_reducible rfl
    simp only [Act.put, List.setIfInBounds_toArray, List.set_cons_zero, List.set_cons_succ]
    refine wpAnyD_takeG (i := 19) (v := ?vv19x10n27) rfl (by kernel_rfl) (by kernel_rfl) (by kernel_rfl) (by kernel_rfl) (fun _ _ _ h => h) HT10.out (by simp [Region.wanted, yielded]) ?hy19x10n27 ?_
    case hy19x10n27 => intro wy hSw; obtain ⟨y0, y1, y2, y3, y4, y5, y6, y7, y8, y9⟩ := hSw; go_simp; try with_reducible rfl
    simp only [Act.put, List.setIfInBounds_toArray, List.set_cons_zero, List.set_cons_succ]
    by_cases n2 : (LC : Int) = 1
    rotate_left
    · skip
      refine wpAnyD_takeG (i := 20) (v := .bool true) rfl (by kernel_rfl) (by kernel_rfl) (by kernel_rfl) (by kernel_rfl) (fun _ _ _ h => h) HT10.out (by simp [Region.wanted, yielded]) ?cc20true ?_
      case cc20true => intro wy hSw; go_simp; first | done | simp [n2]
      simp only [Act.put, List.setIfInBounds_toArray, List.set_cons_zero, List.set_cons_succ]
      refine wpAnyD_takeL (i := 21) (v := ?vv21x10n28) rfl (by kernel_rfl) (by kernel_rfl) (by kernel_rfl) (by kernel_rfl) (fun _ _ _ h => h) HT10.out rfl ?hy21x10n28 ?_
      case hy21x10n28 => intro wy hSw; obtain ⟨y0, y1, y2, y3, y4, y5, y6, y7, y8, y9⟩ := hSw; go_simp; try with_reducible rfl
      simp only [Act.put, List.setIfInBounds_toArray, List.set_cons_zero, List.set_cons_succ]
      refine wpAnyD_takeL (i := 22) (v := ?vv22x10n29) rfl (by kernel_rfl) (by kernel_rfl) (by kernel_rfl) (by kernel_rfl) (fun _ _ _ h => h) HT10.out rfl ?hy22x10n29 ?_
      case hy22x10n29 => intro wy hSw; obtain ⟨y0, y1, y2, y3, y4, y5, y6, y7, y8, y9⟩ := hSw; go_simp; try with_reducible rfl
      simp only [Act.put, List.setIfInBounds_toArray, List.set_cons_zero, List.set_cons_succ]
      refine wpAnyD_skipG (i := 23) rfl (by kernel_rfl) (by kernel_rfl) (by kernel_rfl) (by kernel_rfl) (fun _ _ _ h => h) HT10.out (by simp [Region.wanted, yielded]) ?_
      simp only [Act.put, List.setIfInBounds_toArray, List.set_cons_zero, List.set_cons_succ]
      refine wpAnyD_skipG (i := 24) rfl (by kernel_rfl) (by kernel_rfl) (by kernel_rfl) (by kernel_rfl) (fun _ _ _ h => h) HT10.out (by simp [Region.wanted, yielded]) ?_
      simp only [Act.put, List.setIfInBounds_toArray, List.set_cons_zero, List.set_cons_succ]
      refine wpAnyD_skipG (i := 25) rfl (by kernel_rfl) (by kernel_rfl) (by kernel_rfl) (by kernel_rfl) (fun _ _ _ h => h) HT10.out (by simp [Region.wanted, yielded]) ?_
      simp only [Act.put, List.setIfInBounds_toArray, List.set_cons_zero, List.set_cons_succ]
      refine wpAnyD_skipG (i := 26) rfl (by kernel_rfl) (by kernel_rfl) (by kernel_rfl) (by kernel_rfl) (fun _ _ _ h => h) HT10.out (by simp [Region.wanted, yielded]) ?_
      simp only [Act.put, List.setIfInBounds_toArray, List.set_cons_zero, List.set_cons_succ]
      refine wpAnyD_takeL (i := 27) (v := ?vv27x10n30) rfl (by kernel_rfl) (by kernel_rfl) (by kernel_rfl) (by kernel_rfl) (fun _ _ _ h => h) HT10.out rfl ?hy27x10n30 ?_
      case hy27x10n30 => intro wy hSw; obtain ⟨y0, y1, y2, y3, y4, y5, y6, y7, y8, y9⟩ := hSw; go_simp; try with_reducible rfl
      simp only [Act.put, List.setIfInBounds_toArray, List.set_cons_zero, List.set_cons_succ]
      refine wpAnyD_takeL (i := 28) (v := ?vv28x10n31) rfl (by kernel_rfl) (by kernel_rfl) (by kernel_rfl) (by kernel_rfl) (fun _ _ _ h => h) HT10.out rfl ?hy28x10n31 ?_
      case hy28x10n31 => intro wy hSw; obtain ⟨y0, y1, y2, y3, y4, y5, y6, y7, y8, y9⟩ := hSw; go_simp; try with_reducible rfl
      simp only [Act.put, List.setIfInBounds_toArray, List.set_cons_zero, List.set_cons_succ]
      refine wpAnyD_skipG (i := 29) rfl (by kernel_rfl) (by kernel_rfl) (by kernel_rfl) (by kernel_rfl) (fun _ _ _ h => h) HT10.out (by simp [Region.wanted, yielded]) ?_
      simp only [Act.put, List.setIfInBounds_toArray, List.set_cons_zero, List.set_cons_succ]
      refine wpAnyD_skipG (i := 30) rfl (by kernel_rfl) (by kernel_rfl) (by kernel_rfl) (by kernel_rfl) (fun _ _ _ h => h) HT10.out (by simp [Region.wanted, yielded]) ?_
      simp only [Act.put, List.setIfInBounds_toArray, List.set_cons_zero, List.set_cons_succ]
      refine wpAnyD_skipG (i := 31) rfl (by kernel_rfl) (by kernel_rfl) (by kernel_rfl) (by kernel_rfl) (fun _ _ _ h => h) HT10.out (by simp [Region.wanted, yielded]) ?_
      simp only [Act.put, List.setIfInBounds_toArray, List.set_cons_zero, List.set_cons_succ]
      refine wpAnyD_skipG (i := 32) rfl (by kernel_rfl) (by kernel_rfl) (by kernel_rfl) (by kernel_rfl) (fun _ _ _ h => h) HT10.out (by simp [Region.wanted, yielded]) ?_
      simp only [Act.put, List.setIfInBounds_toArray, List.set_cons_zero, List.set_cons_succ]
      refine wpAnyD_skipG (i := 33) rfl (by kernel_rfl) (by kernel_rfl) (by kernel_rfl) (by kernel_rfl) (fun _ _ _ h => h) HT10.out (by simp [Region.wanted, yielded]) ?_
      simp only [Act.put, List.setIfInBounds_toArray, List.set_cons_zero, List.set_cons_succ]
      refine wpAnyD_skipG (i := 34) rfl (by kernel_rfl) (by kernel_rfl) (by kernel_rfl) (by kernel_rfl) (fun _ _ _ h => h) HT10.out (by simp [Region.wanted, yielded]) ?_
      simp only [Act.put, List.setIfInBounds_toArray, List.set_cons_zero, List.set_cons_succ]
      refine wpAnyD_skipG (i := 35) rfl (by kernel_rfl) (by kernel_rfl) (by kernel_rfl) (by kernel_rfl) (fun _ _ _ h => h) HT10.out (by simp [Region.wanted, yielded]) ?_
      simp only [Act.put, List.setIfInBounds_toArray, List.set_cons_zero, List.set_cons_succ]
      refine wpAnyD_skipG (i := 36) rfl (by kernel_rfl) (by kernel_rfl) (by kernel_rfl) (by kernel_rfl) (fun _ _ _ h => h) HT10.out (by simp [Region.wanted, yielded]) ?_
      simp only [Act.put, List.setIfInBounds_toArray, List.set_cons_zero, List.set_cons_succ]
      refine wpAnyD_skipG (i := 37) rfl (by kernel_rfl) (by kernel_rfl) (by kernel_rfl) (by kernel_rfl) (fun _ _ _ h => h) HT10.out (by simp [Region.wanted, yielded]) ?_
      simp only [Act.put, List.setIfInBounds_toArray, List.set_cons_zero, List.set_cons_succ]
      refine wpAnyD_skipG (i := 38) rfl (by kernel_rfl) (by kernel_rfl) (by kernel_rfl) (by kernel_rfl) (fun _ _ _ h => h) HT10.out (by simp [Region.wanted, yielded]) ?_
      simp only [Act.put, List.setIfInBounds_toArray, List.set_cons_zero, List.set_cons_succ]
      refine wpAnyD_skipG (i := 39) rfl (by kernel_rfl) (by kernel_rfl) (by kernel_rfl) (by kernel_rfl) (fun _ _ _ h => h) HT10.out (by simp [Region.wanted, yielded]) ?_
      simp only [Act.put, List.setIfInBounds_toArray, List.set_cons_zero, List.set_cons_succ]
      refine wpAnyD_takeL (i := 40) (v := ?vv40x10n32) rfl (by kernel_rfl) (by kernel_rfl) (by kernel_rfl) (by kernel_rfl) (fun _ _ _ h => h) HT10.out rfl ?hy40x10n32 ?_
      case hy40x10n32 => intro wy hSw; obtain ⟨y0, y1, y2, y3, y4, y5, y6, y7, y8, y9⟩ := hSw; go_simp; try with_reducible rfl
      simp only [Act.put, List.setIfInBounds_toArray, List.set_cons_zero, List.set_cons_succ]
      refine wpAnyD_takeL (i := 41) (v := ?vv41x10n33) rfl (by kernel_rfl) (by kernel_rfl) (by kernel_rfl) (by kernel_rfl) (fun _ _ _ h => h) HT10.out rfl ?hy41x10n33 ?_
      case hy41x10n33 => intro wy hSw; obtain ⟨y0, y1, y2, y3, y4, y5, y6, y7, y8, y9⟩ := hSw; go_simp; try with_reducible rfl
      simp only [Act.put, List.setIfInBounds_toArray, List.set_cons_zero, List.set_cons_succ]
      refine wpAnyD_skipG (i := 42) rfl (by kernel_rfl) (by kernel_rfl) (by kernel_rfl) (by kernel_rfl) (fun _ _ _ h => h) HT10.out (by simp [Region.wanted, yielded]) ?_
      simp only [Act.put, List.setIfInBounds_toArray, List.set_cons_zero, List.set_cons_succ]
      refine wpAnyD_skipG (i := 43) rfl (by kernel_rfl) (by kernel_rfl) (by kernel_rfl) (by kernel_rfl) (fun _ _ _ h => h) HT10.out (by simp [Region.wanted, yielded]) ?_
      simp only [Act.put, List.setIfInBounds_toArray, List.set_cons_zero, List.set_cons_succ]
      refine wpAnyD_skipG (i := 44) rfl (by kernel_rfl) (by kernel_rfl) (by kernel_rfl) (by kernel_rfl) (fun _ _ _ h => h) HT10.out (by simp [Region.wanted, yielded]) ?_
      simp only [Act.put, List.setIfInBounds_toArray, List.set_cons_zero, List.set_cons_succ]
      refine wpAnyD_skipG (i := 45) rfl (by kernel_rfl) (by kernel_rfl) (by kernel_rfl) (by kernel_rfl) (fun _ _ _ h => h) HT10.out (by simp [Region.wanted, yielded]) ?_
      simp only [Act.put, List.setIfInBounds_toArray, List.set_cons_zero, List.set_cons_succ]
      refine wpAnyD_skipG (i := 46) rfl (by kernel_rfl) (by kernel_rfl) (by kernel_rfl) (by kernel_rfl) (fun _ _ _ h => h) HT10.out (by simp [Region.wanted, yielded]) ?_
      simp only [Act.put, List.setIfInBounds_toArray, List.set_cons_zero, List.set_cons_succ]
      refine wpAnyD_skipG (i := 47) rfl (by kernel_rfl) (by kernel_rfl) (by kernel_rfl) (by kernel_rfl) (fun _ _ _ h => h) HT10.out (by simp [Region.wanted, yielded]) ?_
      simp only [Act.put, List.setIfInBounds_toArray, List.set_cons_zero, List.set_cons_succ]
      refine wpAnyD_skipG (i := 48) rfl (by kernel_rfl) (by kernel_rfl) (by kernel_rfl) (by kernel_rfl) (fun _ _ _ h => h) HT10.out (by simp [Region.wanted, yielded]) ?_
      simp only [Act.put, List.setIfInBounds_toArray, List.set_cons_zero, List.set_cons_succ]
      refine wpAnyD_skipG (i := 49) rfl (by kernel_rfl) (by kernel_rfl) (by kernel_rfl) (by kernel_rfl) (fun _ _ _ h => h) HT10.out (by simp [Region.wanted, yielded]) ?_
      simp only [Act.put, List.setIfInBounds_toArray, List.set_cons_zero, List.set_cons_succ]
      refine wpAnyD_skipG (i := 50) rfl (by kernel_rfl) (by kernel_rfl) (by kernel_rfl) (by kernel_rfl) (fun _ _ _ h => h) HT10.out (by simp [Region.wanted, yielded]) ?_
      simp only [Act.put, List.setIfInBounds_toArray, List.set_cons_zero, List.set_cons_succ]
      refine wpAnyD_skipG (i := 51) rfl (by kernel_rfl) (by kernel_rfl) (by kernel_rfl) (by kernel_rfl) (fun _ _ _ h => h) HT10.out (by simp [Region.wanted, yielded]) ?_
      simp only [Act.put, List.setIfInBounds_toArray, List.set_cons_zero, List.set_cons_succ]
      refine wpAnyD_takeL (i := 52) (v := ?vv52x10n34) rfl (by kernel_rfl) (by kernel_rfl) (by kernel_rfl) (by kernel_rfl) (fun _ _ _ h => h) HT10.out rfl ?hy52x10n34 ?_
      case hy52x10n34 => intro wy hSw; obtain ⟨y0, y1, y2, y3, y4, y5, y6, y7, y8, y9⟩ := hSw; go_simp; try with_reducible rfl
      simp only [Act.put, List.setIfInBounds_toArray, List.set_cons_zero, List.set_cons_succ]
      refine wpAnyD_done (by kernel_rfl) ?_ _
      go_wp2_with fail
      go_ret
      exact ⟨rfl, HX.out.trans (HD10.out.mono HX.out.size)⟩
    refine wpAnyD_takeG (i := 20) (v := .bool false) rfl (by kernel_rfl) (by kernel_rfl) (by kernel_rfl) (by kernel_rfl) (fun _ _ _ h => h) HT10.out (by simp [Region.wanted, yielded]) ?cc20false ?_
    case cc20false => intro wy hSw; go_simp; first | done | simp [n2]
    simp only [Act.put, List.setIfInBounds_toArray, List.set_cons_zero, List.set_cons_succ]
    refine wpAnyD_takeL (i := 21) (v := ?vv21x10n35) rfl (by kernel_rfl) (by kernel_rfl) (by kernel_rfl) (by kernel_rfl) (fun _ _ _ h => h) HT10.out rfl ?hy21x10n35 ?_
    case hy21x10n35 => intro wy hSw; obtain ⟨y0, y1, y2, y3, y4, y5, y6, y7, y8, y9⟩ := hSw; go_simp; try with_reducible rfl
    simp only [Act.put, List.setIfInBounds_toArray, List.set_cons_zero, List.set_cons_succ]
    refine wpAnyD_takeL (i := 22) (v := ?vv22x10n36) rfl (by kernel_rfl) (by kernel_rfl) (by kernel_rfl) (by kernel_rfl) (fun _ _ _ h => h) HT10.out rfl ?hy22x10n36 ?_
    case hy22x10n36 => intro wy hSw; obtain ⟨y0, y1, y2, y3, y4, y5, y6, y7, y8, y9⟩ := hSw; go_simp; try with_reducible rfl
    simp only [Act.put, List.setIfInBounds_toArray, List.set_cons_zero, List.set_cons_succ]
    refine wpAnyD_takeG (i := 23) (v := ?vv23x10n37) rfl (by kernel_rfl) (by kernel_rfl) (by kernel_rfl) (by kernel_rfl) (fun _ _ _ h => h) HT10.out (by simp [Region.wanted, yielded]) ?hy23x10n37 ?_
    case hy23x10n37 => intro wy hSw; obtain ⟨y0, y1, y2, y3, y4, y5, y6, y7, y8, y9⟩ := hSw; go_simp; try with_reducible rfl
    simp only [Act.put, List.setIfInBounds_toArray, List.set_cons_zero, List.set_cons_succ]
    refine wpAnyD_takeG (i := 24) (v := ?vv24x10n38) rfl (by kernel_rfl) (by kernel_rfl) (by kernel_rfl) (by kernel_rfl) (fun _ _ _ h => h) HT10.out (by simp [Region.wanted, yielded]) ?hy24x10n38 ?_
    case hy24x10n38 => intro wy hSw; obtain ⟨y0, y1, y2, y3, y4, y5, y6, y7, y8, y9⟩ := hSw; go_simp; try with_reducible rfl
    simp only [Act.put, List.setIfInBounds_toArray, List.set_cons_zero, List.set_cons_succ]
    refine wpAnyD_takeG (i := 25) (v := ?vv25x10n39) rfl (by kernel_rfl) (by kernel_rfl) (by kernel_rfl) (by kernel_rfl) (fun _ _ _ h => h) HT10.out (by simp [Region.wanted, yielded]) ?hy25x10n39 ?_
    case hy25x10n39 => intro wy hSw; obtain ⟨y0, y1, y2, y3, y4, y5, y6, y7, y8, y9⟩ := hSw; go_simp; try with_reducible rfl
    simp only [Act.put, List.setIfInBounds_toArray, List.set_cons_zero, List.set_cons_succ]
    by_cases n3 : (LB : Int) = 1
    rotate_left
    · skip
      refine wpAnyD_takeG (i := 26) (v := .bool true) rfl (by kernel_rfl) (by kernel_rfl) (by kernel_rfl) (by kernel_rfl) (fun _ _ _ h => h) HT10.out (by simp [Region.wanted, yielded]) ?cc26true ?_
      case cc26true => intro wy hSw; go_simp; first | done | simp [n3]
      simp only [Act.put, List.setIfInBounds_toArray, List.set_cons_zero, List.set_cons_succ]
      refine wpAnyD_takeL (i := 27) (v := ?vv27x10n40) rfl (by kernel_rfl) (by kernel_rfl) (by kernel_rfl) (by kernel_rfl) (fun _ _ _ h => h) HT10.out rfl ?hy27x10n40 ?_
      case hy27x10n40 => intro wy hSw; obtain ⟨y0, y1, y2, y3, y4, y5, y6, y7, y8, y9⟩ := hSw; go_simp; try with_reducible rfl
      simp only [Act.put, List.setIfInBounds_toArray, List.set_cons_zero, List.set_cons_succ]
      refine wpAnyD_takeL (i := 28) (v := ?vv28x10n41) rfl (by kernel_rfl) (by kernel_rfl) (by kernel_rfl) (by kernel_rfl) (fun _ _ _ h => h) HT10.out rfl ?hy28x10n41 ?_
      case hy28x10n41 => intro wy hSw; obtain ⟨y0, y1, y2, y3, y4, y5, y6, y7, y8, y9⟩ := hSw; go_simp; try with_reducible rfl
      simp only [Act.put, List.setIfInBounds_toArray, List.set_cons_zero, List.set_cons_succ]
      refine wpAnyD_skipG (i := 29) rfl (by kernel_rfl) (by kernel_rfl) (by kernel_rfl) (by kernel_rfl) (fun _ _ _ h => h) HT10.out (by simp [Region.wanted, yielded]) ?_
      simp only [Act.put, List.setIfInBounds_toArray, List.set_cons_zero, List.set_cons_succ]
      refine wpAnyD_skipG (i := 30) rfl (by kernel_rfl) (by kernel_rfl) (by kernel_rfl) (by kernel_rfl) (fun _ _ _ h => h) HT10.out (by simp [Region.wanted, yielded]) ?_
      simp only [Act.put, List.setIfInBounds_toArray, List.set_cons_zero, List.set_cons_succ]
      refine wpAnyD_skipG (i := 31) rfl (by kernel_rfl) (by kernel_rfl) (by kernel_rfl) (by kernel_rfl) (fun _ _ _ h => h) HT10.out (by simp [Region.wanted, yielded]) ?_
      simp only [Act.put, List.setIfInBounds_toArray, List.set_cons_zero, List.set_cons_succ]
      refine wpAnyD_skipG (i := 32) rfl (by kernel_rfl) (by kernel_rfl) (by kernel_rfl) (by kernel_rfl) (fun _ _ _ h => h) HT10.out (by simp [Region.wanted, yielded]) ?_
      simp only [Act.put, List.setIfInBounds_toArray, List.set_cons_zero, List.set_cons_succ]
      refine wpAnyD_skipG (i := 33) rfl (by kernel_rfl) (by kernel_rfl) (by kernel_rfl) (by kernel_rfl) (fun _ _ _ h => h) HT10.out (by simp [Region.wanted, yielded]) ?_
      simp only [Act.put, List.setIfInBounds_toArray, List.set_cons_zero, List.set_cons_succ]
      refine wpAnyD_skipG (i := 34) rfl (by kernel_rfl) (by kernel_rfl) (by kernel_rfl) (by kernel_rfl) (fun _ _ _ h => h) HT10.out (by simp [Region.wanted, yielded]) ?_
      simp only [Act.put, List.setIfInBounds_toArray, List.set_cons_zero, List.set_cons_succ]
      refine wpAnyD_skipG (i := 35) rfl (by kernel_rfl) (by kernel_rfl) (by kernel_rfl) (by kernel_rfl) (fun _ _ _ h => h) HT10.out (by simp [Region.wanted, yielded]) ?_
      simp only [Act.put, List.setIfInBounds_toArray, List.set_cons_zero, List.set_cons_succ]
      refine wpAnyD_skipG (i := 36) rfl (by kernel_rfl) (by kernel_rfl) (by kernel_rfl) (by kernel_rfl) (fun _ _ _ h => h) HT10.out (by simp [Region.wanted, yielded]) ?_
      simp only [Act.put, List.setIfInBounds_toArray, List.set_cons_zero, List.set_cons_succ]
      refine wpAnyD_skipG (i := 37) rfl (by kernel_rfl) (by kernel_rfl) (by kernel_rfl) (by kernel_rfl) (fun _ _ _ h => h) HT10.out (by simp [Region.wanted, yielded]) ?_
      simp only [Act.put, List.setIfInBounds_toArray, List.set_cons_zero, List.set_cons_succ]
      refine wpAnyD_skipG (i := 38) rfl (by kernel_rfl) (by kernel_rfl) (by kernel_rfl) (by kernel_rfl) (fun _ _ _ h => h) HT10.out (by simp [Region.wanted, yielded]) ?_
      simp only [Act.put, List.setIfInBounds_toArray, List.set_cons_zero, List.set_cons_succ]
      refine wpAnyD_skipG (i := 39) rfl (by kernel_rfl) (by kernel_rfl) (by kernel_rfl) (by kernel_rfl) (fun _ _ _ h => h) HT10.out (by simp [Region.wanted, yielded]) ?_
      simp only [Act.put, List.setIfInBounds_toArray, List.set_cons_zero, List.set_cons_succ]
      refine wpAnyD_takeL (i := 40) (v := ?vv40x10n42) rfl (by kernel_rfl) (by kernel_rfl) (by kernel_rfl) (by kernel_rfl) (fun _ _ _ h => h) HT10.out rfl ?hy40x10n42 ?_
      case hy40x10n42 => intro wy hSw; obtain ⟨y0, y1, y2, y3, y4, y5, y6, y7, y8, y9⟩ := hSw; go_simp; try with_reducible rfl
      simp only [Act.put, List.setIfInBounds_toArray, List.set_cons_zero, List.set_cons_succ]
      refine wpAnyD_takeL (i := 41) (v := ?vv41x10n43) rfl (by kernel_rfl) (by kernel_rfl) (by kernel_rfl) (by kernel_rfl) (fun _ _ _ h => h) HT10.out rfl ?hy41x10n43 ?_
      case hy41x10n43 => intro wy hSw; obtain ⟨y0, y1, y2, y3, y4, y5, y6, y7, y8, y9⟩ := hSw; go_simp; try with_reducible rfl
      simp only [Act.put, List.setIfInBounds_toArray, List.set_cons_zero, List.set_cons_succ]
      refine wpAnyD_skipG (i := 42) rfl (by kernel_rfl) (by kernel_rfl) (by kernel_rfl) (by kernel_rfl) (fun _ _ _ h => h) HT10.out (by simp [Region.wanted, yielded]) ?_
      simp only [Act.put, List.setIfInBounds_toArray, List.set_cons_zero, List.set_cons_succ]
      refine wpAnyD_skipG (i := 43) rfl (by kernel_rfl) (by kernel_rfl) (by kernel_rfl) (by kernel_rfl) (fun _ _ _ h => h) HT10.out (by simp [Region.wanted, yielded]) ?_
      simp only [Act.put, List.setIfInBounds_toArray, List.set_cons_zero, List.set_cons_succ]
      refine wpAnyD_skipG (i := 44) rfl (by kernel_rfl) (by kernel_rfl) (by kernel_rfl) (by kernel_rfl) (fun _ _ _ h => h) HT10.out (by simp [Region.wanted, yielded]) ?_
      simp only [Act.put, List.setIfInBounds_toArray, List.set_cons_zero, List.set_cons_succ]
      refine wpAnyD_skipG (i := 45) rfl (by kernel_rfl) (by kernel_rfl) (by kernel_rfl) (by kernel_rfl) (fun _ _ _ h => h) HT10.out (by simp [Region.wanted, yielded]) ?_
      simp only [Act.put, List.setIfInBounds_toArray, List.set_cons_zero, List.set_cons_succ]
      refine wpAnyD_skipG (i := 46) rfl (by kernel_rfl) (by kernel_rfl) (by kernel_rfl) (by kernel_rfl) (fun _ _ _ h => h) HT10.out (by simp [Region.wanted, yielded]) ?_
      simp only [Act.put, List.setIfInBounds_toArray, List.set_cons_zero, List.set_cons_succ]
      refine wpAnyD_skipG (i := 47) rfl (by kernel_rfl) (by kernel_rfl) (by kernel_rfl) (by kernel_rfl) (fun _ _ _ h => h) HT10.out (by simp [Region.wanted, yielded]) ?_
      simp only [Act.put, List.setIfInBounds_toArray, List.set_cons_zero, List.set_cons_succ]
      refine wpAnyD_skipG (i := 48) rfl (by kernel_rfl) (by kernel_rfl) (by kernel_rfl) (by kernel_rfl) (fun _ _ _ h => h) HT10.out (by simp [Region.wanted, yielded]) ?_
      simp only [Act.put, List.setIfInBounds_toArray, List.set_cons_zero, List.set_cons_succ]
      refine wpAnyD_skipG (i := 49) rfl (by kernel_rfl) (by kernel_rfl) (by kernel_rfl) (by kernel_rfl) (fun _ _ _ h => h) HT10.out (by simp [Region.wanted, yielded]) ?_
      simp only [Act.put, List.setIfInBounds_toArray, List.set_cons_zero, List.set_cons_succ]
      refine wpAnyD_skipG (i := 50) rfl (by kernel_rfl) (by kernel_rfl) (by kernel_rfl) (by kernel_rfl) (fun _ _ _ h => h) HT10.out (by simp [Region.wanted, yielded]) ?_
      simp only [Act.put, List.setIfInBounds_toArray, List.set_cons_zero, List.set_cons_succ]
      refine wpAnyD_skipG (i := 51) rfl (by kernel_rfl) (by kernel_rfl) (by kernel_rfl) (by kernel_rfl) (fun _ _ _ h => h) HT10.out (by simp [Region.wanted, yielded]) ?_
      simp only [Act.put, List.setIfInBounds_toArray, List.set_cons_zero, List.set_cons_succ]
      refine wpAnyD_takeL (i := 52) (v := ?vv52x10n44) rfl (by kernel_rfl) (by kernel_rfl) (by kernel_rfl) (by kernel_rfl) (fun _ _ _ h => h) HT10.out rfl ?hy52x10n44 ?_
      case hy52x10n44 => intro wy hSw; obtain ⟨y0, y1, y2, y3, y4, y5, y6, y7, y8, y9⟩ := hSw; go_simp; try with_reducible rfl
      simp only [Act.put, List.setIfInBounds_toArray, List.set_cons_zero, List.set_cons_succ]
      refine wpAnyD_done (by kernel_rfl) ?_ _
      go_wp2_with fail
      go_ret
      exact ⟨rfl, HX.out.trans (HD10.out.mono HX.out.size)⟩
    refine wpAnyD_takeG (i := 26) (v := .bool false) rfl (by kernel_rfl) (by kernel_rfl) (by kernel_rfl) (by kernel_rfl) (fun _ _ _ h => h) HT10.out (by simp [Region.wanted, yielded]) ?cc26false ?_
    case cc26false => intro wy hSw; go_simp; first | done | simp [n3]
    simp only [Act.put, List.setIfInBounds_toArray, List.set_cons_zero, List.set_cons_succ]
    refine wpAnyD_takeL (i := 27) (v := ?vv27x10n45) rfl (by kernel_rfl) (by kernel_rfl) (by kernel_rfl) (by kernel_rfl) (fun _ _ _ h => h) HT10.out rfl ?hy27x10n45 ?_
    case hy27x10n45 => intro wy hSw; obtain ⟨y0, y1, y2, y3, y4, y5, y6, y7, y8, y9⟩ := hSw; go_simp; try with_reducible rfl
    simp only [Act.put, List.setIfInBounds_toArray, List.set_cons_zero, List.set_cons_succ]
    refine wpAnyD_takeL (i := 28) (v := ?vv28x10n46) rfl (by kernel_rfl) (by kernel_rfl) (by kernel_rfl) (by kernel_rfl) (fun _ _ _ h => h) HT10.out rfl ?hy28x10n46 ?_
    case hy28x10n46 => intro wy hSw; obtain ⟨y0, y1, y2, y3, y4, y5, y6, y7, y8, y9⟩ := hSw; go_simp; try with_reducible rfl
    simp only [Act.put, List.setIfInBounds_toArray, List.set_cons_zero, List.set_cons_succ]
    refine wpAnyD_takeG (i := 29) (v := ?vv29x10n47) rfl (by kernel_rfl) (by kernel_rfl) (by kernel_rfl) (by kernel_rfl) (fun _ _ _ h => h) HT10.out (by simp [Region.wanted, yielded]) ?hy29x10n47 ?_
    case hy29x10n47 => intro wy hSw; obtain ⟨y0, y1, y2, y3, y4, y5, y6, y7, y8, y9⟩ := hSw; go_simp; try with_reducible rfl
    simp only [Act.put, List.setIfInBounds_toArray, List.set_cons_zero, List.set_cons_succ]
    refine wpAnyD_takeG (i := 30) (v := ?vv30x10n48) rfl (by kernel_rfl) (by kernel_rfl) (by kernel_rfl) (by kernel_rfl) (fun _ _ _ h => h) HT10.out (by simp [Region.wanted, yielded]) ?hy30x10n48 ?_
    case hy30x10n48 => intro wy hSw; obtain ⟨y0, y1, y2, y3, y4, y5, y6, y7, y8, y9⟩ := hSw; go_simp; try with_reducible rfl
    simp only [Act.put, List.setIfInBounds_toArray, List.set_cons_zero, List.set_cons_succ]
    refine wpAnyD_takeG (i := 31) (v := ?vv31x10n49) rfl (by kernel_rfl) (by kernel_rfl) (by kernel_rfl) (by kernel_rfl) (fun _ _ _ h => h) HT10.out (by simp [Region.wanted, yielded]) ?hy31x10n49 ?_
    case hy31x10n49 => intro wy hSw; obtain ⟨y0, y1, y2, y3, y4, y5, y6, y7, y8, y9⟩ := hSw; go_simp; try with_reducible rfl
    simp only [Act.put, List.setIfInBounds_toArray, List.set_cons_zero, List.set_cons_succ]
    refine wpAnyD_takeG (i := 32) (v := ?vv32x10n50) rfl (by kernel_rfl) (by kernel_rfl) (by kernel_rfl) (by kernel_rfl) (fun _ _ _ h => h) HT10.out (by simp [Region.wanted, yielded]) ?hy32x10n50 ?_
    case hy32x10n50 => intro wy hSw; obtain ⟨y0, y1, y2, y3, y4, y5, y6, y7, y8, y9⟩ := hSw; go_simp; try with_reducible rfl
    simp only [Act.put, List.setIfInBounds_toArray, List.set_cons_zero, List.set_cons_succ]
    refine wpAnyD_takeG (i := 33) (v := ?vv33x10n51) rfl (by kernel_rfl) (by kernel_rfl) (by kernel_rfl) (by kernel_rfl) (fun _ _ _ h => h) HT10.out (by simp [Region.wanted, yielded]) ?hy33x10n51 ?_
    case hy33x10n51 => intro wy hSw; obtain ⟨y0, y1, y2, y3, y4, y5, y6, y7, y8, y9⟩ := hSw; go_simp; try with_reducible rfl
    simp only [Act.put, List.setIfInBounds_toArray, List.set_cons_zero, List.set_cons_succ]
    refine wpAnyD_takeG (i := 34) (v := ?vv34x10n52) rfl (by kernel_rfl) (by kernel_rfl) (by kernel_rfl) (by kernel_rfl) (fun _ _ _ h => h) HT10.out (by simp [Region.wanted, yielded]) ?hy34x10n52 ?_
    case hy34x10n52 => intro wy hSw; obtain ⟨y0, y1, y2, y3, y4, y5, y6, y7, y8, y9⟩ := hSw; go_simp; try with_reducible rfl
    simp only [Act.put, List.setIfInBounds_toArray, List.set_cons_zero, List.set_cons_succ]
    refine wpAnyD_takeG (i := 35) (v := ?vv35x10n53) rfl (by kernel_rfl) (by kernel_rfl) (by kernel_rfl) (by kernel_rfl) (fun _ _ _ h => h) HT10.out (by simp [Region.wanted, yielded]) ?hy35x10n53 ?_
    case hy35x10n53 => intro wy hSw; obtain ⟨y0, y1, y2, y3, y4, y5, y6, y7, y8, y9⟩ := hSw; go_simp; try with_reducible rfl
    simp only [Act.put, List.setIfInBounds_toArray, List.set_cons_zero, List.set_cons_succ]
    refine wpAnyD_takeG (i := 36) (v := ?vv36x10n54) rfl (by kernel_rfl) (by kernel_rfl) (by kernel_rfl) (by kernel_rfl) (fun _ _ _ h => h) HT10.out (by simp [Region.wanted, yielded]) ?hy36x10n54 ?_
    case hy36x10n54 => intro wy hSw; obtain ⟨y0, y1, y2, y3, y4, y5, y6, y7, y8, y9⟩ := hSw; go_simp; try with_reducible rfl
    simp only [Act.put, List.setIfInBounds_toArray, List.set_cons_zero, List.set_cons_succ]
    refine wpAnyD_takeG (i := 37) (v := ?vv37x10n55) rfl (by kernel_rfl) (by kernel_rfl) (by kernel_rfl) (by kernel_rfl) (fun _ _ _ h => h) HT10.out (by simp [Region.wanted, yielded]) ?hy37x10n55 ?_
    case hy37x10n55 => intro wy hSw; obtain ⟨y0, y1, y2, y3, y4, y5, y6, y7, y8, y9⟩ := hSw; go_simp; try with_reducible rfl
    simp only [Act.put, List.setIfInBounds_toArray, List.set_cons_zero, List.set_cons_succ]
    refine wpAnyD_takeG (i := 38) (v := ?vv38x10n56) rfl (by kernel_rfl) (by kernel_rfl) (by kernel_rfl) (by kernel_rfl) (fun _ _ _ h => h) HT10.out (by simp [Region.wanted, yielded]) ?hy38x10n56 ?_
    case hy38x10n56 => intro wy hSw; obtain ⟨y0, y1, y2, y3, y4, y5, y6, y7, y8, y9⟩ := hSw; go_simp; try with_reducible rfl
    simp only [Act.put, List.setIfInBounds_toArray, List.set_cons_zero, List.set_cons_succ]
    by_cases n4 : (LA : Int) = 1
    rotate_left
    · skip
      refine wpAnyD_takeG (i := 39) (v := .bool true) rfl (by kernel_rfl) (by kernel_rfl) (by kernel_rfl) (by kernel_rfl) (fun _ _ _ h => h) HT10.out (by simp [Region.wanted, yielded]) ?cc39true ?_
      case cc39true => intro wy hSw; go_simp; first | done | simp [n4]
      simp only [Act.put, List.setIfInBounds_toArray, List.set_cons_zero, List.set_cons_succ]
      refine wpAnyD_takeL (i := 40) (v := ?vv40x10n57) rfl (by kernel_rfl) (by kernel_rfl) (by kernel_rfl) (by kernel_rfl) (fun _ _ _ h => h) HT10.out rfl ?hy40x10n57 ?_
      case hy40x10n57 => intro wy hSw; obtain ⟨y0, y1, y2, y3, y4, y5, y6, y7, y8, y9⟩ := hSw; go_simp; try with_reducible rfl
      simp only [Act.put, List.setIfInBounds_toArray, List.set_cons_zero, List.set_cons_succ]
      refine wpAnyD_takeL (i := 41) (v := ?vv41x10n58) rfl (by kernel_rfl) (by kernel_rfl) (by kernel_rfl) (by kernel_rfl) (fun _ _ _ h => h) HT10.out rfl ?hy41x10n58 ?_
      case hy41x10n58 => intro wy hSw; obtain ⟨y0, y1, y2, y3, y4, y5, y6, y7, y8, y9⟩ := hSw; go_simp; try with_reducible rfl
      simp only [Act.put, List.setIfInBounds_toArray, List.set_cons_zero, List.set_cons_succ]
      refine wpAnyD_skipG (i := 42) rfl (by kernel_rfl) (by kernel_rfl) (by kernel_rfl) (by kernel_rfl) (fun _ _ _ h => h) HT10.out (by simp [Region.wanted, yielded]) ?_
      simp only [Act.put, List.setIfInBounds_toArray, List.set_cons_zero, List.set_cons_succ]
      refine wpAnyD_skipG (i := 43) rfl (by kernel_rfl) (by kernel_rfl) (by kernel_rfl) (by kernel_rfl) (fun _ _ _ h => h) HT10.out (by simp [Region.wanted, yielded]) ?_
      simp only [Act.put, List.setIfInBounds_toArray, List.set_cons_zero, List.set_cons_succ]
      refine wpAnyD_skipG (i := 44) rfl (by kernel_rfl) (by kernel_rfl) (by kernel_rfl) (by kernel_rfl) (fun _ _ _ h => h) HT10.out (by simp [Region.wanted, yielded]) ?_
      simp only [Act.put, List.setIfInBounds_toArray, List.set_cons_zero, List.set_cons_succ]
      refine wpAnyD_skipG (i := 45) rfl (by kernel_rfl) (by kernel_rfl) (by kernel_rfl) (by kernel_rfl) (fun _ _ _ h => h) HT10.out (by simp [Region.wanted, yielded]) ?_
      simp only [Act.put, List.setIfInBounds_toArray, List.set_cons_zero, List.set_cons_succ]
      refine wpAnyD_skipG (i := 46) rfl (by kernel_rfl) (by kernel_rfl) (by kernel_rfl) (by kernel_rfl) (fun _ _ _ h => h) HT10.out (by simp [Region.wanted, yielded]) ?_
      simp only [Act.put, List.setIfInBounds_toArray, List.set_cons_zero, List.set_cons_succ]
      refine wpAnyD_skipG (i := 47) rfl (by kernel_rfl) (by kernel_rfl) (by kernel_rfl) (by kernel_rfl) (fun _ _ _ h => h) HT10.out (by simp [Region.wanted, yielded]) ?_
      simp only [Act.put, List.setIfInBounds_toArray, List.set_cons_zero, List.set_cons_succ]
      refine wpAnyD_skipG (i := 48) rfl (by kernel_rfl) (by kernel_rfl) (by kernel_rfl) (by kernel_rfl) (fun _ _ _ h => h) HT10.out (by simp [Region.wanted, yielded]) ?_
      simp only [Act.put, List.setIfInBounds_toArray, List.set_cons_zero, List.set_cons_succ]
      refine wpAnyD_skipG (i := 49) rfl (by kernel_rfl) (by kernel_rfl) (by kernel_rfl) (by kernel_rfl) (fun _ _ _ h => h) HT10.out (by simp [Region.wanted, yielded]) ?_
      simp only [Act.put, List.setIfInBounds_toArray, List.set_cons_zero, List.set_cons_succ]
      refine wpAnyD_skipG (i := 50) rfl (by kernel_rfl) (by kernel_rfl) (by kernel_rfl) (by kernel_rfl) (fun _ _ _ h => h) HT10.out (by simp [Region.wanted, yielded]) ?_
      simp only [Act.put, List.setIfInBounds_toArray, List.set_cons_zero, List.set_cons_succ]
      refine wpAnyD_skipG (i := 51) rfl (by kernel_rfl) (by kernel_rfl) (by kernel_rfl) (by kernel_rfl) (fun _ _ _ h => h) HT10.out (by simp [Region.wanted, yielded]) ?_
      simp only [Act.put, List.setIfInBounds_toArray, List.set_cons_zero, List.set_cons_succ]
      refine wpAnyD_takeL (i := 52) (v := ?vv52x10n59) rfl (by kernel_rfl) (by kernel_rfl) (by kernel_rfl) (by kernel_rfl) (fun _ _ _ h => h) HT10.out rfl ?hy52x10n59 ?_
      case hy52x10n59 => intro wy hSw; obtain ⟨y0, y1, y2, y3, y4, y5, y6, y7, y8, y9⟩ := hSw; go_simp; try with_reducible rfl
      simp only [Act.put, List.setIfInBounds_toArray, List.set_cons_zero, List.set_cons_succ]
      refine wpAnyD_done (by kernel_rfl) ?_ _
      go_wp2_with fail
      go_ret
      exact ⟨rfl, HX.out.trans (HD10.out.mono HX.out.size)⟩
    refine wpAnyD_takeG (i := 39) (v := .bool false) rfl (by kernel_rfl) (by kernel_rfl) (by kernel_rfl) (by kernel_rfl) (fun _ _ _ h => h) HT10.out (by simp [Region.wanted, yielded]) ?cc39false ?_
    case cc39false => intro wy hSw; go_simp; first | done | simp [n4]
    simp only [Act.put, List.setIfInBounds_toArray, List.set_cons_zero, List.set_cons_succ]
    refine wpAnyD_takeL (i := 40) (v := ?vv40x10n60) rfl (by kernel_rfl) (by kernel_rfl) (by kernel_rfl) (by kernel_rfl) (fun _ _ _ h => h) HT10.out rfl ?hy40x10n60 ?_
    case hy40x10n60 => intro wy hSw; obtain ⟨y0, y1, y2, y3, y4, y5, y6, y7, y8, y9⟩ := hSw; go_simp; try with_reducible rfl
    simp only [Act.put, List.setIfInBounds_toArray, List.set_cons_zero, List.set_cons_succ]
    refine wpAnyD_takeL (i := 41) (v := ?vv41x10n61) rfl (by kernel_rfl) (by kernel_rfl) (by kernel_rfl) (by kernel_rfl) (fun _ _ _ h => h) HT10.out rfl ?hy41x10n61 ?_
    case hy41x10n61 => intro wy hSw; obtain ⟨y0, y1, y2, y3, y4, y5, y6, y7, y8, y9⟩ := hSw; go_simp; try with_reducible rfl
    simp only [Act.put, List.setIfInBounds_toArray, List.set_cons_zero, List.set_cons_succ]
    refine wpAnyD_takeG (i := 42) (v := ?vv42x10n62) rfl (by kernel_rfl) (by kernel_rfl) (by kernel_rfl) (by kernel_rfl) (fun _ _ _ h => h) HT10.out (by simp [Region.wanted, yielded]) ?hy42x10n62 ?_
    case hy42x10n62 => intro wy hSw; obtain ⟨y0, y1, y2, y3, y4, y5, y6, y7, y8, y9⟩ := hSw; go_simp; try with_reducible rfl
    simp only [Act.put, List.setIfInBounds_toArray, List.set_cons_zero, List.set_cons_succ]
    refine wpAnyD_takeG (i := 43) (v := ?vv43x10n63) rfl (by kernel_rfl) (by kernel_rfl) (by kernel_rfl) (by kernel_rfl) (fun _ _ _ h => h) HT10.out (by simp [Region.wanted, yielded]) ?hy43x10n63 ?_
    case hy43x10n63 => intro wy hSw; obtain ⟨y0, y1, y2, y3, y4, y5, y6, y7, y8, y9⟩ := hSw; go_simp; try with_reducible rfl
    simp only [Act.put, List.setIfInBounds_toArray, List.set_cons_zero, List.set_cons_succ]
    refine wpAnyD_takeG (i := 44) (v := ?vv44x10n64) rfl (by kernel_rfl) (by kernel_rfl) (by kernel_rfl) (by kernel_rfl) (fun _ _ _ h => h) HT10.out (by simp [Region.wanted, yielded]) ?hy44x10n64 ?_
    case hy44x10n64 => intro wy hSw; obtain ⟨y0, y1, y2, y3, y4, y5, y6, y7, y8, y9⟩ := hSw; go_simp; try with_reducible rfl
    simp only [Act.put, List.setIfInBounds_toArray, List.set_cons_zero, List.set_cons_succ]
    refine wpAnyD_takeG (i := 45) (v := ?vv45x10n65) rfl (by kernel_rfl) (by kernel_rfl) (by kernel_rfl) (by kernel_rfl) (fun _ _ _ h => h) HT10.out (by simp [Region.wanted, yielded]) ?hy45x10n65 ?_
    case hy45x10n65 => intro wy hSw; obtain ⟨y0, y1, y2, y3, y4, y5, y6, y7, y8, y9⟩ := hSw; go_simp; try with_reducible rfl
    simp only [Act.put, List.setIfInBounds_toArray, List.set_cons_zero, List.set_cons_succ]
    refine wpAnyD_takeG (i := 46) (v := ?vv46x10n66) rfl (by kernel_rfl) (by kernel_rfl) (by kernel_rfl) (by kernel_rfl) (fun _ _ _ h => h) HT10.out (by simp [Region.wanted, yielded]) ?hy46x10n66 ?_
    case hy46x10n66 => intro wy hSw; obtain ⟨y0, y1, y2, y3, y4, y5, y6, y7, y8, y9⟩ := hSw; go_simp; try with_reducible rfl
    simp only [Act.put, List.setIfInBounds_toArray, List.set_cons_zero, List.set_cons_succ]
    refine wpAnyD_takeG (i := 47) (v := ?vv47x10n67) rfl (by kernel_rfl) (by kernel_rfl) (by kernel_rfl) (by kernel_rfl) (fun _ _ _ h => h) HT10.out (by simp [Region.wanted, yielded]) ?hy47x10n67 ?_
    case hy47x10n67 => intro wy hSw; obtain ⟨y0, y1, y2, y3, y4, y5, y6, y7, y8, y9⟩ := hSw; go_simp; try with_reducible rfl
    simp only [Act.put, List.setIfInBounds_toArray, List.set_cons_zero, List.set_cons_succ]
    refine wpAnyD_takeG (i := 48) (v := ?vv48x10n68) rfl (by kernel_rfl) (by kernel_rfl) (by kernel_rfl) (by kernel_rfl) (fun _ _ _ h => h) HT10.out (by simp [Region.wanted, yielded]) ?hy48x10n68 ?_
    case hy48x10n68 => intro wy hSw; obtain ⟨y0, y1, y2, y3, y4, y5, y6, y7, y8, y9⟩ := hSw; go_simp; try with_reducible rfl
    simp only [Act.put, List.setIfInBounds_toArray, List.set_cons_zero, List.set_cons_succ]
    refine wpAnyD_takeG (i := 49) (v := ?vv49x10n69) rfl (by kernel_rfl) (by kernel_rfl) (by kernel_rfl) (by kernel_rfl) (fun _ _ _ h => h) HT10.out (by simp [Region.wanted, yielded]) ?hy49x10n69 ?_
    case hy49x10n69 => intro wy hSw; obtain ⟨y0, y1, y2, y3, y4, y5, y6, y7, y8, y9⟩ := hSw; go_simp; try with_reducible rfl
    simp only [Act.put, List.setIfInBounds_toArray, List.set_cons_zero, List.set_cons_succ]
    refine wpAnyD_takeG (i := 50) (v := ?vv50x10n70) rfl (by kernel_rfl) (by kernel_rfl) (by kernel_rfl) (by kernel_rfl) (fun _ _ _ h => h) HT10.out (by simp [Region.wanted, yielded]) ?hy50x10n70 ?_
    case hy50x10n70 => intro wy hSw; obtain ⟨y0, y1, y2, y3, y4, y5, y6, y7, y8, y9⟩ := hSw; go_simp; try with_reducible rfl
    simp only [Act.put, List.setIfInBounds_toArray, List.set_cons_zero, List.set_cons_succ]
    by_cases n5 : ak = 6
    rotate_left
    · skip
      refine wpAnyD_takeG (i := 51) (v := .bool true) rfl (by kernel_rfl) (by kernel_rfl) (by kernel_rfl) (by kernel_rfl) (fun _ _ _ h => h) HT10.out (by simp [Region.wanted, yielded]) ?cc51true ?_
      case cc51true => intro wy hSw; go_simp; first | done | simp [n5]
      simp only [Act.put, List.setIfInBounds_toArray, List.set_cons_zero, List.set_cons_succ]
      refine wpAnyD_takeL (i := 52) (v := ?vv52x10n71) rfl (by kernel_rfl) (by kernel_rfl) (by kernel_rfl) (by kernel_rfl) (fun _ _ _ h => h) HT10.out rfl ?hy52x10n71 ?_
      case hy52x10n71 => intro wy hSw; obtain ⟨y0, y1, y2, y3, y4, y5, y6, y7, y8, y9⟩ := hSw; go_simp; try with_reducible rfl
      simp only [Act.put, List.setIfInBounds_toArray, List.set_cons_zero, List.set_cons_succ]
      refine wpAnyD_done (by kernel_rfl) ?_ _
      go_wp2_with fail
      go_ret
      exact ⟨rfl, HX.out.trans (HD10.out.mono HX.out.size)⟩
    refine wpAnyD_takeG (i := 51) (v := .bool false) rfl (by kernel_rfl) (by kernel_rfl) (by kernel_rfl) (by kernel_rfl) (fun _ _ _ h => h) HT10.out (by simp [Region.wanted, yielded]) ?cc51false ?_
    case cc51false => intro wy hSw; go_simp; first | done | simp [n5]
    simp only [Act.put, List.setIfInBounds_toArray, List.set_cons_zero, List.set_cons_succ]
    refine wpAnyD_takeL (i := 52) (v := ?vv52x10n72) rfl (by kernel_rfl) (by kernel_rfl) (by kernel_rfl) (by kernel_rfl) (fun _ _ _ h => h) HT10.out rfl ?hy52x10n72 ?_
    case hy52x10n72 => intro wy hSw; obtain ⟨y0, y1, y2, y3, y4, y5, y6, y7, y8, y9⟩ := hSw; go_simp; try with_reducible rfl
    simp only [Act.put, List.setIfInBounds_toArray, List.set_cons_zero, List.set_cons_succ]
    refine wpAnyD_done (by kernel_rfl) ?_ _
    have HN1 := hidb (And.intro n1 (And.intro n2 (And.intro n3 (And.intro n4 n5))))
    clear n1 n2 n3 n4 n5 HT10
    go_wp2_with fail
    have HW11 := hidb (HX.out.trans (HD10.out.mono HX.out.size))
    have hcase := HC.out (by have := HEQ.out.1.1; have := HN1.out.1; omega) (by have := HEQ.out.1.2; have := HN1.out.2.1; omega) (by have := HEQ.out.2.1; have := HN1.out.2.2.1; omega) (fun m hm => by
      have h1 := HEQ.out.2.2.1
      rw [h1] at hm
      obtain rfl := Option.some.inj hm
      have h2 := HEQ.out.2.2.2
      have h3 := HN1.out.2.2.2
      have h4 := HAK.out
      exact ⟨by rw [h4]; exact h3.2, by omega⟩)
    refine (Parse_any s2 Y11 (GT HW11.out)).mono ?_
    intro e u2 hR
    clear HN1 HEQ HC HAK CT CR CFn CC C1 CB CA
    rcases hcase with ⟨st', hp', hbare⟩ | ⟨er, p, hp', hwhy⟩
    · rw [hp'] at hR
      obtain ⟨V, rfl, hN, hb2⟩ : ∃ V, e = .returned (.tuple #[.agg #[V, iv r], .agg #[.int .i64 0, .int .i64 0]]) ∧ Nodes u2 Y11.heap.size V st'.ns ∧ Below Y11.heap.size Y11 u2 := hR.flat
      obtain ⟨vb, vn, vd, rfl⟩ := nodes_sl hN
      have HDf2 := hidb (HDf.out.keep (HD10.out.trans (hb2.mono HD10.out.size)))
      have HDa2 := hidb (HDa.out.keep (HD10.out.trans (hb2.mono HD10.out.size)))
      have hxt : tb ≤ X.heap.size := by have := HDf.out.lt; omega
      have hx1 : tb + 1 < u2.heap.size := by have := HDf2.out.lt; omega
      have hb0 : Below tb w2 u2 := HTB.out.2.1.trans ((HD10.out.mono hxt).trans (hb2.mono (Nat.le_trans hxt HD10.out.size)))
      have hBut : But (· = tb + 1) u2 (((u2.setCell ⟨tb + 1, 0, none⟩ (.int .i64 0)).setCell ⟨tb + 1, 1, none⟩ (.int .i64 0)).alloc (.cells #[.slice vb vn vd, .int .i64 (r : Int)] 25)) := (((But.refl (· = tb + 1) u2).setCell (p := ⟨tb + 1, 0, none⟩) (fun _ => rfl) _).setCell (p := ⟨tb + 1, 1, none⟩) (fun _ => rfl) _).alloc _
      have hzz : (((u2.setCell ⟨tb + 1, 0, none⟩ (.int .i64 0)).setCell ⟨tb + 1, 1, none⟩ (.int .i64 0))).heap.size = u2.heap.size := by simp [World.setCell]
      have hD1 : Duo (((u2.setCell ⟨tb + 1, 0, none⟩ (.int .i64 0)).setCell ⟨tb + 1, 1, none⟩ (.int .i64 0)).alloc (.cells #[.slice vb vn vd, .int .i64 (r : Int)] 25)) tb (.slice (some ⟨q, 0, none⟩) vm vc) (.int .i64 (r : Int)) := HDa2.out.but hBut (by show ¬ tb = tb + 1; omega)
      have hD2 : Duo (((u2.setCell ⟨tb + 1, 0, none⟩ (.int .i64 0)).setCell ⟨tb + 1, 1, none⟩ (.int .i64 0)).alloc (.cells #[.slice vb vn vd, .int .i64 (r : Int)] 25)) (tb + 1) (.int .i64 0) (.int .i64 0) := ((HDf2.out.set0 _).set1 _).keep (by rw [show (((u2.setCell ⟨tb + 1, 0, none⟩ (.int .i64 0)).setCell ⟨tb + 1, 1, none⟩ (.int .i64 0))).heap.size = u2.heap.size from hzz]; exact (Below.refl _ _).alloc (by rw [hzz]; exact Nat.le_refl _) _)
      have hD3 : Duo (((u2.setCell ⟨tb + 1, 0, none⟩ (.int .i64 0)).setCell ⟨tb + 1, 1, none⟩ (.int .i64 0)).alloc (.cells #[.slice vb vn vd, .int .i64 (r : Int)] 25)) u2.heap.size (.slice vb vn vd) (.int .i64 (r : Int)) := by
        have h := Duo.new (((u2.setCell ⟨tb + 1, 0, none⟩ (.int .i64 0)).setCell ⟨tb + 1, 1, none⟩ (.int .i64 0))) 25 (.slice vb vn vd) (.int .i64 (r : Int))
        rw [hzz] at h
        exact h
      have hNa := HTB.out.2.2 (((u2.setCell ⟨tb + 1, 0, none⟩ (.int .i64 0)).setCell ⟨tb + 1, 1, none⟩ (.int .i64 0)).alloc (.cells #[.slice vb vn vd, .int .i64 (r : Int)] 25)) (((hb0.setCell (p := ⟨tb + 1, 0, none⟩) (by show tb ≤ tb + 1; omega) _).setCell (p := ⟨tb + 1, 1, none⟩) (by show tb ≤ tb + 1; omega) _).alloc (by rw [hzz]; omega) _)
      have hEND : Below w.heap.size w (((u2.setCell ⟨tb + 1, 0, none⟩ (.int .i64 0)).setCell ⟨tb + 1, 1, none⟩ (.int .i64 0)).alloc (.cells #[.slice vb vn vd, .int .i64 (r : Int)] 25)) := (((HW11.out.trans (hb2.mono HW11.out.size)).setCell (p := ⟨tb + 1, 0, none⟩) (by show w.heap.size ≤ tb + 1; have := HTB.out.1; omega) _).setCell (p := ⟨tb + 1, 1, none⟩) (by show w.heap.size ≤ tb + 1; have := HTB.out.1; omega) _).alloc (by rw [hzz]; have := HTB.out.1; omega) _
      have HEND := hidb hEND
      obtain ⟨m0, m1, m2, m3, ml⟩ := HDf2.out
      obtain ⟨a0c, a1c, _, _, al⟩ := hD1
      obtain ⟨b0c, b1c, _, _, bl⟩ := hD3
      obtain ⟨f0c, f1c, _, _, fl⟩ := hD2
      have hx2 : tb + 1 < Y11.heap.size := by have := HDf.out.lt; have := HD10.out.size; omega
      have hNb := hN.but hBut (fun k hk => by have h : k = tb + 1 := hk; omega)
      have cS := same_trees false hbare (fun h => by cases h) (fun i n hi => by have h1 := HTF.out.short hi; have h2 := hNa.few; omega) r hNa hNb
      have HEND := hidb hEND
      clear hR hb2 hN hbare hp' hNa hNb hBut hb0 hxt hx1 hx2 hzz hEND
      go_wp2_with (first
        | (go_at_call 8; refine cS.mono ?_; rintro e u4 ⟨rfl, hb4⟩; have HB4 := hidb hb4; clear hb4))
      go_ret
      exact ⟨rfl, HEND.out.trans (HB4.out.mono HEND.out.size)⟩
    · have her := (parse_err _ hp').1
      have k3 : (er == 0) = false := by simpa using her
      have k4 : (er != 0) = true := by simpa using her
      rw [hp'] at hR
      obtain ⟨V, rfl, hN, hb2⟩ : ∃ V, e = .returned (.tuple #[.agg #[V, iv 0], .agg #[.int .i64 er, .int .i64 ((p : Nat) : Int)]]) ∧ Nodes u2 Y11.heap.size V [] ∧ Below Y11.heap.size Y11 u2 := hR.flat
      obtain ⟨vb, vn, vd, rfl⟩ := nodes_sl hN
      have HDf2 := hidb (HDf.out.keep (HD10.out.trans (hb2.mono HD10.out.size)))
      have HDa2 := hidb (HDa.out.keep (HD10.out.trans (hb2.mono HD10.out.size)))
      have hxt : tb ≤ X.heap.size := by have := HDf.out.lt; omega
      have hx1 : tb + 1 < u2.heap.size := by have := HDf2.out.lt; omega
      have hb0 : Below tb w2 u2 := HTB.out.2.1.trans ((HD10.out.mono hxt).trans (hb2.mono (Nat.le_trans hxt HD10.out.size)))
      have hBut : But (· = tb + 1) u2 (((u2.setCell ⟨tb + 1, 0, none⟩ (.int .i64 er)).setCell ⟨tb + 1, 1, none⟩ (.int .i64 ((p : Nat) : Int))).alloc (.cells #[.slice vb vn vd, .int .i64 0] 25)) := (((But.refl (· = tb + 1) u2).setCell (p := ⟨tb + 1, 0, none⟩) (fun _ => rfl) _).setCell (p := ⟨tb + 1, 1, none⟩) (fun _ => rfl) _).alloc _
      have hzz : (((u2.setCell ⟨tb + 1, 0, none⟩ (.int .i64 er)).setCell ⟨tb + 1, 1, none⟩ (.int .i64 ((p : Nat) : Int)))).heap.size = u2.heap.size := by simp [World.setCell]
      have hD1 : Duo (((u2.setCell ⟨tb + 1, 0, none⟩ (.int .i64 er)).setCell ⟨tb + 1, 1, none⟩ (.int .i64 ((p : Nat) : Int))).alloc (.cells #[.slice vb vn vd, .int .i64 0] 25)) tb (.slice (some ⟨q, 0, none⟩) vm vc) (.int .i64 (r : Int)) := HDa2.out.but hBut (by show ¬ tb = tb + 1; omega)
      have hD2 : Duo (((u2.setCell ⟨tb + 1, 0, none⟩ (.int .i64 er)).setCell ⟨tb + 1, 1, none⟩ (.int .i64 ((p : Nat) : Int))).alloc (.cells #[.slice vb vn vd, .int .i64 0] 25)) (tb + 1) (.int .i64 er) (.int .i64 ((p : Nat) : Int)) := ((HDf2.out.set0 _).set1 _).keep (by rw [show (((u2.setCell ⟨tb + 1, 0, none⟩ (.int .i64 er)).setCell ⟨tb + 1, 1, none⟩ (.int .i64 ((p : Nat) : Int)))).heap.size = u2.heap.size from hzz]; exact (Below.refl _ _).alloc (by rw [hzz]; exact Nat.le_refl _) _)
      have hD3 : Duo (((u2.setCell ⟨tb + 1, 0, none⟩ (.int .i64 er)).setCell ⟨tb + 1, 1, none⟩ (.int .i64 ((p : Nat) : Int))).alloc (.cells #[.slice vb vn vd, .int .i64 0] 25)) u2.heap.size (.slice vb vn vd) (.int .i64 0) := by
        have h := Duo.new (((u2.setCell ⟨tb + 1, 0, none⟩ (.int .i64 er)).setCell ⟨tb + 1, 1, none⟩ (.int .i64 ((p : Nat) : Int)))) 25 (.slice vb vn vd) (.int .i64 0)
        rw [hzz] at h
        exact h
      have hNa := HTB.out.2.2 (((u2.setCell ⟨tb + 1, 0, none⟩ (.int .i64 er)).setCell ⟨tb + 1, 1, none⟩ (.int .i64 ((p : Nat) : Int))).alloc (.cells #[.slice vb vn vd, .int .i64 0] 25)) (((hb0.setCell (p := ⟨tb + 1, 0, none⟩) (by show tb ≤ tb + 1; omega) _).setCell (p := ⟨tb + 1, 1, none⟩) (by show tb ≤ tb + 1; omega) _).alloc (by rw [hzz]; omega) _)
      have hEND : Below w.heap.size w (((u2.setCell ⟨tb + 1, 0, none⟩ (.int .i64 er)).setCell ⟨tb + 1, 1, none⟩ (.int .i64 ((p : Nat) : Int))).alloc (.cells #[.slice vb vn vd, .int .i64 0] 25)) := (((HW11.out.trans (hb2.mono HW11.out.size)).setCell (p := ⟨tb + 1, 0, none⟩) (by show w.heap.size ≤ tb + 1; have := HTB.out.1; omega) _).setCell (p := ⟨tb + 1, 1, none⟩) (by show w.heap.size ≤ tb + 1; have := HTB.out.1; omega) _).alloc (by rw [hzz]; have := HTB.out.1; omega) _
      have HEND := hidb hEND
      obtain ⟨m0, m1, m2, m3, ml⟩ := HDf2.out
      obtain ⟨a0c, a1c, _, _, al⟩ := hD1
      obtain ⟨b0c, b1c, _, _, bl⟩ := hD3
      obtain ⟨f0c, f1c, _, _, fl⟩ := hD2
      have cC := fun hc W => comment_any x (by omega) hc W
      clear hR hb2 hN hp' hNa hBut hb0 hxt hx1 hzz hEND
      by_cases h25 : er = 25
      · subst h25
        clear cC hwhy
        go_wp2_with fail
        all_goals
          go_ret
          exact ⟨rfl, HEND.out⟩
      · have cC' := cC (hwhy.resolve_left h25)
        clear cC hwhy
        go_wp2_with (first
          | (go_at_call 7; refine (cC' _).mono ?_; rintro e u4 ⟨rfl, hw4⟩; obtain rfl := hw4.symm))
        all_goals
          go_ret
          exact ⟨rfl, HEND.out⟩
end Go.Proofs.YtdpfmmbfidknfaaGreatDoor


