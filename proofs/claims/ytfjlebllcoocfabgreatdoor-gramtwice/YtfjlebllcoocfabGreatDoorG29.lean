import Derived.Test.YtfjlebllcoocfabGreatDoorG28
import Derived.Deep.RegionHeld2
/- known. -/
namespace Go.Proofs.YtfjlebllcoocfabGreatDoor
open Go.RowKit Go.Lib
attribute [local go_sem] store_float f64bits
attribute [local go_sem ↓] Go.wp_at_zero Go.wp_at_succ

theorem Nodes.node {w : World} {B : Nat} {V : Value} {ns : List Nd} (h : Nodes w B V ns) {i : Nat} {n : Nd} (hi : ns[i]? = some n) :
    ∃ q cap v, V = .slice (some ⟨q, 0, none⟩) ns.length cap ∧ B ≤ q ∧ q < w.heap.size ∧ LRow w v n.l ∧ (∀ j, j < 6 → w.cell? ⟨q, i * 6 + j, none⟩ = (n.cells v)[j]?) := by
  obtain ⟨⟨vs, hl, ho, hr⟩, _⟩ := h
  have hlt := (List.getElem?_eq_some_iff.1 hi).1
  obtain ⟨v, hv⟩ : ∃ v, vs[i]? = some v := ⟨_, List.getElem?_eq_getElem (by omega)⟩
  have hlow := ho.lt
  rcases ho.2 with ⟨_, h0⟩ | ⟨q, cap, cur, hV, _⟩
  · omega
  · subst hV
    exact ⟨q, cap, v, rfl, (hlow q rfl).1, (hlow q rfl).2, (hr i n v hi hv).1, fun j hj => (ho.cellAt (i * 6 + j) (by omega)).trans (ndCells_get ns vs i n v hi hv j hj)⟩

theorem known1 {w w' : World} {e : Ending} (h : ParseR w (parseP src1) e w') : ∃ q cap, e = .returned (.tuple #[.agg #[.slice (some ⟨q, 0, none⟩) 13 cap, .int .i64 12], .agg #[.int .i64 0, .int .i64 0]]) ∧
    q < w'.heap.size ∧ w'.cell? ⟨q, 18, none⟩ = some (.int .i64 9) ∧ w'.cell? ⟨q, 19, none⟩ = some (.string ⟨#[62]⟩) ∧ w'.cell? ⟨q, 72, none⟩ = some (.int .i64 24) ∧ w'.cell? ⟨q, 73, none⟩ = some (.string ⟨#[109]⟩) ∧ Below w.heap.size w w' := by
  have h1 := src1_is
  obtain ⟨hb, ⟨er, p, hr, he⟩ | ⟨r, s, V, hr, he, hn⟩⟩ := h
  · rw [hr] at h1; cases h1
  · rw [hr] at h1
    simp only [is1, Bool.and_eq_true, decide_eq_true_eq] at h1
    obtain ⟨⟨⟨h2, h3⟩, h4⟩, h5⟩ := h1
    obtain ⟨n3, hn3⟩ : ∃ n, s.ns[3]? = some n := ⟨_, List.getElem?_eq_getElem (by omega)⟩
    obtain ⟨n12, hn12⟩ : ∃ n, s.ns[12]? = some n := ⟨_, List.getElem?_eq_getElem (by omega)⟩
    simp only [hn3, Bool.and_eq_true, decide_eq_true_eq] at h4
    simp only [hn12, Bool.and_eq_true, decide_eq_true_eq] at h5
    obtain ⟨q, cap, v, hV, _, hq, _, hc⟩ := hn.node hn3
    obtain ⟨q', cap', v', hV', _, _, _, hc'⟩ := hn.node hn12
    obtain ⟨rfl, rfl⟩ : q = q' ∧ cap = cap' := by rw [hV] at hV'; cases hV'; exact ⟨rfl, rfl⟩
    have k0 := hc 0 (by omega); have k1 := hc 1 (by omega); have k2 := hc' 0 (by omega); have k3 := hc' 1 (by omega)
    simp only [Nd.cells, List.getElem?_cons_zero, List.getElem?_cons_succ, h4.1, h4.2, h5.1, h5.2] at k0 k1 k2 k3
    rw [h3] at hV
    subst h2
    exact ⟨q, cap, by rw [he, hV]; rfl, hq, k0, k1, k2, k3, hb⟩

theorem known2 {w w' : World} {e : Ending} (h : ParseR w (parseP src2) e w') : e = .returned (.tuple #[.agg #[.slice none 0 0, .int .i64 0], .agg #[.int .i64 24, .int .i64 22]]) ∧ Below w.heap.size w w' := by
  obtain ⟨hb, ⟨er, p, hr, he⟩ | ⟨r, s, V, hr, he, hn⟩⟩ := h
  · rw [src2_is] at hr; cases hr; exact ⟨he, hb⟩
  · rw [src2_is] at hr; cases hr

set_option maxHeartbeats 4000000 in
set_option maxRecDepth 100000 in
theorem known6_any (w : World) (hT : LexTab w) : Calls Tryz.prog 5 #[] w fun e w' => e = .returned (.bool true) ∧ Below w.heap.size w w' := by
  have GT : ∀ {wx : World}, Below w.heap.size w wx → LexTab wx := fun hb => hT.but (But.of_below (S := fun _ => False) hb) (fun _ e => e.elim)
  have HT := hidb hT
  clear hT
  have M0 : Hid True := hidb trivial
  go_enter Tryz.func5, Tryz.ntmps5
  go_wp2_with (first
    | (go_at_call 8; clear M0; refine (Parse_any src1 w HT.out).mono ?_; rintro e w1 h1; obtain ⟨q, cap, rfl, hq, k0, k1, k2, k3, hb⟩ := known1 h1; have HB := hidb hb; have HQ := hidb hq; have hX : Below w1.heap.size w1 ((w1.alloc (.cells #[.slice (some ⟨q, 0, none⟩) 13 cap, .int .i64 12] 31)).alloc (.cells #[.int .i64 0, .int .i64 0] 34)) := (((Below.refl _ _).alloc (Nat.le_refl _) _).alloc (by simp) _); have HX := hidb hX; have D1 := hidb ((Duo.new w1 31 (.slice (some ⟨q, 0, none⟩) 13 cap) (.int .i64 12)).keep (below_new _ (.cells #[.int .i64 0, .int .i64 0] 34))); have hDD := Duo.new (w1.alloc (.cells #[.slice (some ⟨q, 0, none⟩) 13 cap, .int .i64 12] 31)) 34 (.int .i64 0) (.int .i64 0); have hsz : (w1.alloc (.cells #[.slice (some ⟨q, 0, none⟩) 13 cap, .int .i64 12] 31)).heap.size = w1.heap.size + 1 := (by simp); rw [hsz] at hDD; have D2 := hidb hDD; clear h1 hb hX hDD hsz)
    | (go_at_call 8; refine (Parse_any src2 ((w1.alloc (.cells #[.slice (some ⟨q, 0, none⟩) 13 cap, .int .i64 12] 31)).alloc (.cells #[.int .i64 0, .int .i64 0] 34)) (GT (HB.out.trans (HX.out.mono HB.out.size)))).mono ?_; rintro e w2 h2; obtain ⟨rfl, hb2⟩ := known2 h2; have HB2 := hidb hb2; have hc : ∀ j, w2.cell? ⟨q, j, none⟩ = w1.cell? ⟨q, j, none⟩ := (fun j => (hb2.cell (p := ⟨q, j, none⟩) (Nat.lt_of_lt_of_le HQ.out HX.out.size)).trans (HX.out.cell (p := ⟨q, j, none⟩) HQ.out)); have hY : Below w2.heap.size w2 ((w2.alloc (.cells #[.slice none 0 0, .int .i64 0] 31)).alloc (.cells #[.int .i64 24, .int .i64 22] 34)) := (((Below.refl _ _).alloc (Nat.le_refl _) _).alloc (by simp) _); have hqY : q < w2.heap.size := Nat.lt_of_lt_of_le HQ.out (Nat.le_trans HX.out.size hb2.size); have hcY : ∀ j, ((w2.alloc (.cells #[.slice none 0 0, .int .i64 0] 31)).alloc (.cells #[.int .i64 24, .int .i64 22] 34)).cell? ⟨q, j, none⟩ = w1.cell? ⟨q, j, none⟩ := (fun j => (hY.cell (p := ⟨q, j, none⟩) hqY).trans (hc j)); have HY := hidb hY; have m0 := (hcY 18).trans k0; have m1 := (hcY 19).trans k1; have m2 := (hcY 72).trans k2; have m3 := (hcY 73).trans k3; obtain ⟨a0, a1, b0, b1, -⟩ := (D1.out.keep hb2).keep hY; obtain ⟨a2, a3, b2, b3, -⟩ := (D2.out.keep hb2).keep hY; clear h2 hb2 hc hcY hY hqY k0 k1 k2 k3))
  have z1 := HB.out.size
  have z2 := HX.out.size
  have z3 := HB2.out.size
  exact bodyPost_ret (v := .bool true) (by simp [results, Tryz.results5, go_sem]) rfl ⟨rfl, ((HB.out.trans (HX.out.mono z1)).trans (HB2.out.mono (by omega))).trans (HY.out.mono (by omega))⟩
end Go.Proofs.YtfjlebllcoocfabGreatDoor


/- A comparing operator twice in a row. -/
namespace Go.Proofs.YtfjlebllcoocfabGreatDoor
open Go.RowKit Go.Lib

def cmpL : List ByteArray := [⟨#[61, 61]⟩, ⟨#[47, 61]⟩, ⟨#[61, 60]⟩, ⟨#[60]⟩, ⟨#[62, 61]⟩, ⟨#[62]⟩, ⟨#[61, 58, 61]⟩, ⟨#[61, 47, 61]⟩]
def twS (A : ByteArray) : ByteArray := (⟨#[45, 109, 111, 100, 117, 108, 101, 40, 109, 41, 46, 32, 102, 40, 41, 32, 45, 62, 32, 49, 32]⟩ ++ A) ++ ⟨#[32, 50, 32]⟩
def tw1 (A B : ByteArray) : Bool := match parseP ((twS A ++ B) ++ ⟨#[32, 51, 46]⟩) with
  | .error (e, p) => decide (e = 24) && decide (p = (twS A).size)
  | _ => false
def tw2 (A : ByteArray) : Bool := match parseP (twS A ++ ⟨#[46]⟩) with
  | .ok _ => true
  | _ => false
theorem tw2_all : (cmpL.all fun A => tw2 A) = true := by kernel_rfl
theorem tw1_all : (cmpL.all fun A => cmpL.all fun B => tw1 A B) = true := by kernel_rfl
end Go.Proofs.YtfjlebllcoocfabGreatDoor


/- GramTwice, walked. -/
namespace Go.Proofs.YtfjlebllcoocfabGreatDoor
open Go.RowKit Go.Lib
attribute [local go_sem] store_float f64bits
attribute [local go_sem ↓] Go.wp_at_zero Go.wp_at_succ

theorem twice_f {A B : ByteArray} (hA : A ∈ cmpL) (hB : B ∈ cmpL) {w w' : World} {e : Ending} (h : ParseR w (parseP ((⟨#[45, 109, 111, 100, 117, 108, 101, 40, 109, 41, 46, 32, 102, 40, 41, 32, 45, 62, 32, 49, 32]⟩ : ByteArray) ++ A ++ ⟨#[32, 50, 32]⟩ ++ B ++ ⟨#[32, 51, 46]⟩)) e w') : e = .returned (.tuple #[.agg #[.slice none 0 0, .int .i64 0], .agg #[.int .i64 24, .int .i64 ((21 + A.size + 3 : Nat) : Int)]]) ∧ Below w.heap.size w w' := by
  have h1 : tw1 A B = true := List.all_eq_true.1 (List.all_eq_true.1 tw1_all A hA) B hB
  have hz : (twS A).size = 21 + A.size + 3 := by unfold twS; rw [ByteArray.size_append, ByteArray.size_append]; rfl
  unfold tw1 at h1
  rw [hz] at h1
  change (match parseP ((⟨#[45, 109, 111, 100, 117, 108, 101, 40, 109, 41, 46, 32, 102, 40, 41, 32, 45, 62, 32, 49, 32]⟩ : ByteArray) ++ A ++ ⟨#[32, 50, 32]⟩ ++ B ++ ⟨#[32, 51, 46]⟩) with | .error (e, p) => decide (e = 24) && decide (p = 21 + A.size + 3) | _ => false) = true at h1
  obtain ⟨hb, ⟨er, p, hr, he⟩ | ⟨r, s, V, hr, he, hn⟩⟩ := h
  · rw [hr] at h1
    simp only [Bool.and_eq_true, decide_eq_true_eq] at h1
    obtain ⟨rfl, rfl⟩ := h1
    exact ⟨he, hb⟩
  · rw [hr] at h1; cases h1
theorem twice_g {A : ByteArray} (hA : A ∈ cmpL) {w w' : World} {e : Ending} (h : ParseR w (parseP ((⟨#[45, 109, 111, 100, 117, 108, 101, 40, 109, 41, 46, 32, 102, 40, 41, 32, 45, 62, 32, 49, 32]⟩ : ByteArray) ++ A ++ ⟨#[32, 50, 32]⟩ ++ ⟨#[46]⟩)) e w') : ∃ a m c r, e = .returned (.tuple #[.agg #[.slice a m c, .int .i64 r], .agg #[.int .i64 0, .int .i64 0]]) ∧ Below w.heap.size w w' := by
  have h1 : tw2 A = true := List.all_eq_true.1 tw2_all A hA
  unfold tw2 at h1
  change (match parseP ((⟨#[45, 109, 111, 100, 117, 108, 101, 40, 109, 41, 46, 32, 102, 40, 41, 32, 45, 62, 32, 49, 32]⟩ : ByteArray) ++ A ++ ⟨#[32, 50, 32]⟩ ++ ⟨#[46]⟩) with | .ok _ => true | _ => false) = true at h1
  obtain ⟨hb, ⟨er, p, hr, he⟩ | ⟨r, s, V, hr, he, hn⟩⟩ := h
  · rw [hr] at h1; cases h1
  · obtain ⟨a, m, c, rfl⟩ := nodes_sl hn
    exact ⟨a, m, c, _, he, hb⟩

set_option maxHeartbeats 4000000 in
set_option maxRecDepth 100000 in
theorem GramTwice_walk (a b : Int) (w : World) (hT : LexTab w) : Calls Tryz.prog 4 #[.int .i64 a, .int .i64 b] w fun e w' => e = .returned (.bool true) ∧ Below w.heap.size w w' := by
  have GT : ∀ {wx : World}, Below w.heap.size w wx → LexTab wx := fun hb => hT.but (But.of_below (S := fun _ => False) hb) (fun _ e => e.elim)
  have HT := hidb hT
  obtain ⟨x, hx⟩ : ∃ x, a.tmod 8 = x := ⟨_, rfl⟩
  obtain ⟨y, hy⟩ : ∃ y, b.tmod 8 = y := ⟨_, rfl⟩
  have hx8 : -8 < x ∧ x < 8 := by subst hx; exact ⟨Int.lt_tmod_of_pos _ (by decide), Int.tmod_lt_of_pos _ (by decide)⟩
  have hy8 : -8 < y ∧ y < 8 := by subst hy; exact ⟨Int.lt_tmod_of_pos _ (by decide), Int.tmod_lt_of_pos _ (by decide)⟩
  clear hT
  by_cases hx0 : x < 0
  · go_enter Tryz.func4, Tryz.ntmps4
    go_wp2_with (go_at_call 5; refine (known6_any _ HT.out).mono ?_; rintro e w1 ⟨rfl, hb⟩; have HB := hidb hb; clear hb)
    all_goals exact bodyPost_ret (v := .bool true) (by simp [results, Tryz.results4, go_sem]) rfl ⟨rfl, HB.out.trans ((below_new _ _).mono HB.out.size)⟩
  by_cases hy0 : y < 0
  · go_enter Tryz.func4, Tryz.ntmps4
    go_wp2_with (go_at_call 5; refine (known6_any _ HT.out).mono ?_; rintro e w1 ⟨rfl, hb⟩; have HB := hidb hb; clear hb)
    all_goals exact bodyPost_ret (v := .bool true) (by simp [results, Tryz.results4, go_sem]) rfl ⟨rfl, HB.out.trans ((below_new _ _).mono HB.out.size)⟩
  have hl : ∀ z : Int, ¬ z < 0 → z < 8 → ∃ A, A ∈ cmpL ∧ ∀ h, ([Value.string ⟨#[61, 61]⟩, Value.string ⟨#[47, 61]⟩, Value.string ⟨#[61, 60]⟩, Value.string ⟨#[60]⟩, Value.string ⟨#[62, 61]⟩, Value.string ⟨#[62]⟩, Value.string ⟨#[61, 58, 61]⟩, Value.string ⟨#[61, 47, 61]⟩])[z.toNat]'h = Value.string A := by
    intro z h1 h2
    have : z = 0 ∨ z = 1 ∨ z = 2 ∨ z = 3 ∨ z = 4 ∨ z = 5 ∨ z = 6 ∨ z = 7 := by omega
    rcases this with rfl | rfl | rfl | rfl | rfl | rfl | rfl | rfl <;> exact ⟨_, by simp [cmpL], fun _ => rfl⟩
  obtain ⟨A, hA, eA⟩ := hl x hx0 hx8.2
  obtain ⟨B, hB, eB⟩ := hl y hy0 hy8.2
  have HA := hidb hA
  have HBB := hidb hB
  have x0 : 0 ≤ x := by omega
  have y0 : 0 ≤ y := by omega
  have x8 : x < 8 := hx8.2
  have y8 : y < 8 := hy8.2
  have hsz : ∀ A ∈ cmpL, A.size ≤ 3 := by decide
  have sA := hsz A hA
  have sB := hsz B hB
  have n1 : ¬ 9223372036854775807 < 21 + A.size := by omega
  have n2 : ¬ 9223372036854775807 < 21 + A.size + 3 := by omega
  have n3 : ¬ 9223372036854775807 < 21 + A.size + 3 + B.size := by omega
  have n4 : ¬ 9223372036854775807 < 21 + A.size + 3 + B.size + 3 := by omega
  have n5 : ¬ 9223372036854775807 < 21 + A.size + 3 + 1 := by omega
  clear hl hA hB hx8 hy8 hx0 hy0 hsz sA sB
  have M0 : Hid True := hidb trivial
  go_enter Tryz.func4, Tryz.ntmps4
  go_wp2_with (first
    | (go_at_call 5; refine (known6_any _ HT.out).mono ?_; rintro e w1 ⟨rfl, hb⟩; have HB := hidb hb; clear hb))
  clear M0
  have hG : LexTab (w1.alloc (.cells #[.string ⟨#[61, 61]⟩, .string ⟨#[47, 61]⟩, .string ⟨#[61, 60]⟩, .string ⟨#[60]⟩, .string ⟨#[62, 61]⟩, .string ⟨#[62]⟩, .string ⟨#[61, 58, 61]⟩, .string ⟨#[61, 47, 61]⟩] 9)) := GT (HB.out.trans ((below_new _ _).mono HB.out.size))
  have hP := Parse_any ((⟨#[45, 109, 111, 100, 117, 108, 101, 40, 109, 41, 46, 32, 102, 40, 41, 32, 45, 62, 32, 49, 32]⟩ : ByteArray) ++ A ++ ⟨#[32, 50, 32]⟩ ++ B ++ ⟨#[32, 51, 46]⟩) (w1.alloc (.cells #[.string ⟨#[61, 61]⟩, .string ⟨#[47, 61]⟩, .string ⟨#[61, 60]⟩, .string ⟨#[60]⟩, .string ⟨#[62, 61]⟩, .string ⟨#[62]⟩, .string ⟨#[61, 58, 61]⟩, .string ⟨#[61, 47, 61]⟩] 9)) hG
  have hP2 := hP.mono (R' := fun e w' => e = .returned (.tuple #[.agg #[.slice none 0 0, .int .i64 0], .agg #[.int .i64 24, .int .i64 ((21 + A.size + 3 : Nat) : Int)]]) ∧ Below (w1.alloc (.cells #[.string ⟨#[61, 61]⟩, .string ⟨#[47, 61]⟩, .string ⟨#[61, 60]⟩, .string ⟨#[60]⟩, .string ⟨#[62, 61]⟩, .string ⟨#[62]⟩, .string ⟨#[61, 58, 61]⟩, .string ⟨#[61, 47, 61]⟩] 9)).heap.size (w1.alloc (.cells #[.string ⟨#[61, 61]⟩, .string ⟨#[47, 61]⟩, .string ⟨#[61, 60]⟩, .string ⟨#[60]⟩, .string ⟨#[62, 61]⟩, .string ⟨#[62]⟩, .string ⟨#[61, 58, 61]⟩, .string ⟨#[61, 47, 61]⟩] 9)) w') (fun e w' h => twice_f HA.out HBB.out h)
  clear hP hG
  generalize hW : w1.alloc (.cells #[.string ⟨#[61, 61]⟩, .string ⟨#[47, 61]⟩, .string ⟨#[61, 60]⟩, .string ⟨#[60]⟩, .string ⟨#[62, 61]⟩, .string ⟨#[62]⟩, .string ⟨#[61, 58, 61]⟩, .string ⟨#[61, 47, 61]⟩] 9) = WW at hP2 ⊢
  have HBW : Hid (Below w.heap.size w WW) := hidb (hW ▸ HB.out.trans ((below_new _ _).mono HB.out.size))
  clear hW
  refine hP2.mono ?_
  clear hP2
  rintro e w2 ⟨rfl, hb2⟩
  have HB2 := hidb hb2
  clear hb2
  go_wp2_with fail
  have zW := HBW.out.size
  have z2 := HB2.out.size
  have hX : Below w2.heap.size w2 ((w2.alloc (.cells #[.slice none 0 0, .int .i64 0] 31)).alloc (.cells #[.int .i64 24, .int .i64 (21 + (A.size : Int) + 3)] 34)) := ((Below.refl _ _).alloc (Nat.le_refl _) _).alloc (by simp) _
  have hX0 : Below w.heap.size w ((w2.alloc (.cells #[.slice none 0 0, .int .i64 0] 31)).alloc (.cells #[.int .i64 24, .int .i64 (21 + (A.size : Int) + 3)] 34)) := (HBW.out.trans (HB2.out.mono zW)).trans (hX.mono (by omega))
  have D1 : Duo ((w2.alloc (.cells #[.slice none 0 0, .int .i64 0] 31)).alloc (.cells #[.int .i64 24, .int .i64 (21 + (A.size : Int) + 3)] 34)) w2.heap.size (.slice none 0 0) (.int .i64 0) := (Duo.new w2 _ _ _).keep (below_new _ _)
  have D2 : Duo ((w2.alloc (.cells #[.slice none 0 0, .int .i64 0] 31)).alloc (.cells #[.int .i64 24, .int .i64 (21 + (A.size : Int) + 3)] 34)) (w2.heap.size + 1) (.int .i64 24) (.int .i64 (21 + (A.size : Int) + 3)) := by
    have := Duo.new (w2.alloc (.cells #[.slice none 0 0, .int .i64 0] 31)) 34 (.int .i64 24) (.int .i64 (21 + (A.size : Int) + 3))
    simpa using this
  have hP := Parse_any ((⟨#[45, 109, 111, 100, 117, 108, 101, 40, 109, 41, 46, 32, 102, 40, 41, 32, 45, 62, 32, 49, 32]⟩ : ByteArray) ++ A ++ ⟨#[32, 50, 32]⟩ ++ ⟨#[46]⟩) ((w2.alloc (.cells #[.slice none 0 0, .int .i64 0] 31)).alloc (.cells #[.int .i64 24, .int .i64 (21 + (A.size : Int) + 3)] 34)) (GT hX0)
  have hP2 := hP.mono (R' := fun e w' => ∃ a m c r, e = .returned (.tuple #[.agg #[.slice a m c, .int .i64 r], .agg #[.int .i64 0, .int .i64 0]]) ∧ Below ((w2.alloc (.cells #[.slice none 0 0, .int .i64 0] 31)).alloc (.cells #[.int .i64 24, .int .i64 (21 + (A.size : Int) + 3)] 34)).heap.size ((w2.alloc (.cells #[.slice none 0 0, .int .i64 0] 31)).alloc (.cells #[.int .i64 24, .int .i64 (21 + (A.size : Int) + 3)] 34)) w') (fun e w' h => twice_g HA.out h)
  clear hP
  have HX0 := hidb hX0
  clear hX hX0
  generalize ((w2.alloc (.cells #[.slice none 0 0, .int .i64 0] 31)).alloc (.cells #[.int .i64 24, .int .i64 (21 + (A.size : Int) + 3)] 34)) = XX at hP2 D1 D2 HX0 ⊢
  refine hP2.mono ?_
  clear hP2
  rintro e w3 ⟨sa, sm, sc, sr, rfl, hb3⟩
  have hY : Below w3.heap.size w3 ((w3.alloc (.cells #[.slice sa sm sc, .int .i64 sr] 31)).alloc (.cells #[.int .i64 0, .int .i64 0] 34)) := ((Below.refl _ _).alloc (Nat.le_refl _) _).alloc (by simp) _
  obtain ⟨a0, a1, b0, b1, -⟩ := (D1.keep hb3).keep hY
  obtain ⟨a2, a3, b2, b3, -⟩ := (D2.keep hb3).keep hY
  have HB3 := hidb hb3
  have HY := hidb hY
  clear hb3 hY D1 D2
  go_wp2_with fail
  have z3 := HX0.out.size
  have z4 := HB3.out.size
  exact bodyPost_ret (v := .bool true) (by simp [results, Tryz.results4, go_sem]) rfl ⟨rfl, (HX0.out.trans (HB3.out.mono z3)).trans (HY.out.mono (by omega))⟩
end Go.Proofs.YtfjlebllcoocfabGreatDoor


