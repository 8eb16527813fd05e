/- The document's halves of monitors: what is taken out. -/
import Derived.Test.YtmnglaeaicicnaaRm2
namespace Go.Proofs.Ytmnglaeaicicnaa
open Go.RowKit Go.Lib
open MV (Hf hf0 getL insL delL Rise Wfk TB Nw Rst KV MnT mvs)
attribute [local go_sem ↓] Go.wp_at_zero Go.wp_at_succ

theorem RW.poke {w W w1 w2 : World} {rb blk : Nat} {E : Nat → Prop} {O T : List KV} (hb : Below w.heap.size w W) (h : RW W w1 rb (fun k => E k ∧ k < w.heap.size) O T) (hS : But (fun k => k = blk) w1 w2) (hk : w.heap.size ≤ blk ∧ blk < W.heap.size) (hl : rb < w.heap.size) : RW w w2 rb E O T := by
  have hs1 := hb.size
  have hs2 := h.bt.size
  have hs3 := hS.size
  refine ⟨(h.rt.but hS (by omega) (fun k hk e => hk.elim (fun h => by omega) (fun h => by omega))).mono (fun k _ hk => hk.elim (fun h => .inl h.1) (fun h => .inr ⟨by omega, by omega⟩)), ?_⟩
  exact ((But.of_below hb).trans h.bt).trans' hS (fun k hk e => by omega)
theorem RM.cut {w : World} {rb : Nat} {E : Nat → Prop} {O T : List KV} (h : RM w rb E O T) : RM w rb (fun k => E k ∧ k < w.heap.size) O T := h.mono (fun _ hk he => ⟨he, hk⟩)
theorem del_at {key : Int} {A B : List KV} (h : Rise (A ++ B)) (h1 : ∀ x ∈ A, x.1 < key) (h2 : ∀ x ∈ B, key ≤ x.1) (hs : (getL key (A ++ B)).isSome = true) : ∃ y r, B = y :: r ∧ y.1 = key ∧ (getL key (A ++ B)).getD hf0 = y.2 ∧ delL key (A ++ B) = A ++ r := by
  have hgs := MV.getL_split h h1 h2
  cases B with
  | nil => rw [hgs] at hs; simp at hs
  | cons y r =>
    by_cases e : y.1 = key
    · refine ⟨y, r, rfl, e, by rw [hgs]; simp [e], ?_⟩
      obtain ⟨a, b⟩ := y
      simp only at e
      subst e
      exact MV.del_here h
    · rw [hgs] at hs; simp [e] at hs

set_option maxRecDepth 100000 in
set_option maxHeartbeats 8000000 in
theorem rdem_any {w : World} {rb : Nat} {E : Nat → Prop} {O T : List KV} (h0 : RM w rb E O T) (hr : Rise O) (hk : MOk O) (ref : Int) (hN : O.length ≤ 90000) :
    Calls Try.prog 20 #[.pointer (some ⟨rb, 0, none⟩), .int .i64 ref] w fun e w' => e = .returned (.tuple #[.agg #[.int .i64 ((getL ref O).getD hf0).a, .int .i64 ((getL ref O).getD hf0).b, .string ((getL ref O).getD hf0).c], .bool (getL ref O).isSome]) ∧ RW w w' rb E (delL ref O) T := by
  obtain ⟨A, B, hAB, h1, h2⟩ := MV.split_at (key := ref) hr
  have hl := h0.lt
  obtain ⟨W0, hW0⟩ : ∃ W0, w.alloc (.cells #[.int .i64 0, .int .i64 0, .string ⟨#[]⟩] 38) = W0 := ⟨_, rfl⟩
  have hb0 : Below w.heap.size w W0 := hW0 ▸ below_new _ _
  have P0 : Tri W0 w.heap.size (.int .i64 0) (.int .i64 0) (.string ⟨#[]⟩) := hW0 ▸ Tri.new _ _ _ _ _
  have hs0 := P0.lt
  have h := h0.cut.keep hb0
  have hne : ¬ w.heap.size = rb := by omega
  have hne' : ¬ rb = w.heap.size := by omega
  have HM := hidb h
  have HM0 := hidb h0
  obtain ⟨VO, VT, hd, ho, ht, -⟩ := h
  have d0 := hd.c0
  have HWO : Hid (∀ (A r : List KV) (y : KV), O = A ++ y :: r → ∀ W, Below W0.heap.size W0 W → Calls Try.prog 33 #[VO, .int .i64 (A.length : Int)] W fun e w' => ∃ a c, e = .returned (.slice a (A ++ r).length c) ∧ w'.cell? ⟨rb, 0, none⟩ = some VO ∧ w'.frozen? ⟨rb, 0, none⟩ = false ∧ Tri w' w.heap.size (.int .i64 0) (.int .i64 0) (.string ⟨#[]⟩) ∧ Below W.heap.size W w' ∧ Hid (∀ w2, But (fun k => k = w.heap.size) (w'.setCell ⟨rb, 0, none⟩ (.slice a (A ++ r).length c)) w2 → RW w w2 rb E (A ++ r) T)) := hidb (fun A r y he W hW => by
    have h9 := MV.row_but ho (But.of_below (S := fun _ => False) hW) (fun _ _ h => h)
    rw [he] at h9 hN
    refine (MV.rwithout_any h9 hN).mono ?_
    rintro e w' ⟨V', rfl, hb, hw⟩
    have hb9 := hW.trans (hb.mono hW.size)
    obtain ⟨a, c, rfl⟩ := MV.own_sl hw
    refine ⟨a, c, rfl, (hd.keep hb9).c0, (hd.keep hb9).f0, P0.keep hb9, hb, hidb (fun w2 hS => ?_)⟩
    have hfin := RM.newO (O' := (A ++ r)) (HM.out.keep hW) hb hw
    exact RW.poke (hb0.trans (hW.mono hb0.size)) hfin hS ⟨Nat.le_refl _, by have := hW.size; omega⟩ hl)
  have HF : Hid (∀ W, Below W0.heap.size W0 W → Calls Try.prog 31 #[VO, .int .i64 ref] W fun e w' => e = .returned (.tuple #[.int .i64 (A.length : Int), .bool (getL ref O).isSome]) ∧ w'.cell? ⟨rb, 0, none⟩ = some VO ∧ w'.frozen? ⟨rb, 0, none⟩ = false ∧ Tri w' w.heap.size (.int .i64 0) (.int .i64 0) (.string ⟨#[]⟩) ∧ Hid (Below W0.heap.size W0 w')) := hidb (fun W hW => by
    have h9 := MV.row_but ho (But.of_below (S := fun _ => False) hW) (fun _ _ h => h)
    rw [hAB] at h9 hr hk hN ⊢
    refine (MV.rfind_any h9 hr hk ref h1 h2 (by omega)).mono ?_
    rintro e w' ⟨rfl, hb⟩
    have hb9 := hW.trans (hb.mono hW.size)
    exact ⟨rfl, (hd.keep hb9).c0, (hd.keep hb9).f0, P0.keep hb9, hidb hb9⟩)
  have HCELL : Hid (∀ (r : List KV) (y : KV), O = A ++ y :: r → ∃ g c n, VO = .slice (some ⟨g, 0, none⟩) n c ∧ A.length < n ∧ ∀ W, Below W0.heap.size W0 W → W.cell? ⟨g, A.length * 3, none⟩ = some (.int .i64 y.2.a) ∧ W.cell? ⟨g, A.length * 3 + 1, none⟩ = some (.int .i64 y.2.b) ∧ W.cell? ⟨g, A.length * 3 + 2, none⟩ = some (.string y.2.c)) := hidb (fun r y he => by
    rw [he] at ho
    obtain ⟨g, c, hv, m1, m2, m3⟩ := MV.row_get ho (show (A ++ y :: r)[A.length]? = some y by simp)
    have hg := World.block_lt_of_cell? _ _ m1
    exact ⟨g, c, _, hv, by simp, fun W hW => ⟨(hW.cell (p := ⟨g, A.length * 3, none⟩) hg).trans m1, (hW.cell (p := ⟨g, A.length * 3 + 1, none⟩) hg).trans m2, (hW.cell (p := ⟨g, A.length * 3 + 2, none⟩) hg).trans m3⟩⟩)
  have HB0 := hidb hb0
  have hcase := hr
  rw [hAB] at hcase
  cases hs : (getL ref O).isSome with
  | false =>
    rw [hs] at HF
    have hno : getL ref O = none := by simpa using hs
    rw [hno, MV.del_of_none hno]
    simp only [Option.getD_none]
    clear HWO HCELL hcase h1 h2 hAB hr hk hN hd ho ht hs hno hl P0 hb0
    go_enter Try.func20, Try.ntmps20
    go_wp2_with (go_at_call 31; refine (HF.out _ (by (repeat (first | exact Below.refl _ _ | assumption | refine Below.drew ?_ | refine below_drewN ?_ _ | refine Below.setCell ?_ (by simp) _ | refine Below.alloc ?_ (by (first | exact Nat.le_refl _ | (simp; done) | (simp; omega) | omega)) _ | refine Below.trans ?_ (Below.mono (by assumption) (by first | exact Nat.le_refl _ | (simp; done) | (simp; omega) | omega)))))).mono ?_; clear HF; rintro e w1 ⟨rfl, k0, k1, P1, HB⟩; have p0 := P1.c0; have p1 := P1.c1; have p2 := P1.c2; have q0 := P1.f0; have q1 := P1.f1; have q2 := P1.f2; have hlt1 := P1.lt; have hrb1 : rb < w1.heap.size := World.block_lt_of_cell? _ _ k0)
    have hb1 := HB.out
    have hb2 := HB0.out
    have hb := hb2.trans (hb1.mono hb2.size)
    exact bodyPost_ret (v := .tuple #[.agg #[.int .i64 0, .int .i64 0, .string ⟨#[]⟩], .bool false]) (by simp [results, Try.results20, go_sem, p0, p1, p2]) rfl ⟨rfl, RW.same HM0.out (by (repeat (first | exact Below.refl _ _ | assumption | refine Below.drew ?_ | refine below_drewN ?_ _ | refine Below.setCell ?_ (by simp) _ | refine Below.alloc ?_ (by (first | exact Nat.le_refl _ | (simp; done) | (simp; omega) | omega)) _ | refine Below.trans ?_ (Below.mono (by assumption) (by first | exact Nat.le_refl _ | (simp; done) | (simp; omega) | omega)))))⟩
  | true =>
    rw [hs] at HF
    have hs' := hs
    rw [hAB] at hs'
    obtain ⟨y, r, rfl, hy, hg, hdl⟩ := del_at hcase h1 h2 hs'
    rw [show (getL ref O).getD hf0 = y.2 by rw [hAB]; exact hg, show delL ref O = A ++ r by rw [hAB]; exact hdl]
    obtain ⟨g1, c1, n1, rfl, hn1, hcl⟩ := HCELL.out r y hAB
    have HC9 := hidb hcl
    have HW9 := hidb (HWO.out A r y hAB)
    have s1 : (0 : Int) ≤ (A.length : Int) := by omega
    have s2 : (A.length : Int) < (n1 : Int) := by omega
    clear HWO HCELL hcase h1 h2 hAB hr hk hN hd ho ht hs hs' hg hdl hl hcl hb0
    generalize (A ++ r).length = LL at *
    go_enter Try.func20, Try.ntmps20
    go_wp2_with (first
      | (go_at_call 31; refine (HF.out _ (by (repeat (first | exact Below.refl _ _ | assumption | refine Below.drew ?_ | refine below_drewN ?_ _ | refine Below.setCell ?_ (by simp) _ | refine Below.alloc ?_ (by (first | exact Nat.le_refl _ | (simp; done) | (simp; omega) | omega)) _ | refine Below.trans ?_ (Below.mono (by assumption) (by first | exact Nat.le_refl _ | (simp; done) | (simp; omega) | omega)))))).mono ?_; clear HF; rintro e w1 ⟨rfl, k0, k1, P1, HB⟩; have p0 := P1.c0; have p1 := P1.c1; have p2 := P1.c2; have q0 := P1.f0; have q1 := P1.f1; have q2 := P1.f2; have hlt1 := P1.lt; obtain ⟨m4, m5, m6⟩ := HC9.out _ HB.out; have hrb1 : rb < w1.heap.size := World.block_lt_of_cell? _ _ k0)
      | (go_at_call 33; refine (HW9.out _ (HB.out.alloc HB.out.size _)).mono ?_; clear HW9; rintro e w2 ⟨a, c, rfl, j0, j1, P2, hb2, HR⟩; have P3 := (Tri.new w1 38 (.int .i64 y.2.a) (.int .i64 y.2.b) (.string y.2.c)).keep hb2; have p3 := P2.c0; have p4 := P2.c1; have p5 := P2.c2; have q3 := P2.f0; have q4 := P2.f1; have q5 := P2.f2; have p6 := P3.c0; have p7 := P3.c1; have p8 := P3.c2))
    exact bodyPost_ret (v := .tuple #[.agg #[.int .i64 y.2.a, .int .i64 y.2.b, .string y.2.c], .bool true]) (by simp [results, Try.results20, go_sem, p3, p4, p5]) rfl ⟨rfl, HR.out _ (but3 _ _ _ _ _)⟩

set_option maxRecDepth 100000 in
set_option maxHeartbeats 8000000 in
theorem rpopt_any {w : World} {rb : Nat} {E : Nat → Prop} {O T : List KV} (h0 : RM w rb E O T) (hr : Rise T) (hk : MOk T) (hN : T.length ≤ 90000) :
    Calls Try.prog 23 #[.pointer (some ⟨rb, 0, none⟩)] w fun e w' => e = .returned (.tuple #[.agg #[.int .i64 (T.headD (0, hf0)).2.a, .int .i64 (T.headD (0, hf0)).2.b, .string (T.headD (0, hf0)).2.c], .bool (!T.isEmpty)]) ∧ RW w w' rb E O T.tail := by
  have hl := h0.lt
  obtain ⟨W0, hW0⟩ : ∃ W0, w.alloc (.cells #[.int .i64 0, .int .i64 0, .string ⟨#[]⟩] 38) = W0 := ⟨_, rfl⟩
  have hb0 : Below w.heap.size w W0 := hW0 ▸ below_new _ _
  have P0 : Tri W0 w.heap.size (.int .i64 0) (.int .i64 0) (.string ⟨#[]⟩) := hW0 ▸ Tri.new _ _ _ _ _
  have hs0 := P0.lt
  have h := h0.cut.keep hb0
  have hne : ¬ w.heap.size = rb := by omega
  have hne' : ¬ rb = w.heap.size := by omega
  have HM := hidb h
  have HM0 := hidb h0
  obtain ⟨VO, VT, hd, ho, ht, -⟩ := h
  have d0 := hd.c1
  have HWO : Hid (∀ (A r : List KV) (y : KV), T = A ++ y :: r → ∀ W, Below W0.heap.size W0 W → Calls Try.prog 33 #[VT, .int .i64 (A.length : Int)] W fun e w' => ∃ a c, e = .returned (.slice a (A ++ r).length c) ∧ w'.cell? ⟨rb, 1, none⟩ = some VT ∧ w'.frozen? ⟨rb, 1, none⟩ = false ∧ Tri w' w.heap.size (.int .i64 0) (.int .i64 0) (.string ⟨#[]⟩) ∧ Below W.heap.size W w' ∧ Hid (∀ w2, But (fun k => k = w.heap.size) (w'.setCell ⟨rb, 1, none⟩ (.slice a (A ++ r).length c)) w2 → RW w w2 rb E O (A ++ r))) := hidb (fun A r y he W hW => by
    have h9 := MV.row_but ht (But.of_below (S := fun _ => False) hW) (fun _ _ h => h)
    rw [he] at h9 hN
    refine (MV.rwithout_any h9 hN).mono ?_
    rintro e w' ⟨V', rfl, hb, hw⟩
    have hb9 := hW.trans (hb.mono hW.size)
    obtain ⟨a, c, rfl⟩ := MV.own_sl hw
    refine ⟨a, c, rfl, (hd.keep hb9).c1, (hd.keep hb9).f1, P0.keep hb9, hb, hidb (fun w2 hS => ?_)⟩
    have hfin := RM.newT (T' := (A ++ r)) (HM.out.keep hW) hb hw
    exact RW.poke (hb0.trans (hW.mono hb0.size)) hfin hS ⟨Nat.le_refl _, by have := hW.size; omega⟩ hl)
  have HCELL : Hid (∀ (r : List KV) (y : KV), T = y :: r → ∃ g c n, VT = .slice (some ⟨g, 0, none⟩) n c ∧ 0 < n ∧ ∀ W, Below W0.heap.size W0 W → W.cell? ⟨g, 0, none⟩ = some (.int .i64 y.2.a) ∧ W.cell? ⟨g, 1, none⟩ = some (.int .i64 y.2.b) ∧ W.cell? ⟨g, 2, none⟩ = some (.string y.2.c)) := hidb (fun r y he => by
    rw [he] at ht
    obtain ⟨g, c, hv, m1, m2, m3⟩ := MV.row_get ht (show (y :: r)[0]? = some y by simp)
    have hg := World.block_lt_of_cell? _ _ m1
    exact ⟨g, c, _, hv, by simp, fun W hW => ⟨(hW.cell (p := ⟨g, 0, none⟩) hg).trans m1, (hW.cell (p := ⟨g, 1, none⟩) hg).trans m2, (hW.cell (p := ⟨g, 2, none⟩) hg).trans m3⟩⟩)
  have HB0 := hidb hb0
  have q0 := P0.f0
  have q1 := P0.f1
  have q2 := P0.f2
  have u0 := P0.c0
  have u1 := P0.c1
  have u2 := P0.c2
  have hf0' := hd.f1
  have hrb0 : rb < W0.heap.size := by omega
  cases T with
  | nil =>
    obtain ⟨a0, c0, rfl⟩ := MV.own_sl ht
    simp only [List.length_nil] at d0
    clear HWO HCELL hr hk hN hd ho ht hl P0 hb0
    go_enter Try.func23, Try.ntmps23
    go_wp2_with fail
    have hb := HB0.out
    exact bodyPost_ret (v := .tuple #[.agg #[.int .i64 0, .int .i64 0, .string ⟨#[]⟩], .bool false]) (by simp [results, Try.results23, go_sem, u0, u1, u2]) rfl ⟨rfl, RW.same HM0.out (by (repeat (first | exact Below.refl _ _ | assumption | refine Below.drew ?_ | refine below_drewN ?_ _ | refine Below.setCell ?_ (by simp) _ | refine Below.alloc ?_ (by (first | exact Nat.le_refl _ | (simp; done) | (simp; omega) | omega)) _ | refine Below.trans ?_ (Below.mono (by assumption) (by first | exact Nat.le_refl _ | (simp; done) | (simp; omega) | omega)))))⟩
  | cons y r =>
    obtain ⟨g1, c1, n1, rfl, hn1, hcl⟩ := HCELL.out r y rfl
    obtain ⟨m4, m5, m6⟩ := hcl _ (Below.refl _ _)
    have HW9 := hidb (HWO.out [] r y rfl)
    have s1 : (0 : Int) < (n1 : Int) := by omega
    have s2 : ((n1 : Int) == 0) = false := by simp; omega
    have s3 : decide (0 < n1) = true := by simpa using hn1
    simp only [List.nil_append, List.length_nil] at HW9
    clear HWO HCELL hr hk hN hd ho ht hl hcl hb0
    simp only [List.headD_cons, List.tail_cons, List.isEmpty_cons, Bool.not_false]
    generalize r.length = LL at *
    go_enter Try.func23, Try.ntmps23
    go_wp2_with (go_at_call 33; refine (HW9.out _ (below_new _ _)).mono ?_; clear HW9; rintro e w2 ⟨a, c, rfl, j0, j1, P2, hb2, HR⟩; have P3 := (Tri.new W0 38 (.int .i64 y.2.a) (.int .i64 y.2.b) (.string y.2.c)).keep hb2; have p3 := P2.c0; have p4 := P2.c1; have p5 := P2.c2; have q3 := P2.f0; have q4 := P2.f1; have q5 := P2.f2; have p6 := P3.c0; have p7 := P3.c1; have p8 := P3.c2)
    exact bodyPost_ret (v := .tuple #[.agg #[.int .i64 y.2.a, .int .i64 y.2.b, .string y.2.c], .bool true]) (by simp [results, Try.results23, go_sem, p3, p4, p5]) rfl ⟨rfl, HR.out _ (but3 _ _ _ _ _)⟩

set_option maxRecDepth 100000 in
set_option maxHeartbeats 8000000 in
theorem rpopo_any {w : World} {rb : Nat} {E : Nat → Prop} {O T : List KV} (h0 : RM w rb E O T) (hr : Rise O) (hk : MOk O) (hN : O.length ≤ 90000) :
    Calls Try.prog 25 #[.pointer (some ⟨rb, 0, none⟩)] w fun e w' => e = .returned (.tuple #[.agg #[.int .i64 (O.headD (0, hf0)).2.a, .int .i64 (O.headD (0, hf0)).2.b, .string (O.headD (0, hf0)).2.c], .bool (!O.isEmpty)]) ∧ RW w w' rb E O.tail T := by
  have hl := h0.lt
  obtain ⟨W0, hW0⟩ : ∃ W0, w.alloc (.cells #[.int .i64 0, .int .i64 0, .string ⟨#[]⟩] 38) = W0 := ⟨_, rfl⟩
  have hb0 : Below w.heap.size w W0 := hW0 ▸ below_new _ _
  have P0 : Tri W0 w.heap.size (.int .i64 0) (.int .i64 0) (.string ⟨#[]⟩) := hW0 ▸ Tri.new _ _ _ _ _
  have hs0 := P0.lt
  have h := h0.cut.keep hb0
  have hne : ¬ w.heap.size = rb := by omega
  have hne' : ¬ rb = w.heap.size := by omega
  have HM := hidb h
  have HM0 := hidb h0
  obtain ⟨VO, VT, hd, ho, ht, -⟩ := h
  have d0 := hd.c0
  have HWO : Hid (∀ (A r : List KV) (y : KV), O = A ++ y :: r → ∀ W, Below W0.heap.size W0 W → Calls Try.prog 33 #[VO, .int .i64 (A.length : Int)] W fun e w' => ∃ a c, e = .returned (.slice a (A ++ r).length c) ∧ w'.cell? ⟨rb, 0, none⟩ = some VO ∧ w'.frozen? ⟨rb, 0, none⟩ = false ∧ Tri w' w.heap.size (.int .i64 0) (.int .i64 0) (.string ⟨#[]⟩) ∧ Below W.heap.size W w' ∧ Hid (∀ w2, But (fun k => k = w.heap.size) (w'.setCell ⟨rb, 0, none⟩ (.slice a (A ++ r).length c)) w2 → RW w w2 rb E (A ++ r) T)) := hidb (fun A r y he W hW => by
    have h9 := MV.row_but ho (But.of_below (S := fun _ => False) hW) (fun _ _ h => h)
    rw [he] at h9 hN
    refine (MV.rwithout_any h9 hN).mono ?_
    rintro e w' ⟨V', rfl, hb, hw⟩
    have hb9 := hW.trans (hb.mono hW.size)
    obtain ⟨a, c, rfl⟩ := MV.own_sl hw
    refine ⟨a, c, rfl, (hd.keep hb9).c0, (hd.keep hb9).f0, P0.keep hb9, hb, hidb (fun w2 hS => ?_)⟩
    have hfin := RM.newO (O' := (A ++ r)) (HM.out.keep hW) hb hw
    exact RW.poke (hb0.trans (hW.mono hb0.size)) hfin hS ⟨Nat.le_refl _, by have := hW.size; omega⟩ hl)
  have HCELL : Hid (∀ (r : List KV) (y : KV), O = y :: r → ∃ g c n, VO = .slice (some ⟨g, 0, none⟩) n c ∧ 0 < n ∧ ∀ W, Below W0.heap.size W0 W → W.cell? ⟨g, 0, none⟩ = some (.int .i64 y.2.a) ∧ W.cell? ⟨g, 1, none⟩ = some (.int .i64 y.2.b) ∧ W.cell? ⟨g, 2, none⟩ = some (.string y.2.c)) := hidb (fun r y he => by
    rw [he] at ho
    obtain ⟨g, c, hv, m1, m2, m3⟩ := MV.row_get ho (show (y :: r)[0]? = some y by simp)
    have hg := World.block_lt_of_cell? _ _ m1
    exact ⟨g, c, _, hv, by simp, fun W hW => ⟨(hW.cell (p := ⟨g, 0, none⟩) hg).trans m1, (hW.cell (p := ⟨g, 1, none⟩) hg).trans m2, (hW.cell (p := ⟨g, 2, none⟩) hg).trans m3⟩⟩)
  have HB0 := hidb hb0
  have q0 := P0.f0
  have q1 := P0.f1
  have q2 := P0.f2
  have u0 := P0.c0
  have u1 := P0.c1
  have u2 := P0.c2
  have hf0' := hd.f0
  have hrb0 : rb < W0.heap.size := by omega
  cases O with
  | nil =>
    obtain ⟨a0, c0, rfl⟩ := MV.own_sl ho
    simp only [List.length_nil] at d0
    clear HWO HCELL hr hk hN hd ho ht hl P0 hb0
    go_enter Try.func25, Try.ntmps25
    go_wp2_with fail
    have hb := HB0.out
    exact bodyPost_ret (v := .tuple #[.agg #[.int .i64 0, .int .i64 0, .string ⟨#[]⟩], .bool false]) (by simp [results, Try.results25, go_sem, u0, u1, u2]) rfl ⟨rfl, RW.same HM0.out (by (repeat (first | exact Below.refl _ _ | assumption | refine Below.drew ?_ | refine below_drewN ?_ _ | refine Below.setCell ?_ (by simp) _ | refine Below.alloc ?_ (by (first | exact Nat.le_refl _ | (simp; done) | (simp; omega) | omega)) _ | refine Below.trans ?_ (Below.mono (by assumption) (by first | exact Nat.le_refl _ | (simp; done) | (simp; omega) | omega)))))⟩
  | cons y r =>
    obtain ⟨g1, c1, n1, rfl, hn1, hcl⟩ := HCELL.out r y rfl
    obtain ⟨m4, m5, m6⟩ := hcl _ (Below.refl _ _)
    have HW9 := hidb (HWO.out [] r y rfl)
    have s1 : (0 : Int) < (n1 : Int) := by omega
    have s2 : ((n1 : Int) == 0) = false := by simp; omega
    have s3 : decide (0 < n1) = true := by simpa using hn1
    simp only [List.nil_append, List.length_nil] at HW9
    clear HWO HCELL hr hk hN hd ho ht hl hcl hb0
    simp only [List.headD_cons, List.tail_cons, List.isEmpty_cons, Bool.not_false]
    generalize r.length = LL at *
    go_enter Try.func25, Try.ntmps25
    go_wp2_with (go_at_call 33; refine (HW9.out _ (below_new _ _)).mono ?_; clear HW9; rintro e w2 ⟨a, c, rfl, j0, j1, P2, hb2, HR⟩; have P3 := (Tri.new W0 38 (.int .i64 y.2.a) (.int .i64 y.2.b) (.string y.2.c)).keep hb2; have p3 := P2.c0; have p4 := P2.c1; have p5 := P2.c2; have q3 := P2.f0; have q4 := P2.f1; have q5 := P2.f2; have p6 := P3.c0; have p7 := P3.c1; have p8 := P3.c2)
    exact bodyPost_ret (v := .tuple #[.agg #[.int .i64 y.2.a, .int .i64 y.2.b, .string y.2.c], .bool true]) (by simp [results, Try.results25, go_sem, p3, p4, p5]) rfl ⟨rfl, HR.out _ (but3 _ _ _ _ _)⟩

set_option maxRecDepth 100000 in
set_option maxHeartbeats 8000000 in
theorem rond_any {w : World} {rb : Nat} {E : Nat → Prop} {O T : List KV} (h : RM w rb E O T) (hr : Rise T) (hk : MOk T) (ref : Int) (hN : T.length ≤ 90000) :
    Calls Try.prog 22 #[.pointer (some ⟨rb, 0, none⟩), .int .i64 ref] w fun e w' => e = .returned (.bool (getL ref T).isSome) ∧ RW w w' rb E O (delL ref T) := by
  obtain ⟨A, B, hAB, h1, h2⟩ := MV.split_at (key := ref) hr
  have HM := hidb h
  obtain ⟨VO, VT, hd, ho, ht, -⟩ := h
  have d0 := hd.c1
  have HF : Hid (∀ W, Below w.heap.size w W → Calls Try.prog 31 #[VT, .int .i64 ref] W fun e w' => e = .returned (.tuple #[.int .i64 (A.length : Int), .bool (getL ref T).isSome]) ∧ w'.cell? ⟨rb, 1, none⟩ = some VT ∧ w'.frozen? ⟨rb, 1, none⟩ = false ∧ Hid (Below w.heap.size w w')) := hidb (fun W hW => by
    have h9 := MV.row_but ht (But.of_below (S := fun _ => False) hW) (fun _ _ h => h)
    rw [hAB] at h9 hr hk hN ⊢
    refine (MV.rfind_any h9 hr hk ref h1 h2 (by omega)).mono ?_
    rintro e w' ⟨rfl, hb⟩
    have hb9 := hW.trans (hb.mono hW.size)
    exact ⟨rfl, (hd.keep hb9).c1, (hd.keep hb9).f1, hidb hb9⟩)
  have hcase := hr
  rw [hAB] at hcase
  cases hs : (getL ref T).isSome with
  | false =>
    rw [hs] at HF
    have hno : getL ref T = none := by simpa using hs
    rw [MV.del_of_none hno]
    clear hcase h1 h2 hAB hr hk hN hd ho ht hs hno
    go_enter Try.func22, Try.ntmps22
    go_wp2_with (go_at_call 31; refine (HF.out _ (by (repeat (first | exact Below.refl _ _ | assumption | refine Below.drew ?_ | refine below_drewN ?_ _ | refine Below.setCell ?_ (by simp) _ | refine Below.alloc ?_ (by (first | exact Nat.le_refl _ | (simp; done) | (simp; omega) | omega)) _ | refine Below.trans ?_ (Below.mono (by assumption) (by first | exact Nat.le_refl _ | (simp; done) | (simp; omega) | omega)))))).mono ?_; clear HF; rintro e w1 ⟨rfl, k0, k1, HB⟩)
    go_ret
    exact ⟨rfl, RW.same HM.out HB.out⟩
  | true =>
    rw [hs] at HF
    have hs' := hs
    rw [hAB] at hs'
    obtain ⟨y, r, rfl, hy, hg, hdl⟩ := del_at hcase h1 h2 hs'
    rw [show delL ref T = A ++ r by rw [hAB]; exact hdl]
    have HWO : Hid (∀ W, Below w.heap.size w W → Calls Try.prog 33 #[VT, .int .i64 (A.length : Int)] W fun e w' => ∃ a c, e = .returned (.slice a (A ++ r).length c) ∧ w'.cell? ⟨rb, 1, none⟩ = some VT ∧ w'.frozen? ⟨rb, 1, none⟩ = false ∧ Hid (RW w (w'.setCell ⟨rb, 1, none⟩ (.slice a (A ++ r).length c)) rb E O (A ++ r))) := hidb (fun W hW => by
      have h9 := MV.row_but ht (But.of_below (S := fun _ => False) hW) (fun _ _ h => h)
      rw [hAB] at h9 hN
      refine (MV.rwithout_any h9 hN).mono ?_
      rintro e w' ⟨V', rfl, hb, hw⟩
      have hb9 := hW.trans (hb.mono hW.size)
      obtain ⟨a, c, rfl⟩ := MV.own_sl hw
      exact ⟨a, c, rfl, (hd.keep hb9).c1, (hd.keep hb9).f1, hidb (RW.pre hW (RM.newT (T' := A ++ r) (HM.out.keep hW) hb hw))⟩)
    clear hcase h1 h2 hAB hr hk hN hd ho ht hs hs' hg hdl hy
    generalize (A ++ r).length = LL at *
    go_enter Try.func22, Try.ntmps22
    go_wp2_with (first
      | (go_at_call 31; refine (HF.out _ (by (repeat (first | exact Below.refl _ _ | assumption | refine Below.drew ?_ | refine below_drewN ?_ _ | refine Below.setCell ?_ (by simp) _ | refine Below.alloc ?_ (by (first | exact Nat.le_refl _ | (simp; done) | (simp; omega) | omega)) _ | refine Below.trans ?_ (Below.mono (by assumption) (by first | exact Nat.le_refl _ | (simp; done) | (simp; omega) | omega)))))).mono ?_; clear HF; rintro e w1 ⟨rfl, k0, k1, HB⟩)
      | (go_at_call 33; refine (HWO.out _ HB.out).mono ?_; clear HWO; rintro e w2 ⟨a, c, rfl, j0, j1, HR⟩))
    go_ret
    exact ⟨rfl, HR.out⟩

end Go.Proofs.Ytmnglaeaicicnaa
