import Derived.Test.YtajadhkpadkikaaGreatDoorG25
import Derived.Test.YtajadhkpadkikaaGreatDoorG19
import Derived.Test.YtajadhkpadkikaaGreatDoorG07
import Derived.Test.YtajadhkpadkikaaGreatDoorG08
/- answer: what a builtin tells, as the caller's own, or what it raised. -/
namespace Go.Proofs.YtajadhkpadkikaaGreatDoor
open Go.RowKit Go.Lib Go.Deep
attribute [local go_sem] store_float f64bits store_func store_nilFunc
attribute [local go_sem ↓] Go.wp_at_zero Go.wp_at_succ

/-- What a builtin has told: a term of which P holds, that lies below B or in new memory, or what it raised, of which E holds. -/
def Tld (P : Tr → Prop) (E : Int → Prop) (B : Nat) (w : World) (e : Ending) (w' : World) : Prop :=
  Below w.heap.size w w' ∧ ((∃ t : Tr, e = .returned t.val ∧ P t ∧ t.In w' 0 ∧ t.On (fun k => k < B ∨ w.heap.size ≤ k) ∧ Small t ∧ cnT t ≤ 1000000000) ∨ (∃ er, e = raisedBy er ∧ E er))
abbrev zterm : Value := .agg #[.int .i64 0, .int .i64 0, .float .f64 0, .string ⟨#[]⟩, .slice none 0 0]
/-- What answer tells then. -/
def Ans (P : Tr → Prop) (E : Int → Prop) (w : World) (e : Ending) (w' : World) : Prop :=
  Below w.heap.size w w' ∧ ((∃ t t' : Tr, P t ∧ errT t = 0 ∧ Sm t t' ∧ t'.In w' w.heap.size ∧ e = .returned (.tuple #[t'.val, .int .i64 0])) ∨ (∃ er, (E er ∨ ∃ t, P t ∧ errT t ≠ 0 ∧ er = mb (errT t)) ∧ e = .returned (.tuple #[zterm, .int .i64 er])))

abbrev CT : Nat := 54
theorem in_on5 {w : World} {t : Tr} {B b c : Nat} (h : t.In w 0) (ho : t.On (fun k => k < B ∨ c ≤ k)) (h1 : B ≤ b) (h2 : b < c) (u0 u1 u2 u3 u4 : Value) : t.In (set5 w b u0 u1 u2 u3 u4) 0 :=
  in_on (S := fun k => k < B ∨ c ≤ k) (fun k hk => by
    have hb : But (fun q => q = b) w (set5 w b u0 u1 u2 u3 u4) := (((((But.refl (fun q => q = b) w).setCell (p := ⟨b, 0, none⟩) (fun _ => rfl) u0).setCell (p := ⟨b, 1, none⟩) (fun _ => rfl) u1).setCell (p := ⟨b, 2, none⟩) (fun _ => rfl) u2).setCell (p := ⟨b, 3, none⟩) (fun _ => rfl) u3).setCell (p := ⟨b, 4, none⟩) (fun _ => rfl) u4
    by_cases hl : k < w.heap.size
    · exact hb.block k hl (by omega)
    · have hz : (set5 w b u0 u1 u2 u3 u4).heap.size = w.heap.size := by simp [set5]
      rw [Array.getElem?_eq_none (by omega), Array.getElem?_eq_none (by omega)]) t h ho

set_option maxHeartbeats 16000000 in
set_option maxRecDepth 100000 in
theorem answer_any {f : Nat} (ent : ∀ args w, (callFunc f args).run Tryz.prog w = .ok (.enter f args) w) {P : Tr → Prop} {E : Int → Prop} {nm : ByteArray} {a : Option Addr} {n c : Nat} {ar : Value} {w : World}
    (har : ar = .nilFunc ∨ ∃ g, ar = .func (.func g) #[] #[])
    (hT : ∀ W, Below w.heap.size w W → Calls Tryz.prog f #[.agg #[.string nm, .slice a n c, ar]] W (Tld P E w.heap.size W)) :
    Calls Tryz.prog 34 #[.agg #[.string nm, .slice a n c, ar], .func (.func f) #[] #[]] w (Ans P E w) := by
  have hmf : ∀ (fn : Fn) (first cap : Array Value) (w : World), (Instr.makeFunc fn first cap).run Tryz.prog w = .ok (.func fn first cap) w := fun _ _ _ _ => rfl
  obtain ⟨W3, hW3⟩ : ∃ W3, ((w.alloc (.cells #[.string nm, .slice a n c, ar] CT)).alloc (.cells #[.int .i64 0, .int .i64 0, .float .f64 0, .string ⟨#[]⟩, .slice none 0 0] 25)).alloc (.cells #[.int .i64 0] 31) = W3 := ⟨_, rfl⟩
  have HB3 : Hid (Below w.heap.size w W3) := hidb (by rw [← hW3]; exact (((Below.refl _ _).alloc (Nat.le_refl _) _).alloc (by simp) _).alloc (by simp; omega) _)
  have HX3 : Hid (Box W3 (w.heap.size + 1) (.int .i64 0) (.int .i64 0) (.float .f64 0) (.string ⟨#[]⟩) (.slice none 0 0)) := hidb (by
    rw [← hW3]
    have := (Box.new (w.alloc (.cells #[.string nm, .slice a n c, ar] CT)) 25 (.int .i64 0) (.int .i64 0) (.float .f64 0) (.string ⟨#[]⟩) (.slice none 0 0)).keep (below_new _ (.cells #[.int .i64 0] 31))
    simpa using this)
  have HE3 : Hid (W3.cell? ⟨w.heap.size + 1 + 1, 0, none⟩ = some (.int .i64 0) ∧ W3.frozen? ⟨w.heap.size + 1 + 1, 0, none⟩ = false ∧ W3.heap.size = w.heap.size + 1 + 1 + 1) := hidb (by
    rw [← hW3]
    have h1 := World.cell?_alloc_new ((w.alloc (.cells #[.string nm, .slice a n c, ar] CT)).alloc (.cells #[.int .i64 0, .int .i64 0, .float .f64 0, .string ⟨#[]⟩, .slice none 0 0] 25)) #[.int .i64 0] 31 0
    have h2 := World.frozen?_alloc_new ((w.alloc (.cells #[.string nm, .slice a n c, ar] CT)).alloc (.cells #[.int .i64 0, .int .i64 0, .float .f64 0, .string ⟨#[]⟩, .slice none 0 0] 25)) #[.int .i64 0] 31 0
    refine ⟨by simpa using h1, by simpa using h2, by simp⟩)
  have HW3 := hidb hW3
  have TT3 := hidb (hT W3 HB3.out)
  have ent3 := ent #[.agg #[.string nm, .slice a n c, ar]]
  obtain ⟨PP, hPP⟩ : ∃ PP : Ending → World → Prop, Ans P E w = PP := ⟨_, rfl⟩
  have HPP := hidb hPP
  rw [hPP]
  clear hW3 hT hPP ent
  rcases har with rfl | ⟨g, rfl⟩
  · go_enter_defers Tryz.func34, Tryz.ntmps34
    go_wp2_with fail
    rw [HW3.out]
    refine TT3.out.mono ?_
    rintro e w4 ⟨hb4, (⟨⟨k', n', f', s', a', c', ks'⟩, rfl, hP, hin, hon, hsm, hcn⟩ | ⟨er, rfl, hE⟩)⟩
    · have HB4 := hidb hb4
      have HX4 := hidb (HX3.out.keep hb4)
      have e4 := (hb4.cell (p := ⟨w.heap.size + 1 + 1, 0, none⟩) (World.block_lt_of_cell? _ _ HE3.out.1)).trans HE3.out.1
      have e4f := (hb4.frozen (p := ⟨w.heap.size + 1 + 1, 0, none⟩) (World.block_lt_of_cell? _ _ HE3.out.1)).trans HE3.out.2.1
      have c0 := HX4.out.c0; have c1 := HX4.out.c1; have c2 := HX4.out.c2; have c3 := HX4.out.c3; have c4 := HX4.out.c4
      have f0 := HX4.out.f0; have f1 := HX4.out.f1; have f2 := HX4.out.f2; have f3 := HX4.out.f3; have f4 := HX4.out.f4
      have hin5 := in_on5 hin hon (b := w.heap.size + 1) (by omega) (by have := HE3.out.2.2; omega) (.int .i64 k') (.int .i64 n') (.float .f64 f') (.string s') (.slice a' ks'.length c')
      have HIN5 := hidb hin5
      have HSM := hidb (And.intro hsm hcn)
      have HPt := hidb hP
      have CK := hidb (check_t _ _ hin5 hsm)
      simp only [Tr.val, Tr.cells] at CK ⊢
      clear hin hon hin5 hsm hcn hP hb4 TT3 ent3
      go_wp2_with fail
      refine CK.out.mono ?_
      rintro e w6 ⟨rfl, hb6⟩
      have HX6 := hidb ((HX4.out.set (.int .i64 k') (.int .i64 n') (.float .f64 f') (.string s') (.slice a' ks'.length c')).keep hb6)
      have hE5 : (set5 w4 (w.heap.size + 1) (.int .i64 k') (.int .i64 n') (.float .f64 f') (.string s') (.slice a' ks'.length c')).cell? ⟨w.heap.size + 1 + 1, 0, none⟩ = some (.int .i64 0) := by
        unfold set5
        simp only [World.cell?_setCell_other _ _ _ _ (ne_blk3 _ _ _ _ (show w.heap.size + 1 ≠ w.heap.size + 1 + 1 by omega))]
        exact e4
      have hF5 : (set5 w4 (w.heap.size + 1) (.int .i64 k') (.int .i64 n') (.float .f64 f') (.string s') (.slice a' ks'.length c')).frozen? ⟨w.heap.size + 1 + 1, 0, none⟩ = false := by
        unfold set5
        simp only [World.frozen?_setCell]
        exact e4f
      have hB5 : Below w.heap.size w4 (set5 w4 (w.heap.size + 1) (.int .i64 k') (.int .i64 n') (.float .f64 f') (.string s') (.slice a' ks'.length c')) := ((((((Below.refl _ w4).mono (by have := HB3.out.size; have := HB4.out.size; omega)).setCell (by simp) _).setCell (by simp) _).setCell (by simp) _).setCell (by simp) _).setCell (by simp) _
      have e6 := (hb6.cell (p := ⟨w.heap.size + 1 + 1, 0, none⟩) (World.block_lt_of_cell? _ _ hE5)).trans hE5
      have e6f := (hb6.frozen (p := ⟨w.heap.size + 1 + 1, 0, none⟩) (World.block_lt_of_cell? _ _ hE5)).trans hF5
      have HB6 : Hid (Below w.heap.size w w6) := hidb (((HB3.out.trans (HB4.out.mono HB3.out.size)).trans hB5).trans (hb6.mono (by have := hB5.size; have := HB3.out.size; have := HB4.out.size; omega)))
      have HIN6 := hidb (in_below hb6 HIN5.out)
      have HZ6 : Hid (w.heap.size + 1 + 1 < w6.heap.size) := hidb (World.block_lt_of_cell? _ _ e6)
      clear e4 e4f c0 c1 c2 c3 c4 f0 f1 f2 f3 f4 CK HIN5 hb6 hE5 hF5 hB5 HX4
      have c0 := HX6.out.c0; have c1 := HX6.out.c1; have c2 := HX6.out.c2; have c3 := HX6.out.c3; have c4 := HX6.out.c4
      have f0 := HX6.out.f0; have f1 := HX6.out.f1; have f2 := HX6.out.f2; have f3 := HX6.out.f3; have f4 := HX6.out.f4
      by_cases he : errT (Tr.mk k' n' f' s' a' c' ks') = 0
      · have HE5 := hidb he
        rw [he]
        have CP := hidb (copy_any _ _ HIN6.out HSM.out.1 HSM.out.2)
        simp only [Tr.val, Tr.cells] at CP
        clear he
        go_wp2_with (go_at_call 87; refine (mustBe_ok _).mono ?_; rintro r w1 ⟨rfl, rfl⟩)
        refine CP.out.mono ?_
        rintro e w7 ⟨⟨k2, n2, f2', s2, a2, c2', ks2⟩, rfl, hsm2, hin2, hb7⟩
        have HX7 := hidb (HX6.out.keep hb7)
        have g0 := HX7.out.c0; have g1 := HX7.out.c1; have g2 := HX7.out.c2; have g3 := HX7.out.c3; have g4 := HX7.out.c4
        have m0 := HX7.out.f0; have m1 := HX7.out.f1; have m2 := HX7.out.f2; have m3 := HX7.out.f3; have m4 := HX7.out.f4
        have e7 := (hb7.cell (p := ⟨w.heap.size + 1 + 1, 0, none⟩) (World.block_lt_of_cell? _ _ e6)).trans e6
        have e7f := (hb7.frozen (p := ⟨w.heap.size + 1 + 1, 0, none⟩) (World.block_lt_of_cell? _ _ e6)).trans e6f
        have HB7 : Hid (Below w.heap.size w w7) := hidb (HB6.out.trans (hb7.mono HB6.out.size))
        have HIN2 := hidb hin2
        have HSM2 := hidb hsm2
        clear hin2 hsm2 hb7 c0 c1 c2 c3 c4 f0 f1 f2 f3 f4 e6 e6f CP
        go_wp2_with fail
        refine leaves_cons (f := 86) (args := #[.pointer (some ⟨w.heap.size + 1, 0, none⟩), .pointer (some ⟨w.heap.size + 1 + 1, 0, none⟩)]) (by simp) (by simp [go_sem]) ?_
        refine (bcatch_idle (w.heap.size + 1) (w.heap.size + 1 + 1) _).mono ?_
        rintro e u' w9 ⟨rfl, rfl, rfl⟩
        have bx9 := (HX7.out.set (.int .i64 k2) (.int .i64 n2) (.float .f64 f2') (.string s2) (.slice a2 ks2.length c2')).other1 (c := w.heap.size + 1 + 1) (i := 0) (by omega) (.int .i64 0)
        have hE9 : (set5 w7 (w.heap.size + 1) (.int .i64 k2) (.int .i64 n2) (.float .f64 f2') (.string s2) (.slice a2 ks2.length c2')).cell? ⟨w.heap.size + 1 + 1, 0, none⟩ = some (.int .i64 0) := by
          unfold set5
          simp only [World.cell?_setCell_other _ _ _ _ (ne_blk3 _ _ _ _ (show w.heap.size + 1 ≠ w.heap.size + 1 + 1 by omega))]
          exact e7
        have hc9 := World.cell?_setCell_same _ _ (.int .i64 0) hE9
        have k0 := bx9.c0; have k1 := bx9.c1; have k2' := bx9.c2; have k3 := bx9.c3; have k4 := bx9.c4
        have hfin : PP (.returned (.tuple #[Tr.val (.mk k2 n2 f2' s2 a2 c2' ks2), .int .i64 0])) ((set5 w7 (w.heap.size + 1) (.int .i64 k2) (.int .i64 n2) (.float .f64 f2') (.string s2) (.slice a2 ks2.length c2')).setCell ⟨w.heap.size + 1 + 1, 0, none⟩ (.int .i64 0)) := by
          rw [← HPP.out]
          refine ⟨((((((HB7.out.setCell (by simp) _).setCell (by simp) _).setCell (by simp) _).setCell (by simp) _).setCell (by simp) _).setCell (by simp; omega) _), .inl ⟨_, _, HPt.out, HE5.out, HSM2.out, ?_, rfl⟩⟩
          have hz := HZ6.out
          have hy := HB6.out.size
          exact in_base (by omega) _ (in_set (in_set (in_set (in_set (in_set (in_set HIN2.out (p := ⟨w.heap.size + 1, 0, none⟩) (by simp only []; omega) _) (p := ⟨w.heap.size + 1, 1, none⟩) (by simp only []; omega) _) (p := ⟨w.heap.size + 1, 2, none⟩) (by simp only []; omega) _) (p := ⟨w.heap.size + 1, 3, none⟩) (by simp only []; omega) _) (p := ⟨w.heap.size + 1, 4, none⟩) (by simp only []; omega) _) (p := ⟨w.heap.size + 1 + 1, 0, none⟩) (by simp only []; omega) _)
        have HF := hidb hfin
        simp only [set5] at k0 k1 k2' k3 k4 hc9 HF
        clear hfin bx9 hE9 g0 g1 g2 g3 g4 m0 m1 m2 m3 m4 e7 e7f
        simp [Leaves, settle, results, Tryz.results34, go_sem, k0, k1, k2', k3, k4, hc9]
        exact HF.out
      · have MN := hidb (fun W => mustBe_no _ he W)
        have HE5 := hidb he
        generalize hG : errT (Tr.mk k' n' f' s' a' c' ks') = G at *
        have HG := hidb hG
        clear hG he
        go_wp2_with (go_at_call 87; refine (MN.out _).mono ?_; rintro r w1 ⟨rfl, hb1⟩)
        have HB1 := hidb hb1
        have HX1 := HX6.out.keep hb1
        have e1 := (hb1.cell (p := ⟨w.heap.size + 1 + 1, 0, none⟩) (World.block_lt_of_cell? _ _ e6)).trans e6
        have e1f := (hb1.frozen (p := ⟨w.heap.size + 1 + 1, 0, none⟩) (World.block_lt_of_cell? _ _ e6)).trans e6f
        refine leaves_cons (f := 86) (args := #[.pointer (some ⟨w.heap.size + 1, 0, none⟩), .pointer (some ⟨w.heap.size + 1 + 1, 0, none⟩)]) (by simp) (by simp [go_sem]) ?_
        refine (bcatch_raised (w.heap.size + 1) (w.heap.size + 1 + 1) (by omega) _ [] _ _ _ _ _ _ w1 HX1 e1 e1f).mono ?_
        rintro e u' w9 ⟨rfl, rfl, bx9, hc9, hbt9⟩
        have k0 := bx9.c0; have k1 := bx9.c1; have k2 := bx9.c2; have k3 := bx9.c3; have k4 := bx9.c4
        have hfin : PP (.returned (.tuple #[zterm, .int .i64 (mb G)])) w9 := by
          rw [← HPP.out]
          refine ⟨(HB6.out.trans (HB1.out.mono HB6.out.size)).trans (hbt9.below (by have := ((HB6.out.trans (HB1.out.mono HB6.out.size))).size; omega) (fun k hk => by omega)), .inr ⟨_, .inr ⟨_, HPt.out, by rw [HG.out]; exact HE5.out, by rw [HG.out]⟩, rfl⟩⟩
        have HF := hidb hfin
        clear hfin bx9 hbt9
        simp [Leaves, settle, results, Tryz.results34, go_sem, k0, k1, k2, k3, k4, hc9]
        exact HF.out
    · have HB4 := hidb hb4
      have e4 := (hb4.cell (p := ⟨w.heap.size + 1 + 1, 0, none⟩) (World.block_lt_of_cell? _ _ HE3.out.1)).trans HE3.out.1
      have e4f := (hb4.frozen (p := ⟨w.heap.size + 1 + 1, 0, none⟩) (World.block_lt_of_cell? _ _ HE3.out.1)).trans HE3.out.2.1
      refine leaves_cons (f := 86) (args := #[.pointer (some ⟨w.heap.size + 1, 0, none⟩), .pointer (some ⟨w.heap.size + 1 + 1, 0, none⟩)]) (by simp) (by simp [go_sem]) ?_
      refine (bcatch_raised (w.heap.size + 1) (w.heap.size + 1 + 1) (by omega) _ [] _ _ _ _ _ _ w4 (HX3.out.keep hb4) e4 e4f).mono ?_
      rintro e u' w9 ⟨rfl, rfl, bx9, hc9, hbt9⟩
      have k0 := bx9.c0; have k1 := bx9.c1; have k2 := bx9.c2; have k3 := bx9.c3; have k4 := bx9.c4
      have hfin : PP (.returned (.tuple #[zterm, .int .i64 er])) w9 := by
        rw [← HPP.out]
        refine ⟨(HB3.out.trans (HB4.out.mono HB3.out.size)).trans (hbt9.below (by have := ((HB3.out.trans (HB4.out.mono HB3.out.size))).size; omega) (fun k hk => by omega)), .inr ⟨_, .inl hE, rfl⟩⟩
      have HF := hidb hfin
      clear hfin bx9 hbt9
      simp [Leaves, settle, results, Tryz.results34, go_sem, k0, k1, k2, k3, k4, hc9]
      exact HF.out
  · go_enter_defers Tryz.func34, Tryz.ntmps34
    go_wp2_with fail
    rw [HW3.out]
    refine TT3.out.mono ?_
    rintro e w4 ⟨hb4, (⟨⟨k', n', f', s', a', c', ks'⟩, rfl, hP, hin, hon, hsm, hcn⟩ | ⟨er, rfl, hE⟩)⟩
    · have HB4 := hidb hb4
      have HX4 := hidb (HX3.out.keep hb4)
      have e4 := (hb4.cell (p := ⟨w.heap.size + 1 + 1, 0, none⟩) (World.block_lt_of_cell? _ _ HE3.out.1)).trans HE3.out.1
      have e4f := (hb4.frozen (p := ⟨w.heap.size + 1 + 1, 0, none⟩) (World.block_lt_of_cell? _ _ HE3.out.1)).trans HE3.out.2.1
      have c0 := HX4.out.c0; have c1 := HX4.out.c1; have c2 := HX4.out.c2; have c3 := HX4.out.c3; have c4 := HX4.out.c4
      have f0 := HX4.out.f0; have f1 := HX4.out.f1; have f2 := HX4.out.f2; have f3 := HX4.out.f3; have f4 := HX4.out.f4
      have hin5 := in_on5 hin hon (b := w.heap.size + 1) (by omega) (by have := HE3.out.2.2; omega) (.int .i64 k') (.int .i64 n') (.float .f64 f') (.string s') (.slice a' ks'.length c')
      have HIN5 := hidb hin5
      have HSM := hidb (And.intro hsm hcn)
      have HPt := hidb hP
      have CK := hidb (check_t _ _ hin5 hsm)
      simp only [Tr.val, Tr.cells] at CK ⊢
      clear hin hon hin5 hsm hcn hP hb4 TT3 ent3
      go_wp2_with fail
      refine CK.out.mono ?_
      rintro e w6 ⟨rfl, hb6⟩
      have HX6 := hidb ((HX4.out.set (.int .i64 k') (.int .i64 n') (.float .f64 f') (.string s') (.slice a' ks'.length c')).keep hb6)
      have hE5 : (set5 w4 (w.heap.size + 1) (.int .i64 k') (.int .i64 n') (.float .f64 f') (.string s') (.slice a' ks'.length c')).cell? ⟨w.heap.size + 1 + 1, 0, none⟩ = some (.int .i64 0) := by
        unfold set5
        simp only [World.cell?_setCell_other _ _ _ _ (ne_blk3 _ _ _ _ (show w.heap.size + 1 ≠ w.heap.size + 1 + 1 by omega))]
        exact e4
      have hF5 : (set5 w4 (w.heap.size + 1) (.int .i64 k') (.int .i64 n') (.float .f64 f') (.string s') (.slice a' ks'.length c')).frozen? ⟨w.heap.size + 1 + 1, 0, none⟩ = false := by
        unfold set5
        simp only [World.frozen?_setCell]
        exact e4f
      have hB5 : Below w.heap.size w4 (set5 w4 (w.heap.size + 1) (.int .i64 k') (.int .i64 n') (.float .f64 f') (.string s') (.slice a' ks'.length c')) := ((((((Below.refl _ w4).mono (by have := HB3.out.size; have := HB4.out.size; omega)).setCell (by simp) _).setCell (by simp) _).setCell (by simp) _).setCell (by simp) _).setCell (by simp) _
      have e6 := (hb6.cell (p := ⟨w.heap.size + 1 + 1, 0, none⟩) (World.block_lt_of_cell? _ _ hE5)).trans hE5
      have e6f := (hb6.frozen (p := ⟨w.heap.size + 1 + 1, 0, none⟩) (World.block_lt_of_cell? _ _ hE5)).trans hF5
      have HB6 : Hid (Below w.heap.size w w6) := hidb (((HB3.out.trans (HB4.out.mono HB3.out.size)).trans hB5).trans (hb6.mono (by have := hB5.size; have := HB3.out.size; have := HB4.out.size; omega)))
      have HIN6 := hidb (in_below hb6 HIN5.out)
      have HZ6 : Hid (w.heap.size + 1 + 1 < w6.heap.size) := hidb (World.block_lt_of_cell? _ _ e6)
      clear e4 e4f c0 c1 c2 c3 c4 f0 f1 f2 f3 f4 CK HIN5 hb6 hE5 hF5 hB5 HX4
      have c0 := HX6.out.c0; have c1 := HX6.out.c1; have c2 := HX6.out.c2; have c3 := HX6.out.c3; have c4 := HX6.out.c4
      have f0 := HX6.out.f0; have f1 := HX6.out.f1; have f2 := HX6.out.f2; have f3 := HX6.out.f3; have f4 := HX6.out.f4
      by_cases he : errT (Tr.mk k' n' f' s' a' c' ks') = 0
      · have HE5 := hidb he
        rw [he]
        have CP := hidb (copy_any _ _ HIN6.out HSM.out.1 HSM.out.2)
        simp only [Tr.val, Tr.cells] at CP
        clear he
        go_wp2_with (go_at_call 87; refine (mustBe_ok _).mono ?_; rintro r w1 ⟨rfl, rfl⟩)
        refine CP.out.mono ?_
        rintro e w7 ⟨⟨k2, n2, f2', s2, a2, c2', ks2⟩, rfl, hsm2, hin2, hb7⟩
        have HX7 := hidb (HX6.out.keep hb7)
        have g0 := HX7.out.c0; have g1 := HX7.out.c1; have g2 := HX7.out.c2; have g3 := HX7.out.c3; have g4 := HX7.out.c4
        have m0 := HX7.out.f0; have m1 := HX7.out.f1; have m2 := HX7.out.f2; have m3 := HX7.out.f3; have m4 := HX7.out.f4
        have e7 := (hb7.cell (p := ⟨w.heap.size + 1 + 1, 0, none⟩) (World.block_lt_of_cell? _ _ e6)).trans e6
        have e7f := (hb7.frozen (p := ⟨w.heap.size + 1 + 1, 0, none⟩) (World.block_lt_of_cell? _ _ e6)).trans e6f
        have HB7 : Hid (Below w.heap.size w w7) := hidb (HB6.out.trans (hb7.mono HB6.out.size))
        have HIN2 := hidb hin2
        have HSM2 := hidb hsm2
        clear hin2 hsm2 hb7 c0 c1 c2 c3 c4 f0 f1 f2 f3 f4 e6 e6f CP
        go_wp2_with fail
        refine leaves_cons (f := 86) (args := #[.pointer (some ⟨w.heap.size + 1, 0, none⟩), .pointer (some ⟨w.heap.size + 1 + 1, 0, none⟩)]) (by simp) (by simp [go_sem]) ?_
        refine (bcatch_idle (w.heap.size + 1) (w.heap.size + 1 + 1) _).mono ?_
        rintro e u' w9 ⟨rfl, rfl, rfl⟩
        have bx9 := (HX7.out.set (.int .i64 k2) (.int .i64 n2) (.float .f64 f2') (.string s2) (.slice a2 ks2.length c2')).other1 (c := w.heap.size + 1 + 1) (i := 0) (by omega) (.int .i64 0)
        have hE9 : (set5 w7 (w.heap.size + 1) (.int .i64 k2) (.int .i64 n2) (.float .f64 f2') (.string s2) (.slice a2 ks2.length c2')).cell? ⟨w.heap.size + 1 + 1, 0, none⟩ = some (.int .i64 0) := by
          unfold set5
          simp only [World.cell?_setCell_other _ _ _ _ (ne_blk3 _ _ _ _ (show w.heap.size + 1 ≠ w.heap.size + 1 + 1 by omega))]
          exact e7
        have hc9 := World.cell?_setCell_same _ _ (.int .i64 0) hE9
        have k0 := bx9.c0; have k1 := bx9.c1; have k2' := bx9.c2; have k3 := bx9.c3; have k4 := bx9.c4
        have hfin : PP (.returned (.tuple #[Tr.val (.mk k2 n2 f2' s2 a2 c2' ks2), .int .i64 0])) ((set5 w7 (w.heap.size + 1) (.int .i64 k2) (.int .i64 n2) (.float .f64 f2') (.string s2) (.slice a2 ks2.length c2')).setCell ⟨w.heap.size + 1 + 1, 0, none⟩ (.int .i64 0)) := by
          rw [← HPP.out]
          refine ⟨((((((HB7.out.setCell (by simp) _).setCell (by simp) _).setCell (by simp) _).setCell (by simp) _).setCell (by simp) _).setCell (by simp; omega) _), .inl ⟨_, _, HPt.out, HE5.out, HSM2.out, ?_, rfl⟩⟩
          have hz := HZ6.out
          have hy := HB6.out.size
          exact in_base (by omega) _ (in_set (in_set (in_set (in_set (in_set (in_set HIN2.out (p := ⟨w.heap.size + 1, 0, none⟩) (by simp only []; omega) _) (p := ⟨w.heap.size + 1, 1, none⟩) (by simp only []; omega) _) (p := ⟨w.heap.size + 1, 2, none⟩) (by simp only []; omega) _) (p := ⟨w.heap.size + 1, 3, none⟩) (by simp only []; omega) _) (p := ⟨w.heap.size + 1, 4, none⟩) (by simp only []; omega) _) (p := ⟨w.heap.size + 1 + 1, 0, none⟩) (by simp only []; omega) _)
        have HF := hidb hfin
        simp only [set5] at k0 k1 k2' k3 k4 hc9 HF
        clear hfin bx9 hE9 g0 g1 g2 g3 g4 m0 m1 m2 m3 m4 e7 e7f
        simp [Leaves, settle, results, Tryz.results34, go_sem, k0, k1, k2', k3, k4, hc9]
        exact HF.out
      · have MN := hidb (fun W => mustBe_no _ he W)
        have HE5 := hidb he
        generalize hG : errT (Tr.mk k' n' f' s' a' c' ks') = G at *
        have HG := hidb hG
        clear hG he
        go_wp2_with (go_at_call 87; refine (MN.out _).mono ?_; rintro r w1 ⟨rfl, hb1⟩)
        have HB1 := hidb hb1
        have HX1 := HX6.out.keep hb1
        have e1 := (hb1.cell (p := ⟨w.heap.size + 1 + 1, 0, none⟩) (World.block_lt_of_cell? _ _ e6)).trans e6
        have e1f := (hb1.frozen (p := ⟨w.heap.size + 1 + 1, 0, none⟩) (World.block_lt_of_cell? _ _ e6)).trans e6f
        refine leaves_cons (f := 86) (args := #[.pointer (some ⟨w.heap.size + 1, 0, none⟩), .pointer (some ⟨w.heap.size + 1 + 1, 0, none⟩)]) (by simp) (by simp [go_sem]) ?_
        refine (bcatch_raised (w.heap.size + 1) (w.heap.size + 1 + 1) (by omega) _ [] _ _ _ _ _ _ w1 HX1 e1 e1f).mono ?_
        rintro e u' w9 ⟨rfl, rfl, bx9, hc9, hbt9⟩
        have k0 := bx9.c0; have k1 := bx9.c1; have k2 := bx9.c2; have k3 := bx9.c3; have k4 := bx9.c4
        have hfin : PP (.returned (.tuple #[zterm, .int .i64 (mb G)])) w9 := by
          rw [← HPP.out]
          refine ⟨(HB6.out.trans (HB1.out.mono HB6.out.size)).trans (hbt9.below (by have := ((HB6.out.trans (HB1.out.mono HB6.out.size))).size; omega) (fun k hk => by omega)), .inr ⟨_, .inr ⟨_, HPt.out, by rw [HG.out]; exact HE5.out, by rw [HG.out]⟩, rfl⟩⟩
        have HF := hidb hfin
        clear hfin bx9 hbt9
        simp [Leaves, settle, results, Tryz.results34, go_sem, k0, k1, k2, k3, k4, hc9]
        exact HF.out
    · have HB4 := hidb hb4
      have e4 := (hb4.cell (p := ⟨w.heap.size + 1 + 1, 0, none⟩) (World.block_lt_of_cell? _ _ HE3.out.1)).trans HE3.out.1
      have e4f := (hb4.frozen (p := ⟨w.heap.size + 1 + 1, 0, none⟩) (World.block_lt_of_cell? _ _ HE3.out.1)).trans HE3.out.2.1
      refine leaves_cons (f := 86) (args := #[.pointer (some ⟨w.heap.size + 1, 0, none⟩), .pointer (some ⟨w.heap.size + 1 + 1, 0, none⟩)]) (by simp) (by simp [go_sem]) ?_
      refine (bcatch_raised (w.heap.size + 1) (w.heap.size + 1 + 1) (by omega) _ [] _ _ _ _ _ _ w4 (HX3.out.keep hb4) e4 e4f).mono ?_
      rintro e u' w9 ⟨rfl, rfl, bx9, hc9, hbt9⟩
      have k0 := bx9.c0; have k1 := bx9.c1; have k2 := bx9.c2; have k3 := bx9.c3; have k4 := bx9.c4
      have hfin : PP (.returned (.tuple #[zterm, .int .i64 er])) w9 := by
        rw [← HPP.out]
        refine ⟨(HB3.out.trans (HB4.out.mono HB3.out.size)).trans (hbt9.below (by have := ((HB3.out.trans (HB4.out.mono HB3.out.size))).size; omega) (fun k hk => by omega)), .inr ⟨_, .inl hE, rfl⟩⟩
      have HF := hidb hfin
      clear hfin bx9 hbt9
      simp [Leaves, settle, results, Tryz.results34, go_sem, k0, k1, k2, k3, k4, hc9]
      exact HF.out
end Go.Proofs.YtajadhkpadkikaaGreatDoor


/- The three tables. -/
namespace Go.Proofs.YtajadhkpadkikaaGreatDoor
open Go.RowKit Go.Lib
attribute [local go_sem] store_float f64bits store_func store_nilFunc
attribute [local go_sem ↓] Go.wp_at_zero Go.wp_at_succ

def brws : List Brw → List Value
  | [] => []
  | x :: r => .string x.1 :: .int .i64 x.2.1 :: .func (.func x.2.2) #[] #[] :: brws r
theorem brws_get : ∀ {l : List Brw} {j : Nat} {x : Brw}, l[j]? = some x → (brws l)[j * 3]? = some (.string x.1) ∧ (brws l)[j * 3 + 1]? = some (.int .i64 x.2.1) ∧ (brws l)[j * 3 + 2]? = some (.func (.func x.2.2) #[] #[])
  | [], _, _, h => by simp at h
  | y :: r, 0, x, h => by simp at h; subst h; simp [brws]
  | y :: r, j + 1, x, h => by
    have := brws_get (l := r) (j := j) (x := x) (by simpa using h)
    simp only [brws]
    rw [show (j + 1) * 3 = j * 3 + 1 + 1 + 1 by omega, show j * 3 + 1 + 1 + 1 + 1 = (j * 3 + 1) + 1 + 1 + 1 by omega, show j * 3 + 1 + 1 + 1 + 2 = (j * 3 + 2) + 1 + 1 + 1 by omega]
    simpa using this
theorem tbl_new (w : World) (l : List Brw) (t : TypeId) : TBl (w.alloc (.cells (brws l).toArray t)) w.heap.size l := by
  intro i r h
  have := brws_get h
  rw [World.cell?_alloc_new, World.cell?_alloc_new, World.cell?_alloc_new]
  simpa using this
theorem TBl.keep {w w' : World} {b : Nat} {l : List Brw} (h : TBl w b l) (hb : Below w.heap.size w w') : TBl w' b l := fun i r hr =>
  have q := h i r hr
  have hl : b < w.heap.size := World.block_lt_of_cell? _ _ q.1
  ⟨(hb.cell (p := ⟨b, i * 3, none⟩) hl).trans q.1, (hb.cell (p := ⟨b, i * 3 + 1, none⟩) hl).trans q.2.1, (hb.cell (p := ⟨b, i * 3 + 2, none⟩) hl).trans q.2.2⟩

def opsL : List Brw := [(⟨#[43]⟩, 2, 35), (⟨#[45]⟩, 2, 35), (⟨#[42]⟩, 2, 35), (⟨#[47]⟩, 2, 35), (⟨#[100, 105, 118]⟩, 2, 35), (⟨#[114, 101, 109]⟩, 2, 35), (⟨#[61, 61]⟩, 2, 36), (⟨#[47, 61]⟩, 2, 37), (⟨#[61, 60]⟩, 2, 38), (⟨#[60]⟩, 2, 39), (⟨#[62, 61]⟩, 2, 40), (⟨#[62]⟩, 2, 41), (⟨#[61, 58, 61]⟩, 2, 42), (⟨#[61, 47, 61]⟩, 2, 43), (⟨#[43, 43]⟩, 2, 44), (⟨#[45]⟩, 1, 45), (⟨#[110, 111, 116]⟩, 1, 46)]
set_option maxRecDepth 100000 in
set_option maxHeartbeats 4000000 in
theorem operators_any (w : World) : Calls Tryz.prog 26 #[] w fun e w' => ∃ b, e = .returned (.slice (some ⟨b, 0, none⟩) 17 17) ∧ TBl w' b opsL ∧ Below w.heap.size w w' := by
  go_enter Tryz.func26, Tryz.ntmps26
  go_wp2_with fail
  refine bodyPost_ret (v := .slice (some ⟨w.heap.size, 0, none⟩) 17 17) (by simp [results, Tryz.results26, go_sem]) rfl ⟨_, rfl, tbl_new w opsL 69, below_new _ _⟩

def grdL : List Brw := [(⟨#[97, 98, 115]⟩, 1, 47), (⟨#[102, 108, 111, 97, 116]⟩, 1, 48), (⟨#[116, 114, 117, 110, 99]⟩, 1, 49), (⟨#[114, 111, 117, 110, 100]⟩, 1, 49), (⟨#[102, 108, 111, 111, 114]⟩, 1, 49), (⟨#[99, 101, 105, 108]⟩, 1, 49), (⟨#[104, 100]⟩, 1, 50), (⟨#[116, 108]⟩, 1, 51), (⟨#[108, 101, 110, 103, 116, 104]⟩, 1, 52), (⟨#[116, 117, 112, 108, 101, 95, 115, 105, 122, 101]⟩, 1, 53), (⟨#[101, 108, 101, 109, 101, 110, 116]⟩, 2, 54), (⟨#[105, 115, 95, 97, 116, 111, 109]⟩, 1, 55), (⟨#[105, 115, 95, 105, 110, 116, 101, 103, 101, 114]⟩, 1, 56), (⟨#[105, 115, 95, 102, 108, 111, 97, 116]⟩, 1, 57), (⟨#[105, 115, 95, 110, 117, 109, 98, 101, 114]⟩, 1, 58), (⟨#[105, 115, 95, 108, 105, 115, 116]⟩, 1, 59), (⟨#[105, 115, 95, 116, 117, 112, 108, 101]⟩, 1, 60), (⟨#[105, 115, 95, 112, 105, 100]⟩, 1, 61), (⟨#[105, 115, 95, 114, 101, 102, 101, 114, 101, 110, 99, 101]⟩, 1, 62), (⟨#[105, 115, 95, 102, 117, 110, 99, 116, 105, 111, 110]⟩, 1, 63), (⟨#[105, 115, 95, 98, 111, 111, 108, 101, 97, 110]⟩, 1, 64), (⟨#[105, 115, 95, 102, 117, 110, 99, 116, 105, 111, 110]⟩, 2, 65), (⟨#[109, 105, 110]⟩, 2, 66), (⟨#[109, 97, 120]⟩, 2, 67)]
set_option maxRecDepth 100000 in
set_option maxHeartbeats 4000000 in
theorem guards_any (w : World) : Calls Tryz.prog 27 #[] w fun e w' => ∃ b, e = .returned (.slice (some ⟨b, 0, none⟩) 24 24) ∧ TBl w' b grdL ∧ Below w.heap.size w w' := by
  go_enter Tryz.func27, Tryz.ntmps27
  go_wp2_with fail
  refine bodyPost_ret (v := .slice (some ⟨w.heap.size, 0, none⟩) 24 24) (by simp [results, Tryz.results27, go_sem]) rfl ⟨_, rfl, tbl_new w grdL 69, below_new _ _⟩

def othL : List Brw := [(⟨#[115, 101, 116, 101, 108, 101, 109, 101, 110, 116]⟩, 3, 68), (⟨#[116, 117, 112, 108, 101, 95, 116, 111, 95, 108, 105, 115, 116]⟩, 1, 69), (⟨#[108, 105, 115, 116, 95, 116, 111, 95, 116, 117, 112, 108, 101]⟩, 1, 70), (⟨#[97, 116, 111, 109, 95, 116, 111, 95, 108, 105, 115, 116]⟩, 1, 71), (⟨#[108, 105, 115, 116, 95, 116, 111, 95, 97, 116, 111, 109]⟩, 1, 72), (⟨#[105, 110, 116, 101, 103, 101, 114, 95, 116, 111, 95, 108, 105, 115, 116]⟩, 1, 73), (⟨#[108, 105, 115, 116, 95, 116, 111, 95, 105, 110, 116, 101, 103, 101, 114]⟩, 1, 74), (⟨#[102, 108, 111, 97, 116, 95, 116, 111, 95, 108, 105, 115, 116]⟩, 1, 75), (⟨#[98, 105, 116, 115]⟩, 1, 76), (⟨#[114, 101, 118, 101, 114, 115, 101]⟩, 1, 77), (⟨#[115, 111, 114, 116]⟩, 1, 78), (⟨#[109, 101, 109, 98, 101, 114]⟩, 2, 79), (⟨#[110, 116, 104]⟩, 2, 80), (⟨#[115, 105, 122, 101]⟩, 1, 81)]
set_option maxRecDepth 100000 in
set_option maxHeartbeats 4000000 in
theorem others_any (w : World) : Calls Tryz.prog 28 #[] w fun e w' => ∃ b, e = .returned (.slice (some ⟨b, 0, none⟩) 14 14) ∧ TBl w' b othL ∧ Below w.heap.size w w' := by
  go_enter Tryz.func28, Tryz.ntmps28
  go_wp2_with fail
  refine bodyPost_ret (v := .slice (some ⟨w.heap.size, 0, none⟩) 14 14) (by simp [results, Tryz.results28, go_sem]) rfl ⟨_, rfl, tbl_new w othL 69, below_new _ _⟩

end Go.Proofs.YtajadhkpadkikaaGreatDoor


