import Derived.Test.YtdpfmmbfidknfaaGreatDoorG18
import Derived.Test.YtdpfmmbfidknfaaGreatDoorG12
import Derived.Test.YtdpfmmbfidknfaaGreatDoorG10
/- GrammarBrackets, of tokens without places. -/
namespace Go.Proofs.YtdpfmmbfidknfaaGreatDoor
namespace Gm

theorem pre_at {l z : List Nd} {i : Nat} {n : Nd} (h : l[i]? = some n) : (l ++ z)[i]? = some n := by
  rw [List.getElem?_append_left (List.getElem?_eq_some_iff.1 h).1]; exact h
theorem brackets_bare {W : List Tk} {r : Nat} {s : PS} {l0 lc lf : List Nat} {t0 : PS} {z1 z2 : List Nd} (hk : ∀ t ∈ W, isM t ⟨#[125]⟩ = true → t.k = 6 ∧ t.p = 0) (hne : Ne ⟨lbT :: W, [gN], 0⟩) (h : module (expr 201) ⟨headT ++ lbT :: W, [], 0⟩ = .ok (r, s)) (hI : Inv (lbT :: W) r s l0 lc lf t0 z1 z2)
    (hf : lf.length = 1) (hc : lc.length = 1) (h0 : l0.length = 1) (hn : ∀ m, s.ns[l0.headD 0]? = some m → m.k = 6 ∧ m.l.length = 1) :
    ∃ (X1 : List Tk) (c1 d e : Tk), W = X1 ++ [c1, d, e] ∧ c1.x = ⟨#[125]⟩ ∧ d.x = ⟨#[46]⟩ ∧ e.k = 8 ∧
      (module (expr 201) ⟨headT ++ lbT :: lT :: (X1 ++ rT :: [c1, d, e]), [], 0⟩ = .ok (r, s) ∨ ∃ p, module (expr 201) ⟨headT ++ lbT :: lT :: (X1 ++ rT :: [c1, d, e]), [], 0⟩ = .error (25, p)) ∧
      ∀ R2 : List Tk, 2 ≤ R2.length → ∃ er, module (expr 201) ⟨headT ++ lbT :: lT :: (X1 ++ c1 :: R2), [], 0⟩ = .error er := by
  obtain ⟨d, e, hts, hdot, he8⟩ := hI.one hf hc
  obtain ⟨a, rfl, hex⟩ := exprs_inv1 hI.ex h0
  obtain ⟨p1, p2, x, n, p3, hns⟩ := hI.ns
  have hn0 : ∀ m, t0.ns[a]? = some m → m.k = 6 ∧ m.l.length = 1 := fun m hm => hn m (by
    show s.ns[a]? = some m
    rw [hns]
    exact pre_at hm)
  obtain ⟨X1, c1, x0, N0, hW, hcx, hck, hcp, rfl, hfit, rfl, hall⟩ := brace_inv hk hne hex hts hn0
  have hdx := isM_xe hdot
  refine ⟨X1, c1, d, e, hW, hcx, hdx, he8, ?_, ?_⟩
  · rcases hall rT [c1, d, e] rfl rfl (.inl rfl) (by simp) with ⟨p, hp⟩ | hok
    · exact .inr ⟨p, module_er (brace_er hp)⟩
    · have hy := brace_yes hcx hck hdx hfit hok
      refine .inl (module_same (B := lbT :: W) (n := ⟨24, ⟨#[109]⟩, 0, 0, lf, 0⟩) rfl (by rw [hy]; exact hex) h ?_ hf)
      have hr := hI.rt
      have e1 : ∀ (A : List Nd) (b c : Nd) (B D : List Nd) (u v w : Nd), A ++ (b :: c :: (B ++ (u :: v :: (D ++ [w])))) = (A ++ (b :: c :: (B ++ (u :: v :: D)))) ++ [w] := fun A b c B D u v w => by simp
      rw [hns, e1] at hr ⊢
      rw [List.length_append, List.length_singleton] at hr
      rw [List.getElem?_append_right (by omega), show ∀ k, r - k = r - k from fun _ => rfl]
      rw [show r - _ = 0 by omega]
      rfl
  · intro R2 hR2
    rcases hall c1 R2 hck hcp (.inr hcx) hR2 with ⟨p, hp⟩ | hok
    · exact ⟨_, module_er (brace_er hp)⟩
    · obtain ⟨er, her⟩ := brace_no hcx hok
      exact ⟨er, module_er her⟩
end Gm
end Go.Proofs.YtdpfmmbfidknfaaGreatDoor


/- All tokens: the run. -/
namespace Go.Proofs.YtdpfmmbfidknfaaGreatDoor
open Go.RowKit Go.Lib
attribute [local go_sem] store_float f64bits
attribute [local go_sem ↓] Go.wp_at_zero Go.wp_at_succ

theorem TW.step {s : ByteArray} {b tb base p p' : Nat} {W1 wx w' : World} {v : Value} {done : List Tk} (h : TW s b tb base W1 wx v p done) (hb : But (· = b) wx w') (hsc : Sc w' b s p') (hp : p' ≤ s.size) (hpp : p ≤ p') (h1 : b < tb) (h2 : tb < base) : TW s b tb base W1 w' v p' done := by
  obtain ⟨t0, t1, t2, t3, t4, hx⟩ := h.bx
  exact ⟨hsc, h.bt.trans (ts_b hb), ⟨t0, t1, t2, t3, t4, hx.but hb (by omega)⟩, own_but h.ow hb (fun k hk => by omega), hp, Nat.le_trans h.ln hpp⟩

theorem app_cells (w : World) (t : TypeId) (a0 a1 a2 a3 a4 : Value) (g : Nat) (hg : g = w.heap.size) (j : Nat) (u : Value) (hj : [a0, a1, a2, a3, a4][j]? = some u) : (w.alloc (.cells #[a0, a1, a2, a3, a4] t)).cell? ((⟨g, 0, none⟩ : Addr).add j) = some u := by
  subst hg
  match j, hj with
  | 0, hj => simp at hj; subst hj; simp [Addr.add]
  | 1, hj => simp at hj; subst hj; simp [Addr.add]
  | 2, hj => simp at hj; subst hj; simp [Addr.add]
  | 3, hj => simp at hj; subst hj; simp [Addr.add]
  | 4, hj => simp at hj; subst hj; simp [Addr.add]
  | (j + 5), hj => simp at hj

theorem grow_below {w w3 : World} {o : Obj} {base e size n : Nat} {v : Value} {xs : List Value} (h : w.ownsRow base e size v n xs) (hg : (w.alloc o).grownBy w3 v.ownBlock) (hb : base ≤ w.heap.size) : Below base w w3 :=
  ((Below.refl base w).alloc hb o).grown hg (by simp; omega) (fun k hk => (h.lt k hk).1)

theorem Bz.of {b tb base : Nat} {w w' : World} (h : Below base w w') : But (TS b tb base) w w' := ⟨h.os, h.tape, h.output, h.size, fun k _ hs => h.block k (Nat.lt_of_not_le fun e => hs (.inr (.inr e)))⟩

theorem Box.low {B : Nat} {w w' : World} {b : Nat} {v0 v1 v2 v3 v4 : Value} (h : Box w b v0 v1 v2 v3 v4) (hb : Below B w w') (hB : b < B) : Box w' b v0 v1 v2 v3 v4 :=
  h.but (S := fun k => B ≤ k) ⟨hb.os, hb.tape, hb.output, hb.size, fun k _ hs => hb.block k (Nat.lt_of_not_le hs)⟩ (by omega)

theorem Box.set4 {w : World} {b : Nat} {v0 v1 v2 v3 v4 : Value} (h : Box w b v0 v1 v2 v3 v4) (u : Value) : Box (w.setCell ⟨b, 4, none⟩ u) b v0 v1 v2 v3 u := by
  refine ⟨?_, ?_, ?_, ?_, World.cell?_setCell_same _ _ _ h.c4, ?_, ?_, ?_, ?_, ?_, by simp [World.setCell]; exact h.lt⟩
  · rw [World.cell?_setCell_other _ _ _ _ (ne_off _ _ _ (by decide))]; exact h.c0
  · rw [World.cell?_setCell_other _ _ _ _ (ne_off _ _ _ (by decide))]; exact h.c1
  · rw [World.cell?_setCell_other _ _ _ _ (ne_off _ _ _ (by decide))]; exact h.c2
  · rw [World.cell?_setCell_other _ _ _ _ (ne_off _ _ _ (by decide))]; exact h.c3
  all_goals rw [World.frozen?_setCell]
  · exact h.f0
  · exact h.f1
  · exact h.f2
  · exact h.f3
  · exact h.f4

set_option maxHeartbeats 4000000 in
set_option maxRecDepth 1000000 in
theorem tokens_any (s : ByteArray) (b : Nat) (hs : s.size ≤ 65536) (w : World) (h : Sc w b s 0) (hT : LexTab w) (hg : GB ≤ b) :
    Calls Tryz.prog 16 #[.pointer (some ⟨b, 0, none⟩)] w fun e w' => TP (w.heap.size + 2) (toks s (s.size + 1) 0 []) e w' ∧ But (· = b) w w' := by
  have hlt := h.lt
  have hGW : 7 ≤ w.heap.size := by unfold GB at hg; omega
  obtain ⟨R, hR⟩ : ∃ R, toks s (s.size + 1) 0 [] = R := ⟨_, rfl⟩
  rw [hR]
  obtain ⟨W1, hW1⟩ : ∃ W1, ((w.alloc (Obj.cells #[Value.int IntKind.i64 0, Value.int IntKind.i64 0] 28)).alloc (Obj.cells #[Value.int IntKind.i64 0, Value.string ⟨#[]⟩, Value.int IntKind.i64 0, Value.float FloatKind.f64 0, Value.int IntKind.i64 0] TT)) = W1 := ⟨_, rfl⟩
  have hB1 : Below w.heap.size w W1 := by rw [← hW1]; exact ((Below.refl _ _).alloc (Nat.le_refl _) _).alloc (by simp) _
  have hZ1 : W1.heap.size = w.heap.size + 2 := by rw [← hW1]; simp
  have hF1 : Duo W1 w.heap.size (.int .i64 0) (.int .i64 0) := by rw [← hW1]; exact (Duo.new w _ _ _).keep (below_new _ _)
  have hX1 : Box W1 (w.heap.size + 1) (.int .i64 0) (.string ⟨#[]⟩) (.int .i64 0) (.float .f64 0) (.int .i64 0) := by
    rw [← hW1]
    have := Box.new (w.alloc (Obj.cells #[Value.int IntKind.i64 0, Value.int IntKind.i64 0] 28)) TT (.int .i64 0) (.string ⟨#[]⟩) (.int .i64 0) (.float .f64 0) (.int .i64 0)
    simpa using this
  have hL1 : LexTab W1 := hT.but (But.of_below (S := fun _ => False) hB1) (fun _ e => e.elim)
  have GL : ∀ {wx : World}, But (TS b (w.heap.size + 1) (w.heap.size + 2)) W1 wx → LexTab wx := fun hb => hL1.but hb (fun k e => by unfold GB at *; omega)
  have GF : ∀ {wx : World}, But (TS b (w.heap.size + 1) (w.heap.size + 2)) W1 wx → Duo wx w.heap.size (.int .i64 0) (.int .i64 0) := fun hb => hF1.but hb (by omega)
  have GW : ∀ {wx : World}, But (TS b (w.heap.size + 1) (w.heap.size + 2)) W1 wx → But (· = b) w wx := fun hb => ⟨hb.os.trans hB1.os, hb.tape.trans hB1.tape, hb.output.trans hB1.output, Nat.le_trans hB1.size hb.size, fun k hk hn => (hb.block k (by omega) (fun e => by rcases e with e | e | e; exact hn e; all_goals omega)).trans (hB1.block k hk)⟩
  go_enter Tryz.func16, Tryz.ntmps16
  go_wp2_with fail
  refine wp_scope10 (TJ s b w.heap.size (w.heap.size + 1) (w.heap.size + 2) W1 R) ?hl rfl rfl rfl rfl rfl rfl rfl rfl rfl rfl ?first ?p0 ?p1 ?p2 ?p3 ?p4 ?p5 ?p6 ?p7 ?p8 ?p9
  case hl =>
    rintro n l a wx (⟨h, _⟩ | ⟨h, _⟩ | ⟨h, _⟩ | ⟨h1, h2, _⟩ | ⟨h, _⟩) <;> omega
  case first =>
    intro H0
    go_wp2_with fail
    go_step3
    rename_i K hK
    refine hK _ _ ?_
    refine H0 (3 * (s.size + 1)) _ _ (.inl ⟨rfl, .slice none 0 0, .int .i64 0, .int .i64 0, s.size + 1, 0, [], TF.of _ _ _ _ _ _ _ _ _ _ _ _ _ _ _ _ _ _ _ _ _ _ _ _ _ _ _ _ _ _ _ _ _ _ _ _ _ _ _ _ _ _ _ _ _ _ _ _ _ _ _ _ _ _ _ _ _ _ _ _ _ _ _ _ _ _ _ _ _ _ _ _ _ _ _ _ _ _ _ _ _ _ _ _ _ _ _ _ _ _ _ _ _, rfl, by omega, hR, ?_⟩)
    exact ⟨Duo.keep h hB1, But.refl _ _, ⟨_, _, _, _, _, hX1⟩, ⟨rfl, .inl ⟨rfl, rfl⟩⟩, Nat.zero_le _, Nat.le_refl _⟩
  case p0 =>
    intro n a wx hJ
    obtain ⟨v, x6, x7, k, p, done, ⟨u, ha⟩, hn, hk, hR, hW⟩ := TJ.at0 hJ
    clear hJ
    subst ha
    subst hn
    obtain ⟨k, rfl⟩ : ∃ k', k = k' + 1 := ⟨k - 1, by have := hW.le; omega⟩
    have cB := take_blank s p b hW.le hs wx hW.sc
    have hpj := goes_ge pBlank s p
    have hjl := goes_le pBlank s p hW.le
    have cP := fun W h1 h2 => peek_any s (goes pBlank s p) b hjl hs W h1 h2
    have hcls := nx_class s (goes pBlank s p)
    have hend := nx_end (s := s) (i := goes pBlank s p)
    unfold toks at hR
    obtain ⟨j, hj⟩ : ∃ j, goes pBlank s p = j := ⟨_, rfl⟩
    rw [hj] at cB hpj hjl cP hcls hend hR
    obtain ⟨r, hr⟩ : ∃ r, nxR s j = r := ⟨_, rfl⟩
    rw [hr] at cP hcls hend
    have HW := hidb hW
    clear hW hj hr
    by_cases hjs : j < s.size
    · rw [if_pos hjs] at hR
      obtain ⟨cls1, cls2, cls3, em1, hcl⟩ := hcls hjs
      clear hend
      by_cases h37 : bt s j = 37
      · rw [if_pos h37] at hR
        have e37 : (r == 37) = true := by have := hcl 37 (by omega); rw [show ((37 : Nat) : Int) = 37 from rfl] at this; rw [this]; simp [h37]
        clear hcl cls1 cls2 cls3
        go_wp2_with (first
          | (go_at_call 19; refine cB.mono ?_; rintro e w1 ⟨rfl, hs1, hb1⟩; have HS1 := hidb hs1; have HB1 := hidb hb1; have a1 := hs1.c1)
          | (go_at_call 21; refine (cP _ HS1.out (GL (HW.out.bt.trans (ts_b HB1.out))).u).mono ?_; rintro e w2 ⟨rfl, hb2⟩; have HB2 := hidb hb2)
          | (go_at_call 22; refine (isSmall_any _ _).mono ?_; rintro e w' ⟨rfl, hw'⟩; obtain rfl := hw'.symm; rw [hzS])
          | (go_at_call 23; refine (isCapital_any _ _).mono ?_; rintro e w' ⟨rfl, hw'⟩; obtain rfl := hw'.symm; rw [hzC])
          | (go_at_call 24; refine (isDigit_any _ _).mono ?_; rintro e w' ⟨rfl, hw'⟩; obtain rfl := hw'.symm; rw [hzD]))
        go_step3
        exact ⟨3 * k + 2, by omega, .inr (.inr (.inl ⟨rfl, _, _, _, k, j, done, TF.of _ _ _ _ _ _ _ _ _ _ _ _ _ _ _ _ _ _ _ _ _ _ _ _ _ _ _ _ _ _ _ _ _ _ _ _ _ _ _ _ _ _ _ _ _ _ _ _ _ _ _ _ _ _ _ _ _ _ _ _ _ _ _ _ _ _ _ _ _ _ _ _ _ _ _ _ _ _ _ _ _ _ _ _ _ _ _ _ _ _ _ _ _, rfl, by omega, hjs, h37, hR, (HW.out.step (HB1.out.trans (But.of_below HB2.out)) (Duo.keep HS1.out HB2.out) hjl hpj (by omega) (by omega))⟩))⟩
      · rw [if_neg h37] at hR
        have hR2 : layT s k j done = R := hR
        clear hR
        have hR := hR2
        clear hR2
        have e37 : (r == 37) = false := by have := hcl 37 (by omega); rw [show ((37 : Nat) : Int) = 37 from rfl] at this; rw [this]; simp [h37]
        by_cases k3 : pSmall (bt s j) = true
        · have hzS := cls1.trans k3
          clear hcl cls1 cls2 cls3
          go_wp2_with (first
            | (go_at_call 19; refine cB.mono ?_; rintro e w1 ⟨rfl, hs1, hb1⟩; have HS1 := hidb hs1; have HB1 := hidb hb1; have a1 := hs1.c1)
            | (go_at_call 21; refine (cP _ HS1.out (GL (HW.out.bt.trans (ts_b HB1.out))).u).mono ?_; rintro e w2 ⟨rfl, hb2⟩; have HB2 := hidb hb2)
            | (go_at_call 22; refine (isSmall_any _ _).mono ?_; rintro e w' ⟨rfl, hw'⟩; obtain rfl := hw'.symm; rw [hzS])
            | (go_at_call 23; refine (isCapital_any _ _).mono ?_; rintro e w' ⟨rfl, hw'⟩; obtain rfl := hw'.symm; rw [hzC])
            | (go_at_call 24; refine (isDigit_any _ _).mono ?_; rintro e w' ⟨rfl, hw'⟩; obtain rfl := hw'.symm; rw [hzD]))
          go_step3
          exact ⟨3 * k + 2, by omega, .inr (.inr (.inr (.inl ⟨by omega, by omega, _, _, k, j, done, TF.of _ _ _ _ _ _ _ _ _ _ _ _ _ _ _ _ _ _ _ _ _ _ _ _ _ _ _ _ _ _ _ _ _ _ _ _ _ _ _ _ _ _ _ _ _ _ _ _ _ _ _ _ _ _ _ _ _ _ _ _ _ _ _ _ _ _ _ _ _ _ _ _ _ _ _ _ _ _ _ _ _ _ _ _ _ _ _ _ _ _ _ _ _, rfl, by omega, hjs, hR, (HW.out.step (HB1.out.trans (But.of_below HB2.out)) (Duo.keep HS1.out HB2.out) hjl hpj (by omega) (by omega)), fun _ => k3, fun h => absurd h (by omega), fun h => absurd h (by omega), fun h => absurd h (by omega), fun h => absurd h (by omega), fun h => absurd h (by omega), fun h => absurd h (by omega), fun h => absurd h (by omega), fun h => absurd h (by omega), fun h => absurd h (by omega)⟩)))⟩
        · have hzS : zSmall r = false := cls1.trans (by simpa using k3)
          have n3 := k3
          by_cases k4 : pCapital (bt s j) = true ∨ bt s j = 95
          · by_cases kc : pCapital (bt s j) = true
            · have hzC := cls2.trans kc
              clear hcl cls1 cls2 cls3
              go_wp2_with (first
                | (go_at_call 19; refine cB.mono ?_; rintro e w1 ⟨rfl, hs1, hb1⟩; have HS1 := hidb hs1; have HB1 := hidb hb1; have a1 := hs1.c1)
                | (go_at_call 21; refine (cP _ HS1.out (GL (HW.out.bt.trans (ts_b HB1.out))).u).mono ?_; rintro e w2 ⟨rfl, hb2⟩; have HB2 := hidb hb2)
                | (go_at_call 22; refine (isSmall_any _ _).mono ?_; rintro e w' ⟨rfl, hw'⟩; obtain rfl := hw'.symm; rw [hzS])
                | (go_at_call 23; refine (isCapital_any _ _).mono ?_; rintro e w' ⟨rfl, hw'⟩; obtain rfl := hw'.symm; rw [hzC])
                | (go_at_call 24; refine (isDigit_any _ _).mono ?_; rintro e w' ⟨rfl, hw'⟩; obtain rfl := hw'.symm; rw [hzD]))
              go_step3
              exact ⟨3 * k + 2, by omega, .inr (.inr (.inr (.inl ⟨by omega, by omega, _, _, k, j, done, TF.of _ _ _ _ _ _ _ _ _ _ _ _ _ _ _ _ _ _ _ _ _ _ _ _ _ _ _ _ _ _ _ _ _ _ _ _ _ _ _ _ _ _ _ _ _ _ _ _ _ _ _ _ _ _ _ _ _ _ _ _ _ _ _ _ _ _ _ _ _ _ _ _ _ _ _ _ _ _ _ _ _ _ _ _ _ _ _ _ _ _ _ _ _, rfl, by omega, hjs, hR, (HW.out.step (HB1.out.trans (But.of_below HB2.out)) (Duo.keep HS1.out HB2.out) hjl hpj (by omega) (by omega)), fun h => absurd h (by omega), fun _ => n3, fun _ => k4, fun h => absurd h (by omega), fun h => absurd h (by omega), fun h => absurd h (by omega), fun h => absurd h (by omega), fun h => absurd h (by omega), fun h => absurd h (by omega), fun h => absurd h (by omega)⟩)))⟩
            · have hzC : zCapital r = false := cls2.trans (by simpa using kc)
              have k95 : bt s j = 95 := k4.resolve_left kc
              have e95 : (r == 95) = true := by have := hcl 95 (by omega); rw [show ((95 : Nat) : Int) = 95 from rfl] at this; rw [this]; simp [k95]
              clear hcl cls1 cls2 cls3
              go_wp2_with (first
                | (go_at_call 19; refine cB.mono ?_; rintro e w1 ⟨rfl, hs1, hb1⟩; have HS1 := hidb hs1; have HB1 := hidb hb1; have a1 := hs1.c1)
                | (go_at_call 21; refine (cP _ HS1.out (GL (HW.out.bt.trans (ts_b HB1.out))).u).mono ?_; rintro e w2 ⟨rfl, hb2⟩; have HB2 := hidb hb2)
                | (go_at_call 22; refine (isSmall_any _ _).mono ?_; rintro e w' ⟨rfl, hw'⟩; obtain rfl := hw'.symm; rw [hzS])
                | (go_at_call 23; refine (isCapital_any _ _).mono ?_; rintro e w' ⟨rfl, hw'⟩; obtain rfl := hw'.symm; rw [hzC])
                | (go_at_call 24; refine (isDigit_any _ _).mono ?_; rintro e w' ⟨rfl, hw'⟩; obtain rfl := hw'.symm; rw [hzD]))
              go_step3
              exact ⟨3 * k + 2, by omega, .inr (.inr (.inr (.inl ⟨by omega, by omega, _, _, k, j, done, TF.of _ _ _ _ _ _ _ _ _ _ _ _ _ _ _ _ _ _ _ _ _ _ _ _ _ _ _ _ _ _ _ _ _ _ _ _ _ _ _ _ _ _ _ _ _ _ _ _ _ _ _ _ _ _ _ _ _ _ _ _ _ _ _ _ _ _ _ _ _ _ _ _ _ _ _ _ _ _ _ _ _ _ _ _ _ _ _ _ _ _ _ _ _, rfl, by omega, hjs, hR, (HW.out.step (HB1.out.trans (But.of_below HB2.out)) (Duo.keep HS1.out HB2.out) hjl hpj (by omega) (by omega)), fun h => absurd h (by omega), fun _ => n3, fun _ => k4, fun h => absurd h (by omega), fun h => absurd h (by omega), fun h => absurd h (by omega), fun h => absurd h (by omega), fun h => absurd h (by omega), fun h => absurd h (by omega), fun h => absurd h (by omega)⟩)))⟩
          · have n4 := k4
            have hzC : zCapital r = false := cls2.trans (by simpa using (not_or.1 k4).1)
            have k95 : ¬ bt s j = 95 := (not_or.1 k4).2
            have e95 : (r == 95) = false := by have := hcl 95 (by omega); rw [show ((95 : Nat) : Int) = 95 from rfl] at this; rw [this]; simp [k95]
            by_cases k5 : pDigit (bt s j) = true
            · have hzD := cls3.trans k5
              clear hcl cls1 cls2 cls3
              go_wp2_with (first
                | (go_at_call 19; refine cB.mono ?_; rintro e w1 ⟨rfl, hs1, hb1⟩; have HS1 := hidb hs1; have HB1 := hidb hb1; have a1 := hs1.c1)
                | (go_at_call 21; refine (cP _ HS1.out (GL (HW.out.bt.trans (ts_b HB1.out))).u).mono ?_; rintro e w2 ⟨rfl, hb2⟩; have HB2 := hidb hb2)
                | (go_at_call 22; refine (isSmall_any _ _).mono ?_; rintro e w' ⟨rfl, hw'⟩; obtain rfl := hw'.symm; rw [hzS])
                | (go_at_call 23; refine (isCapital_any _ _).mono ?_; rintro e w' ⟨rfl, hw'⟩; obtain rfl := hw'.symm; rw [hzC])
                | (go_at_call 24; refine (isDigit_any _ _).mono ?_; rintro e w' ⟨rfl, hw'⟩; obtain rfl := hw'.symm; rw [hzD]))
              go_step3
              exact ⟨3 * k + 2, by omega, .inr (.inr (.inr (.inl ⟨by omega, by omega, _, _, k, j, done, TF.of _ _ _ _ _ _ _ _ _ _ _ _ _ _ _ _ _ _ _ _ _ _ _ _ _ _ _ _ _ _ _ _ _ _ _ _ _ _ _ _ _ _ _ _ _ _ _ _ _ _ _ _ _ _ _ _ _ _ _ _ _ _ _ _ _ _ _ _ _ _ _ _ _ _ _ _ _ _ _ _ _ _ _ _ _ _ _ _ _ _ _ _ _, rfl, by omega, hjs, hR, (HW.out.step (HB1.out.trans (But.of_below HB2.out)) (Duo.keep HS1.out HB2.out) hjl hpj (by omega) (by omega)), fun h => absurd h (by omega), fun _ => n3, fun h => absurd h (by omega), fun _ => n4, fun _ => k5, fun h => absurd h (by omega), fun h => absurd h (by omega), fun h => absurd h (by omega), fun h => absurd h (by omega), fun h => absurd h (by omega)⟩)))⟩
            · have n5 := k5
              have hzD : zDigit r = false := cls3.trans (by simpa using k5)
              by_cases k6 : bt s j = 35
              ·
                have e35 : (r == 35) = true := by have := hcl 35 (by omega); rw [show ((35 : Nat) : Int) = 35 from rfl] at this; rw [this]; simp [k6]
                clear hcl cls1 cls2 cls3
                go_wp2_with (first
                  | (go_at_call 19; refine cB.mono ?_; rintro e w1 ⟨rfl, hs1, hb1⟩; have HS1 := hidb hs1; have HB1 := hidb hb1; have a1 := hs1.c1)
                  | (go_at_call 21; refine (cP _ HS1.out (GL (HW.out.bt.trans (ts_b HB1.out))).u).mono ?_; rintro e w2 ⟨rfl, hb2⟩; have HB2 := hidb hb2)
                  | (go_at_call 22; refine (isSmall_any _ _).mono ?_; rintro e w' ⟨rfl, hw'⟩; obtain rfl := hw'.symm; rw [hzS])
                  | (go_at_call 23; refine (isCapital_any _ _).mono ?_; rintro e w' ⟨rfl, hw'⟩; obtain rfl := hw'.symm; rw [hzC])
                  | (go_at_call 24; refine (isDigit_any _ _).mono ?_; rintro e w' ⟨rfl, hw'⟩; obtain rfl := hw'.symm; rw [hzD]))
                go_step3
                exact ⟨3 * k + 2, by omega, .inr (.inr (.inr (.inl ⟨by omega, by omega, _, _, k, j, done, TF.of _ _ _ _ _ _ _ _ _ _ _ _ _ _ _ _ _ _ _ _ _ _ _ _ _ _ _ _ _ _ _ _ _ _ _ _ _ _ _ _ _ _ _ _ _ _ _ _ _ _ _ _ _ _ _ _ _ _ _ _ _ _ _ _ _ _ _ _ _ _ _ _ _ _ _ _ _ _ _ _ _ _ _ _ _ _ _ _ _ _ _ _ _, rfl, by omega, hjs, hR, (HW.out.step (HB1.out.trans (But.of_below HB2.out)) (Duo.keep HS1.out HB2.out) hjl hpj (by omega) (by omega)), fun h => absurd h (by omega), fun _ => n3, fun h => absurd h (by omega), fun _ => n4, fun h => absurd h (by omega), fun _ => n5, fun _ => k6, fun h => absurd h (by omega), fun h => absurd h (by omega), fun h => absurd h (by omega)⟩)))⟩
              · have n6 := k6
                have e35 : (r == 35) = false := by have := hcl 35 (by omega); rw [show ((35 : Nat) : Int) = 35 from rfl] at this; rw [this]; simp [k6]
                by_cases k7 : bt s j = 39 ∨ bt s j = 34
                · rcases k7 with k39 | k34
                  · have k7 : bt s j = 39 ∨ bt s j = 34 := .inl k39
                    have e39 : (r == 39) = true := by have := hcl 39 (by omega); rw [show ((39 : Nat) : Int) = 39 from rfl] at this; rw [this]; simp [k39]
                    clear hcl cls1 cls2 cls3
                    go_wp2_with (first
                      | (go_at_call 19; refine cB.mono ?_; rintro e w1 ⟨rfl, hs1, hb1⟩; have HS1 := hidb hs1; have HB1 := hidb hb1; have a1 := hs1.c1)
                      | (go_at_call 21; refine (cP _ HS1.out (GL (HW.out.bt.trans (ts_b HB1.out))).u).mono ?_; rintro e w2 ⟨rfl, hb2⟩; have HB2 := hidb hb2)
                      | (go_at_call 22; refine (isSmall_any _ _).mono ?_; rintro e w' ⟨rfl, hw'⟩; obtain rfl := hw'.symm; rw [hzS])
                      | (go_at_call 23; refine (isCapital_any _ _).mono ?_; rintro e w' ⟨rfl, hw'⟩; obtain rfl := hw'.symm; rw [hzC])
                      | (go_at_call 24; refine (isDigit_any _ _).mono ?_; rintro e w' ⟨rfl, hw'⟩; obtain rfl := hw'.symm; rw [hzD]))
                    go_step3
                    exact ⟨3 * k + 2, by omega, .inr (.inr (.inr (.inl ⟨by omega, by omega, _, _, k, j, done, TF.of _ _ _ _ _ _ _ _ _ _ _ _ _ _ _ _ _ _ _ _ _ _ _ _ _ _ _ _ _ _ _ _ _ _ _ _ _ _ _ _ _ _ _ _ _ _ _ _ _ _ _ _ _ _ _ _ _ _ _ _ _ _ _ _ _ _ _ _ _ _ _ _ _ _ _ _ _ _ _ _ _ _ _ _ _ _ _ _ _ _ _ _ _, rfl, by omega, hjs, hR, (HW.out.step (HB1.out.trans (But.of_below HB2.out)) (Duo.keep HS1.out HB2.out) hjl hpj (by omega) (by omega)), fun h => absurd h (by omega), fun _ => n3, fun h => absurd h (by omega), fun _ => n4, fun h => absurd h (by omega), fun _ => n5, fun h => absurd h (by omega), fun _ => n6, fun _ => k7, fun h => absurd h (by omega)⟩)))⟩
                  · have k7 : bt s j = 39 ∨ bt s j = 34 := .inr k34
                    have e39 : (r == 39) = false := by have := hcl 39 (by omega); rw [show ((39 : Nat) : Int) = 39 from rfl] at this; rw [this]; simp; omega
                    have e34 : (r == 34) = true := by have := hcl 34 (by omega); rw [show ((34 : Nat) : Int) = 34 from rfl] at this; rw [this]; simp [k34]
                    clear hcl cls1 cls2 cls3
                    go_wp2_with (first
                      | (go_at_call 19; refine cB.mono ?_; rintro e w1 ⟨rfl, hs1, hb1⟩; have HS1 := hidb hs1; have HB1 := hidb hb1; have a1 := hs1.c1)
                      | (go_at_call 21; refine (cP _ HS1.out (GL (HW.out.bt.trans (ts_b HB1.out))).u).mono ?_; rintro e w2 ⟨rfl, hb2⟩; have HB2 := hidb hb2)
                      | (go_at_call 22; refine (isSmall_any _ _).mono ?_; rintro e w' ⟨rfl, hw'⟩; obtain rfl := hw'.symm; rw [hzS])
                      | (go_at_call 23; refine (isCapital_any _ _).mono ?_; rintro e w' ⟨rfl, hw'⟩; obtain rfl := hw'.symm; rw [hzC])
                      | (go_at_call 24; refine (isDigit_any _ _).mono ?_; rintro e w' ⟨rfl, hw'⟩; obtain rfl := hw'.symm; rw [hzD]))
                    go_step3
                    exact ⟨3 * k + 2, by omega, .inr (.inr (.inr (.inl ⟨by omega, by omega, _, _, k, j, done, TF.of _ _ _ _ _ _ _ _ _ _ _ _ _ _ _ _ _ _ _ _ _ _ _ _ _ _ _ _ _ _ _ _ _ _ _ _ _ _ _ _ _ _ _ _ _ _ _ _ _ _ _ _ _ _ _ _ _ _ _ _ _ _ _ _ _ _ _ _ _ _ _ _ _ _ _ _ _ _ _ _ _ _ _ _ _ _ _ _ _ _ _ _ _, rfl, by omega, hjs, hR, (HW.out.step (HB1.out.trans (But.of_below HB2.out)) (Duo.keep HS1.out HB2.out) hjl hpj (by omega) (by omega)), fun h => absurd h (by omega), fun _ => n3, fun h => absurd h (by omega), fun _ => n4, fun h => absurd h (by omega), fun _ => n5, fun h => absurd h (by omega), fun _ => n6, fun _ => k7, fun h => absurd h (by omega)⟩)))⟩
                · have n7 := k7
                  have e39 : (r == 39) = false := by have := hcl 39 (by omega); rw [show ((39 : Nat) : Int) = 39 from rfl] at this; rw [this]; simp; omega
                  have e34 : (r == 34) = false := by have := hcl 34 (by omega); rw [show ((34 : Nat) : Int) = 34 from rfl] at this; rw [this]; simp; omega
                  clear hcl cls1 cls2 cls3
                  go_wp2_with (first
                    | (go_at_call 19; refine cB.mono ?_; rintro e w1 ⟨rfl, hs1, hb1⟩; have HS1 := hidb hs1; have HB1 := hidb hb1; have a1 := hs1.c1)
                    | (go_at_call 21; refine (cP _ HS1.out (GL (HW.out.bt.trans (ts_b HB1.out))).u).mono ?_; rintro e w2 ⟨rfl, hb2⟩; have HB2 := hidb hb2)
                    | (go_at_call 22; refine (isSmall_any _ _).mono ?_; rintro e w' ⟨rfl, hw'⟩; obtain rfl := hw'.symm; rw [hzS])
                    | (go_at_call 23; refine (isCapital_any _ _).mono ?_; rintro e w' ⟨rfl, hw'⟩; obtain rfl := hw'.symm; rw [hzC])
                    | (go_at_call 24; refine (isDigit_any _ _).mono ?_; rintro e w' ⟨rfl, hw'⟩; obtain rfl := hw'.symm; rw [hzD]))
                  go_step3
                  exact ⟨3 * k + 2, by omega, .inr (.inr (.inr (.inl ⟨by omega, by omega, _, _, k, j, done, TF.of _ _ _ _ _ _ _ _ _ _ _ _ _ _ _ _ _ _ _ _ _ _ _ _ _ _ _ _ _ _ _ _ _ _ _ _ _ _ _ _ _ _ _ _ _ _ _ _ _ _ _ _ _ _ _ _ _ _ _ _ _ _ _ _ _ _ _ _ _ _ _ _ _ _ _ _ _ _ _ _ _ _ _ _ _ _ _ _ _ _ _ _ _, rfl, by omega, hjs, hR, (HW.out.step (HB1.out.trans (But.of_below HB2.out)) (Duo.keep HS1.out HB2.out) hjl hpj (by omega) (by omega)), fun h => absurd h (by omega), fun _ => n3, fun h => absurd h (by omega), fun _ => n4, fun h => absurd h (by omega), fun _ => n5, fun h => absurd h (by omega), fun _ => n6, fun h => absurd h (by omega), fun _ => n7⟩)))⟩
    · rw [if_neg hjs] at hR
      obtain rfl : j = s.size := by omega
      obtain ⟨rfl, _⟩ := hend (by omega)
      clear hcls
      go_wp2_with (first
      | (go_at_call 19; refine cB.mono ?_; rintro e w1 ⟨rfl, hs1, hb1⟩; have HS1 := hidb hs1; have HB1 := hidb hb1; have a1 := hs1.c1)
      | (go_at_call 21; refine (cP _ HS1.out (GL (HW.out.bt.trans (ts_b HB1.out))).u).mono ?_; rintro e w2 ⟨rfl, hb2⟩; have HB2 := hidb hb2)
      | (go_at_call 22; refine (isSmall_any _ _).mono ?_; rintro e w' ⟨rfl, hw'⟩; obtain rfl := hw'.symm; rw [hzS])
      | (go_at_call 23; refine (isCapital_any _ _).mono ?_; rintro e w' ⟨rfl, hw'⟩; obtain rfl := hw'.symm; rw [hzC])
      | (go_at_call 24; refine (isDigit_any _ _).mono ?_; rintro e w' ⟨rfl, hw'⟩; obtain rfl := hw'.symm; rw [hzD]))
      go_step3
      exact ⟨0, by omega, .inr (.inl ⟨rfl, _, _, done, TF.of _ _ _ _ _ _ _ _ _ _ _ _ _ _ _ _ _ _ _ _ _ _ _ _ _ _ _ _ _ _ _ _ _ _ _ _ _ _ _ _ _ _ _ _ _ _ _ _ _ _ _ _ _ _ _ _ _ _ _ _ _ _ _ _ _ _ _ _ _ _ _ _ _ _ _ _ _ _ _ _ _ _ _ _ _ _ _ _ _ _ _ _ _, hR, (HW.out.step (HB1.out.trans (But.of_below HB2.out)) (Duo.keep HS1.out HB2.out) hjl hpj (by omega) (by omega))⟩)⟩
  case p1 =>
    intro n a wx hJ
    obtain ⟨v, x6, done, ⟨u, ha⟩, hR, hW⟩ := TJ.at1 hJ
    clear hJ
    subst ha
    have hfd := GF hW.bt
    obtain ⟨q0, q1, qf0, qf1, _⟩ := hfd
    have HW := hidb hW
    obtain ⟨i0, hi, hz0, hz1, hz2⟩ := info_parts (P := Tryz.prog) (e := TT) (z := .agg #[.int .i64 0, .string ⟨#[]⟩, .int .i64 0, .float .f64 0, .int .i64 0]) (size := 5) (bytes := 48) (by kernel_rfl)
    have OW1 := hW.ow
    have hln := hW.ln
    clear hW
    have hsz2 : w.heap.size + 2 ≤ wx.heap.size := by have := HW.out.bt.size; omega
    go_wp2_with (at_builtin; refine wpList_append_own _ rfl _ _ 44 rfl (w.heap.size + 2) TT i0 (.agg #[.int .i64 0, .string ⟨#[]⟩, .int .i64 0, .float .f64 0, .int .i64 0]) 5 48 Tryz.underlying44 hi hz0 hz1 hz2 rfl (by decide) _ _ _ rfl (OW1.alloc _) ⟨wx.heap.size, 0, none⟩ 1 1 [.int .i64 8, .string ⟨#[]⟩, .int .i64 0, .float .f64 0, .int .i64 (s.size : Int)] rfl rfl ?c1 ?c2 ?c3 ?c4 ?c5 ?_)
    case c1 =>
      intro q u hq
      exact app_cells _ _ _ _ _ _ _ _ rfl q u hq
    case c2 =>
      intro u hu
      simp only [List.mem_cons, List.not_mem_nil, or_false] at hu
      rcases hu with rfl | rfl | rfl | rfl | rfl <;> rfl
    case c3 => unfold maxLen; omega
    case c4 => omega
    case c5 => simp; omega
    intro v' w3 hown' hgrow hnil
    have hb3 := grow_below OW1 hgrow hsz2
    have HO := hidb hown'
    clear hown' hgrow hnil q0 q1 qf0 qf1
    have hbz := HW.out.bt.trans (Bz.of hb3)
    obtain ⟨q0, q1, qf0, qf1, _⟩ := GF hbz
    go_wp2_with fail
    simp only [jumps]
    refine bodyPost_ret (v := .tuple #[v', .agg #[.int .i64 0, .int .i64 0]]) (by simp [results, Tryz.results16, go_sem, q0, q1]) rfl ⟨.inl ⟨_, v', hR.symm, rfl, ?_⟩, ((GW hbz).setCell (p := ⟨w.heap.size, 0, none⟩) (fun e => absurd e (Nat.lt_irrefl _)) _).setCell (p := ⟨w.heap.size, 1, none⟩) (fun e => absurd e (Nat.lt_irrefl _)) _⟩
    rw [List.length_append, tkCells_snoc]
    exact own_but HO.out (((But.refl (fun k => k = w.heap.size) w3).setCell (p := ⟨w.heap.size, 0, none⟩) (fun _ => rfl) _).setCell (p := ⟨w.heap.size, 1, none⟩) (fun _ => rfl) _) (fun k hk => by omega)
  case p2 =>
    intro n a wx hJ
    obtain ⟨v, x6, x7, k, j, done, ⟨u, ha⟩, hn, hk, hj, h37, hR, hW⟩ := TJ.at2 hJ
    clear hJ
    subst ha
    subst hn
    have hge : j + 1 ≤ goes pLine s j := by rw [goes_on hj (by simp [pLine, h37])]; exact goes_ge _ _ _
    have hgl := goes_le pLine s j (by omega)
    have cL := take_line s j b (by omega) hs wx hW.sc
    have HW := hidb hW
    clear hW
    go_wp2_with (first
      | (go_at_call 19; refine cL.mono ?_; rintro e w1 ⟨rfl, hs1, hb1⟩; have HS1 := hidb hs1; have HB1 := hidb hb1))
    go_step3
    exact ⟨3 * k, by omega, .inl ⟨rfl, _, _, _, k, _, done, TF.of _ _ _ _ _ _ _ _ _ _ _ _ _ _ _ _ _ _ _ _ _ _ _ _ _ _ _ _ _ _ _ _ _ _ _ _ _ _ _ _ _ _ _ _ _ _ _ _ _ _ _ _ _ _ _ _ _ _ _ _ _ _ _ _ _ _ _ _ _ _ _ _ _ _ _ _ _ _ _ _ _ _ _ _ _ _ _ _ _ _ _ _ _, rfl, by omega, hR, HW.out.step HB1.out HS1.out hgl (by omega) (by omega) (by omega)⟩⟩
  case p3 =>
    intro n a wx hJ
    obtain ⟨v, x6, k, j, done, ⟨u, ha⟩, hn, hk, hj, hR, hW, c3, c4, c5, c6, c7, c8, c9, c10, c11, c12⟩ := TJ.at3 hJ (by omega) (by omega)
    clear hJ
    subst ha
    subst hn
    have cT : TokC 26 s j b wx := tok_word s j b hj hs wx hW.sc (c3 rfl)
    obtain ⟨tk, x, tn, tf, er, hV⟩ := tokV_tk s j
    unfold TokC at cT
    rw [hV, okV_tk] at cT
    have HW := hidb hW
    have HV := hidb hV
    clear hW hV c3 c4 c5 c6 c7 c8 c9 c10 c11 c12
    go_wp2_with (first
      | (go_at_call 26; refine cT.mono ?_; rintro e w1 ⟨rfl, hb1, p, hp, hs1, hpe⟩; have HS1 := hidb hs1; have HB1 := hidb hb1; have HP := hidb (And.intro hp hpe); clear hpe; have HX := hidb (HW.out.bx); obtain ⟨t0, t1, t2, t3, t4, hbx⟩ := HW.out.bx; have HX1 := hidb (hbx.but hb1 (by omega)); obtain ⟨d0, d1, d2, d3, d4, g0, g1, g2, g3, g4, _⟩ := HX1.out))
    go_step3
    exact ⟨3 * k + 1, by omega, .inr (.inr (.inr (.inr ⟨rfl, _, k, j, p, done, tk, x, tn, tf, er, TF.of _ _ _ _ _ _ _ _ _ _ _ _ _ _ _ _ _ _ _ _ _ _ _ _ _ _ _ _ _ _ _ _ _ _ _ _ _ _ _ _ _ _ _ _ _ _ _ _ _ _ _ _ _ _ _ _ _ _ _ _ _ _ _ _ _ _ _ _ _ _ _ _ _ _ _ _ _ _ _ _ _ _ _ _ _ _ _ _ _ _ _ _ _, rfl, hk, hj, hR, HV.out, Duo.set5 HS1.out (by omega) _ _ _ _ _, HP.out.1, fun e => HP.out.2 (by rw [e]; rfl), (HW.out.bt.trans (ts_b HB1.out)).set5 (fun _ => .inr (.inl rfl)) _ _ _ _ _, HX1.out.set _ _ _ _ _, own_but (own_but HW.out.ow HB1.out (fun k hk => by omega)) ((But.refl (fun k => k = w.heap.size + 1) _).set5 (fun _ => rfl) _ _ _ _ _) (fun k hk => by omega), HW.out.ln⟩)))⟩
  case p4 =>
    intro n a wx hJ
    obtain ⟨v, x6, k, j, done, ⟨u, ha⟩, hn, hk, hj, hR, hW, c3, c4, c5, c6, c7, c8, c9, c10, c11, c12⟩ := TJ.at3 hJ (by omega) (by omega)
    clear hJ
    subst ha
    subst hn
    have cT : TokC 27 s j b wx := tok_var s j b hj hs wx hW.sc (c4 (by omega)) (c5 rfl)
    obtain ⟨tk, x, tn, tf, er, hV⟩ := tokV_tk s j
    unfold TokC at cT
    rw [hV, okV_tk] at cT
    have HW := hidb hW
    have HV := hidb hV
    clear hW hV c3 c4 c5 c6 c7 c8 c9 c10 c11 c12
    go_wp2_with (first
      | (go_at_call 27; refine cT.mono ?_; rintro e w1 ⟨rfl, hb1, p, hp, hs1, hpe⟩; have HS1 := hidb hs1; have HB1 := hidb hb1; have HP := hidb (And.intro hp hpe); clear hpe; have HX := hidb (HW.out.bx); obtain ⟨t0, t1, t2, t3, t4, hbx⟩ := HW.out.bx; have HX1 := hidb (hbx.but hb1 (by omega)); obtain ⟨d0, d1, d2, d3, d4, g0, g1, g2, g3, g4, _⟩ := HX1.out))
    go_step3
    exact ⟨3 * k + 1, by omega, .inr (.inr (.inr (.inr ⟨rfl, _, k, j, p, done, tk, x, tn, tf, er, TF.of _ _ _ _ _ _ _ _ _ _ _ _ _ _ _ _ _ _ _ _ _ _ _ _ _ _ _ _ _ _ _ _ _ _ _ _ _ _ _ _ _ _ _ _ _ _ _ _ _ _ _ _ _ _ _ _ _ _ _ _ _ _ _ _ _ _ _ _ _ _ _ _ _ _ _ _ _ _ _ _ _ _ _ _ _ _ _ _ _ _ _ _ _, rfl, hk, hj, hR, HV.out, Duo.set5 HS1.out (by omega) _ _ _ _ _, HP.out.1, fun e => HP.out.2 (by rw [e]; rfl), (HW.out.bt.trans (ts_b HB1.out)).set5 (fun _ => .inr (.inl rfl)) _ _ _ _ _, HX1.out.set _ _ _ _ _, own_but (own_but HW.out.ow HB1.out (fun k hk => by omega)) ((But.refl (fun k => k = w.heap.size + 1) _).set5 (fun _ => rfl) _ _ _ _ _) (fun k hk => by omega), HW.out.ln⟩)))⟩
  case p5 =>
    intro n a wx hJ
    obtain ⟨v, x6, k, j, done, ⟨u, ha⟩, hn, hk, hj, hR, hW, c3, c4, c5, c6, c7, c8, c9, c10, c11, c12⟩ := TJ.at3 hJ (by omega) (by omega)
    clear hJ
    subst ha
    subst hn
    have cT : TokC 28 s j b wx := tok_num s j b hj hs wx hW.sc (GL hW.bt) hg (c4 (by omega)) (c6 (by omega)) (c7 rfl)
    obtain ⟨tk, x, tn, tf, er, hV⟩ := tokV_tk s j
    unfold TokC at cT
    rw [hV, okV_tk] at cT
    have HW := hidb hW
    have HV := hidb hV
    clear hW hV c3 c4 c5 c6 c7 c8 c9 c10 c11 c12
    go_wp2_with (first
      | (go_at_call 28; refine cT.mono ?_; rintro e w1 ⟨rfl, hb1, p, hp, hs1, hpe⟩; have HS1 := hidb hs1; have HB1 := hidb hb1; have HP := hidb (And.intro hp hpe); clear hpe; have HX := hidb (HW.out.bx); obtain ⟨t0, t1, t2, t3, t4, hbx⟩ := HW.out.bx; have HX1 := hidb (hbx.but hb1 (by omega)); obtain ⟨d0, d1, d2, d3, d4, g0, g1, g2, g3, g4, _⟩ := HX1.out))
    go_step3
    exact ⟨3 * k + 1, by omega, .inr (.inr (.inr (.inr ⟨rfl, _, k, j, p, done, tk, x, tn, tf, er, TF.of _ _ _ _ _ _ _ _ _ _ _ _ _ _ _ _ _ _ _ _ _ _ _ _ _ _ _ _ _ _ _ _ _ _ _ _ _ _ _ _ _ _ _ _ _ _ _ _ _ _ _ _ _ _ _ _ _ _ _ _ _ _ _ _ _ _ _ _ _ _ _ _ _ _ _ _ _ _ _ _ _ _ _ _ _ _ _ _ _ _ _ _ _, rfl, hk, hj, hR, HV.out, Duo.set5 HS1.out (by omega) _ _ _ _ _, HP.out.1, fun e => HP.out.2 (by rw [e]; rfl), (HW.out.bt.trans (ts_b HB1.out)).set5 (fun _ => .inr (.inl rfl)) _ _ _ _ _, HX1.out.set _ _ _ _ _, own_but (own_but HW.out.ow HB1.out (fun k hk => by omega)) ((But.refl (fun k => k = w.heap.size + 1) _).set5 (fun _ => rfl) _ _ _ _ _) (fun k hk => by omega), HW.out.ln⟩)))⟩
  case p6 =>
    intro n a wx hJ
    obtain ⟨v, x6, k, j, done, ⟨u, ha⟩, hn, hk, hj, hR, hW, c3, c4, c5, c6, c7, c8, c9, c10, c11, c12⟩ := TJ.at3 hJ (by omega) (by omega)
    clear hJ
    subst ha
    subst hn
    have cT : TokC 29 s j b wx := tok_bits s j b hj hs wx hW.sc (GL hW.bt) hg (c4 (by omega)) (c6 (by omega)) (c8 (by omega)) (c9 rfl)
    obtain ⟨tk, x, tn, tf, er, hV⟩ := tokV_tk s j
    unfold TokC at cT
    rw [hV, okV_tk] at cT
    have HW := hidb hW
    have HV := hidb hV
    clear hW hV c3 c4 c5 c6 c7 c8 c9 c10 c11 c12
    go_wp2_with (first
      | (go_at_call 29; refine cT.mono ?_; rintro e w1 ⟨rfl, hb1, p, hp, hs1, hpe⟩; have HS1 := hidb hs1; have HB1 := hidb hb1; have HP := hidb (And.intro hp hpe); clear hpe; have HX := hidb (HW.out.bx); obtain ⟨t0, t1, t2, t3, t4, hbx⟩ := HW.out.bx; have HX1 := hidb (hbx.but hb1 (by omega)); obtain ⟨d0, d1, d2, d3, d4, g0, g1, g2, g3, g4, _⟩ := HX1.out))
    go_step3
    exact ⟨3 * k + 1, by omega, .inr (.inr (.inr (.inr ⟨rfl, _, k, j, p, done, tk, x, tn, tf, er, TF.of _ _ _ _ _ _ _ _ _ _ _ _ _ _ _ _ _ _ _ _ _ _ _ _ _ _ _ _ _ _ _ _ _ _ _ _ _ _ _ _ _ _ _ _ _ _ _ _ _ _ _ _ _ _ _ _ _ _ _ _ _ _ _ _ _ _ _ _ _ _ _ _ _ _ _ _ _ _ _ _ _ _ _ _ _ _ _ _ _ _ _ _ _, rfl, hk, hj, hR, HV.out, Duo.set5 HS1.out (by omega) _ _ _ _ _, HP.out.1, fun e => HP.out.2 (by rw [e]; rfl), (HW.out.bt.trans (ts_b HB1.out)).set5 (fun _ => .inr (.inl rfl)) _ _ _ _ _, HX1.out.set _ _ _ _ _, own_but (own_but HW.out.ow HB1.out (fun k hk => by omega)) ((But.refl (fun k => k = w.heap.size + 1) _).set5 (fun _ => rfl) _ _ _ _ _) (fun k hk => by omega), HW.out.ln⟩)))⟩
  case p7 =>
    intro n a wx hJ
    obtain ⟨v, x6, k, j, done, ⟨u, ha⟩, hn, hk, hj, hR, hW, c3, c4, c5, c6, c7, c8, c9, c10, c11, c12⟩ := TJ.at3 hJ (by omega) (by omega)
    clear hJ
    subst ha
    subst hn
    have cT : TokC 30 s j b wx := tok_quot s j b hj hs wx hW.sc (GL hW.bt) hg (c4 (by omega)) (c6 (by omega)) (c8 (by omega)) (c10 (by omega)) (c11 rfl)
    obtain ⟨tk, x, tn, tf, er, hV⟩ := tokV_tk s j
    unfold TokC at cT
    rw [hV, okV_tk] at cT
    have HW := hidb hW
    have HV := hidb hV
    clear hW hV c3 c4 c5 c6 c7 c8 c9 c10 c11 c12
    go_wp2_with (first
      | (go_at_call 30; refine cT.mono ?_; rintro e w1 ⟨rfl, hb1, p, hp, hs1, hpe⟩; have HS1 := hidb hs1; have HB1 := hidb hb1; have HP := hidb (And.intro hp hpe); clear hpe; have HX := hidb (HW.out.bx); obtain ⟨t0, t1, t2, t3, t4, hbx⟩ := HW.out.bx; have HX1 := hidb (hbx.but hb1 (by omega)); obtain ⟨d0, d1, d2, d3, d4, g0, g1, g2, g3, g4, _⟩ := HX1.out))
    go_step3
    exact ⟨3 * k + 1, by omega, .inr (.inr (.inr (.inr ⟨rfl, _, k, j, p, done, tk, x, tn, tf, er, TF.of _ _ _ _ _ _ _ _ _ _ _ _ _ _ _ _ _ _ _ _ _ _ _ _ _ _ _ _ _ _ _ _ _ _ _ _ _ _ _ _ _ _ _ _ _ _ _ _ _ _ _ _ _ _ _ _ _ _ _ _ _ _ _ _ _ _ _ _ _ _ _ _ _ _ _ _ _ _ _ _ _ _ _ _ _ _ _ _ _ _ _ _ _, rfl, hk, hj, hR, HV.out, Duo.set5 HS1.out (by omega) _ _ _ _ _, HP.out.1, fun e => HP.out.2 (by rw [e]; rfl), (HW.out.bt.trans (ts_b HB1.out)).set5 (fun _ => .inr (.inl rfl)) _ _ _ _ _, HX1.out.set _ _ _ _ _, own_but (own_but HW.out.ow HB1.out (fun k hk => by omega)) ((But.refl (fun k => k = w.heap.size + 1) _).set5 (fun _ => rfl) _ _ _ _ _) (fun k hk => by omega), HW.out.ln⟩)))⟩
  case p8 =>
    intro H9
    intro n a wx hJ
    obtain ⟨v, x6, k, j, done, ⟨u, ha⟩, hn, hk, hj, hR, hW, c3, c4, c5, c6, c7, c8, c9, c10, c11, c12⟩ := TJ.at3 hJ (by omega) (by omega)
    clear hJ
    subst ha
    subst hn
    have cT : TokC 31 s j b wx := tok_sign s j b hj hs wx hW.sc (GL hW.bt) (c4 (by omega)) (c6 (by omega)) (c8 (by omega)) (c10 (by omega)) (c12 (by omega))
    obtain ⟨tk, x, tn, tf, er, hV⟩ := tokV_tk s j
    unfold TokC at cT
    rw [hV, okV_tk] at cT
    have HW := hidb hW
    have HV := hidb hV
    clear hW hV c3 c4 c5 c6 c7 c8 c9 c10 c11 c12
    go_wp2_with (first
      | (go_at_call 31; refine cT.mono ?_; rintro e w1 ⟨rfl, hb1, p, hp, hs1, hpe⟩; have HS1 := hidb hs1; have HB1 := hidb hb1; have HP := hidb (And.intro hp hpe); clear hpe; have HX := hidb (HW.out.bx); obtain ⟨t0, t1, t2, t3, t4, hbx⟩ := HW.out.bx; have HX1 := hidb (hbx.but hb1 (by omega)); obtain ⟨d0, d1, d2, d3, d4, g0, g1, g2, g3, g4, _⟩ := HX1.out))
    go_step3
    rename_i K hK
    refine hK _ _ ?_
    refine wp_mono (H9 (3 * k + 1) _ _ (.inr (.inr (.inr (.inr ⟨rfl, _, k, j, p, done, tk, x, tn, tf, er, TF.of _ _ _ _ _ _ _ _ _ _ _ _ _ _ _ _ _ _ _ _ _ _ _ _ _ _ _ _ _ _ _ _ _ _ _ _ _ _ _ _ _ _ _ _ _ _ _ _ _ _ _ _ _ _ _ _ _ _ _ _ _ _ _ _ _ _ _ _ _ _ _ _ _ _ _ _ _ _ _ _ _ _ _ _ _ _ _ _ _ _ _ _ _, rfl, hk, hj, hR, HV.out, Duo.set5 HS1.out (by omega) _ _ _ _ _, HP.out.1, fun e => HP.out.2 (by rw [e]; rfl), (HW.out.bt.trans (ts_b HB1.out)).set5 (fun _ => .inr (.inl rfl)) _ _ _ _ _, HX1.out.set _ _ _ _ _, own_but (own_but HW.out.ow HB1.out (fun k hk => by omega)) ((But.refl (fun k => k = w.heap.size + 1) _).set5 (fun _ => rfl) _ _ _ _ _) (fun k hk => by omega), HW.out.ln⟩))))) (jumps_mono ?_)
    rintro l a w ⟨n', hn, hJ⟩
    exact ⟨n', by omega, hJ⟩
  case p9 =>
    intro n a wx hJ
    obtain ⟨v, k, j, p, done, tk, x, tn, tf, er, ⟨u, ha⟩, hn, hk, hj, hR, hV, hsc, hp, hpe, hbt, hbx, how, hln⟩ := TJ.at9 hJ
    clear hJ
    subst ha
    subst hn
    have hX := hidb hbx
    have hBT := hidb hbt
    have hSC := hidb hsc
    have hOW := hidb how
    have hfd := GF hbt
    have hE1 : erOf (tokV s j) = er := by rw [hV]; rfl
    have hE2 : tkOf (tokV s j) j = ⟨tk, x, tn, tf, j⟩ := by rw [hV]; rfl
    have hE3 := tokE_in s j hj
    rw [hV, okV_tk] at hE3
    unfold layT at hR
    rw [hE1, hE2] at hR
    obtain ⟨d0, d1, d2, d3, d4, g0, g1, g2, g3, g4, _⟩ := hbx
    obtain ⟨q0, q1, qf0, qf1, _⟩ := hfd
    clear hE1 hE2 hV hbt hsc how
    by_cases he : er = 0
    · subst he
      rw [if_pos rfl] at hR
      obtain rfl := hpe rfl
      obtain ⟨ht1, ht2⟩ := hE3 rfl
      obtain ⟨i0, hi, hz0, hz1, hz2⟩ := info_parts (P := Tryz.prog) (e := TT) (z := .agg #[.int .i64 0, .string ⟨#[]⟩, .int .i64 0, .float .f64 0, .int .i64 0]) (size := 5) (bytes := 48) (by kernel_rfl)
      have OW1 := own_but hOW.out ((But.refl (fun k => k = w.heap.size + 1) wx).setCell (p := ⟨w.heap.size + 1, 4, none⟩) (fun _ => rfl) (.int .i64 (j : Int))) (fun k hk => by omega)
      have hsz2 : w.heap.size + 2 ≤ wx.heap.size := by have := hBT.out.size; omega
      clear hpe hE3
      go_wp2_with (at_builtin; refine wpList_append_own _ rfl _ _ 44 rfl (w.heap.size + 2) TT i0 (.agg #[.int .i64 0, .string ⟨#[]⟩, .int .i64 0, .float .f64 0, .int .i64 0]) 5 48 Tryz.underlying44 hi hz0 hz1 hz2 rfl (by decide) _ _ _ rfl (OW1.alloc _) ⟨wx.heap.size, 0, none⟩ 1 1 [.int .i64 tk, .string x, .int .i64 tn, .float .f64 tf, .int .i64 (j : Int)] rfl rfl ?c1 ?c2 ?c3 ?c4 ?c5 ?_)
      case c1 =>
        intro q u hq
        exact app_cells _ _ _ _ _ _ _ _ (by simp [World.setCell]) q u hq
      case c2 =>
        intro u hu
        simp only [List.mem_cons, List.not_mem_nil, or_false] at hu
        rcases hu with rfl | rfl | rfl | rfl | rfl <;> rfl
      case c3 => unfold maxLen; omega
      case c4 => omega
      case c5 => simp; omega
      intro v' w3 hown' hgrow hnil
      have hb3 := grow_below OW1 hgrow (by simp [World.setCell]; exact hsz2)
      have HO := hidb hown'
      clear hown' hgrow hnil
      go_wp2_with fail
      go_step3
      have hbz := (hBT.out.setCell (p := ⟨w.heap.size + 1, 4, none⟩) (fun _ => .inr (.inl rfl)) (.int .i64 (j : Int))).trans (Bz.of hb3)
      refine ⟨3 * k, by omega, .inl ⟨rfl, _, _, _, k, _, done ++ [⟨tk, x, tn, tf, j⟩], TF.of _ _ _ _ _ _ _ _ _ _ _ _ _ _ _ _ _ _ _ _ _ _ _ _ _ _ _ _ _ _ _ _ _ _ _ _ _ _ _ _ _ _ _ _ _ _ _ _ _ _ _ _ _ _ _ _ _ _ _ _ _ _ _ _ _ _ _ _ _ _ _ _ _ _ _ _ _ _ _ _ _ _ _ _ _ _ _ _ _ _ _ _ _, rfl, by omega, hR, ?_⟩⟩
      have hb4 : Below (w.heap.size + 2) (wx.setCell ⟨w.heap.size + 1, 4, none⟩ (.int .i64 (j : Int))) w3 := hb3
      refine ⟨(Duo.low (hSC.out.but ((But.refl (fun k => k = w.heap.size + 1) wx).setCell (p := ⟨w.heap.size + 1, 4, none⟩) (fun _ => rfl) _) (by omega)) hb4 (by omega)), hbz, ⟨.int .i64 tk, .string x, .int .i64 tn, .float .f64 tf, .int .i64 (j : Int), Box.low (hX.out.set4 _) hb4 (by omega)⟩, ?_, ht2, by simp; omega⟩
      rw [List.length_append, tkCells_snoc]
      exact HO.out
    · rw [if_neg he] at hR
      have he1 : (er != 0) = true := by simpa using he
      have he2 : (er == 0) = false := by simpa using he
      clear hpe hE3
      go_wp2_with fail
      simp only [jumps]
      exact bodyPost_ret (v := .tuple #[.slice none 0 0, .agg #[.int .i64 er, .int .i64 (j : Int)]]) (by simp [results, Tryz.results16, go_sem, q0, q1]) rfl ⟨.inr ⟨er, j, hR.symm, rfl⟩, ((GW hBT.out).setCell (p := ⟨w.heap.size, 0, none⟩) (fun e => absurd e (Nat.lt_irrefl _)) _).setCell (p := ⟨w.heap.size, 1, none⟩) (fun e => absurd e (Nat.lt_irrefl _)) _⟩
end Go.Proofs.YtdpfmmbfidknfaaGreatDoor


