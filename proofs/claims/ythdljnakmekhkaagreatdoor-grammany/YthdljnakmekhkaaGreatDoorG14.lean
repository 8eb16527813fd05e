import Derived.Test.YthdljnakmekhkaaGreatDoorG13
/- The reference's parser: small good steps. -/
namespace Go.Proofs.YthdljnakmekhkaaGreatDoor
namespace Rf
open Go.RowKit Go.Lib
attribute [local go_sem] store_float f64bits
attribute [local go_sem ↓] Go.wp_at_zero Go.wp_at_succ
attribute [local go_sem] nd_p tk_k tk_x tk_n tk_f tk_p
variable {B g b o : Nat} {e : PM Nat}

/-- The contract of an expression. -/
structure EC (B g b o : Nat) (e : PM Nat) : Prop where
  all : Gm.All e
  run : ∀ {P : Nat → Prop} {w : World} {V : Value} {s : PS}, At B g b o P w V s → Calls Tryz.prog 104 #[.pointer (some ⟨g, 0, none⟩)] w fun r w' => Rz B g b o P w V (e s) r w'
theorem St.bad {P : Nat → Prop} {w0 w w' : World} {V0 V : Value} {s : PS} {er : Int} {p : Nat} (h : St B g b o P w0 V0 w V s) (hb : Bd g b w V w' er p) : Bd g b w0 V0 w' er p := ⟨hb.no, hb.ex, but_then h.but h.own hb.but⟩
theorem sNodeR {P : Nat → Prop} {w : World} {V v : Value} {s : PS} {n : Nd} {R : Except (Int × Nat) (Nat × PS)} (hR : R = Gm.lay n s) (h : At B g b o P w V s) (hv : LR w g P V v n.l) :
    Calls Tryz.prog 32 #[.pointer (some ⟨g, 0, none⟩), .agg #[.int .i64 n.k, .string n.x, .int .i64 n.n, .float .f64 n.f, v, .int .i64 (n.p : Int)]] w fun r w' => Rz B g b o P w V R r w' := by
  rw [hR]; exact sNode n v h hv
theorem IR.app {P : Nat → Prop} {w0 w w' : World} {V0 V v v' : Value} {s : PS} {l : List Nat} {xs : List Nat} {ob : Obj} (h : St B g b o (PV P v) w0 V0 w V s) (hi : IR w w0.heap.size g b V v l) (hG : (w.alloc ob).grownBy w' v.ownBlock) (hA : v'.ownBlock = v.ownBlock ∨ v'.ownBlock = some (w.heap.size + 1))
    (ho : w'.ownsRow w0.heap.size IT 1 v' (l.length + xs.length) (l.map iv ++ xs.map iv)) : IR w' w0.heap.size g b V v' (l ++ xs) ∧ St B g b o (PV P v') w0 V0 w' V s := by
  refine IR.grown h hi (below_new w ob) hG (fun k hk => ?_) (by rw [List.length_append, List.map_append]; exact ho)
  rcases hA with e | e
  · exact .inl (e ▸ hk)
  · rw [e] at hk; cases hk; right; simp


theorem Bd.turn {S : Nat → Prop} {w0 w w' : World} {V0 : Value} {er : Int} {p : Nat} (h : Bd g b w0 V0 w er p) (hb : But S w w') (h1 : ¬ S g) (h2 : ¬ S b) (h3 : ∀ k, S k → w0.heap.size ≤ k) : Bd g b w0 V0 w' er p := by
  obtain ⟨hn, ⟨TS, i, V, o, hq, hg, he⟩, h5⟩ := h
  refine ⟨hn, ⟨TS, i, V, o, hq.but hb h1 h2, hg, he⟩, hb.os.trans h5.os, hb.tape.trans h5.tape, hb.output.trans h5.output, Nat.le_trans h5.size hb.size, fun k hk hs => (hb.block k (Nat.lt_of_lt_of_le hk h5.size) (fun e => ?_)).trans (h5.block k hk hs)⟩
  have := h3 k e
  omega
theorem Bd.blt {w0 w : World} {V0 : Value} {er : Int} {p : Nat} (h : Bd g b w0 V0 w er p) : b < w.heap.size := by obtain ⟨_, ⟨TS, i, V, o, hq, _⟩, _⟩ := h; exact hq.lt
/-- A row grows in a fault. -/
theorem RB.app {w0 w w' : World} {V0 v v' : Value} {er : Int} {p : Nat} {l xs : List Nat} {ob : Obj} (h : Bd g b w0 V0 w er p) (hg : g < w0.heap.size) (hbl : b < w0.heap.size) (hr : RB w w0.heap.size v l) (hG : (w.alloc ob).grownBy w' v.ownBlock) (ho : w'.ownsRow w0.heap.size IT 1 v' (l.length + xs.length) (l.map iv ++ xs.map iv)) (hl : l.length + xs.length ≤ 100002) : RB w' w0.heap.size v' (l ++ xs) ∧ Bd g b w0 V0 w' er p ∧ v'.ownBlock ≠ some g := by
  have ho2 : w'.ownsRow w0.heap.size IT 1 v' (l ++ xs).length ((l ++ xs).map iv) := by rw [List.length_append, List.map_append]; exact ho
  refine ⟨⟨ho2, by rw [List.length_append]; exact hl⟩, h.turn (S := fun k => v.ownBlock = some k) ((But.of_below (below_new w ob)).trans (grown_but hG)) ?_ ?_ ?_, ?_⟩
  · intro e; have := RB.low hr g e; omega
  · intro e; have := RB.low hr b e; omega
  · intro k e; exact RB.low hr k e
  · intro e; have := (ho2.lt g e).1; omega

set_option maxHeartbeats 4000000 in
set_option maxRecDepth 100000 in
theorem pNone (k : Int) {P : Nat → Prop} {w : World} {V : Value} {s : PS} (h : At B g b o P w V s) :
    Calls Tryz.prog 106 #[.pointer (some ⟨g, 0, none⟩), .int .i64 k] w fun r w' => Rz B g b o P w V (Gm.layNone k s) r w' := by
  have H : Hid (St B g b o P w V w V s) := hidb h
  obtain ⟨R, hR⟩ : ∃ R, Gm.layNone k s = R := ⟨_, rfl⟩
  rw [hR]
  have HR := hidb hR.symm
  clear hR
  have HP := hidb h.plt
  clear h
  go_enter Tryz.func106, Tryz.ntmps106
  go_wp2_with (first
    | (go_at_call 26; refine (sNow H.out).mono ?_; rintro r1 w1 ⟨t, hq, rfl, hb⟩; replace H := hidb (H.out.below hb); replace HR := hidb (HR.out.trans (Gm.bind_here hq)); have Tt := hidb hq; clear hb hq)
    | (go_at_call 32; refine (sNodeR HR.out H.out.at (LR.none _ _ _ _)).mono ?_; rintro r1 w1 (⟨er, q, z, hq, rfl, hbd⟩ | ⟨z, s1, V1, hq, rfl, hs⟩) <;> first | (replace H := hidb (H.out.trans hs); replace HR := hidb hq; clear hs hq) | (have HRE := hidb hq; have HB : Hid (But (· = g) w1 w1) := hidb (But.refl _ _); replace H := hidb (H.out.bad hbd); clear hq hbd HR)))
  all_goals (
    go_ret
    first
      | exact .inr ⟨_, _, _, HR.out, rfl, H.out⟩
      | exact .inl ⟨_, _, _, HRE.out, rfl, H.out⟩)

set_option maxHeartbeats 4000000 in
set_option maxRecDepth 100000 in
theorem pTwo (x : ByteArray) (y z q : Nat) {P : Nat → Prop} {w : World} {V : Value} {s : PS} (h : At B g b o P w V s) :
    Calls Tryz.prog 123 #[.pointer (some ⟨g, 0, none⟩), .string x, iv y, iv z, .int .i64 (q : Int)] w fun r w' => Rz B g b o P w V (Gm.op q x [y, z] s) r w' := by
  have H : Hid (St B g b o P w V w V s) := hidb h
  obtain ⟨R, hR⟩ : ∃ R, Gm.op q x [y, z] s = R := ⟨_, rfl⟩
  rw [hR]
  have HR := hidb hR.symm
  clear hR
  have HP := hidb h.plt
  clear h
  go_enter Tryz.func123, Tryz.ntmps123
  go_wp2_with (first
    | (go_at_call 32; refine (sNodeR (n := ⟨9, x, 0, 0, [y, z], q⟩) HR.out (IR.lit H.out #[iv y, iv z] [y, z] rfl (by simp)).2.drop.at ((IR.lit H.out #[iv y, iv z] [y, z] rfl (by simp)).1.lr HP.out)).mono ?_; rintro r1 w1 (⟨er, q', z', hq, rfl, hbd⟩ | ⟨z', s1, V1, hq, rfl, hs⟩) <;> first | (replace H := hidb ((IR.lit H.out #[iv y, iv z] [y, z] rfl (by simp)).2.drop.trans hs); replace HR := hidb hq; clear hs hq) | (have HRE := hidb hq; replace H := hidb ((IR.lit H.out #[iv y, iv z] [y, z] rfl (by simp)).2.drop.bad hbd); clear hq hbd)))
  all_goals (
    go_ret
    first
      | exact .inr ⟨_, _, _, HR.out, rfl, H.out⟩
      | exact .inl ⟨_, _, _, HRE.out, rfl, H.out⟩)

end Rf
end Go.Proofs.YthdljnakmekhkaaGreatDoor


/- The reference's parser: exprs. -/
namespace Go.Proofs.YthdljnakmekhkaaGreatDoor
namespace Rf
open Go.RowKit Go.Lib
attribute [local go_sem] store_float f64bits
attribute [local go_sem ↓] Go.wp_at_zero Go.wp_at_succ
attribute [local go_sem] nd_p tk_k tk_x tk_n tk_f tk_p
variable {B g b o : Nat} {e : PM Nat}

theorem IR.badrow {w w' : World} {C : Nat} {V v : Value} {l : List Nat} {er : Int} {p : Nat} (hi : IR w C g b V v l) (hl : l.length ≤ 100002) (hb : Bd g b w V w' er p) : RB w' C v l :=
  ⟨row_but hi.own hb.but (fun k hk he => he.elim (fun e => hi.ng (e ▸ hk)) (fun e => hi.nv k hk e)), hl⟩
def mostOf (few : Bool) : Nat := if few then 16 else Gm.noBound
theorem ne_pos {s : PS} (h : Ne s) : 0 < s.ts.length := by obtain ⟨r, hr⟩ := Gm.ne_hd h; rw [hr]; simp
theorem take_t {s : PS} {x : ByteArray} (h : Gm.isM (Gm.hd s) x = true) : Gm.take x s = .ok (true, Gm.cut s) := by simp only [Gm.take, if_pos h]
theorem take_f {s : PS} {x : ByteArray} (h : Gm.isM (Gm.hd s) x = false) : Gm.take x s = .ok (false, s) := by simp only [Gm.take, h]; rfl
theorem cut_len {s : PS} (h : Ne s) : (Gm.cut s).ts.length + 1 = s.ts.length := by obtain ⟨r, hr⟩ := Gm.ne_hd h; simp [Gm.cut, hr]

set_option maxHeartbeats 8000000 in
set_option maxRecDepth 100000 in
theorem pExprs (hE : EC B g b o e) (few : Bool) {P : Nat → Prop} {w : World} {V : Value} {s : PS} (h : At B g b o P w V s) :
    Calls Tryz.prog 86 #[.pointer (some ⟨g, 0, none⟩), .bool few] w fun r w' => RzL B g b o P w V (Gm.exprs e (mostOf few) s) r w' := by
  obtain ⟨i0, hi0, hz0, hz1, hz2⟩ := info_parts (P := Tryz.prog) (e := IT) (z := .int .i64 0) (size := 1) (bytes := 8) (by kernel_rfl)
  have H : Hid (St B g b o P w V w V s) := hidb h
  have HE := hidb hE
  obtain ⟨R, hR⟩ : ∃ R, Gm.exprs e (mostOf few) s = R := ⟨_, rfl⟩
  rw [hR]
  have HR := hidb hR.symm
  have htl := h.tl
  have HGB := hidb (And.intro h.glt h.blt)
  have H0 : Hid (St B g b o (PV P (.slice none 0 0)) w V w V s) := hidb (h.more (fun k hk => by simp [Value.ownBlock] at hk) (h.ns.newer (fun k hk => by simp [Value.ownBlock] at hk)))
  clear hR h hE
  go_enter Tryz.func86, Tryz.ntmps86
  go_wp2_with fail
  go_loopg [5] s.ts.length (fun gf s5 wx => ∃ (l : List Nat) (sx : PS) (Vx : Value) (a : Option Addr) (c : Nat) (F : Nat → PM (List Nat)), s5 = .slice a l.length c ∧ St B g b o (PV P (.slice a l.length c)) w V wx Vx sx ∧ IR wx w.heap.size g b Vx (.slice a l.length c) l ∧ R = (if l.length = mostOf few then Gm.giveUp 2 else (e >>= F)) sx ∧ (∀ x s1, s1.ts.length ≤ sx.ts.length → ∃ k, s1.ts.length ≤ k ∧ F x s1 = Gm.more e (mostOf few) k (l ++ [x]) s1) ∧ sx.ts.length ≤ gf ∧ l.length + sx.ts.length ≤ 100001)
  case atStart =>
    refine ⟨[], s, V, none, 0, fun x => Gm.left >>= fun k => Gm.more e (mostOf few) k [x], rfl, H0.out, IR.none _ _ _ _ _, ?_, fun x s1 _ => ⟨s1.ts.length, Nat.le_refl _, rfl⟩, Nat.le_refl _, by simp; omega⟩
    rw [HR.out, if_neg (by cases few <;> simp [mostOf, Gm.noBound])]
    rfl
  case round =>
    obtain ⟨l, sx, Vx, a, c, F, hs5, hst, hir, hmore, hF, hgf, hll⟩ := hrel
    subst hs5
    clear HR H H0
    have hpos := ne_pos hst.ne
    obtain ⟨g', rfl⟩ : ∃ g', gk = g' + 1 := ⟨gk - 1, by omega⟩
    have H := hidb hst
    have HI := hidb hir
    have HR := hidb hmore
    have HFF := hidb hF
    have hc1 : l.length + 1 ≤ maxLen := by unfold maxLen; omega
    have hc2 : (l.length + 1) * 8 ≤ 140737488355328 := by omega
    have hlb : l.length ≤ 100002 := by omega
    have hgl : g < w.heap.size := HGB.out.1
    have hbl : b < w.heap.size := HGB.out.2
    clear hst hir hmore hF
    by_cases hmo : l.length = mostOf few
    · have hfew : few = true := by
        cases few with
        | true => rfl
        | false => simp [mostOf, Gm.noBound] at hmo; omega
      subst hfew
      have h16 : l.length = 16 := hmo
      have e1 : ((l.length : Nat) : Int) = 16 := by omega
      replace HR := hidb (HR.out.trans (Gm.ite_t hmo))
      clear hmo h16
      go_wp2_with (first
        | (go_at_call 26; refine (sNow H.out).mono ?_; rintro r1 w1 ⟨t, hq, rfl, hb⟩; obtain ⟨tk, tx, tn, tf, tp⟩ := t; have Tt := hidb hq; replace HI := hidb (HI.out.below hb); replace H := hidb (H.out.below hb); clear hb hq)
        | (go_at_call 28; refine (sFail H.out.at tp (by decide)).mono ?_; rintro r1 w1 ⟨rfl, hbd⟩; have HRE : Hid (R = .error (2, tp)) := hidb (by rw [HR.out]; simp only [Gm.giveUp, Tt.out]); have HW := hidb (HI.out.badrow hlb hbd); have HB : Hid (But (· = g) w1 w1) := hidb (But.refl _ _); replace H := hidb (H.out.bad hbd); clear hbd)
        | (go_at_call 104; refine (bExpr H.out).mono ?_; rintro r1 w1 ⟨rfl, hd, hb⟩; have HW := hidb (RB.but HW.out hb (fun k hk he => by have he2 : k = g := he; have := RB.low HW.out k hk; omega)); replace H := hidb hd; clear hb hd)
        | (at_builtin; refine wpList_append_own_at _ rfl _ _ 44 rfl w.heap.size IT i0 (.int .i64 0) 1 8 Tryz.underlying44 hi0 hz0 hz1 hz2 rfl (by decide) _ _ _ rfl (HW.out.1.alloc _) ⟨w1.heap.size, 0, none⟩ 1 1 [iv 0] rfl rfl ?_ ?_ ?_ ?_ ?_ ?_))
      all_goals first
        | (intro q u hq; exact app_ints _ _ _ rfl q u hq)
        | (intro u hu; cases List.mem_singleton.1 hu; rfl)
        | exact hc1
        | exact hc2
        | (have := H.out.but.size; simp; omega)
        | skip
      intro v' w3 hown hgrow hnil hat
      obtain ⟨j1, j2, j3⟩ := RB.app (xs := [0]) H.out hgl hbl HW.out hgrow hown (by simp; omega)
      obtain ⟨a', c', rfl⟩ : ∃ a' c', v' = .slice a' (l.length + 1) c' := by obtain ⟨a', c', h⟩ := own_sl j1.1; exact ⟨a', c', by simpa using h⟩
      have HW := hidb j1
      have HNG := hidb j3
      replace H := hidb j2
      clear j1 j2 j3 hown hgrow hnil hat
      go_wp2_with (first
        | (go_at_call 64; refine (bSign _ H.out).mono ?_; rintro r1 w4 ⟨rfl, hb⟩; have HW := hidb (RB.but HW.out (But.of_below (S := fun _ => False) hb) (fun _ _ h => h)); replace H := hidb (H.out.keep hb); clear hb))
      go_ret
      exact .inl ⟨_, _, _, _, HRE.out, rfl, HW.out, HNG.out, H.out⟩
    · replace HR := hidb (HR.out.trans (Gm.ite_f hmo))
      have e1 : few = false ∨ (few = true ∧ (((l.length : Nat) : Int) == 16) = false) := by
        cases few with
        | false => exact .inl rfl
        | true => exact .inr ⟨rfl, by simp [mostOf] at hmo ⊢; omega⟩
      clear hmo
      rcases e1 with rfl | ⟨rfl, e2⟩
      all_goals (
        go_wp2_with (first
          | (go_at_call 104; refine (HE.out.run H.out.at).mono ?_; rintro r1 w1 (⟨er, q, x, hq, rfl, hbd⟩ | ⟨x, s1, V1, hq, rfl, hs⟩) <;> first | (have HF := hidb (HE.out.all _ H.out.ne _ _ hq).1; replace H := hidb (H.out.trans hs); replace HI := hidb (HI.out.step hs); replace HR := hidb (HR.out.trans (Gm.bind_ok hq)); clear hs hq) | (have HRE := hidb (HR.out.trans (Gm.bind_err hq)); have HW := hidb (HI.out.badrow hlb hbd); replace H := hidb (H.out.bad hbd); clear hq hbd))
          | (at_builtin; refine wpList_append_own_at _ rfl _ _ 44 rfl w.heap.size IT i0 (.int .i64 0) 1 8 Tryz.underlying44 hi0 hz0 hz1 hz2 rfl (by decide) _ _ _ rfl (HI.out.own.alloc _) ⟨w1.heap.size, 0, none⟩ 1 1 [iv x] rfl rfl ?_ ?_ ?_ ?_ ?_ ?_)
          | (at_builtin; refine wpList_append_own_at _ rfl _ _ 44 rfl w.heap.size IT i0 (.int .i64 0) 1 8 Tryz.underlying44 hi0 hz0 hz1 hz2 rfl (by decide) _ _ _ rfl (HW.out.1.alloc _) ⟨w1.heap.size, 0, none⟩ 1 1 [iv x] rfl rfl ?_ ?_ ?_ ?_ ?_ ?_))
        all_goals first
          | (intro q u hq; exact app_ints _ _ _ rfl q u hq)
          | (intro u hu; cases List.mem_singleton.1 hu; rfl)
          | exact hc1
          | exact hc2
          | (have := H.out.but.size; simp; omega)
          | skip
        · intro v' w3 hown hgrow hnil hat
          obtain ⟨j1, j2, j3⟩ := RB.app (xs := [x]) H.out hgl hbl HW.out hgrow hown (by simp; omega)
          obtain ⟨a', c', rfl⟩ : ∃ a' c', v' = .slice a' (l.length + 1) c' := by obtain ⟨a', c', h⟩ := own_sl j1.1; exact ⟨a', c', by simpa using h⟩
          have HW := hidb j1
          have HNG := hidb j3
          replace H := hidb j2
          clear j1 j2 j3 hown hgrow hnil hat
          go_wp2_with (first
            | (go_at_call 64; refine (bSign _ H.out).mono ?_; rintro r1 w4 ⟨rfl, hb⟩; have HW := hidb (RB.but HW.out (But.of_below (S := fun _ => False) hb) (fun _ _ h => h)); replace H := hidb (H.out.keep hb); clear hb))
          go_ret
          exact .inl ⟨_, _, _, _, HRE.out, rfl, HW.out, HNG.out, H.out⟩
        · intro v' w3 hown hgrow hnil hat
          obtain ⟨j1, j2⟩ := IR.app (xs := [x]) H.out HI.out hgrow hat hown
          obtain ⟨a', c', rfl⟩ : ∃ a' c', v' = .slice a' (l.length + 1) c' := by obtain ⟨a', c', h⟩ := j1.sl; exact ⟨a', c', by simpa using h⟩
          replace HI := hidb j1
          replace H := hidb j2
          clear j1 j2 hown hgrow hnil hat
          obtain ⟨k, hk, hm⟩ := HFF.out x s1 HF.out.len
          have hp1 := ne_pos H.out.ne
          obtain ⟨k', rfl⟩ : ∃ k', k = k' + 1 := ⟨k - 1, by omega⟩
          replace HR := hidb (HR.out.trans hm)
          have hlen := HF.out.len
          clear hm
          go_wp2_with (first
            | (go_at_call 64; refine (sSign (x := ⟨#[44]⟩) rfl H.out).mono ?_; rintro r1 w4 ⟨⟨hq, rfl⟩ | ⟨hq, rfl⟩, hb⟩ <;> first | (have HT := hidb hq; replace HI := hidb (HI.out.below hb); replace H := hidb (H.out.below hb); clear hb hq))
            | (go_at_call 29; refine (sNext H.out.at (Gm.isM_k HT.out)).mono ?_; rintro r1 w5 ⟨rfl, hs⟩; have HC := hidb (cut_len H.out.ne); replace HR := hidb (HR.out.trans (Gm.bind_t (take_t HT.out))); replace H := hidb (H.out.trans hs); replace HI := hidb (HI.out.step hs); clear hs))
          · go_roundg g'
            case measure => omega
            case rel => exact ⟨l ++ [x], Gm.cut s1, V1, a', c', fun y => Gm.more e _ k' (l ++ [x] ++ [y]), by simp, by simpa using H.out, by simpa using HI.out, HR.out, fun y s2 h2 => ⟨k', by have := HC.out; omega, rfl⟩, by have := HC.out; omega, by have := HC.out; simp; omega⟩
          · go_ret
            exact .inr ⟨_, _, _, _, HR.out.trans (Gm.bind_f (take_f HT.out)), rfl, H.out.drop, H.out, HI.out, by simp; omega⟩
        )

end Rf
end Go.Proofs.YthdljnakmekhkaaGreatDoor


/- The reference's parser: body, maybe, tail, clause. -/
namespace Go.Proofs.YthdljnakmekhkaaGreatDoor
namespace Rf
open Go.RowKit Go.Lib
attribute [local go_sem] store_float f64bits
attribute [local go_sem ↓] Go.wp_at_zero Go.wp_at_succ
attribute [local go_sem] nd_p tk_k tk_x tk_n tk_f tk_p
variable {B g b o : Nat} {e : PM Nat}

theorem pExprsF (hE : EC B g b o e) {P : Nat → Prop} {w : World} {V : Value} {s : PS} (h : At B g b o P w V s) : Calls Tryz.prog 86 #[.pointer (some ⟨g, 0, none⟩), .bool false] w fun r w' => RzL B g b o P w V (Gm.exprs e Gm.noBound s) r w' := pExprs hE false h
/-- What may stand up to a sign, and past it. -/
def maybeP (e : PM Nat) (x : ByteArray) (most : Nat) : PM (List Nat) := do
  let b ← Gm.take x
  if b then pure [] else do
    let l ← Gm.exprs e most
    Gm.need x
    pure l
theorem need_t {s : PS} {x : ByteArray} (h : Gm.isM (Gm.hd s) x = true) : Gm.need x s = .ok ((), Gm.cut s) := by simp only [Gm.need, if_pos h]
def tailP (e : PM Nat) : PM (Nat × Nat) := do
  let g ← Gm.guard e
  Gm.need ⟨#[45, 62]⟩
  let b ← Gm.body e
  pure (g, b)

set_option maxHeartbeats 4000000 in
set_option maxRecDepth 100000 in
theorem pBody (hE : EC B g b o e) {P : Nat → Prop} {w : World} {V : Value} {s : PS} (h : At B g b o P w V s) :
    Calls Tryz.prog 107 #[.pointer (some ⟨g, 0, none⟩)] w fun r w' => Rz B g b o P w V (Gm.body e s) r w' := by
  have H : Hid (St B g b o P w V w V s) := hidb h
  obtain ⟨R, hR⟩ : ∃ R, Gm.body e s = R := ⟨_, rfl⟩
  rw [hR]
  have HR := hidb hR.symm
  clear hR
  have HP := hidb h.plt
  have HE := hidb hE
  clear hE
  clear h
  go_enter Tryz.func107, Tryz.ntmps107
  go_wp2_with (first
    | (go_at_call 26; refine (sNow H.out).mono ?_; rintro r1 w1 ⟨t, hq, rfl, hb⟩; replace H := hidb (H.out.below hb); replace HR := hidb (HR.out.trans (Gm.bind_here hq)); have Tt := hidb hq; clear hb hq)
    | (go_at_call 86; refine (pExprsF HE.out H.out.at).mono ?_; rintro r1 w1 (⟨er, q, v, l, hq, rfl, hw, hng, hbd⟩ | ⟨l, s1, V1, v, hq, rfl, hs, hs2, hi, hlen⟩) <;> first | (obtain ⟨la, lc, rfl⟩ := hi.sl; have HI := hidb (hi.rebase H.out.but.size); have HN := hidb hlen; replace H := hidb (H.out.trans hs2); replace HR := hidb (HR.out.trans (Gm.bind_ok hq)); clear hs hs2 hi hq hlen) | (obtain ⟨la, lc, rfl⟩ := own_sl hw.1; have HRE := hidb (HR.out.trans (Gm.bind_err hq)); have HW := hidb (RB.base hw H.out.but.size); have HNG := hidb hng; have HB : Hid (But (· = g) w1 w1) := hidb (But.refl _ _); replace H := hidb (H.out.bad hbd); clear hq hbd hw hng HR))
    | (go_at_call 32; refine (sNodeR HR.out H.out.drop.at (HI.out.lr HP.out)).mono ?_; rintro r1 w1 (⟨er, q, z, hq, rfl, hbd⟩ | ⟨z, s1, V1, hq, rfl, hs⟩) <;> first | (replace H := hidb (H.out.drop.trans hs); replace HR := hidb hq; clear hs hq) | (have HRE := hidb hq; have HB : Hid (But (· = g) w1 w1) := hidb (But.refl _ _); replace H := hidb (H.out.drop.bad hbd); clear hq hbd HR))
    | (go_at_call 32; refine (bNode _ _ _ _ _ _ H.out).mono ?_; rintro r1 w1 ⟨rfl, hd, hb⟩; have HB := hidb (HB.out.trans hb); have H := hidb hd; clear hb hd))
  all_goals (
    go_ret
    first
      | exact .inr ⟨_, _, _, HR.out, rfl, H.out⟩
      | exact .inl ⟨_, _, _, HRE.out, rfl, H.out⟩)

set_option maxHeartbeats 4000000 in
set_option maxRecDepth 100000 in
theorem pMaybe (hE : EC B g b o e) {x : ByteArray} (hx : lowB x = false) (few : Bool) {P : Nat → Prop} {w : World} {V : Value} {s : PS} (h : At B g b o P w V s) :
    Calls Tryz.prog 62 #[.pointer (some ⟨g, 0, none⟩), .string x, .bool few] w fun r w' => RzL B g b o P w V (maybeP e x (mostOf few) s) r w' := by
  have H : Hid (St B g b o P w V w V s) := hidb h
  obtain ⟨R, hR⟩ : ∃ R, maybeP e x (mostOf few) s = R := ⟨_, rfl⟩
  rw [hR]
  have HR := hidb hR.symm
  have HE := hidb hE
  clear hR h hE
  cases hm : Gm.isM (Gm.hd s) x with
  | true =>
    have HM := hidb hm
    have hR2 : R = .ok ([], Gm.cut s) := HR.out.trans (Gm.bind_t (take_t hm))
    have HR2 := hidb hR2
    clear hm hR2 HR
    go_enter Tryz.func62, Tryz.ntmps62
    go_wp2_with (first
      | (go_at_call 64; refine (sSign hx H.out).mono ?_; rintro r1 w1 ⟨⟨hq, rfl⟩ | ⟨hq, rfl⟩, hb⟩ <;> first | (rw [HM.out] at hq; cases hq; done) | (replace H := hidb (H.out.below hb); clear hb hq))
      | (go_at_call 27; refine (sWant (.inl ⟨rfl, hx⟩) H.out.at).mono ?_; rintro r1 w1 (⟨er, q, hq, rfl, hbd⟩ | ⟨s1, hq, rfl, hs⟩) <;> first | (rw [need_t HM.out] at hq; cases hq; done) | (rw [need_t HM.out] at hq; cases hq; replace H := hidb (H.out.trans hs); clear hs)))
    go_ret
    have hh := H.out
    exact .inr ⟨[], _, _, _, HR2.out, rfl, hh, hh.more (fun k hk => by simp [Value.ownBlock] at hk) (hh.ns.newer (fun k hk => by simp [Value.ownBlock] at hk)), IR.none _ _ _ _ _, by simp⟩
  | false =>
    have HM := hidb hm
    replace HR := hidb (HR.out.trans (Gm.bind_f (take_f hm)))
    clear hm
    go_enter Tryz.func62, Tryz.ntmps62
    go_wp2_with (first
      | (go_at_call 64; refine (sSign hx H.out).mono ?_; rintro r1 w1 ⟨⟨hq, rfl⟩ | ⟨hq, rfl⟩, hb⟩ <;> first | (rw [HM.out] at hq; cases hq; done) | (replace H := hidb (H.out.below hb); clear hb hq))
      | (go_at_call 86; refine (pExprs HE.out few H.out.at).mono ?_; rintro r1 w1 (⟨er, q, v, l, hq, rfl, hw, hng, hbd⟩ | ⟨l, s1, V1, v, hq, rfl, hs, hs2, hi, hlen⟩) <;> first | (obtain ⟨la, lc, rfl⟩ := hi.sl; have HI := hidb (hi.rebase H.out.but.size); have HN := hidb hlen; replace H := hidb (H.out.trans hs2); replace HR := hidb (HR.out.trans (Gm.bind_ok hq)); clear hs hs2 hi hq hlen) | (obtain ⟨la, lc, rfl⟩ := own_sl hw.1; have HRE := hidb (HR.out.trans (Gm.bind_err hq)); have HW := hidb (RB.base hw H.out.but.size); have HNG := hidb hng; have HB : Hid (But (· = g) w1 w1) := hidb (But.refl _ _); replace H := hidb (H.out.bad hbd); clear hq hbd hw hng HR))
      | (go_at_call 27; refine (sWant (.inl ⟨rfl, hx⟩) H.out.at).mono ?_; rintro r1 w1 (⟨er, q, hq, rfl, hbd⟩ | ⟨s1, hq, rfl, hs⟩) <;> first | (replace HI := hidb (HI.out.step hs); replace H := hidb (H.out.trans hs); replace HR := hidb (HR.out.trans (Gm.bind_ok hq)); clear hs hq) | (have HRE := hidb (HR.out.trans (Gm.bind_err hq)); have HW := hidb (HI.out.badrow (by have := HN.out; omega) hbd); have HNG := hidb HI.out.ng; replace H := hidb (H.out.bad hbd); clear hq hbd HR))
      | (go_at_call 27; refine (bWant _ _ H.out).mono ?_; rintro r1 w1 ⟨rfl, hd, hb⟩; replace HW := hidb (RB.but HW.out hb (fun k hk he => HNG.out (he ▸ hk))); replace H := hidb hd; clear hb hd))
    all_goals (
      go_ret
      first
        | exact .inr ⟨_, _, _, _, HR.out, rfl, H.out.drop, H.out, HI.out, HN.out⟩
        | exact .inl ⟨_, _, _, _, HRE.out, rfl, HW.out, HNG.out, H.out⟩)

end Rf
end Go.Proofs.YthdljnakmekhkaaGreatDoor


/- The reference's parser: tail. -/
namespace Go.Proofs.YthdljnakmekhkaaGreatDoor
namespace Rf
open Go.RowKit Go.Lib
attribute [local go_sem] store_float f64bits
attribute [local go_sem ↓] Go.wp_at_zero Go.wp_at_succ
attribute [local go_sem] nd_p tk_k tk_x tk_n tk_f tk_p
variable {B g b o : Nat} {e : PM Nat}

theorem Gm.assoc {α β γ : Type} (m : PM α) (f : α → PM β) (k : β → PM γ) (s : PS) : ((m >>= f) >>= k) s = (m >>= fun a => f a >>= k) s := by
  rw [Gm.bind_at, Gm.bind_at, Gm.bind_at]
  cases m s with
  | error e => rfl
  | ok q => obtain ⟨a, t⟩ := q; rfl
/-- What a step that tells two numbers has done. -/
def RzT (B g b o : Nat) (P : Nat → Prop) (w : World) (V : Value) (r : Except (Int × Nat) ((Nat × Nat) × PS)) (e : Ending) (w' : World) : Prop :=
  (∃ er p m n, r = .error (er, p) ∧ e = .returned (.tuple #[iv m, iv n]) ∧ Bd g b w V w' er p) ∨ (∃ x y s' V', r = .ok ((x, y), s') ∧ e = .returned (.tuple #[iv x, iv y]) ∧ St B g b o P w V w' V' s')
theorem sNextT {P : Nat → Prop} {w : World} {V : Value} {s : PS} {x : ByteArray} (h : At B g b o P w V s) (hm : Gm.isM (Gm.hd s) x = true) : Calls Tryz.prog 29 #[.pointer (some ⟨g, 0, none⟩)] w fun r w' => r = .returned (.tuple #[]) ∧ St B g b o P w V w' V (Gm.cut s) := sNext h (Gm.isM_k hm)

set_option maxHeartbeats 4000000 in
set_option maxRecDepth 100000 in
theorem pTail (hE : EC B g b o e) {P : Nat → Prop} {w : World} {V : Value} {s : PS} (h : At B g b o P w V s) :
    Calls Tryz.prog 87 #[.pointer (some ⟨g, 0, none⟩)] w fun r w' => RzT B g b o P w V (tailP e s) r w' := by
  have H : Hid (St B g b o P w V w V s) := hidb h
  obtain ⟨R, hR⟩ : ∃ R, tailP e s = R := ⟨_, rfl⟩
  rw [hR]
  have HR := hidb (hR.symm.trans (Gm.assoc _ _ _ s))
  have HP := hidb h.plt
  have HE := hidb hE
  clear hR h hE
  cases hm : Gm.isM (Gm.hd s) ⟨#[119, 104, 101, 110]⟩ with
  | true =>
    have HM := hidb hm
    replace HR := hidb (((HR.out.trans (Gm.bind_ok (take_t hm))).trans (Gm.assoc _ _ _ _)))
    clear hm
    go_enter Tryz.func87, Tryz.ntmps87
    go_wp2_with (first
      | (go_at_call 105; refine (sKept rfl H.out).mono ?_; rintro r1 w1 ⟨⟨hq, rfl⟩ | ⟨hq, rfl⟩, hb⟩ <;> first | (rw [HM.out] at hq; cases hq; done) | (replace H := hidb (H.out.below hb); clear hb hq))
      | (go_at_call 29; refine (sNextT H.out.at HM.out).mono ?_; rintro r1 w1 ⟨rfl, hs⟩; replace H := hidb (H.out.trans hs); clear hs)
      | (go_at_call 26; refine (sNow H.out).mono ?_; rintro r1 w1 ⟨t, hq, rfl, hb⟩; replace H := hidb (H.out.below hb); replace HR := hidb ((HR.out.trans (Gm.bind_here hq)).trans (Gm.assoc _ _ _ _)); clear hb hq)
      | (go_at_call 86; refine (pExprsF HE.out H.out.at).mono ?_; rintro r1 w1 (⟨er, q, v, l, hq, rfl, hw, hng, hbd⟩ | ⟨l, s1, V1, v, hq, rfl, hs, hs2, hi, hlen⟩) <;> first | (obtain ⟨la, lc, rfl⟩ := hi.sl; have HI := hidb (hi.rebase H.out.but.size); have HN := hidb hlen; replace H := hidb (H.out.trans hs2); replace HR := hidb (HR.out.trans (Gm.bind_ok hq)); clear hs hs2 hi hq hlen) | (obtain ⟨la, lc, rfl⟩ := own_sl hw.1; have HRE := hidb (HR.out.trans (Gm.bind_err hq)); have HW := hidb (RB.base hw H.out.but.size); have HNG := hidb hng; have HB : Hid (But (· = g) w1 w1) := hidb (But.refl _ _); replace H := hidb (H.out.bad hbd); clear hq hbd hw hng HR))
      | (go_at_call 32; refine (sNode ⟨22, ⟨#[]⟩, 0, 0, _, t.p⟩ _ H.out.drop.at (HI.out.lr HP.out)).mono ?_; rintro r1 w1 (⟨er, q, gn, hq, rfl, hbd⟩ | ⟨gn, s1, V1, hq, rfl, hs⟩) <;> first | (replace H := hidb (H.out.drop.trans hs); replace HR := hidb (HR.out.trans (Gm.bind_ok hq)); clear hs hq) | (have HRE := hidb (HR.out.trans (Gm.bind_err hq)); have HB : Hid (But (· = g) w1 w1) := hidb (But.refl _ _); replace H := hidb (H.out.drop.bad hbd); clear hq hbd HR))
      | (go_at_call 27; refine (sWant (by first | exact .inl ⟨rfl, rfl⟩ | exact .inr ⟨rfl, rfl⟩) H.out.at).mono ?_; rintro r1 w1 (⟨er, q, hq, rfl, hbd⟩ | ⟨s1, hq, rfl, hs⟩) <;> first | (replace H := hidb (H.out.trans hs); replace HR := hidb (HR.out.trans (Gm.bind_ok hq)); clear hs hq) | (have HRE := hidb (HR.out.trans (Gm.bind_err hq)); have HB : Hid (But (· = g) w1 w1) := hidb (But.refl _ _); replace H := hidb (H.out.bad hbd); clear hq hbd HR))
      | (go_at_call 107; refine (pBody HE.out H.out.at).mono ?_; rintro r1 w1 (⟨er, q, bn, hq, rfl, hbd⟩ | ⟨bn, s1, V1, hq, rfl, hs⟩) <;> first | (replace H := hidb (H.out.trans hs); replace HR := hidb (HR.out.trans (Gm.bind_ok hq)); clear hs hq) | (have HRE := hidb (HR.out.trans (Gm.bind_err hq)); have HB : Hid (But (· = g) w1 w1) := hidb (But.refl _ _); replace H := hidb (H.out.bad hbd); clear hq hbd HR))
      | (go_at_call 32; refine (bNode _ _ _ _ _ _ H.out).mono ?_; rintro r1 w1 ⟨rfl, hd, hb⟩; replace HB := hidb (HB.out.trans hb); replace H := hidb hd; clear hb hd)
      | (go_at_call 27; refine (bWant _ _ H.out).mono ?_; rintro r1 w1 ⟨rfl, hd, hb⟩; replace HB := hidb (HB.out.trans hb); replace H := hidb hd; clear hb hd)
      | (go_at_call 107; refine (bBody H.out).mono ?_; rintro r1 w1 ⟨rfl, hd, hb⟩; replace HB := hidb (HB.out.trans hb); replace H := hidb hd; clear hb hd))
    all_goals (
      go_ret2
      first
        | exact .inr ⟨_, _, _, _, HR.out, rfl, H.out⟩
        | exact .inl ⟨_, _, _, _, HRE.out, rfl, H.out⟩)
  | false =>
    have HM := hidb hm
    replace HR := hidb (HR.out.trans (Gm.bind_ok (take_f hm)))
    clear hm
    go_enter Tryz.func87, Tryz.ntmps87
    go_wp2_with (first
      | (go_at_call 105; refine (sKept rfl H.out).mono ?_; rintro r1 w1 ⟨⟨hq, rfl⟩ | ⟨hq, rfl⟩, hb⟩ <;> first | (rw [HM.out] at hq; cases hq; done) | (replace H := hidb (H.out.below hb); clear hb hq))
      | (go_at_call 106; refine (pNone 22 H.out.at).mono ?_; rintro r1 w1 (⟨er, q, gn, hq, rfl, hbd⟩ | ⟨gn, s1, V1, hq, rfl, hs⟩) <;> first | (replace H := hidb (H.out.trans hs); replace HR := hidb (HR.out.trans (Gm.bind_ok hq)); clear hs hq) | (have HRE := hidb (HR.out.trans (Gm.bind_err hq)); have HB : Hid (But (· = g) w1 w1) := hidb (But.refl _ _); replace H := hidb (H.out.bad hbd); clear hq hbd HR))
      | (go_at_call 27; refine (sWant (by first | exact .inl ⟨rfl, rfl⟩ | exact .inr ⟨rfl, rfl⟩) H.out.at).mono ?_; rintro r1 w1 (⟨er, q, hq, rfl, hbd⟩ | ⟨s1, hq, rfl, hs⟩) <;> first | (replace H := hidb (H.out.trans hs); replace HR := hidb (HR.out.trans (Gm.bind_ok hq)); clear hs hq) | (have HRE := hidb (HR.out.trans (Gm.bind_err hq)); have HB : Hid (But (· = g) w1 w1) := hidb (But.refl _ _); replace H := hidb (H.out.bad hbd); clear hq hbd HR))
      | (go_at_call 107; refine (pBody HE.out H.out.at).mono ?_; rintro r1 w1 (⟨er, q, bn, hq, rfl, hbd⟩ | ⟨bn, s1, V1, hq, rfl, hs⟩) <;> first | (replace H := hidb (H.out.trans hs); replace HR := hidb (HR.out.trans (Gm.bind_ok hq)); clear hs hq) | (have HRE := hidb (HR.out.trans (Gm.bind_err hq)); have HB : Hid (But (· = g) w1 w1) := hidb (But.refl _ _); replace H := hidb (H.out.bad hbd); clear hq hbd HR))
      | (go_at_call 27; refine (bWant _ _ H.out).mono ?_; rintro r1 w1 ⟨rfl, hd, hb⟩; replace HB := hidb (HB.out.trans hb); replace H := hidb hd; clear hb hd)
      | (go_at_call 107; refine (bBody H.out).mono ?_; rintro r1 w1 ⟨rfl, hd, hb⟩; replace HB := hidb (HB.out.trans hb); replace H := hidb hd; clear hb hd))
    all_goals (
      go_ret2
      first
        | exact .inr ⟨_, _, _, _, HR.out, rfl, H.out⟩
        | exact .inl ⟨_, _, _, _, HRE.out, rfl, H.out⟩)

end Rf
end Go.Proofs.YthdljnakmekhkaaGreatDoor


/- The reference's parser: clause. -/
namespace Go.Proofs.YthdljnakmekhkaaGreatDoor
namespace Rf
open Go.RowKit Go.Lib
attribute [local go_sem] store_float f64bits
attribute [local go_sem ↓] Go.wp_at_zero Go.wp_at_succ
attribute [local go_sem] nd_p tk_k tk_x tk_n tk_f tk_p
variable {B g b o : Nat} {e : PM Nat}

theorem tail_is (e : PM Nat) (p : Nat) (x : ByteArray) (l : List Nat) (s : PS) : Gm.tail e p x l s = (tailP e >>= fun gb => Gm.lay ⟨21, x, (l.length : Int), 0, l ++ [gb.1, gb.2], p⟩) s := by
  unfold Gm.tail tailP
  rw [Gm.assoc, Gm.bind_at, Gm.bind_at]
  cases Gm.guard e s with
  | error er => rfl
  | ok q =>
    obtain ⟨gn, s1⟩ := q
    show (Gm.need ⟨#[45, 62]⟩ >>= fun _ => Gm.body e >>= fun b => Gm.lay _) s1 = ((Gm.need ⟨#[45, 62]⟩ >>= fun _ => Gm.body e >>= fun b => pure (gn, b)) >>= _) s1
    rw [Gm.assoc, Gm.bind_at, Gm.bind_at]
    cases Gm.need ⟨#[45, 62]⟩ s1 with
    | error er => rfl
    | ok q =>
      obtain ⟨_, s2⟩ := q
      show (Gm.body e >>= fun b => Gm.lay _) s2 = ((Gm.body e >>= fun b => pure (gn, b)) >>= _) s2
      rw [Gm.assoc]
      rfl
theorem grown_but2 {w X w' : World} {row : Option Nat} (hX : Below w.heap.size w X) (h : X.grownBy w' row) : But (fun k => row = some k) w w' := (But.of_below hX).trans (grown_but h)

set_option maxHeartbeats 8000000 in
set_option maxRecDepth 100000 in
theorem pClause (hE : EC B g b o e) (v : Value) (l : List Nat) (x : ByteArray) (q : Nat) {P : Nat → Prop} {w : World} {V : Value} {s : PS} {C : Nat} (h : At B g b o (PV P v) w V s) (hi : IR w C g b V v l) (hll : l.length ≤ 100001) :
    Calls Tryz.prog 63 #[.pointer (some ⟨g, 0, none⟩), v, .string x, .int .i64 (q : Int)] w fun r w' => Rz B g b o (PV P v) w V (Gm.tail e q x l s) r w' := by
  obtain ⟨i0, hi0, hz0, hz1, hz2⟩ := info_parts (P := Tryz.prog) (e := IT) (z := .int .i64 0) (size := 1) (bytes := 8) (by kernel_rfl)
  have H : Hid (St B g b o (PV P v) w V w V s) := hidb h
  obtain ⟨R, hR⟩ : ∃ R, Gm.tail e q x l s = R := ⟨_, rfl⟩
  rw [hR]
  have HR := hidb (hR.symm.trans (tail_is e q x l s))
  have HP := hidb h.plt
  have HE := hidb hE
  have HI := hidb hi
  have hlb : l.length ≤ 100002 := by omega
  have hgl := h.glt
  have hbl := h.blt
  have hown0 := hi.own
  clear hR h hE hi
  rcases hown0.2 with ⟨hv0, hn0⟩ | ⟨qa, ca, cur, hv0, -⟩
  · obtain rfl := List.length_eq_zero_iff.1 hn0
    subst hv0
    clear hown0 hn0
    go_enter Tryz.func63, Tryz.ntmps63
    go_wp2_with (first
      | (go_at_call 87; refine (pTail HE.out H.out.at).mono ?_; rintro r1 w1 (⟨er, q', gn, bn, hq, rfl, hbd⟩ | ⟨gn, bn, s1, V1, hq, rfl, hs⟩) <;> first | (replace HI := hidb (HI.out.step hs); replace H := hidb (H.out.trans hs); replace HR := hidb (HR.out.trans (Gm.bind_ok hq)); clear hs hq) | (have HRE := hidb (HR.out.trans (Gm.bind_err hq)); have HW := hidb (HI.out.badrow hlb hbd); have HB : Hid (But (· = g) w1 w1) := hidb (But.refl _ _); replace H := hidb (H.out.bad hbd); clear hq hbd HR))
      | (at_builtin; refine wpList_append_own_none rfl (.tmp 22) (.tmp 23) 44 rfl w.heap.size IT i0 1 Tryz.underlying44 hi0 _ _ _ rfl (IR.lit H.out #[] [] rfl (by simp)).1.own rfl ?_)
      | (at_builtin; refine wpList_append_own_none rfl (.tmp 22) (.tmp 23) 44 rfl w.heap.size IT i0 1 Tryz.underlying44 hi0 _ _ _ rfl (empty_row w1 _ H.out.but.size) rfl ?_)
      | (at_builtin; refine wpList_append_own_at _ rfl (.tmp 24) (.tmp 27) 44 rfl w.heap.size IT i0 (.int .i64 0) 1 8 Tryz.underlying44 hi0 hz0 hz1 hz2 rfl (by decide) _ _ _ rfl ((IR.lit H.out #[] [] rfl (by simp)).1.own.alloc _) ⟨w1.heap.size + 1, 0, none⟩ 2 2 [iv gn, iv bn] rfl rfl ?_ ?_ ?_ ?_ ?_ ?_)
      | (at_builtin; refine wpList_append_own_at _ rfl (.tmp 24) (.tmp 27) 44 rfl w.heap.size IT i0 (.int .i64 0) 1 8 Tryz.underlying44 hi0 hz0 hz1 hz2 rfl (by decide) _ _ _ rfl ((empty_row w1 _ H.out.but.size).alloc _) ⟨w1.heap.size + 1, 0, none⟩ 2 2 [iv gn, iv bn] rfl rfl ?_ ?_ ?_ ?_ ?_ ?_))
    all_goals first
        | (intro j u hj; exact app_two _ _ _ _ (by simp) j u hj)
        | (intro u hu; simp at hu; rcases hu with rfl | rfl <;> rfl)
        | (unfold maxLen; omega)
        | omega
        | (have := H.out.but.size; simp; omega)
        | skip
    · intro v' w3 hown hgrow hnil hat
      have hb3 : Below w1.heap.size w1 w3 := grown_up (((below_new w1 _).alloc (by simp) _)) hgrow (fun k hk => by simp [Value.ownBlock] at hk; omega)
      replace H := hidb (H.out.keep hb3)
      replace HB := hidb (HB.out.trans (But.of_below hb3))
      clear hb3
      obtain ⟨a', c', rfl⟩ := own_sl hown
      clear hown hgrow hnil hat
      go_wp2_with (first
        | (go_at_call 32; refine (bNode _ _ _ _ _ _ H.out).mono ?_; rintro r1 w1 ⟨rfl, hd, hb⟩; replace HB := hidb (HB.out.trans hb); replace H := hidb hd; clear hb hd))
      go_ret
      exact .inl ⟨_, _, _, HRE.out, rfl, H.out⟩
    · intro v' w3 hown hgrow hnil hat
      obtain ⟨l1, l2⟩ := IR.lit H.out #[] [] rfl (by simp)
      obtain ⟨j1, j2⟩ := IR.app (xs := [gn, bn]) l2 l1 hgrow (by simpa using hat) (by simpa using hown)
      have HI2 := hidb j1
      replace H := hidb j2
      obtain ⟨a', c', rfl⟩ := own_sl hown
      clear j1 j2 l1 l2 hown hgrow hnil hat
      go_wp2_with (first
        | (go_at_call 32; refine (sNodeR HR.out H.out.drop.at (HI2.out.lr HP.out)).mono ?_; rintro r1 w4 (⟨er, q, z, hq, rfl, hbd⟩ | ⟨z, s2, V2, hq, rfl, hs⟩) <;> first | (replace H := hidb (H.out.drop.trans hs); replace HR := hidb hq; clear hs hq) | (have HRE := hidb hq; replace H := hidb (H.out.drop.bad hbd); clear hq hbd HR)))
      all_goals (
        go_ret
        first
          | exact .inr ⟨_, _, _, HR.out, rfl, H.out⟩
          | exact .inl ⟨_, _, _, HRE.out, rfl, H.out⟩)
  · subst hv0
    generalize hL : l.length = N at hown0 hlb hll
    have HL := hidb hL
    have hHR := HR.out
    rw [hL] at hHR
    replace HR := hidb hHR
    clear hL hHR
    go_enter Tryz.func63, Tryz.ntmps63
    go_wp2_with (first
      | (go_at_call 87; refine (pTail HE.out H.out.at).mono ?_; rintro r1 w1 (⟨er, q', gn, bn, hq, rfl, hbd⟩ | ⟨gn, bn, s1, V1, hq, rfl, hs⟩) <;> first | (replace HI := hidb (HI.out.step hs); replace H := hidb (H.out.trans hs); replace HR := hidb (HR.out.trans (Gm.bind_ok hq)); clear hs hq) | (have HRE := hidb (HR.out.trans (Gm.bind_err hq)); have HW := hidb (HI.out.badrow (by have := HL.out; omega) hbd); have HB : Hid (But (· = g) w1 w1) := hidb (But.refl _ _); replace H := hidb (H.out.bad hbd); clear hq hbd HR))
      | (at_builtin; refine wpList_append_own_at _ rfl (.tmp 22) (.tmp 23) 44 rfl w.heap.size IT i0 (.int .i64 0) 1 8 Tryz.underlying44 hi0 hz0 hz1 hz2 rfl (by decide) _ _ _ rfl (IR.lit H.out #[] [] rfl (by simp)).1.own ⟨qa, 0, none⟩ N ca (l.map iv) rfl ?_ ?_ ?_ ?_ ?_ ?_ ?_)
      | (at_builtin; refine wpList_append_own_at _ rfl (.tmp 22) (.tmp 23) 44 rfl w.heap.size IT i0 (.int .i64 0) 1 8 Tryz.underlying44 hi0 hz0 hz1 hz2 rfl (by decide) _ _ _ rfl (empty_row w1 _ H.out.but.size) ⟨qa, 0, none⟩ N ca (l.map iv) rfl ?_ ?_ ?_ ?_ ?_ ?_ ?_))
    all_goals first
        | (rw [List.length_map, HL.out]; simp; done)
        | (intro j u hj; exact (row_but HW.out.1 (But.of_below (S := fun _ => False) (below_new w1 _)) (fun _ _ h => h)).cells rfl j u hj)
        | (intro j u hj; exact (row_but HI.out.own (But.of_below (S := fun _ => False) (below_new w1 _)) (fun _ _ h => h)).cells rfl j u hj)
        | (intro u hu; simp at hu; obtain ⟨y, _, rfl⟩ := hu; rfl)
        | (unfold maxLen; omega)
        | (unfold maxLen; simp; omega)
        | omega
        | (simp; omega)
        | (have := H.out.but.size; simp; omega)
        | skip
    · intro v1 w2 hown1 hgrow1 hnil1 hat1
      have hb2 : Below w1.heap.size w1 w2 := grown_up (below_new w1 _) hgrow1 (fun k hk => by simp [Value.ownBlock] at hk; omega)
      have hlo : ∀ k, v1.ownBlock = some k → w1.heap.size ≤ k := fun k hk => by
        rcases hat1 with e | e
        · rw [e] at hk; simp [Value.ownBlock] at hk; omega
        · rw [e] at hk; simp at hk; omega
      obtain ⟨a1, c1, rfl⟩ := own_sl hown1
      have HO1 := hidb hown1
      have HLO := hidb hlo
      have HB2 := hidb hb2
      have hz2' := hb2.size
      clear hown1 hgrow1 hnil1 hat1 hb2 hlo
      go_wp2_with (first
        | (at_builtin; refine wpList_append_own_at _ rfl (.tmp 24) (.tmp 27) 44 rfl w.heap.size IT i0 (.int .i64 0) 1 8 Tryz.underlying44 hi0 hz0 hz1 hz2 rfl (by decide) _ _ _ rfl (HO1.out.alloc _) ⟨w2.heap.size, 0, none⟩ 2 2 [iv gn, iv bn] rfl rfl ?_ ?_ ?_ ?_ ?_ ?_))
      all_goals first
        | (intro j u hj; exact app_two _ _ _ _ rfl j u hj)
        | (intro u hu; simp at hu; rcases hu with rfl | rfl <;> rfl)
        | (unfold maxLen; omega)
        | omega
        | (simp; omega)
        | (have := H.out.but.size; simp; omega)
        | skip
      intro v' w3 hown hgrow hnil hat
      have hB3 : But (fun k => w1.heap.size ≤ k) w2 w3 := (But.of_below (below_new w2 _)).trans ((grown_but hgrow).mono (fun k _ h => HLO.out k h))
      have hb3 : Below w1.heap.size w1 w3 := ⟨hB3.os.trans HB2.out.os, hB3.tape.trans HB2.out.tape, hB3.output.trans HB2.out.output, Nat.le_trans HB2.out.size hB3.size, fun k hk => (hB3.block k (Nat.lt_of_lt_of_le hk HB2.out.size) (by omega)).trans (HB2.out.block k hk)⟩
      replace H := hidb (H.out.keep hb3)
      replace HB := hidb (HB.out.trans (But.of_below hb3))
      clear hb3 hB3
      obtain ⟨a', c', rfl⟩ := own_sl hown
      clear hown hgrow hnil hat
      go_wp2_with (first
        | (go_at_call 32; refine (bNode _ _ _ _ _ _ H.out).mono ?_; rintro r1 w1 ⟨rfl, hd, hb⟩; replace HB := hidb (HB.out.trans hb); replace H := hidb hd; clear hb hd))
      go_ret
      exact .inl ⟨_, _, _, HRE.out, rfl, H.out⟩
    · intro v1 w2 hown1 hgrow1 hnil1 hat1
      obtain ⟨l1, l2⟩ := IR.lit H.out #[] [] rfl (by simp)
      obtain ⟨j1, j2⟩ := IR.grown (l' := l) l2 l1 (Below.refl _ _) hgrow1 (fun k hk => by
        rcases hat1 with e | e
        · exact .inl (e ▸ hk)
        · rw [e] at hk; simp at hk; right; simp; omega) (by rw [HL.out]; exact hown1)
      have HI2 := hidb j1
      replace H := hidb j2
      obtain ⟨a1, c1, rfl⟩ := own_sl hown1
      have HO1 := hidb hown1
      have hz2' := hgrow1.size
      clear j1 j2 l1 l2 hown1 hgrow1 hnil1 hat1
      go_wp2_with (first
        | (at_builtin; refine wpList_append_own_at _ rfl (.tmp 24) (.tmp 27) 44 rfl w.heap.size IT i0 (.int .i64 0) 1 8 Tryz.underlying44 hi0 hz0 hz1 hz2 rfl (by decide) _ _ _ rfl (HO1.out.alloc _) ⟨w2.heap.size, 0, none⟩ 2 2 [iv gn, iv bn] rfl rfl ?_ ?_ ?_ ?_ ?_ ?_))
      all_goals first
        | (intro j u hj; exact app_two _ _ _ _ rfl j u hj)
        | (intro u hu; simp at hu; rcases hu with rfl | rfl <;> rfl)
        | (unfold maxLen; omega)
        | omega
        | (simp; omega)
        | (have := H.out.but.size; simp; omega)
        | skip
      intro v' w3 hown hgrow hnil hat
      obtain ⟨j1, j2⟩ := IR.app (xs := [gn, bn]) H.out HI2.out hgrow hat (by rw [HL.out]; exact hown)
      have HLN := HL.out
      clear HI2
      have HI2 := hidb j1
      replace H := hidb j2
      obtain ⟨a', c', rfl⟩ := own_sl hown
      clear j1 j2 hown hgrow hnil hat
      go_wp2_with (first
        | (go_at_call 32; refine (sNodeR HR.out H.out.drop.at (HI2.out.lr HP.out)).mono ?_; rintro r1 w4 (⟨er, q, z, hq, rfl, hbd⟩ | ⟨z, s2, V2, hq, rfl, hs⟩) <;> first | (replace H := hidb (H.out.drop.trans hs); replace HR := hidb hq; clear hs hq) | (have HRE := hidb hq; replace H := hidb (H.out.drop.bad hbd); clear hq hbd HR)))
      all_goals (
        go_ret
        first
          | exact .inr ⟨_, _, _, HR.out, rfl, H.out⟩
          | exact .inl ⟨_, _, _, HRE.out, rfl, H.out⟩)

end Rf
end Go.Proofs.YthdljnakmekhkaaGreatDoor


