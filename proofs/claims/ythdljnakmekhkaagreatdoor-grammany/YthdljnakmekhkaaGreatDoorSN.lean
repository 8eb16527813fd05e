import Derived.Test.YthdljnakmekhkaaGreatDoorG11
import Derived.Test.YthdljnakmekhkaaGreatDoorG15
import Derived.Deep.RegionHeld2
import Derived.Test.YthdljnakmekhkaaGreatDoorSM
namespace Go.Proofs.YthdljnakmekhkaaGreatDoor
namespace Rf
open Go.RowKit Go.Lib
attribute [local go_sem] store_float f64bits
attribute [local go_sem ↓] Go.wp_at_zero Go.wp_at_succ
attribute [local go_sem] nd_p tk_k tk_x tk_n tk_f tk_p
variable {B g b o : Nat} {e : PM Nat}
section
variable {C : Nat} {P : Nat → Prop} {w0 w w' : World} {V0 V V' v : Value} {s s' : PS} {l : List Tk} {er : Int} {p : Nat}
theorem tr_step (h : TR w C g b V v l) (h' : St B g b o P w V w' V' s') : TR w' C g b V' v l := by
  refine ⟨row_but h.own h'.but ?_, h.ng, h.nb, fun k hk => h'.beside (row_lt h.own k hk) (h.nv k hk)⟩
  rintro k hk (rfl | hS)
  · exact h.ng hk
  · exact h.nv k hk hS
theorem tr_grown (h : St B g b o (PV P v) w0 V0 w V s) (hi : TR w w0.heap.size g b V v l) {X : World} (hX : Below w.heap.size w X) {v' : Value} {l' : List Tk} (hG : X.grownBy w' v.ownBlock) (hA : ∀ k, v'.ownBlock = some k → v.ownBlock = some k ∨ X.heap.size ≤ k)
    (ho : w'.ownsRow w0.heap.size TT 5 v' l'.length (tkCells l')) : TR w' w0.heap.size g b V v' l' ∧ St B g b o (PV P v') w0 V0 w' V s := by
  have hXs := hX.size
  have hGs := hG.size
  have hw0 := h.but.size
  have hB3 : But (fun k => v.ownBlock = some k) w w' := (But.of_below hX).trans (grown_but hG)
  have hvg := hi.ng
  have hvb := hi.nb
  have hk' : ∀ k, v'.ownBlock = some k → k ≠ g ∧ k ≠ b ∧ V.ownBlock ≠ some k := by
    intro k hk
    rcases hA k hk with e | e
    · exact ⟨fun he => hi.ng (he ▸ e), fun he => hi.nb (he ▸ e), hi.nv k e⟩
    · exact ⟨by have := h.glt; omega, by have := h.blt; omega, fun he => by have := h.vlt k he; omega⟩
  refine ⟨⟨ho, fun he => (hk' g he).1 rfl, fun he => (hk' b he).2.1 rfl, fun k he => (hk' k he).2.2⟩, ?_⟩
  have hlo : ∀ k, v.ownBlock = some k → w0.heap.size ≤ k := fun k e => (hi.own.lt k e).1
  refine ⟨h.pb.but hB3 (fun e => hi.ng e) (fun e => hi.nb e), ?_, by have := h.le; omega, h.ne, h.op, ⟨hB3.os.trans h.but.os, hB3.tape.trans h.but.tape, hB3.output.trans h.but.output, by omega, fun k hk hs => ?_⟩, h.own, fun k hk => ?_, fun k hk => ?_, h.tl⟩
  · have h1 : NS X B g b (PV P v) V s.ns := h.ns.but (But.of_below (S := fun _ => False) hX) (fun _ _ h => h) (fun _ h => h.elim)
    obtain ⟨⟨vs, a1, a2, a3⟩, a4, a5, a6⟩ := h1
    refine ⟨⟨vs, a1, row_but a2 (grown_but hG) (fun k hV he => hi.nv k he hV), fun i n u hn hu => ?_⟩, a4, a5, a6⟩
    obtain ⟨c1, c2, c3⟩ := a3 i n u hn hu
    refine ⟨c1.but (grown_but hG) (fun k e he => (c3 k e).2 (.inr he)), c2, fun k e => ⟨(c3 k e).1, ?_⟩⟩
    rintro (hp | hp)
    · exact (c3 k e).2 (.inl hp)
    · rcases hA k hp with e2 | e2
      · exact (c3 k e).2 (.inr e2)
      · have := c1.lt k e; omega
  · refine (hB3.block k (by omega) (fun e => ?_)).trans (h.but.block k hk hs)
    have := hlo k e; omega
  · rcases hk with hp | hp
    · have := h.plt k (.inl hp); omega
    · exact row_lt ho k hp
  · rcases hk with hp | hp
    · exact h.npv k (.inl hp)
    · exact ⟨(hk' k hp).2.2, (hk' k hp).1⟩
structure TB (w : World) (C g : Nat) (v : Value) (l : List Tk) : Prop where
  own : w.ownsRow C TT 5 v l.length (tkCells l)
  ng : v.ownBlock ≠ some g
theorem tr_tb (h : TR w C g b V v l) (hb : Bd g b w V w' er p) : TB w' C g v l := ⟨row_but h.own hb.but (fun k hk he => he.elim (fun e => h.ng (e ▸ hk)) (fun e => h.nv k hk e)), h.ng⟩
theorem TB.but (h : TB w C g v l) (hb : But (· = g) w w') : TB w' C g v l := ⟨row_but h.own hb (fun k hk he => h.ng (by have he2 : k = g := he; exact he2 ▸ hk)), h.ng⟩
theorem TB.below (h : TB w C g v l) (hb : Below w.heap.size w w') : TB w' C g v l := ⟨row_but h.own (But.of_below (S := fun _ => False) hb) (fun _ _ h => h), h.ng⟩
end
set_option maxHeartbeats 4000000 in
set_option maxRecDepth 100000 in
theorem pUnary (hE : EC B g b o e) {P : Nat → Prop} {w : World} {V : Value} {s : PS} (h : At B g b o P w V s) :
    Calls Tryz.prog 139 #[.pointer (some ⟨g, 0, none⟩)] w fun r w' => Rz B g b o P w V (Gm.unary e s) r w' := by
  have H : Hid (St B g b o P w V w V s) := hidb h
  obtain ⟨R, hR⟩ : ∃ R, Gm.unary e s = R := ⟨_, rfl⟩
  rw [hR]
  have HR := hidb hR.symm
  clear hR
  have HS0 := hidb (h.less (Q := PV P (.slice none 0 0)) (fun _ hk => hk.elim id (fun he => by simp [Value.ownBlock] at he)))
  have htl := h.tl
  have HE := hidb hE
  clear h hE
  obtain ⟨i0, hi0, hz0, hz1, hz2⟩ := info_parts (P := Tryz.prog) (e := TT) (z := .agg #[.int .i64 0, .string ⟨#[]⟩, .int .i64 0, .float .f64 0, .int .i64 0]) (size := 5) (bytes := 48) (by kernel_rfl)
  go_enter Tryz.func139, Tryz.ntmps139
  go_wp2_with fail
  have HR := hidb (HR.out.trans (Gm.bind_left rfl))
  go_loopg [3] s.ts.length (fun gf s3 wx => ∃ (l : List Tk) (sx : PS) (a : Option Addr) (c k : Nat), s3 = .slice a l.length c ∧ St B g b o (PV P (.slice a l.length c)) w V wx V sx ∧ TR wx w.heap.size g b V (.slice a l.length c) l ∧ R = (Gm.signs k l >>= fun l => Gm.call e >>= fun x => Gm.layOps l x) sx ∧ sx.ts.length ≤ k ∧ k ≤ gf ∧ l.length + sx.ts.length ≤ 100001)
  case atStart => exact ⟨[], s, none, 0, _, rfl, HS0.out, TR.none _ _ _ _ _, HR.out, Nat.le_refl _, Nat.le_refl _, by simp; omega⟩
  case round =>
    obtain ⟨l, sx, a, c, k, hs3, hst, hir, hmore, hk, hkg, hll⟩ := hrel
    subst hs3
    have hpos := ne_pos hst.ne
    obtain ⟨k', rfl⟩ : ∃ k', k = k' + 1 := ⟨k - 1, by omega⟩
    obtain ⟨g', rfl⟩ : ∃ g', gk = g' + 1 := ⟨gk - 1, by omega⟩
    have hcl := cut_len hst.ne
    clear H HR HS0
    have H := hidb hst
    have HI := hidb hir
    have HR := hidb hmore
    have hc1 : l.length + 1 ≤ maxLen := by unfold maxLen; omega
    have hc2 : (l.length + 1) * 48 ≤ 140737488355328 := by omega
    clear hst hir hmore
    have hw : IntKind.i64.wrap (((l.length : Nat) : Int) - 1) = ((l.length : Nat) : Int) - 1 := by rw [IntKind.wrap_i64]; omega
    go_wp2_with (first
      | (go_at_call 64; refine (sSign (x := ⟨#[45]⟩) rfl H.out).mono ?_; rintro r1 w1 ⟨⟨hq, rfl⟩ | ⟨hq, rfl⟩, hb⟩ <;> first | (have HT : Hid (Gm.isM (Gm.hd sx) ⟨#[45]⟩ = true ∨ Gm.isM (Gm.hd sx) ⟨#[110, 111, 116]⟩ = true) := hidb (.inl hq); replace HI := hidb (HI.out.below hb); replace H := hidb (H.out.below hb); clear hb hq) | (have HF1 := hidb hq; replace HI := hidb (HI.out.below hb); replace H := hidb (H.out.below hb); clear hb hq))
      | (go_at_call 105; refine (sKept (x := ⟨#[110, 111, 116]⟩) rfl H.out).mono ?_; rintro r1 w1 ⟨⟨hq, rfl⟩ | ⟨hq, rfl⟩, hb⟩ <;> first | (have HT : Hid (Gm.isM (Gm.hd sx) ⟨#[45]⟩ = true ∨ Gm.isM (Gm.hd sx) ⟨#[110, 111, 116]⟩ = true) := hidb (.inr hq); replace HI := hidb (HI.out.below hb); replace H := hidb (H.out.below hb); clear hb hq) | (have HF2 : Hid (¬ (Gm.isM (Gm.hd sx) ⟨#[45]⟩ = true ∨ Gm.isM (Gm.hd sx) ⟨#[110, 111, 116]⟩ = true)) := hidb (by rw [HF1.out, hq]; decide); replace HI := hidb (HI.out.below hb); replace H := hidb (H.out.below hb); clear hb hq))
      | (go_at_call 26; refine (sNow H.out).mono ?_; rintro r1 w2 ⟨u, hq, rfl, hb⟩; have Tu := hidb hq; replace HI := hidb (HI.out.below hb); replace H := hidb (H.out.below hb); clear hb hq)
      | (at_builtin; refine wpList_append_own_at _ rfl _ _ 36 rfl w.heap.size TT i0 (.agg #[.int .i64 0, .string ⟨#[]⟩, .int .i64 0, .float .f64 0, .int .i64 0]) 5 48 Tryz.underlying36 hi0 hz0 hz1 hz2 rfl (by decide) _ _ _ rfl (HI.out.own.alloc _) ⟨w2.heap.size, 0, none⟩ 1 1 u.cells rfl rfl ?_ ?_ ?_ ?_ ?_ ?_)
      | (go_at_call 141; refine (pCall_end HE.out H.out.at).mono ?_; rintro r1 w2 (⟨er, q, x0, hq, rfl, hbd⟩ | ⟨x0, s1, V1, hq, rfl, hs⟩) <;> first | (replace HR := hidb ((HR.out.trans (signs_f rfl HF2.out)).trans (Gm.bind_ok hq)); replace HI := hidb (tr_step HI.out hs); replace H := hidb (H.out.trans hs); clear hs hq) | (have HRE := hidb ((HR.out.trans (signs_f rfl HF2.out)).trans (Gm.bind_err hq)); have HTB := hidb (tr_tb HI.out hbd); replace H := hidb (H.out.bad hbd); clear hq hbd HR HI)))
    all_goals first
      | (intro q u hq; exact app_tk _ _ _ rfl q u hq)
      | (intro y hy; simp only [Tk.cells, List.mem_cons, List.not_mem_nil, or_false] at hy; rcases hy with rfl | rfl | rfl | rfl | rfl <;> rfl)
      | exact hc1
      | exact hc2
      | (have := H.out.but.size; simp; omega)
      | skip
    · intro v' w3 hown hgrow hnil hat
      obtain ⟨j1, j2⟩ := tr_grown (l' := l ++ [u]) H.out HI.out (below_new _ _) hgrow (fun k hk => by rcases hat with h | h <;> rw [h] at hk; (exact .inl hk); (cases hk; right; simp)) (by rw [List.length_append, tkCells_snoc]; exact hown)
      obtain ⟨a', c', rfl⟩ := j1.sl
      replace HI := hidb j1
      replace H := hidb j2
      clear j1 j2 hown hgrow hnil hat
      go_wp2_with (first
        | (go_at_call 29; refine (sNext H.out.at (HT.out.elim Gm.isM_k Gm.isM_k)).mono ?_; rintro r1 w4 ⟨rfl, hs⟩; replace HR := hidb (HR.out.trans (signs_t Tu.out (Tu.out ▸ HT.out) rfl)); replace HI := hidb (tr_step HI.out hs); replace H := hidb (H.out.trans hs); clear hs))
      go_roundg g'
      (case measure => omega)
      (case rel => exact ⟨l ++ [u], _, a', c', k', (by simp), H.out, HI.out, HR.out, (by omega), (by omega), (by simp; omega)⟩)
    · intro v' w3 hown hgrow hnil hat
      obtain ⟨j1, j2⟩ := tr_grown (l' := l ++ [u]) H.out HI.out (below_new _ _) hgrow (fun k hk => by rcases hat with h | h <;> rw [h] at hk; (exact .inl hk); (cases hk; right; simp)) (by rw [List.length_append, tkCells_snoc]; exact hown)
      obtain ⟨a', c', rfl⟩ := j1.sl
      replace HI := hidb j1
      replace H := hidb j2
      clear j1 j2 hown hgrow hnil hat
      go_wp2_with (first
        | (go_at_call 29; refine (sNext H.out.at (HT.out.elim Gm.isM_k Gm.isM_k)).mono ?_; rintro r1 w4 ⟨rfl, hs⟩; replace HR := hidb (HR.out.trans (signs_t Tu.out (Tu.out ▸ HT.out) rfl)); replace HI := hidb (tr_step HI.out hs); replace H := hidb (H.out.trans hs); clear hs))
      go_roundg g'
      (case measure => omega)
      (case rel => exact ⟨l ++ [u], _, a', c', k', (by simp), H.out, HI.out, HR.out, (by omega), (by omega), (by simp; omega)⟩)
    · go_loopg [4, 5] l.length (fun gf s4 s5 wx => ∃ (i x : Nat) (j : Int), s4 = iv x ∧ s5 = .int .i64 j ∧ j + 1 = (i : Int) ∧ i ≤ l.length ∧ i ≤ gf ∧ Bd g b w V wx er q ∧ TB wx w.heap.size g (.slice a l.length c) l)
      case atStart => exact ⟨l.length, x0, _, rfl, rfl, by omega, Nat.le_refl _, Nat.le_refl _, H.out, HTB.out⟩
      case round =>
        obtain ⟨i, x, j, hs4, hs5, hj, hil, hig, hbd2, htb⟩ := hrel
        subst hs4
        subst hs5
        have hre := HRE.out
        clear H HTB HRE
        cases i with
        | zero =>
          obtain rfl : j = -1 := by omega
          have H := hidb hbd2
          have HRE := hidb hre
          clear hbd2 hre htb hj
          go_wp2_with fail
          go_ret
          exact .inl ⟨_, _, _, HRE.out, rfl, H.out⟩
        | succ m =>
          obtain rfl : j = (m : Int) := by omega
          obtain ⟨g2, rfl⟩ : ∃ g2, gk = g2 + 1 := ⟨gk - 1, by omega⟩
          obtain ⟨q1, hq⟩ : ∃ q, a = some ⟨q, 0, none⟩ := by
            rcases htb.own.2 with ⟨_, hn⟩ | ⟨q, cap, cur, hv, _⟩
            · omega
            · cases hv; exact ⟨q, rfl⟩
          subst hq
          obtain ⟨u2, hu2⟩ : ∃ u, l[m]? = some u := ⟨l[m], List.getElem?_eq_getElem (by omega)⟩
          have k1' : (tkCells l)[m * 5 + 1]? = some (.string u2.x) := tkCells_get l m u2 hu2 1 (by omega)
          have k4' : (tkCells l)[m * 5 + 4]? = some (.int .i64 (u2.p : Int)) := tkCells_get l m u2 hu2 4 (by omega)
          have k1 := (htb.own.cellAt (m * 5 + 1) (by omega)).trans k1'
          have k4 := (htb.own.cellAt (m * 5 + 4) (by omega)).trans k4'
          have hmw : IntKind.i64.wrap ((m : Int) - 1) = (m : Int) - 1 := by rw [IntKind.wrap_i64]; omega
          have hm0 : (0 : Int) ≤ (m : Int) := by omega
          have hm1 : (m : Int) < ((l.length : Nat) : Int) := by omega
          have HRE := hidb hre
          have H := hidb hbd2
          have HI := hidb htb
          clear hre hbd2 htb hj hu2
          go_wp2_with fail
          have HX := hidb (H.out.keep (Below.drew (Below.refl _ _)))
          have HIX := hidb (HI.out.below (Below.drew (Below.refl _ _)))
          go_region_held2 (fun w' => w'.cell? ⟨q1, m * 5 + 1, none⟩ = some (.string u2.x) ∧ w'.cell? ⟨q1, m * 5 + 4, none⟩ = some (.int .i64 (u2.p : Int)))
            (first | with_reducible exact ⟨z1, z4⟩ | go_keep)
            (first
              | (go_at_call 32; refine (bNode _ _ _ _ _ _ (HX.out.keep (below_new _ _))).mono ?_; rintro r1 w3 ⟨rfl, hd, hb⟩; have HI3 := hidb ((HIX.out.below (below_new _ _)).but hb); have z1 := (HI3.out.own.cellAt (m * 5 + 1) (by omega)).trans k1'; have z4 := (HI3.out.own.cellAt (m * 5 + 4) (by omega)).trans k4'; have H3 := hidb hd; clear hd hb))
          all_goals (
            go_wp2_with fail
            go_roundg g2
            (case measure => omega)
            (case rel => exact ⟨m, 0, (m : Int) - 1, rfl, rfl, (by omega), (by omega), (by omega), H3.out, HI3.out⟩))
    go_loopg [4, 5] l.length (fun gf s4 s5 wx => (∃ (i x : Nat) (j : Int) (sy : PS) (Vy : Value), s4 = iv x ∧ s5 = .int .i64 j ∧ j + 1 = (i : Int) ∧ i ≤ l.length ∧ i ≤ gf ∧ Gm.layOps (l.drop i) x0 s1 = .ok (x, sy) ∧ St B g b o (PV P (.slice a l.length c)) w V wx Vy sy ∧ TR wx w.heap.size g b Vy (.slice a l.length c) l) ∨ (∃ (i x : Nat) (j : Int) (er : Int) (q : Nat), s4 = iv x ∧ s5 = .int .i64 j ∧ j + 1 = (i : Int) ∧ i ≤ l.length ∧ i ≤ gf ∧ R = .error (er, q) ∧ Bd g b w V wx er q ∧ TB wx w.heap.size g (.slice a l.length c) l))
    case atStart => exact .inl ⟨l.length, x0, _, s1, V1, rfl, rfl, by omega, Nat.le_refl _, Nat.le_refl _, by simp [Gm.layOps]; rfl, H.out, HI.out⟩
    case round =>
      rcases hrel with ⟨i, x, j, sy, Vy, hs4, hs5, hj, hil, hig, hlo, hst2, htr⟩ | ⟨i, x, j, er, q0, hs4, hs5, hj, hil, hig, hre, hbd2, htb⟩
      · subst hs4
        subst hs5
        cases i with
        | zero =>
          obtain rfl : j = -1 := by omega
          have HO := hidb hlo
          have H := hidb hst2
          clear hlo hst2 htr hj
          go_wp2_with fail
          go_ret
          exact .inr ⟨_, _, _, HR.out.trans HO.out, rfl, H.out.drop⟩
        | succ m =>
          obtain rfl : j = (m : Int) := by omega
          obtain ⟨g2, rfl⟩ : ∃ g2, gk = g2 + 1 := ⟨gk - 1, by omega⟩
          obtain ⟨q, hq⟩ : ∃ q, a = some ⟨q, 0, none⟩ := by
            rcases htr.own.2 with ⟨_, hn⟩ | ⟨q, cap, cur, hv, _⟩
            · omega
            · cases hv; exact ⟨q, rfl⟩
          subst hq
          obtain ⟨u2, hu2⟩ : ∃ u, l[m]? = some u := ⟨l[m], List.getElem?_eq_getElem (by omega)⟩
          have k1' : (tkCells l)[m * 5 + 1]? = some (.string u2.x) := tkCells_get l m u2 hu2 1 (by omega)
          have k4' : (tkCells l)[m * 5 + 4]? = some (.int .i64 (u2.p : Int)) := tkCells_get l m u2 hu2 4 (by omega)
          have k1 := (htr.own.cellAt (m * 5 + 1) (by omega)).trans k1'
          have k4 := (htr.own.cellAt (m * 5 + 4) (by omega)).trans k4'
          have hd : l.drop m = u2 :: l.drop (m + 1) := by rw [List.drop_eq_getElem_cons (by omega)]; congr 1; exact (List.getElem?_eq_some_iff.1 hu2).2
          have hmw : IntKind.i64.wrap ((m : Int) - 1) = (m : Int) - 1 := by rw [IntKind.wrap_i64]; omega
          have hm0 : (0 : Int) ≤ (m : Int) := by omega
          have hm1 : (m : Int) < ((l.length : Nat) : Int) := by omega
          have HO := hidb hlo
          have HD := hidb hd
          clear H HI
          have H := hidb hst2
          have HI := hidb htr
          clear hlo hst2 htr hj hd hu2
          go_wp2_with fail
          have HX := hidb (H.out.below (Below.drew (Below.refl _ _)))
          have HIX := hidb (HI.out.below (Below.drew (Below.refl _ _)))
          go_region_held2 (fun w' => w'.cell? ⟨q, m * 5 + 1, none⟩ = some (.string u2.x) ∧ w'.cell? ⟨q, m * 5 + 4, none⟩ = some (.int .i64 (u2.p : Int)))
            (first | with_reducible exact ⟨z1, z4⟩ | go_keep)
            (first
              | (go_at_call 32; refine (sNode ⟨9, u2.x, 0, 0, [x], u2.p⟩ _ (IR.lit HX.out.at #[iv x] [x] rfl (by simp)).2.drop.at ((IR.lit HX.out.at #[iv x] [x] rfl (by simp)).1.lr HX.out.plt)).mono ?_; intro r1 w3 hrz; obtain ⟨z, rfl, hbu, hor⟩ := hrz.one; have HOR := hidb hor; have o1 := row_but (HIX.out.below (below_new _ (.cells #[iv x] IT))).own hbu (fun k hk he => he.elim (fun e => HIX.out.ng (e ▸ hk)) (fun e => HIX.out.nv k hk e)); have z1 := (o1.cellAt (m * 5 + 1) (by omega)).trans k1'; have z4 := (o1.cellAt (m * 5 + 4) (by omega)).trans k4'; clear hrz hbu hor o1))
          all_goals (
            go_wp2_with fail
            go_roundg g2
            (case measure => omega)
            (case rel =>
              rcases HOR.out with ⟨er, q2, hq, hbd⟩ | ⟨s3, V3, hq, hs⟩
              · exact .inr ⟨m, z, (m : Int) - 1, er, q2, rfl, rfl, (by omega), (by omega), (by omega), HR.out.trans (layOps_fell HD.out HO.out hq), HX.out.bad ((IR.lit HX.out.at #[iv x] [x] rfl (by simp)).2.drop.bad hbd), tr_tb (HIX.out.below (below_new _ _)) hbd⟩
              · exact .inl ⟨m, z, (m : Int) - 1, s3, V3, rfl, rfl, (by omega), (by omega), (by omega), layOps_step HD.out HO.out hq, HX.out.trans ((IR.lit HX.out.at #[iv x] [x] rfl (by simp)).2.drop.trans hs), tr_step (HIX.out.below (below_new _ _)) hs⟩))
      · subst hs4
        subst hs5
        clear HR H HI
        cases i with
        | zero =>
          obtain rfl : j = -1 := by omega
          have H := hidb hbd2
          have HRE := hidb hre
          clear hbd2 hre htb hj
          go_wp2_with fail
          go_ret
          exact .inl ⟨_, _, _, HRE.out, rfl, H.out⟩
        | succ m =>
          obtain rfl : j = (m : Int) := by omega
          obtain ⟨g2, rfl⟩ : ∃ g2, gk = g2 + 1 := ⟨gk - 1, by omega⟩
          obtain ⟨q, hq⟩ : ∃ q, a = some ⟨q, 0, none⟩ := by
            rcases htb.own.2 with ⟨_, hn⟩ | ⟨q, cap, cur, hv, _⟩
            · omega
            · cases hv; exact ⟨q, rfl⟩
          subst hq
          obtain ⟨u2, hu2⟩ : ∃ u, l[m]? = some u := ⟨l[m], List.getElem?_eq_getElem (by omega)⟩
          have k1' : (tkCells l)[m * 5 + 1]? = some (.string u2.x) := tkCells_get l m u2 hu2 1 (by omega)
          have k4' : (tkCells l)[m * 5 + 4]? = some (.int .i64 (u2.p : Int)) := tkCells_get l m u2 hu2 4 (by omega)
          have k1 := (htb.own.cellAt (m * 5 + 1) (by omega)).trans k1'
          have k4 := (htb.own.cellAt (m * 5 + 4) (by omega)).trans k4'
          have hmw : IntKind.i64.wrap ((m : Int) - 1) = (m : Int) - 1 := by rw [IntKind.wrap_i64]; omega
          have hm0 : (0 : Int) ≤ (m : Int) := by omega
          have hm1 : (m : Int) < ((l.length : Nat) : Int) := by omega
          have HRE := hidb hre
          have H := hidb hbd2
          have HI := hidb htb
          clear hre hbd2 htb hj hu2
          go_wp2_with fail
          have HX := hidb (H.out.keep (Below.drew (Below.refl _ _)))
          have HIX := hidb (HI.out.below (Below.drew (Below.refl _ _)))
          go_region_held2 (fun w' => w'.cell? ⟨q, m * 5 + 1, none⟩ = some (.string u2.x) ∧ w'.cell? ⟨q, m * 5 + 4, none⟩ = some (.int .i64 (u2.p : Int)))
            (first | with_reducible exact ⟨z1, z4⟩ | go_keep)
            (first
              | (go_at_call 32; refine (bNode _ _ _ _ _ _ (HX.out.keep (below_new _ _))).mono ?_; rintro r1 w3 ⟨rfl, hd, hb⟩; have HI3 := hidb ((HIX.out.below (below_new _ _)).but hb); have z1 := (HI3.out.own.cellAt (m * 5 + 1) (by omega)).trans k1'; have z4 := (HI3.out.own.cellAt (m * 5 + 4) (by omega)).trans k4'; have H3 := hidb hd; clear hd hb))
          all_goals (
            go_wp2_with fail
            go_roundg g2
            (case measure => omega)
            (case rel => exact .inr ⟨m, 0, (m : Int) - 1, er, q0, rfl, rfl, (by omega), (by omega), (by omega), HRE.out, H3.out, HI3.out⟩))
theorem pMul_end (hE : EC B g b o e) {P : Nat → Prop} {w : World} {V : Value} {s : PS} (h : At B g b o P w V s) : Calls Tryz.prog 137 #[.pointer (some ⟨g, 0, none⟩)] w fun r w' => Rz B g b o P w V (Gm.mul e s) r w' := pMul hE (fun h => pUnary hE h) h
theorem pAdd_end (hE : EC B g b o e) {P : Nat → Prop} {w : World} {V : Value} {s : PS} (h : At B g b o P w V s) : Calls Tryz.prog 134 #[.pointer (some ⟨g, 0, none⟩)] w fun r w' => Rz B g b o P w V (Gm.add e s) r w' := pAdd hE (fun h => pMul_end hE h) h
end Rf
end Go.Proofs.YthdljnakmekhkaaGreatDoor
