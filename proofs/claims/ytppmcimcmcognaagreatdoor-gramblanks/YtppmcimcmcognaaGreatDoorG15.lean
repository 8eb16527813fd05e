import Derived.Test.YtppmcimcmcognaaGreatDoorG14
/- exprs. -/
namespace Go.Proofs.YtppmcimcmcognaaGreatDoor
open Go.RowKit Go.Lib
attribute [local go_sem] store_float f64bits
attribute [local go_sem ↓] Go.wp_at_zero Go.wp_at_succ
attribute [local go_sem] nd_p tk_k tk_x tk_n tk_f tk_p
variable {B g b o : Nat} {e : PM Nat}

theorem app_ints (w : World) (a0 : Value) (q : Nat) (hg : q = w.heap.size) (j : Nat) (u : Value) (hj : [a0][j]? = some u) : (w.alloc (.cells #[a0] IT)).cell? ((⟨q, 0, none⟩ : Addr).add j) = some u := by
  subst hg
  match j, hj with
  | 0, hj => simp at hj; subst hj; simp [Addr.add]
  | (j + 1), hj => simp at hj

theorem IR.app {P : Nat → Prop} {w0 w w' : World} {V0 V v v' : Value} {s : PS} {l : List Nat} {xs : List Nat} {ob : Obj} (h : St B g b o (PV P v) w0 V0 w V s) (hi : IR w w0.heap.size g b V v l) (hG : (w.alloc ob).grownBy w' v.ownBlock) (hA : v'.ownBlock = v.ownBlock ∨ v'.ownBlock = some (w.heap.size + 1))
    (ho : w'.ownsRow w0.heap.size IT 1 v' (l.length + xs.length) (l.map iv ++ xs.map iv)) : IR w' w0.heap.size g b V v' (l ++ xs) ∧ St B g b o (PV P v') w0 V0 w' V s := by
  refine IR.grown h hi (below_new w ob) hG (fun k hk => ?_) (by rw [List.length_append, List.map_append]; exact ho)
  rcases hA with e | e
  · exact .inl (e ▸ hk)
  · rw [e] at hk; cases hk; right; simp

set_option maxHeartbeats 4000000 in
set_option maxRecDepth 100000 in
theorem pExprs (hE : EC B g b o e) (most : Nat) {P : Nat → Prop} {w : World} {V : Value} {s : PS} (h : At B g b o P w V s) :
    Calls Tryz.prog 116 #[.pointer (some ⟨g, 0, none⟩), .int .i64 (most : Int)] w fun r w' => RzL B g b o P w V (Gm.exprs e most s) r w' := by
  obtain ⟨i0, hi0, hz0, hz1, hz2⟩ := info_parts (P := Tryz.prog) (e := IT) (z := .int .i64 0) (size := 1) (bytes := 8) (by kernel_rfl)
  have H : Hid (St B g b o P w V w V s) := hidb h
  have HE := hidb hE
  obtain ⟨R, hR⟩ : ∃ R, Gm.exprs e most s = R := ⟨_, rfl⟩
  rw [hR]
  have HR := hidb hR.symm
  clear hR h hE
  go_enter Tryz.func116, Tryz.ntmps116
  go_wp2_with (first
    | (go_at_call 121; refine (HE.out.run H.out.at).mono ?_; rintro r1 w1 (⟨er, q, hq, rfl, hbu⟩ | ⟨x0, s1, V1, hq, rfl, hs⟩) <;> first | (have H := hidb (H.out.trans hs); have HR := hidb (HR.out.trans (Gm.bind_ok hq)); clear hs hq) | (have HR := hidb (HR.out.trans (Gm.bind_err hq)); have HBU := hidb (but_then H.out.but H.out.own hbu); clear hq hbu)))
  · exact ⟨rfl, .inl ⟨_, _, HR.out, rfl, HBU.out⟩⟩
  obtain ⟨j1, j2⟩ := IR.lit H.out #[iv x0] [x0] rfl (by simp)
  have HI := hidb j1
  have H := hidb j2
  have HR := hidb (HR.out.trans (Gm.bind_left rfl))
  have htl := j2.tl
  clear j1 j2
  go_loopg [5] s1.ts.length (fun gf s3 wx => ∃ (l : List Nat) (sx : PS) (Vx : Value) (a : Option Addr) (c k : Nat), s3 = .slice a l.length c ∧ St B g b o (PV P (.slice a l.length c)) w V wx Vx sx ∧ IR wx w.heap.size g b Vx (.slice a l.length c) l ∧ R = Gm.more e most k l sx ∧ sx.ts.length ≤ k ∧ k ≤ gf ∧ l.length + sx.ts.length ≤ 100001)
  case atStart => exact ⟨[x0], s1, V1, _, _, _, rfl, H.out, HI.out, HR.out, Nat.le_refl _, Nat.le_refl _, by simp; omega⟩
  case round =>
    obtain ⟨l, sx, Vx, a, c, k, hs3, hst, hir, hmore, hk, hkg, hll⟩ := hrel
    subst hs3
    have hpos : 0 < sx.ts.length := by obtain ⟨r, hr⟩ := Gm.ne_hd hst.ne; rw [hr]; simp
    obtain ⟨k', rfl⟩ : ∃ k', k = k' + 1 := ⟨k - 1, by omega⟩
    obtain ⟨g', rfl⟩ : ∃ g', gk = g' + 1 := ⟨gk - 1, by omega⟩
    have H := hidb hst
    have HI := hidb hir
    have HR := hidb hmore
    have hc1 : l.length + 1 ≤ maxLen := by unfold maxLen; omega
    have hc2 : (l.length + 1) * 8 ≤ 140737488355328 := by omega
    clear hst hir hmore
    by_cases hmo : l.length = most
    · have e1 : ((l.length : Nat) : Int) = (most : Int) := by omega
      have HMO := hidb hmo
      clear hmo
      go_wp2_with (first
        | (go_at_call 76; refine (sTake ⟨#[44]⟩ H.out.at).mono ?_; rintro r1 w1 (⟨s1, hq, rfl, hs⟩ | ⟨hq, rfl, hs⟩) <;> first | (have HR := hidb (HR.out.trans (Gm.bind_t hq.1)); have H := hidb (H.out.trans hs); have HI := hidb (HI.out.step hs); clear hs hq) | (have HR := hidb (HR.out.trans (Gm.bind_f hq)); have H := hidb (H.out.trans hs); have HI := hidb (HI.out.step hs); clear hs hq))
        | (go_at_call 49; refine (sGiveUp (α := List Nat) 2 H.out.at).mono ?_; rintro r1 w1 ⟨q, hq, rfl, hbu⟩; have HR := hidb ((HR.out.trans (Gm.ite_t HMO.out)).trans hq); have HBU := hidb (but_then H.out.but H.out.own hbu); clear hq hbu))
      · exact ⟨rfl, .inl ⟨_, _, HR.out, rfl, HBU.out⟩⟩
      · exact bodyPost_ret (v := .slice a l.length c) (by simp [results, Tryz.results116, go_sem]) rfl (.inr ⟨_, _, _, _, HR.out, rfl, H.out.drop, H.out, HI.out, by omega⟩)
    · have e1 : ((l.length : Nat) : Int) ≠ (most : Int) := by omega
      have HMO := hidb hmo
      clear hmo
      go_wp2_with (first
        | (go_at_call 76; refine (sTake ⟨#[44]⟩ H.out.at).mono ?_; rintro r1 w1 (⟨s1, hq, rfl, hs⟩ | ⟨hq, rfl, hs⟩) <;> first | (have HR := hidb (HR.out.trans (Gm.bind_t hq.1)); have HT := hidb hq.2; have H := hidb (H.out.trans hs); have HI := hidb (HI.out.step hs); clear hs hq) | (have HR := hidb (HR.out.trans (Gm.bind_f hq)); have H := hidb (H.out.trans hs); have HI := hidb (HI.out.step hs); clear hs hq))
        | (go_at_call 121; refine (HE.out.run H.out.at).mono ?_; rintro r1 w1 (⟨er, q, hq, rfl, hbu⟩ | ⟨x, s2, V2, hq, rfl, hs⟩) <;> first | (have HF := hidb (HE.out.all _ H.out.ne _ _ hq).1; have H := hidb (H.out.trans hs); have HI := hidb (HI.out.step hs); have HR := hidb ((HR.out.trans (Gm.ite_f HMO.out)).trans (Gm.bind_ok hq)); clear hs hq) | (have HR := hidb ((HR.out.trans (Gm.ite_f HMO.out)).trans (Gm.bind_err hq)); have HBU := hidb (but_then H.out.but H.out.own hbu); clear hq hbu))
        | (at_builtin; refine wpList_append_own_at _ rfl _ _ 44 rfl w.heap.size IT i0 (.int .i64 0) 1 8 Tryz.underlying44 hi0 hz0 hz1 hz2 rfl (by decide) _ _ _ rfl (HI.out.own.alloc _) ⟨w1.heap.size, 0, none⟩ 1 1 [iv x] rfl rfl ?e51 ?e52 ?e53 ?e54 ?e55 ?_))
      case e51 => intro q u hq; exact app_ints _ _ _ rfl q u hq
      case e52 => intro u hu; cases List.mem_singleton.1 hu; rfl
      case e53 => exact hc1
      case e54 => exact hc2
      case e55 => have := H.out.but.size; simp; omega
      · exact ⟨rfl, .inl ⟨_, _, HR.out, rfl, HBU.out⟩⟩
      · intro v' w3 hown hgrow hnil hat
        obtain ⟨j1, j2⟩ := IR.app (xs := [x]) H.out HI.out hgrow hat hown
        obtain ⟨a', c', rfl⟩ := j1.sl
        have HI := hidb j1
        have H := hidb j2
        clear j1 j2 hown hgrow hnil hat
        go_wp2_with fail
        go_roundg g'
        case measure => omega
        case rel => exact ⟨l ++ [x], s2, V2, a', c', k', rfl, H.out, HI.out, HR.out, by have := HT.out; have := HF.out.len; omega, by omega, by have := HT.out; have := HF.out.len; simp; omega⟩
      · exact bodyPost_ret (v := .slice a l.length c) (by simp [results, Tryz.results116, go_sem]) rfl (.inr ⟨_, _, _, _, HR.out, rfl, H.out.drop, H.out, HI.out, by omega⟩)
end Go.Proofs.YtppmcimcmcognaaGreatDoor


/- group, body, guard. -/
namespace Go.Proofs.YtppmcimcmcognaaGreatDoor
open Go.RowKit Go.Lib
attribute [local go_sem] store_float f64bits
attribute [local go_sem ↓] Go.wp_at_zero Go.wp_at_succ
attribute [local go_sem] nd_p tk_k tk_x tk_n tk_f tk_p
variable {B g b o : Nat} {e : PM Nat}

set_option maxHeartbeats 2000000 in
set_option maxRecDepth 100000 in
theorem pGroup (hE : EC B g b o e) (kind : Int) {P : Nat → Prop} {w : World} {V : Value} {s : PS} (h : At B g b o P w V s) :
    Calls Tryz.prog 120 #[.pointer (some ⟨g, 0, none⟩), .int .i64 kind] w fun r w' => Rz B g b o P w V (Gm.group e kind s) iv r w' := by
  have H : Hid (St B g b o P w V w V s) := hidb h
  obtain ⟨R, hR⟩ : ∃ R, Gm.group e kind s = R := ⟨_, rfl⟩
  rw [hR]
  have HR := hidb hR.symm
  clear hR
  have HE := hidb hE
  clear h hE
  go_enter Tryz.func120, Tryz.ntmps120
  go_wp2_with (first
    | (go_at_call 46; refine (sHere H.out.at).mono ?_; rintro r1 w1 ⟨t, hq, rfl, hs, hb⟩; have H := hidb (H.out.below hb); have HR := hidb (HR.out.trans (Gm.bind_here hq)); have Tt := hidb hq; clear hs hb hq)
    | (go_at_call 116; refine (pExprs HE.out Gm.noBound H.out.at).mono ?_; rintro r1 w1 (⟨er, q, hq, rfl, hbu⟩ | ⟨l, s1, V1, v, hq, rfl, hs, hs2, hi, hlen⟩) <;> first | (obtain ⟨la, lc, rfl⟩ := hi.sl; have HI := hidb (hi.lr H.out.plt);  have HL := hidb hs; have H := hidb (H.out.trans hs); (first | (with_reducible have HR := hidb (HR.out.trans hq)) | have HR := hidb (HR.out.trans (Gm.bind_ok hq))); clear hs hs2 hi hq hlen) | ((first | (with_reducible have HR := hidb (HR.out.trans hq)) | have HR := hidb (HR.out.trans (Gm.bind_err hq))); have HBU := hidb (but_then H.out.but H.out.own hbu); clear hq hbu))
    | (go_at_call 53; refine (sLay ⟨kind, ⟨#[]⟩, 0, 0, l, t.p⟩ _ H.out.at HI.out).mono ?_; rintro r1 w1 (⟨er, q, hq, rfl, hbu⟩ | ⟨x, s1, V1, hq, rfl, hs⟩) <;> first | (have HL := hidb hs; have H := hidb (H.out.trans hs); (first | (with_reducible have HR := hidb (HR.out.trans hq)) | have HR := hidb (HR.out.trans (Gm.bind_ok hq)));  clear hs hq) | ((first | (with_reducible have HR := hidb (HR.out.trans hq)) | have HR := hidb (HR.out.trans (Gm.bind_err hq))); have HBU := hidb (but_then H.out.but H.out.own hbu); clear hq hbu)))
  · exact ⟨rfl, .inl ⟨_, _, HR.out, rfl, HBU.out⟩⟩
  · exact ⟨rfl, .inl ⟨_, _, HR.out, rfl, HBU.out⟩⟩
  · exact bodyPost_ret (v := iv x) (by simp [results, Tryz.results120, go_sem]) rfl (.inr ⟨_, _, _, HR.out, rfl, H.out⟩)

set_option maxHeartbeats 2000000 in
set_option maxRecDepth 100000 in
theorem pBody (hE : EC B g b o e) {P : Nat → Prop} {w : World} {V : Value} {s : PS} (h : At B g b o P w V s) :
    Calls Tryz.prog 115 #[.pointer (some ⟨g, 0, none⟩)] w fun r w' => Rz B g b o P w V (Gm.body e s) iv r w' := by
  have H : Hid (St B g b o P w V w V s) := hidb h
  obtain ⟨R, hR⟩ : ∃ R, Gm.body e s = R := ⟨_, rfl⟩
  rw [hR]
  have HR := hidb hR.symm
  clear hR
  have HE := hidb hE
  clear h hE
  have HR : Hid (R = Gm.group e 19 s) := hidb HR.out
  go_enter Tryz.func115, Tryz.ntmps115
  go_wp2_with (first
    | (go_at_call 120; refine (pGroup HE.out 19 H.out.at).mono ?_; rintro r1 w1 (⟨er, q, hq, rfl, hbu⟩ | ⟨x, s1, V1, hq, rfl, hs⟩) <;> first | (have HL := hidb hs; have H := hidb (H.out.trans hs); (first | (with_reducible have HR := hidb (HR.out.trans hq)) | have HR := hidb (HR.out.trans (Gm.bind_ok hq)));  clear hs hq) | ((first | (with_reducible have HR := hidb (HR.out.trans hq)) | have HR := hidb (HR.out.trans (Gm.bind_err hq))); have HBU := hidb (but_then H.out.but H.out.own hbu); clear hq hbu)))
  · exact ⟨rfl, .inl ⟨_, _, HR.out, rfl, HBU.out⟩⟩
  · exact bodyPost_ret (v := iv x) (by simp [results, Tryz.results115, go_sem]) rfl (.inr ⟨_, _, _, HR.out, rfl, H.out⟩)

set_option maxHeartbeats 2000000 in
set_option maxRecDepth 100000 in
theorem pGuard (hE : EC B g b o e) {P : Nat → Prop} {w : World} {V : Value} {s : PS} (h : At B g b o P w V s) :
    Calls Tryz.prog 114 #[.pointer (some ⟨g, 0, none⟩)] w fun r w' => Rz B g b o P w V (Gm.guard e s) iv r w' := by
  have H : Hid (St B g b o P w V w V s) := hidb h
  obtain ⟨R, hR⟩ : ∃ R, Gm.guard e s = R := ⟨_, rfl⟩
  rw [hR]
  have HR := hidb hR.symm
  clear hR
  have HE := hidb hE
  clear h hE
  go_enter Tryz.func114, Tryz.ntmps114
  go_wp2_with (first
    | (go_at_call 76; refine (sTake _ H.out.at).mono ?_; rintro r1 w1 (⟨s1, hq, rfl, hs⟩ | ⟨hq, rfl, hs⟩) <;> first | (have HR := hidb (HR.out.trans (Gm.bind_t hq.1)); have HT := hidb hq.2; have HL := hidb hs; have H := hidb (H.out.trans hs);  clear hs hq) | (have HR := hidb (HR.out.trans (Gm.bind_f hq)); have HL := hidb hs; have H := hidb (H.out.trans hs);  clear hs hq))
    | (go_at_call 120; refine (pGroup HE.out 22 H.out.at).mono ?_; rintro r1 w1 (⟨er, q, hq, rfl, hbu⟩ | ⟨x, s1, V1, hq, rfl, hs⟩) <;> first | (have HL := hidb hs; have H := hidb (H.out.trans hs); (first | (with_reducible have HR := hidb (HR.out.trans hq)) | have HR := hidb (HR.out.trans (Gm.bind_ok hq)));  clear hs hq) | ((first | (with_reducible have HR := hidb (HR.out.trans hq)) | have HR := hidb (HR.out.trans (Gm.bind_err hq))); have HBU := hidb (but_then H.out.but H.out.own hbu); clear hq hbu))
    | (go_at_call 119; refine (sLayNone 22 H.out.at).mono ?_; rintro r1 w1 (⟨er, q, hq, rfl, hbu⟩ | ⟨x, s1, V1, hq, rfl, hs⟩) <;> first | (have HL := hidb hs; have H := hidb (H.out.trans hs); (first | (with_reducible have HR := hidb (HR.out.trans hq)) | have HR := hidb (HR.out.trans (Gm.bind_ok hq)));  clear hs hq) | ((first | (with_reducible have HR := hidb (HR.out.trans hq)) | have HR := hidb (HR.out.trans (Gm.bind_err hq))); have HBU := hidb (but_then H.out.but H.out.own hbu); clear hq hbu)))
  · exact ⟨rfl, .inl ⟨_, _, HR.out, rfl, HBU.out⟩⟩
  · exact bodyPost_ret (v := iv x) (by simp [results, Tryz.results114, go_sem]) rfl (.inr ⟨_, _, _, HR.out, rfl, H.out⟩)
  · exact ⟨rfl, .inl ⟨_, _, HR.out, rfl, HBU.out⟩⟩
  · exact bodyPost_ret (v := iv x) (by simp [results, Tryz.results114, go_sem]) rfl (.inr ⟨_, _, _, HR.out, rfl, H.out⟩)

end Go.Proofs.YtppmcimcmcognaaGreatDoor


/- Rows of operators that go from the right. -/
namespace Go.Proofs.YtppmcimcmcognaaGreatDoor
open Go.RowKit Go.Lib
attribute [local go_sem] store_float f64bits
attribute [local go_sem ↓] Go.wp_at_zero Go.wp_at_succ
attribute [local go_sem] nd_p tk_k tk_x tk_n tk_f tk_p
variable {B g b o : Nat} {e : PM Nat}

/-- The contract of a method that is handed on as a value. -/
structure FC (B g b o f : Nat) (m : PM Nat) : Prop where
  all : Gm.All m
  enter : ∀ args w, (callFunc f args).run Tryz.prog w = .ok (.enter f args) w
  run : ∀ {P : Nat → Prop} {w : World} {V : Value} {s : PS}, At B g b o P w V s → Calls Tryz.prog f #[.pointer (some ⟨g, 0, none⟩)] w fun r w' => Rz B g b o P w V (m s) iv r w'

theorem LR.lit {P : Nat → Prop} {w : World} {V : Value} {s : PS} (h : At B g b o P w V s) (cs : Array Value) (l : List Nat) (hc : cs.toList = l.map iv) (hl : l.length ≤ 1000) : LR (w.alloc (.cells cs IT)) g P V (.slice (some ⟨w.heap.size, 0, .none⟩) l.length l.length) l :=
  (IR.lit h cs l hc hl).1.lr h.plt

set_option maxHeartbeats 2000000 in
set_option maxRecDepth 100000 in
theorem pRightward {f : Nat} {m : PM Nat} (hF : FC B g b o f m) (x : ByteArray) : ∀ (k : Nat) (P : Nat → Prop) (w : World) (V : Value) (s : PS) (_ : At B g b o P w V s) (_ : s.ts.length ≤ k),
    Calls Tryz.prog 130 #[.pointer (some ⟨g, 0, none⟩), .func (.func f) #[.pointer (some ⟨g, 0, none⟩)] #[], .string x] w fun r w' => Rz B g b o P w V (Gm.rightward m x k s) iv r w' := by
  intro k
  induction k with
  | zero => intro P w V s h hk; obtain ⟨r, hr⟩ := Gm.ne_hd h.ne; rw [hr] at hk; simp at hk
  | succ k ih =>
    intro P w V s h hk
    have H : Hid (St B g b o P w V w V s) := hidb h
    have IH := hidb ih
    have HK := hidb hk
    obtain ⟨R, hR⟩ : ∃ R, Gm.rightward m x (k + 1) s = R := ⟨_, rfl⟩
    rw [hR]
    have HR := hidb hR.symm
    have eg := hF.enter
    clear hR h ih hk
    go_enter Tryz.func130, Tryz.ntmps130
    go_wp2_with (first
      | (go_at_call 46; refine (sHere H.out.at).mono ?_; rintro r1 w1 ⟨t, hq, rfl, hs, hb⟩; have H := hidb (H.out.below hb); have HR := hidb (HR.out.trans (Gm.bind_here hq)); have Tt := hidb hq; clear hs hb hq)
      | (go_at_call 130; refine (IH.out _ _ _ _ H.out.at (by have := HK.out; have := HT.out; have := HF.out.len; omega)).mono ?_; rintro r1 w1 (⟨er, q, hq, rfl, hbu⟩ | ⟨y2, s1, V1, hq, rfl, hs⟩) <;> first | (have HL := hidb hs; have H := hidb (H.out.trans hs); (first | (with_reducible have HR := hidb (HR.out.trans hq)) | have HR := hidb (HR.out.trans (Gm.bind_ok hq))); clear hs hq) | ((first | (with_reducible have HR := hidb (HR.out.trans hq)) | have HR := hidb (HR.out.trans (Gm.bind_err hq))); have HBU := hidb (but_then H.out.but H.out.own hbu); clear hq hbu))
      | (go_at_call 76; refine (sTake _ H.out.at).mono ?_; rintro r1 w1 (⟨s1, hq, rfl, hs⟩ | ⟨hq, rfl, hs⟩) <;> first | (have HR := hidb (HR.out.trans (Gm.bind_t hq.1)); have HT := hidb hq.2; have HL := hidb hs; have H := hidb (H.out.trans hs);  clear hs hq) | (have HR := hidb (HR.out.trans (Gm.bind_f hq)); have HL := hidb hs; have H := hidb (H.out.trans hs);  clear hs hq))
      | (go_at_call 128; refine (sOp t.p x [x1, y2] _ (H.out.below (below_new _ _)).at (LR.lit H.out.at #[iv x1, iv y2] [x1, y2] rfl (by simp))).mono ?_; rintro r1 w1 (⟨er, q, hq, rfl, hbu⟩ | ⟨z, s1, V1, hq, rfl, hs⟩) <;> first | (have HL := hidb hs; have H := hidb ((H.out.below (below_new _ _)).trans hs); (first | (with_reducible have HR := hidb (HR.out.trans hq)) | have HR := hidb (HR.out.trans (Gm.bind_ok hq)));  clear hs hq) | ((first | (with_reducible have HR := hidb (HR.out.trans hq)) | have HR := hidb (HR.out.trans (Gm.bind_err hq))); have HBU := hidb (but_then (H.out.below (below_new _ _)).but H.out.own hbu); clear hq hbu))
      | (refine (hF.run H.out.at).mono ?_; rintro r1 w1 (⟨er, q, hq, rfl, hbu⟩ | ⟨x1, s1, V1, hq, rfl, hs⟩) <;> first | (have HF := hidb (hF.all _ H.out.ne _ _ hq).1; have HL := hidb hs; have H := hidb (H.out.trans hs); (first | (with_reducible have HR := hidb (HR.out.trans hq)) | have HR := hidb (HR.out.trans (Gm.bind_ok hq))); clear hs hq) | ((first | (with_reducible have HR := hidb (HR.out.trans hq)) | have HR := hidb (HR.out.trans (Gm.bind_err hq))); have HBU := hidb (but_then H.out.but H.out.own hbu); clear hq hbu)))
    · exact ⟨rfl, .inl ⟨_, _, HR.out, rfl, HBU.out⟩⟩
    · exact ⟨rfl, .inl ⟨_, _, HR.out, rfl, HBU.out⟩⟩
    · exact ⟨rfl, .inl ⟨_, _, HR.out, rfl, HBU.out⟩⟩
    · exact bodyPost_ret (v := iv z) (by simp [results, Tryz.results130, go_sem]) rfl (.inr ⟨_, _, _, HR.out, rfl, H.out⟩)
    · exact bodyPost_ret (v := iv x1) (by simp [results, Tryz.results130, go_sem]) rfl (.inr ⟨_, _, _, HR.out, rfl, H.out⟩)

/-- A row of operators that goes from the right. -/
theorem pRight {f : Nat} {m : PM Nat} (hF : FC B g b o f m) (x : ByteArray) {P : Nat → Prop} {w : World} {V : Value} {s : PS} (h : At B g b o P w V s) :
    Calls Tryz.prog 130 #[.pointer (some ⟨g, 0, none⟩), .func (.func f) #[.pointer (some ⟨g, 0, none⟩)] #[], .string x] w fun r w' => Rz B g b o P w V (Gm.right m x s) iv r w' :=
  pRightward hF x s.ts.length P w V s h (Nat.le_refl _)

set_option maxHeartbeats 2000000 in
set_option maxRecDepth 100000 in
theorem pAppend {m : PM Nat} (hF : FC B g b o 138 m) {P : Nat → Prop} {w : World} {V : Value} {s : PS} (h : At B g b o P w V s) :
    Calls Tryz.prog 135 #[.pointer (some ⟨g, 0, none⟩)] w fun r w' => Rz B g b o P w V (Gm.right m ⟨#[43, 43]⟩ s) iv r w' := by
  have H : Hid (St B g b o P w V w V s) := hidb h
  obtain ⟨R, hR⟩ : ∃ R, Gm.right m ⟨#[43, 43]⟩ s = R := ⟨_, rfl⟩
  rw [hR]
  have HR := hidb hR.symm
  clear hR
  clear h
  have hmf : ∀ (fn : Fn) (first cap : Array Value) (w : World), (Instr.makeFunc fn first cap).run Tryz.prog w = .ok (.func fn first cap) w := fun _ _ _ _ => rfl
  have HR : Hid (R = Gm.right m ⟨#[43, 43]⟩ s) := hidb HR.out
  go_enter Tryz.func135, Tryz.ntmps135
  go_wp2_with (first
    | (go_at_call 130; refine (pRight hF ⟨#[43, 43]⟩ H.out.at).mono ?_; rintro r1 w1 (⟨er, q, hq, rfl, hbu⟩ | ⟨x, s1, V1, hq, rfl, hs⟩) <;> first | (have HL := hidb hs; have H := hidb (H.out.trans hs); (first | (with_reducible have HR := hidb (HR.out.trans hq)) | have HR := hidb (HR.out.trans (Gm.bind_ok hq)));  clear hs hq) | ((first | (with_reducible have HR := hidb (HR.out.trans hq)) | have HR := hidb (HR.out.trans (Gm.bind_err hq))); have HBU := hidb (but_then H.out.but H.out.own hbu); clear hq hbu)))
  · exact ⟨rfl, .inl ⟨_, _, HR.out, rfl, HBU.out⟩⟩
  · exact bodyPost_ret (v := iv x) (by simp [results, Tryz.results135, go_sem]) rfl (.inr ⟨_, _, _, HR.out, rfl, H.out⟩)

set_option maxHeartbeats 2000000 in
set_option maxRecDepth 100000 in
theorem pAndalso {m : PM Nat} (hF : FC B g b o 133 m) {P : Nat → Prop} {w : World} {V : Value} {s : PS} (h : At B g b o P w V s) :
    Calls Tryz.prog 131 #[.pointer (some ⟨g, 0, none⟩)] w fun r w' => Rz B g b o P w V (Gm.right m ⟨#[97, 110, 100, 97, 108, 115, 111]⟩ s) iv r w' := by
  have H : Hid (St B g b o P w V w V s) := hidb h
  obtain ⟨R, hR⟩ : ∃ R, Gm.right m ⟨#[97, 110, 100, 97, 108, 115, 111]⟩ s = R := ⟨_, rfl⟩
  rw [hR]
  have HR := hidb hR.symm
  clear hR
  clear h
  have hmf : ∀ (fn : Fn) (first cap : Array Value) (w : World), (Instr.makeFunc fn first cap).run Tryz.prog w = .ok (.func fn first cap) w := fun _ _ _ _ => rfl
  have HR : Hid (R = Gm.right m ⟨#[97, 110, 100, 97, 108, 115, 111]⟩ s) := hidb HR.out
  go_enter Tryz.func131, Tryz.ntmps131
  go_wp2_with (first
    | (go_at_call 130; refine (pRight hF ⟨#[97, 110, 100, 97, 108, 115, 111]⟩ H.out.at).mono ?_; rintro r1 w1 (⟨er, q, hq, rfl, hbu⟩ | ⟨x, s1, V1, hq, rfl, hs⟩) <;> first | (have HL := hidb hs; have H := hidb (H.out.trans hs); (first | (with_reducible have HR := hidb (HR.out.trans hq)) | have HR := hidb (HR.out.trans (Gm.bind_ok hq)));  clear hs hq) | ((first | (with_reducible have HR := hidb (HR.out.trans hq)) | have HR := hidb (HR.out.trans (Gm.bind_err hq))); have HBU := hidb (but_then H.out.but H.out.own hbu); clear hq hbu)))
  · exact ⟨rfl, .inl ⟨_, _, HR.out, rfl, HBU.out⟩⟩
  · exact bodyPost_ret (v := iv x) (by simp [results, Tryz.results131, go_sem]) rfl (.inr ⟨_, _, _, HR.out, rfl, H.out⟩)

set_option maxHeartbeats 2000000 in
set_option maxRecDepth 100000 in
theorem pOrelse {m : PM Nat} (hF : FC B g b o 131 m) {P : Nat → Prop} {w : World} {V : Value} {s : PS} (h : At B g b o P w V s) :
    Calls Tryz.prog 127 #[.pointer (some ⟨g, 0, none⟩)] w fun r w' => Rz B g b o P w V (Gm.right m ⟨#[111, 114, 101, 108, 115, 101]⟩ s) iv r w' := by
  have H : Hid (St B g b o P w V w V s) := hidb h
  obtain ⟨R, hR⟩ : ∃ R, Gm.right m ⟨#[111, 114, 101, 108, 115, 101]⟩ s = R := ⟨_, rfl⟩
  rw [hR]
  have HR := hidb hR.symm
  clear hR
  clear h
  have hmf : ∀ (fn : Fn) (first cap : Array Value) (w : World), (Instr.makeFunc fn first cap).run Tryz.prog w = .ok (.func fn first cap) w := fun _ _ _ _ => rfl
  have HR : Hid (R = Gm.right m ⟨#[111, 114, 101, 108, 115, 101]⟩ s) := hidb HR.out
  go_enter Tryz.func127, Tryz.ntmps127
  go_wp2_with (first
    | (go_at_call 130; refine (pRight hF ⟨#[111, 114, 101, 108, 115, 101]⟩ H.out.at).mono ?_; rintro r1 w1 (⟨er, q, hq, rfl, hbu⟩ | ⟨x, s1, V1, hq, rfl, hs⟩) <;> first | (have HL := hidb hs; have H := hidb (H.out.trans hs); (first | (with_reducible have HR := hidb (HR.out.trans hq)) | have HR := hidb (HR.out.trans (Gm.bind_ok hq)));  clear hs hq) | ((first | (with_reducible have HR := hidb (HR.out.trans hq)) | have HR := hidb (HR.out.trans (Gm.bind_err hq))); have HBU := hidb (but_then H.out.but H.out.own hbu); clear hq hbu)))
  · exact ⟨rfl, .inl ⟨_, _, HR.out, rfl, HBU.out⟩⟩
  · exact bodyPost_ret (v := iv x) (by simp [results, Tryz.results127, go_sem]) rfl (.inr ⟨_, _, _, HR.out, rfl, H.out⟩)

end Go.Proofs.YtppmcimcmcognaaGreatDoor


