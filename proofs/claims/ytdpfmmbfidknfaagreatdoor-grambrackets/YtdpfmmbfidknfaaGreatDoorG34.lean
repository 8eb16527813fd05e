import Derived.Test.YtdpfmmbfidknfaaGreatDoorG33
/- arguments, tail, clauses. -/
namespace Go.Proofs.YtdpfmmbfidknfaaGreatDoor
open Go.RowKit Go.Lib
attribute [local go_sem] store_float f64bits
attribute [local go_sem ↓] Go.wp_at_zero Go.wp_at_succ
attribute [local go_sem] nd_p tk_k tk_x tk_n tk_f tk_p
variable {B g b o : Nat} {e : PM Nat}

set_option maxHeartbeats 2000000 in
set_option maxRecDepth 100000 in
theorem pArgs (hE : EC B g b o e) {P : Nat → Prop} {w : World} {V : Value} {s : PS} (h : At B g b o P w V s) :
    Calls Tryz.prog 71 #[.pointer (some ⟨g, 0, none⟩)] w fun r w' => RzL B g b o P w V (Gm.args e s) r w' := by
  have H : Hid (St B g b o P w V w V s) := hidb h
  obtain ⟨R, hR⟩ : ∃ R, Gm.args e s = R := ⟨_, rfl⟩
  rw [hR]
  have HR := hidb hR.symm
  clear hR
  have HE := hidb hE
  clear h hE
  go_enter Tryz.func71, Tryz.ntmps71
  go_wp2_with (first
    | (go_at_call 33; refine (sNeed _ H.out.at).mono ?_; rintro r1 w1 (⟨er, q, hq, rfl, hbu⟩ | ⟨s1, hq, rfl, hs⟩) <;> first | (have HI := hidb (HI.out.step hs); have H := hidb (H.out.trans hs); (first | (with_reducible have HR := hidb (HR.out.trans hq)) | have HR := hidb (HR.out.trans (Gm.bind_ok hq))); clear hs hq) | (have H := hidb (H.out.trans hs); (first | (with_reducible have HR := hidb (HR.out.trans hq)) | have HR := hidb (HR.out.trans (Gm.bind_ok hq))); clear hs hq) | ((first | (with_reducible have HR := hidb (HR.out.trans hq)) | have HR := hidb (HR.out.trans (Gm.bind_err hq))); have HBU := hidb (but_then H.out.but H.out.own hbu); clear hq hbu))
    | (go_at_call 51; refine (sTake _ H.out.at).mono ?_; rintro r1 w1 (⟨s1, hq, rfl, hs⟩ | ⟨hq, rfl, hs⟩) <;> first | (have HR := hidb (HR.out.trans (Gm.bind_t hq.1)); have HT := hidb hq.2; have HL := hidb hs; have H := hidb (H.out.trans hs);  clear hs hq) | (have HR := hidb (HR.out.trans (Gm.bind_f hq)); have HL := hidb hs; have H := hidb (H.out.trans hs);  clear hs hq))
    | (go_at_call 80; refine (pExprs HE.out 16 H.out.at).mono ?_; rintro r1 w1 (⟨er, q, hq, rfl, hbu⟩ | ⟨l, s1, V1, v, hq, rfl, hs, hs2, hi, hlen⟩) <;> first | (obtain ⟨la, lc, rfl⟩ := hi.sl; have HI := hidb (hi.rebase H.out.but.size); have HN := hidb hlen; have H := hidb (H.out.trans hs2); (first | (with_reducible have HR := hidb (HR.out.trans hq)) | have HR := hidb (HR.out.trans (Gm.bind_ok hq))); clear hs hs2 hi hq hlen) | ((first | (with_reducible have HR := hidb (HR.out.trans hq)) | have HR := hidb (HR.out.trans (Gm.bind_err hq))); have HBU := hidb (but_then H.out.but H.out.own hbu); clear hq hbu)))
  · exact ⟨rfl, .inl ⟨_, _, HR.out, rfl, HBU.out⟩⟩
  · exact bodyPost_ret (v := .slice none 0 0) (by simp [results, Tryz.results71, go_sem]) rfl (.inr ⟨_, _, _, _, HR.out, rfl, H.out, H.out.less (fun _ hk => hk.elim id (fun he => by simp [Value.ownBlock] at he)), IR.none _ _ _ _ _, by simp⟩)
  · exact ⟨rfl, .inl ⟨_, _, HR.out, rfl, HBU.out⟩⟩
  · exact ⟨rfl, .inl ⟨_, _, HR.out, rfl, HBU.out⟩⟩
  · exact bodyPost_ret (v := .slice la l.length lc) (by simp [results, Tryz.results71, go_sem]) rfl (.inr ⟨_, _, _, _, HR.out, rfl, H.out.drop, H.out, HI.out, HN.out⟩)

theorem app_two (w : World) (a0 a1 : Value) (q : Nat) (hg : q = w.heap.size) (j : Nat) (u : Value) (hj : [a0, a1][j]? = some u) : (w.alloc (.cells #[a0, a1] IT)).cell? ((⟨q, 0, none⟩ : Addr).add j) = some u := by
  subst hg
  match j, hj with
  | 0, hj => simp at hj; subst hj; simp [Addr.add]
  | 1, hj => simp at hj; subst hj; simp [Addr.add]
  | (j + 2), hj => simp at hj

set_option maxHeartbeats 4000000 in
set_option maxRecDepth 100000 in
theorem pTail (hE : EC B g b o e) (p : Nat) (x : ByteArray) (l : List Nat) {P : Nat → Prop} {w0 w : World} {V0 V v : Value} {s : PS} (h : St B g b o (PV P v) w0 V0 w V s) (hi : IR w w0.heap.size g b V v l) (hl : l.length ≤ 100001) (hP : ∀ k, P k → k < w0.heap.size) :
    Calls Tryz.prog 70 #[.pointer (some ⟨g, 0, none⟩), .int .i64 (p : Int), .string x, v] w fun r w' => Rz B g b o P w0 V0 (Gm.tail e p x l s) iv r w' := by
  obtain ⟨i0, hi0, hz0, hz1, hz2⟩ := info_parts (P := Tryz.prog) (e := IT) (z := .int .i64 0) (size := 1) (bytes := 8) (by kernel_rfl)
  have H : Hid (St B g b o (PV P v) w0 V0 w V s) := hidb h
  have HI := hidb hi
  have HE := hidb hE
  have HP := hidb hP
  obtain ⟨la, lc, rfl⟩ := hi.sl
  obtain ⟨R, hR⟩ : ∃ R, Gm.tail e p x l s = R := ⟨_, rfl⟩
  rw [hR]
  have HR := hidb hR.symm
  have hc1 : l.length + 2 ≤ maxLen := by unfold maxLen; omega
  have hc2 : (l.length + 2) * 8 ≤ 140737488355328 := by omega
  have hw : IntKind.i64.wrap (((l.length + 2 : Nat) : Int) - 2) = (l.length : Int) := by rw [IntKind.wrap_i64]; omega
  clear hR h hE hi hP
  go_enter Tryz.func70, Tryz.ntmps70
  go_wp2_with (first
    | (go_at_call 78; refine (pGuard HE.out H.out.at).mono ?_; rintro r1 w1 (⟨er, q, hq, rfl, hbu⟩ | ⟨gd, s1, V1, hq, rfl, hs⟩) <;> first | (have HL := hidb hs; have H := hidb (H.out.trans hs); (first | (with_reducible have HR := hidb (HR.out.trans hq)) | have HR := hidb (HR.out.trans (Gm.bind_ok hq))); have HI := hidb (HI.out.step hs); clear hs hq) | ((first | (with_reducible have HR := hidb (HR.out.trans hq)) | have HR := hidb (HR.out.trans (Gm.bind_err hq))); have HBU := hidb (but_then H.out.but H.out.own hbu); clear hq hbu))
    | (go_at_call 33; refine (sNeed _ H.out.at).mono ?_; rintro r1 w1 (⟨er, q, hq, rfl, hbu⟩ | ⟨s1, hq, rfl, hs⟩) <;> first | (have HI := hidb (HI.out.step hs); have H := hidb (H.out.trans hs); (first | (with_reducible have HR := hidb (HR.out.trans hq)) | have HR := hidb (HR.out.trans (Gm.bind_ok hq))); clear hs hq) | (have H := hidb (H.out.trans hs); (first | (with_reducible have HR := hidb (HR.out.trans hq)) | have HR := hidb (HR.out.trans (Gm.bind_ok hq))); clear hs hq) | ((first | (with_reducible have HR := hidb (HR.out.trans hq)) | have HR := hidb (HR.out.trans (Gm.bind_err hq))); have HBU := hidb (but_then H.out.but H.out.own hbu); clear hq hbu))
    | (go_at_call 79; refine (pBody HE.out H.out.at).mono ?_; rintro r1 w1 (⟨er, q, hq, rfl, hbu⟩ | ⟨bd, s1, V1, hq, rfl, hs⟩) <;> first | (have HL := hidb hs; have H := hidb (H.out.trans hs); (first | (with_reducible have HR := hidb (HR.out.trans hq)) | have HR := hidb (HR.out.trans (Gm.bind_ok hq))); have HI := hidb (HI.out.step hs); clear hs hq) | ((first | (with_reducible have HR := hidb (HR.out.trans hq)) | have HR := hidb (HR.out.trans (Gm.bind_err hq))); have HBU := hidb (but_then H.out.but H.out.own hbu); clear hq hbu))
    | (at_builtin; refine wpList_append_own_at _ rfl _ _ 32 rfl w0.heap.size IT i0 (.int .i64 0) 1 8 Tryz.underlying32 hi0 hz0 hz1 hz2 rfl (by decide) _ _ _ rfl (HI.out.own.alloc _) ⟨w1.heap.size, 0, none⟩ 2 2 [iv gd, iv bd] rfl rfl ?e51 ?e52 ?e53 ?e54 ?e55 ?_))
  case e51 => intro q u hq; exact app_two _ _ _ _ rfl q u hq
  case e52 => intro u hu; simp at hu; rcases hu with rfl | rfl <;> rfl
  case e53 => exact hc1
  case e54 => exact hc2
  case e55 => have := H.out.but.size; simp; omega
  · exact ⟨rfl, .inl ⟨_, _, HR.out, rfl, HBU.out⟩⟩
  · exact ⟨rfl, .inl ⟨_, _, HR.out, rfl, HBU.out⟩⟩
  · exact ⟨rfl, .inl ⟨_, _, HR.out, rfl, HBU.out⟩⟩
  · intro v' w3 hown hgrow hnil hat
    obtain ⟨j1, j2⟩ := IR.app (xs := [gd, bd]) H.out HI.out hgrow hat hown
    obtain ⟨a', c', hv'⟩ := j1.sl
    rw [List.length_append] at hv'
    subst hv'
    have HI := hidb (j1.lr HP.out)
    have H := hidb j2.drop
    clear j1 j2 hown hgrow hnil hat
    go_wp2_with (go_at_call 39; refine (sLayR HR.out H.out.at HI.out).mono ?_; rintro r1 w1 (⟨er, q, hq, rfl, hbu⟩ | ⟨z, s1, V1, hq, rfl, hs⟩) <;> first | (have H := hidb (H.out.trans hs); have HR := hidb hq; clear hs hq) | (have HR := hidb hq; have HBU := hidb (but_then H.out.but H.out.own hbu); clear hq hbu))
    · exact ⟨rfl, .inl ⟨_, _, HR.out, rfl, HBU.out⟩⟩
    · exact bodyPost_ret (v := iv z) (by simp [results, Tryz.results70, go_sem]) rfl (.inr ⟨_, _, _, HR.out, rfl, H.out⟩)

end Go.Proofs.YtdpfmmbfidknfaaGreatDoor


/- clauses. -/
namespace Go.Proofs.YtdpfmmbfidknfaaGreatDoor
open Go.RowKit Go.Lib
attribute [local go_sem] store_float f64bits
attribute [local go_sem ↓] Go.wp_at_zero Go.wp_at_succ
attribute [local go_sem] nd_p tk_k tk_x tk_n tk_f tk_p
variable {B g b o : Nat} {e : PM Nat}

namespace Gm
variable {α β γ : Type} {s s' : PS}
theorem bind2_ok {m : PM α} {f : α → PM β} {h : β → PM γ} {a : α} (e : m s = .ok (a, s')) : ((m >>= f) >>= h) s = (f a >>= h) s' := by rw [bind_at, bind_at, e, bind_at]
theorem bind2_err {m : PM α} {f : α → PM β} {h : β → PM γ} {er : Int × Nat} (e : m s = .error er) : ((m >>= f) >>= h) s = .error er := by rw [bind_at, bind_at, e]
theorem moreC_succ (c : PM Nat) (k : Nat) (l : List Nat) : moreC c (k + 1) l = (take ⟨#[59]⟩ >>= fun b => if b then (c >>= fun x => moreC c k (l ++ [x])) else pure l) := rfl
theorem moreC_t {c : PM Nat} {k : Nat} {l : List Nat} {G : List Nat → PM γ} (e : take ⟨#[59]⟩ s = .ok (true, s')) : (moreC c (k + 1) l >>= G) s = ((c >>= fun x => moreC c k (l ++ [x])) >>= G) s' := by
  rw [moreC_succ]; exact bind2_ok e
theorem moreC_f {c : PM Nat} {k : Nat} {l : List Nat} {G : List Nat → PM γ} (e : take ⟨#[59]⟩ s = .ok (false, s')) : (moreC c (k + 1) l >>= G) s = G l s' := by
  rw [bind_at]; unfold moreC; rw [bind_at, e]; rfl
end Gm

set_option maxHeartbeats 4000000 in
set_option maxRecDepth 100000 in
theorem pClauses {f : Nat} {m : PM Nat} (hF : FC B g b o f m) {P : Nat → Prop} {w : World} {V : Value} {s : PS} (h : At B g b o P w V s) :
    Calls Tryz.prog 53 #[.pointer (some ⟨g, 0, none⟩), .func (.func f) #[.pointer (some ⟨g, 0, none⟩)] #[]] w fun r w' => Rz B g b o P w V (Gm.clauses m s) iv r w' := by
  obtain ⟨i0, hi0, hz0, hz1, hz2⟩ := info_parts (P := Tryz.prog) (e := IT) (z := .int .i64 0) (size := 1) (bytes := 8) (by kernel_rfl)
  have H : Hid (St B g b o P w V w V s) := hidb h
  have HP := hidb h.plt
  obtain ⟨R, hR⟩ : ∃ R, Gm.clauses m s = R := ⟨_, rfl⟩
  rw [hR]
  have HR := hidb hR.symm
  have eg := hF.enter
  clear hR h
  go_enter Tryz.func53, Tryz.ntmps53
  go_wp2_with (first
    | (go_at_call 32; refine (sHere H.out.at).mono ?_; rintro r1 w1 ⟨t, hq, rfl, hs, hb⟩; have H := hidb (H.out.below hb); have HR := hidb (HR.out.trans (Gm.bind_here hq)); have Tt := hidb hq; clear hs hb hq)
    | (refine (hF.run H.out.at).mono ?_; rintro r1 w1 (⟨er, q, hq, rfl, hbu⟩ | ⟨x0, s1, V1, hq, rfl, hs⟩) <;> first | (have HF := hidb (hF.all _ H.out.ne _ _ hq).1; have HL := hidb hs; have H := hidb (H.out.trans hs); (first | (with_reducible have HR := hidb (HR.out.trans hq)) | have HR := hidb (HR.out.trans (Gm.bind_ok hq))); clear hs hq) | ((first | (with_reducible have HR := hidb (HR.out.trans hq)) | have HR := hidb (HR.out.trans (Gm.bind_err hq))); have HBU := hidb (but_then H.out.but H.out.own hbu); clear hq hbu)))
  · exact ⟨rfl, .inl ⟨_, _, HR.out, rfl, HBU.out⟩⟩
  obtain ⟨j1, j2⟩ := IR.lit H.out #[iv x0] [x0] rfl (by simp)
  have HI := hidb j1
  have H := hidb j2
  have HR := hidb (HR.out.trans (Gm.bind_left rfl))
  have htl := j2.tl
  clear j1 j2
  go_loopg [6] s1.ts.length (fun gf s5 wx => ∃ (l : List Nat) (sx : PS) (Vx : Value) (a : Option Addr) (c k : Nat), s5 = .slice a l.length c ∧ St B g b o (PV P (.slice a l.length c)) w V wx Vx sx ∧ IR wx w.heap.size g b Vx (.slice a l.length c) l ∧ R = (Gm.moreC m k l >>= fun l => Gm.lay ⟨20, ⟨#[]⟩, 0, 0, l, t.p⟩) sx ∧ sx.ts.length ≤ k ∧ k ≤ gf ∧ l.length + sx.ts.length ≤ 100001)
  case atStart => exact ⟨[x0], s1, V1, _, _, _, rfl, H.out, HI.out, HR.out, Nat.le_refl _, Nat.le_refl _, by simp; omega⟩
  case round =>
    obtain ⟨l, sx, Vx, a, c, k, hs3, hst, hir, hmore, hk, hkg, hll⟩ := hrel
    subst hs3
    have hpos : 0 < sx.ts.length := by obtain ⟨r, hr⟩ := Gm.ne_hd hst.ne; rw [hr]; simp
    obtain ⟨k', rfl⟩ : ∃ k', k = k' + 1 := ⟨k - 1, by omega⟩
    obtain ⟨g', rfl⟩ : ∃ g', gk = g' + 1 := ⟨gk - 1, by omega⟩
    have H := hidb hst
    have HI := hidb hir
    have HR := hidb hmore
    have hc1 : l.length + 1 ≤ maxLen := by unfold maxLen; omega
    have hc2 : (l.length + 1) * 8 ≤ 140737488355328 := by omega
    clear hst hir hmore
    go_wp2_with (first
      | (go_at_call 51; refine (sTake _ H.out.at).mono ?_; rintro r1 w1 (⟨s1, hq, rfl, hs⟩ | ⟨hq, rfl, hs⟩) <;> first | (have HR := hidb (HR.out.trans (Gm.moreC_t hq.1)); have HT := hidb hq.2; have H := hidb (H.out.trans hs); have HI := hidb (HI.out.step hs); clear hs hq) | (have HR := hidb (HR.out.trans (Gm.moreC_f hq)); have H := hidb (H.out.trans hs).drop; have HI := hidb ((HI.out.step hs).lr HP.out); clear hs hq))
      | (go_at_call 39; refine (sLayR HR.out H.out.at HI.out).mono ?_; rintro r1 w1 (⟨er, q, hq, rfl, hbu⟩ | ⟨z, s1, V1, hq, rfl, hs⟩) <;> first | (have H := hidb (H.out.trans hs); have HR := hidb hq; clear hs hq) | (have HR := hidb hq; have HBU := hidb (but_then H.out.but H.out.own hbu); clear hq hbu))
      | (at_builtin; refine wpList_append_own_at _ rfl _ _ 32 rfl w.heap.size IT i0 (.int .i64 0) 1 8 Tryz.underlying32 hi0 hz0 hz1 hz2 rfl (by decide) _ _ _ rfl (HI.out.own.alloc _) ⟨w1.heap.size, 0, none⟩ 1 1 [iv x] rfl rfl ?e51 ?e52 ?e53 ?e54 ?e55 ?_)
      | (refine (hF.run H.out.at).mono ?_; rintro r1 w1 (⟨er, q, hq, rfl, hbu⟩ | ⟨x, s2, V2, hq, rfl, hs⟩) <;> first | (have HF := hidb (hF.all _ H.out.ne _ _ hq).1; have HI := hidb (HI.out.step hs); have H := hidb (H.out.trans hs); have HR := hidb (HR.out.trans (Gm.bind2_ok hq)); clear hs hq) | (have HR := hidb (HR.out.trans (Gm.bind2_err hq)); have HBU := hidb (but_then H.out.but H.out.own hbu); clear hq hbu)))
    case e51 => intro q u hq; exact app_ints _ _ _ rfl q u hq
    case e52 => intro u hu; cases List.mem_singleton.1 hu; rfl
    case e53 => exact hc1
    case e54 => exact hc2
    case e55 => have := H.out.but.size; simp; omega
    · exact ⟨rfl, .inl ⟨_, _, HR.out, rfl, HBU.out⟩⟩
    · intro v' w3 hown hgrow hnil hat
      obtain ⟨j1, j2⟩ := IR.app (xs := [x]) H.out HI.out hgrow hat hown
      obtain ⟨a', c', rfl⟩ := j1.sl
      have HI := hidb j1
      have H := hidb j2
      clear j1 j2 hown hgrow hnil hat
      go_wp2_with fail
      go_roundg g'
      case measure => omega
      case rel => exact ⟨l ++ [x], s2, V2, a', c', k', rfl, H.out, HI.out, HR.out, by have := HT.out; have := HF.out.len; omega, by omega, by have := HT.out; have := HF.out.len; simp; omega⟩
    · exact ⟨rfl, .inl ⟨_, _, HR.out, rfl, HBU.out⟩⟩
    · exact bodyPost_ret (v := iv z) (by simp [results, Tryz.results53, go_sem]) rfl (.inr ⟨_, _, _, HR.out, rfl, H.out⟩)

set_option maxHeartbeats 2000000 in
set_option maxRecDepth 100000 in
theorem pClausesBehind {f : Nat} {m : PM Nat} (hF : FC B g b o f m) (y : ByteArray) {P : Nat → Prop} {w : World} {V : Value} {s : PS} (h : At B g b o P w V s) :
    Calls Tryz.prog 114 #[.pointer (some ⟨g, 0, none⟩), .string y, .func (.func f) #[.pointer (some ⟨g, 0, none⟩)] #[]] w fun r w' => Rz B g b o P w V (Gm.clausesBehind y m s) iv r w' := by
  have H : Hid (St B g b o P w V w V s) := hidb h
  obtain ⟨R, hR⟩ : ∃ R, Gm.clausesBehind y m s = R := ⟨_, rfl⟩
  rw [hR]
  have HR := hidb hR.symm
  clear hR
  clear h
  go_enter Tryz.func114, Tryz.ntmps114
  go_wp2_with (first
    | (go_at_call 51; refine (sTake _ H.out.at).mono ?_; rintro r1 w1 (⟨s1, hq, rfl, hs⟩ | ⟨hq, rfl, hs⟩) <;> first | (have HR := hidb (HR.out.trans (Gm.bind_t hq.1)); have HT := hidb hq.2; have HL := hidb hs; have H := hidb (H.out.trans hs);  clear hs hq) | (have HR := hidb (HR.out.trans (Gm.bind_f hq)); have HL := hidb hs; have H := hidb (H.out.trans hs);  clear hs hq))
    | (go_at_call 53; refine (pClauses hF H.out.at).mono ?_; rintro r1 w1 (⟨er, q, hq, rfl, hbu⟩ | ⟨x, s1, V1, hq, rfl, hs⟩) <;> first | (have HL := hidb hs; have H := hidb (H.out.trans hs); (first | (with_reducible have HR := hidb (HR.out.trans hq)) | have HR := hidb (HR.out.trans (Gm.bind_ok hq)));  clear hs hq) | ((first | (with_reducible have HR := hidb (HR.out.trans hq)) | have HR := hidb (HR.out.trans (Gm.bind_err hq))); have HBU := hidb (but_then H.out.but H.out.own hbu); clear hq hbu))
    | (go_at_call 82; refine (sLayNone 20 H.out.at).mono ?_; rintro r1 w1 (⟨er, q, hq, rfl, hbu⟩ | ⟨x, s1, V1, hq, rfl, hs⟩) <;> first | (have HL := hidb hs; have H := hidb (H.out.trans hs); (first | (with_reducible have HR := hidb (HR.out.trans hq)) | have HR := hidb (HR.out.trans (Gm.bind_ok hq)));  clear hs hq) | ((first | (with_reducible have HR := hidb (HR.out.trans hq)) | have HR := hidb (HR.out.trans (Gm.bind_err hq))); have HBU := hidb (but_then H.out.but H.out.own hbu); clear hq hbu)))
  · exact ⟨rfl, .inl ⟨_, _, HR.out, rfl, HBU.out⟩⟩
  · exact bodyPost_ret (v := iv x) (by simp [results, Tryz.results114, go_sem]) rfl (.inr ⟨_, _, _, HR.out, rfl, H.out⟩)
  · exact ⟨rfl, .inl ⟨_, _, HR.out, rfl, HBU.out⟩⟩
  · exact bodyPost_ret (v := iv x) (by simp [results, Tryz.results114, go_sem]) rfl (.inr ⟨_, _, _, HR.out, rfl, H.out⟩)

set_option maxHeartbeats 2000000 in
set_option maxRecDepth 100000 in
theorem pClause (hE : EC B g b o e) {P : Nat → Prop} {w : World} {V : Value} {s : PS} (h : At B g b o P w V s) :
    Calls Tryz.prog 111 #[.pointer (some ⟨g, 0, none⟩)] w fun r w' => Rz B g b o P w V (Gm.clause e s) iv r w' := by
  have H : Hid (St B g b o P w V w V s) := hidb h
  obtain ⟨R, hR⟩ : ∃ R, Gm.clause e s = R := ⟨_, rfl⟩
  rw [hR]
  have HR := hidb hR.symm
  clear hR
  have HP := hidb h.plt
  have HE := hidb hE
  clear h hE
  go_enter Tryz.func111, Tryz.ntmps111
  go_wp2_with (first
    | (go_at_call 32; refine (sHere H.out.at).mono ?_; rintro r1 w1 ⟨t, hq, rfl, hs, hb⟩; have H := hidb (H.out.below hb); have HR := hidb (HR.out.trans (Gm.bind_here hq)); have Tt := hidb hq; clear hs hb hq)
    | (go_at_call 84; refine (HE.out.run H.out.at).mono ?_; rintro r1 w1 (⟨er, q, hq, rfl, hbu⟩ | ⟨x, s1, V1, hq, rfl, hs⟩) <;> first | (have HL := hidb hs; have H := hidb (H.out.trans hs); (first | (with_reducible have HR := hidb (HR.out.trans hq)) | have HR := hidb (HR.out.trans (Gm.bind_ok hq)));  clear hs hq) | ((first | (with_reducible have HR := hidb (HR.out.trans hq)) | have HR := hidb (HR.out.trans (Gm.bind_err hq))); have HBU := hidb (but_then H.out.but H.out.own hbu); clear hq hbu))
    | (go_at_call 70; refine (pTail HE.out t.p ⟨#[]⟩ [x] (IR.lit H.out #[iv x] [x] rfl (by simp)).2 (IR.lit H.out #[iv x] [x] rfl (by simp)).1 (by simp) HP.out).mono ?_; rintro r1 w1 (⟨er, q, hq, rfl, hbu⟩ | ⟨z, s1, V1, hq, rfl, hs⟩) <;> first | (have H := hidb hs; (first | (with_reducible have HR := hidb (HR.out.trans hq)) | have HR := hidb (HR.out.trans (Gm.bind_ok hq))); clear hs hq) | ((first | (with_reducible have HR := hidb (HR.out.trans hq)) | have HR := hidb (HR.out.trans (Gm.bind_err hq))); have HBU := hidb (hbu); clear hq hbu)))
  · exact ⟨rfl, .inl ⟨_, _, HR.out, rfl, HBU.out⟩⟩
  · exact ⟨rfl, .inl ⟨_, _, HR.out, rfl, HBU.out⟩⟩
  · exact bodyPost_ret (v := iv z) (by simp [results, Tryz.results111, go_sem]) rfl (.inr ⟨_, _, _, HR.out, rfl, H.out⟩)

set_option maxHeartbeats 2000000 in
set_option maxRecDepth 100000 in
theorem pGclause (hE : EC B g b o e) {P : Nat → Prop} {w : World} {V : Value} {s : PS} (h : At B g b o P w V s) :
    Calls Tryz.prog 113 #[.pointer (some ⟨g, 0, none⟩)] w fun r w' => Rz B g b o P w V (Gm.gclause e s) iv r w' := by
  have H : Hid (St B g b o P w V w V s) := hidb h
  obtain ⟨R, hR⟩ : ∃ R, Gm.gclause e s = R := ⟨_, rfl⟩
  rw [hR]
  have HR := hidb hR.symm
  clear hR
  have HP := hidb h.plt
  have HE := hidb hE
  clear h hE
  go_enter Tryz.func113, Tryz.ntmps113
  go_wp2_with (first
    | (go_at_call 32; refine (sHere H.out.at).mono ?_; rintro r1 w1 ⟨t, hq, rfl, hs, hb⟩; have H := hidb (H.out.below hb); have HR := hidb (HR.out.trans (Gm.bind_here hq)); have Tt := hidb hq; clear hs hb hq)
    | (go_at_call 71; refine (pArgs HE.out H.out.at).mono ?_; rintro r1 w1 (⟨er, q, hq, rfl, hbu⟩ | ⟨l, s1, V1, v, hq, rfl, hs, hs2, hi, hlen⟩) <;> first | (obtain ⟨la, lc, rfl⟩ := hi.sl; have HI := hidb (hi.rebase H.out.but.size); have HN := hidb hlen; have H := hidb (H.out.trans hs2); (first | (with_reducible have HR := hidb (HR.out.trans hq)) | have HR := hidb (HR.out.trans (Gm.bind_ok hq))); clear hs hs2 hi hq hlen) | ((first | (with_reducible have HR := hidb (HR.out.trans hq)) | have HR := hidb (HR.out.trans (Gm.bind_err hq))); have HBU := hidb (but_then H.out.but H.out.own hbu); clear hq hbu))
    | (go_at_call 70; refine (pTail HE.out t.p ⟨#[]⟩ l H.out HI.out HN.out HP.out).mono ?_; rintro r1 w1 (⟨er, q, hq, rfl, hbu⟩ | ⟨z, s1, V1, hq, rfl, hs⟩) <;> first | (have H := hidb hs; (first | (with_reducible have HR := hidb (HR.out.trans hq)) | have HR := hidb (HR.out.trans (Gm.bind_ok hq))); clear hs hq) | ((first | (with_reducible have HR := hidb (HR.out.trans hq)) | have HR := hidb (HR.out.trans (Gm.bind_err hq))); have HBU := hidb (hbu); clear hq hbu)))
  · exact ⟨rfl, .inl ⟨_, _, HR.out, rfl, HBU.out⟩⟩
  · exact ⟨rfl, .inl ⟨_, _, HR.out, rfl, HBU.out⟩⟩
  · exact bodyPost_ret (v := iv z) (by simp [results, Tryz.results113, go_sem]) rfl (.inr ⟨_, _, _, HR.out, rfl, H.out⟩)

end Go.Proofs.YtdpfmmbfidknfaaGreatDoor


