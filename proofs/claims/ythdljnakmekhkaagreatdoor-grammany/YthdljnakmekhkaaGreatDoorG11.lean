import Derived.Test.YthdljnakmekhkaaGreatDoorG10
import Derived.Laws.AppendOwnNone
import Derived.Deep.RegionHeld2
/- called, call. -/
namespace Go.Proofs.YthdljnakmekhkaaGreatDoor
open Go.RowKit Go.Lib
attribute [local go_sem] store_float f64bits
attribute [local go_sem ↓] Go.wp_at_zero Go.wp_at_succ
attribute [local go_sem] nd_p tk_k tk_x tk_n tk_f tk_p
variable {B g b o : Nat} {e : PM Nat}

theorem args_lt (he : Gm.All e) {s s' : PS} {l : List Nat} (hn : Ne s) (h : Gm.args e s = .ok (l, s')) : s'.ts.length < s.ts.length := by
  unfold Gm.args at h
  rw [Gm.bind_at] at h
  cases hm : Gm.need ⟨#[40]⟩ s with
  | error er => simp [hm] at h
  | ok q =>
    obtain ⟨u, s1⟩ := q
    simp only [hm] at h
    obtain ⟨h1, h2⟩ := Gm.all_need _ s hn u s1 hm
    have hc : s1 = Gm.cut s := by
      simp only [Gm.need] at hm
      split at hm
      · cases hm; rfl
      · cases hm
    obtain ⟨r, hr⟩ := Gm.ne_hd hn
    have hlt : s1.ts.length < s.ts.length := by subst hc; simp [Gm.cut, hr]
    have h3 := (Gm.all_bind (Gm.all_take _) (fun _ => Gm.all_ite (Gm.all_pure _) (Gm.all_bind (Gm.all_exprs he _) fun _ => Gm.all_bind (Gm.all_need _) fun _ => Gm.all_pure _)) s1 h2 l s' h).1.len
    omega

theorem called_t {s : PS} {t : Tk} (h : Gm.hd s = t) (hk : t.k = 1) (hm : Gm.isM (Gm.hd2 s) ⟨#[40]⟩ = true) : Gm.called e s = (Gm.next >>= fun _ => Gm.args e >>= fun l => Gm.lay ⟨11, t.x, 0, 0, l, t.p⟩) s := by
  subst h
  exact Gm.ite_t ⟨hk, hm⟩
theorem called_f {s : PS} {t : Tk} (h : Gm.hd s = t) (hk : ¬ (t.k = 1 ∧ Gm.isM (Gm.hd2 s) ⟨#[40]⟩ = true)) : Gm.called e s = Gm.primary e s := by
  subst h
  exact Gm.ite_f hk

set_option maxHeartbeats 2000000 in
set_option maxRecDepth 100000 in
theorem pCalled (hE : EC B g b o e) {P : Nat → Prop} {w : World} {V : Value} {s : PS} (h : At B g b o P w V s) :
    Calls Tryz.prog 147 #[.pointer (some ⟨g, 0, none⟩)] w fun r w' => Rz B g b o P w V (Gm.called e s) iv r w' := by
  have H : Hid (St B g b o P w V w V s) := hidb h
  obtain ⟨R, hR⟩ : ∃ R, Gm.called e s = R := ⟨_, rfl⟩
  rw [hR]
  have HR := hidb hR.symm
  clear hR
  have HP := hidb h.plt
  have HE := hidb hE
  clear h hE
  obtain ⟨t0, ht⟩ : ∃ t, Gm.hd s = t := ⟨_, rfl⟩
  obtain ⟨tk, tx, tn, tf, tp⟩ := t0
  have TK := hidb ht
  clear ht
  by_cases h1 : tk = 1
  · subst h1
    go_enter Tryz.func147, Tryz.ntmps147
    go_wp2_with (first
      | (go_at_call 46; refine (sHere H.out.at).mono ?_; rintro r1 w1 ⟨t, hq, rfl, hs, hb⟩; obtain rfl : t = ⟨1, tx, tn, tf, tp⟩ := hq.symm.trans TK.out; have H := hidb (H.out.below hb); clear hs hb hq)
      | (go_at_call 152; refine (sAhead _ H.out.at (hk_of TK.out (by simp))).mono ?_; rintro r1 w2 ⟨⟨hq, rfl⟩ | ⟨hq, rfl⟩, hb⟩ <;> first | (have HR := hidb (HR.out.trans (called_t TK.out rfl hq)); have H := hidb (H.out.below hb); clear hb hq) | (have HR := hidb (HR.out.trans (called_f TK.out (by simp [hq]))); have H := hidb (H.out.below hb); clear hb hq))
      | (go_at_call 153; refine (pPrimary HE.out H.out.at).mono ?_; rintro r1 w1 (⟨er, q, hq, rfl, hbu⟩ | ⟨z, s1, V1, hq, rfl, hs⟩) <;> first | (have HL := hidb hs; have H := hidb (H.out.trans hs); (first | (with_reducible have HR := hidb (HR.out.trans hq)) | have HR := hidb (HR.out.trans (Gm.bind_ok hq)));  clear hs hq) | ((first | (with_reducible have HR := hidb (HR.out.trans hq)) | have HR := hidb (HR.out.trans (Gm.bind_err hq))); have HBU := hidb (but_then H.out.but H.out.own hbu); clear hq hbu))
      | (go_at_call 50; refine (sNext H.out.at (hk_of TK.out (by simp))).mono ?_; rintro r1 wn ⟨t, s1, hq, rfl, hs⟩; obtain rfl : t = ⟨1, tx, tn, tf, tp⟩ := hq.1.symm.trans TK.out; have H := hidb (H.out.trans hs); have HR := hidb (HR.out.trans (Gm.bind_next hq)); have HG := hidb H.out.glt; have HF := hidb H.out.at.fresh; have BX := hidb (Box.new wn 41 (.int .i64 1) (.string tx) (.int .i64 tn) (.float .f64 tf) (.int .i64 (tp : Int))); have H := hidb (H.out.below (below_new wn (.cells #[.int .i64 1, .string tx, .int .i64 tn, .float .f64 tf, .int .i64 (tp : Int)] 41))); clear hs hq)
      | (go_at_call 103; refine (pArgs HE.out H.out.at).mono ?_; rintro r1 w1 (⟨er, q, hq, rfl, hbu⟩ | ⟨l, s1, V1, v, hq, rfl, hs, hs2, hi, hlen⟩) <;> first | (obtain ⟨d0, d1, d2, d3, d4, -⟩ := box_beside hs BX.out (by have := HG.out; omega) HF.out; obtain ⟨la, lc, rfl⟩ := hi.sl; have HI := hidb (hi.rebase H.out.but.size); have H := hidb (H.out.trans hs2); (first | (with_reducible have HR := hidb (HR.out.trans hq)) | have HR := hidb (HR.out.trans (Gm.bind_ok hq))); clear hs hs2 hi hq hlen) | ((first | (with_reducible have HR := hidb (HR.out.trans hq)) | have HR := hidb (HR.out.trans (Gm.bind_err hq))); have HBU := hidb (but_then H.out.but H.out.own hbu); clear hq hbu))
      | (go_at_call 53; refine (sLayR HR.out H.out.drop.at (HI.out.lr HP.out)).mono ?_; rintro r1 w1 (⟨er, q, hq, rfl, hbu⟩ | ⟨z, s1, V1, hq, rfl, hs⟩) <;> first | (have H := hidb (H.out.drop.trans hs); have HR := hidb hq; clear hs hq) | (have HR := hidb hq; have HBU := hidb (but_then H.out.but H.out.own hbu); clear hq hbu)))
    all_goals first
      | exact ⟨rfl, .inl ⟨_, _, HR.out, rfl, HBU.out⟩⟩
      | exact bodyPost_ret (v := iv z) (by simp [results, Tryz.results147, go_sem]) rfl (.inr ⟨_, _, _, HR.out, rfl, H.out⟩)
  have HR := hidb (HR.out.trans (called_f TK.out (by simp [h1])))
  go_enter Tryz.func147, Tryz.ntmps147
  go_wp2_with (first
    | (go_at_call 46; refine (sHere H.out.at).mono ?_; rintro r1 w1 ⟨t, hq, rfl, hs, hb⟩; obtain rfl : t = ⟨tk, tx, tn, tf, tp⟩ := hq.symm.trans TK.out; have H := hidb (H.out.below hb); clear hs hb hq)
    | (go_at_call 153; refine (pPrimary HE.out H.out.at).mono ?_; rintro r1 w1 (⟨er, q, hq, rfl, hbu⟩ | ⟨z, s1, V1, hq, rfl, hs⟩) <;> first | (have HL := hidb hs; have H := hidb (H.out.trans hs); (first | (with_reducible have HR := hidb (HR.out.trans hq)) | have HR := hidb (HR.out.trans (Gm.bind_ok hq)));  clear hs hq) | ((first | (with_reducible have HR := hidb (HR.out.trans hq)) | have HR := hidb (HR.out.trans (Gm.bind_err hq))); have HBU := hidb (but_then H.out.but H.out.own hbu); clear hq hbu)))
  all_goals first
    | exact ⟨rfl, .inl ⟨_, _, HR.out, rfl, HBU.out⟩⟩
    | exact bodyPost_ret (v := iv z) (by simp [results, Tryz.results147, go_sem]) rfl (.inr ⟨_, _, _, HR.out, rfl, H.out⟩)

set_option maxHeartbeats 2000000 in
set_option maxRecDepth 100000 in
theorem pCall (hE : EC B g b o e) {P : Nat → Prop} {w : World} {V : Value} {s : PS} (h : At B g b o P w V s) :
    Calls Tryz.prog 144 #[.pointer (some ⟨g, 0, none⟩)] w fun r w' => Rz B g b o P w V (Gm.call e s) iv r w' := by
  have H : Hid (St B g b o P w V w V s) := hidb h
  obtain ⟨R, hR⟩ : ∃ R, Gm.call e s = R := ⟨_, rfl⟩
  rw [hR]
  have HR := hidb hR.symm
  clear hR
  have HP := hidb h.plt
  have HE := hidb hE
  clear h hE
  go_enter Tryz.func144, Tryz.ntmps144
  go_wp2_with (first
    | (go_at_call 46; refine (sHere H.out.at).mono ?_; rintro r1 w1 ⟨t, hq, rfl, hs, hb⟩; have H := hidb (H.out.below hb); have HR := hidb (HR.out.trans (Gm.bind_here hq)); have Tt := hidb hq; clear hs hb hq)
    | (go_at_call 147; refine (pCalled HE.out H.out.at).mono ?_; rintro r1 w1 (⟨er, q, hq, rfl, hbu⟩ | ⟨x1, s1, V1, hq, rfl, hs⟩) <;> first | (have HL := hidb hs; have H := hidb (H.out.trans hs); (first | (with_reducible have HR := hidb (HR.out.trans hq)) | have HR := hidb (HR.out.trans (Gm.bind_ok hq)));  clear hs hq) | ((first | (with_reducible have HR := hidb (HR.out.trans hq)) | have HR := hidb (HR.out.trans (Gm.bind_err hq))); have HBU := hidb (but_then H.out.but H.out.own hbu); clear hq hbu)))
  · exact ⟨rfl, .inl ⟨_, _, HR.out, rfl, HBU.out⟩⟩
  have HR := hidb (HR.out.trans (Gm.bind_left rfl))
  go_loopg [4] s1.ts.length (fun gf s5 wx => ∃ (x : Nat) (sx : PS) (Vx : Value) (k : Nat), s5 = iv x ∧ St B g b o P w V wx Vx sx ∧ R = Gm.applied e t.p k x sx ∧ sx.ts.length ≤ k ∧ k ≤ gf)
  case atStart => exact ⟨x1, s1, V1, _, rfl, H.out, HR.out, Nat.le_refl _, Nat.le_refl _⟩
  case round =>
    obtain ⟨x, sx, Vx, k, hs5, hst, hmore, hk, hkg⟩ := hrel
    subst hs5
    have hpos : 0 < sx.ts.length := by obtain ⟨r, hr⟩ := Gm.ne_hd hst.ne; rw [hr]; simp
    obtain ⟨k', rfl⟩ : ∃ k', k = k' + 1 := ⟨k - 1, by omega⟩
    obtain ⟨g', rfl⟩ : ∃ g', gk = g' + 1 := ⟨gk - 1, by omega⟩
    have H := hidb hst
    have HR := hidb hmore
    clear hst hmore
    obtain ⟨i0, hi0, hz0, hz1, hz2⟩ := info_parts (P := Tryz.prog) (e := IT) (z := .int .i64 0) (size := 1) (bytes := 8) (by kernel_rfl)
    go_wp2_with (first
      | (go_at_call 101; refine (sIsU _ H.out.at).mono ?_; rintro r1 w1 ⟨u, hu, ⟨hq, rfl⟩ | ⟨hq, rfl⟩, hb⟩ <;> first | (have HR := hidb ((HR.out.trans (Gm.bind_here hu)).trans (Gm.ite_t hq)); have H := hidb (H.out.below hb); clear hb hq hu) | (have HR := hidb ((HR.out.trans (Gm.bind_here hu)).trans (Gm.ite_f (by simp [hq]))); have H := hidb (H.out.below hb); clear hb hq hu))
      | (go_at_call 103; refine (pArgs HE.out (IR.lit H.out #[iv x] [x] rfl (by simp)).2.at).mono ?_; rintro r1 w2 (⟨er, q, hq, rfl, hbu⟩ | ⟨l, s1, V1, v, hq, rfl, hs, hs2, hi, hlen⟩) <;> first | (have HF := hidb (args_lt HE.out.all H.out.ne hq); have HI := hidb ((IR.lit H.out #[iv x] [x] rfl (by simp)).1.step hs); have H := hidb ((IR.lit H.out #[iv x] [x] rfl (by simp)).2.trans hs); have HR := hidb (HR.out.trans (Gm.bind_ok hq)); have HN := hidb hlen; have HA := hidb hi.own; (rcases hi.own.2 with ⟨hv0, hn0⟩ | ⟨qa, ca, cur, hv0, -⟩) <;> first | (obtain rfl := List.length_eq_zero_iff.1 hn0; subst hv0; clear hs hs2 hi hq hlen hn0) | (subst hv0; clear hs hs2 hi hq hlen)) | (have HR := hidb (HR.out.trans (Gm.bind_err hq)); have HBU := hidb (but_then (IR.lit H.out #[iv x] [x] rfl (by simp)).2.but (IR.lit H.out #[iv x] [x] rfl (by simp)).2.own hbu); clear hq hbu))
      | (at_builtin; refine wpList_append_own_none rfl _ _ 44 rfl w.heap.size IT i0 1 Tryz.underlying44 hi0 _ _ _ rfl HI.out.own rfl ?_)
      | (at_builtin; refine wpList_append_own_at _ rfl _ _ 44 rfl w.heap.size IT i0 (.int .i64 0) 1 8 Tryz.underlying44 hi0 hz0 hz1 hz2 rfl (by decide) _ _ _ rfl HI.out.own ⟨qa, 0, none⟩ l.length ca (l.map iv) rfl ?e50 ?e51 ?e52 ?e53 ?e54 ?e55 ?_)
      | (go_at_call 53; refine (sLay ⟨12, ⟨#[]⟩, 0, 0, _, t.p⟩ _ H.out.drop.at (HI.out.lr HP.out)).mono ?_; rintro r1 w2 (⟨er, q, hq, rfl, hbu⟩ | ⟨z, s1, V1, hq, rfl, hs⟩) <;> first | (have HO := hidb (Gm.all_lay _ _ H.out.ne _ _ hq).1; have H := hidb (H.out.drop.trans hs); have HR := hidb (HR.out.trans (Gm.bind_ok hq)); clear hs hq) | (have HR := hidb (HR.out.trans (Gm.bind_err hq)); have HBU := hidb (but_then H.out.but H.out.own hbu); clear hq hbu)))
    case e50 => simp
    case e51 => intro j u hj; exact HA.out.cells rfl j u hj
    case e52 => intro u hu; simp at hu; obtain ⟨y, _, rfl⟩ := hu; rfl
    case e53 => have := HN.out; unfold maxLen; simp; omega
    case e54 => have := HN.out; simp; omega
    case e55 => exact H.out.but.size
    · exact ⟨rfl, .inl ⟨_, _, HR.out, rfl, HBU.out⟩⟩
    · exact ⟨rfl, .inl ⟨_, _, HR.out, rfl, HBU.out⟩⟩
    · go_roundg g'
      case measure => omega
      case rel => exact ⟨z, _, _, k', rfl, H.out, HR.out, by have h1 := HF.out; have h3 := HO.out.len; omega, by omega⟩
    · intro v' w3 hown hgrow hnil hat
      obtain ⟨j1, j2⟩ := IR.grown (l' := x :: l) H.out HI.out (Below.refl _ _) hgrow (fun k hk => by rcases hat with h | h <;> rw [h] at hk; (exact .inl hk); (cases hk; exact .inr (Nat.le_refl _))) (by rw [List.length_cons, Nat.add_comm]; exact hown)
      obtain ⟨a', c', hv'⟩ := j1.sl
      subst hv'
      have HI := hidb j1
      have H := hidb j2
      clear j1 j2 hown hgrow hnil hat
      go_wp2_with (go_at_call 53; refine (sLay ⟨12, ⟨#[]⟩, 0, 0, _, t.p⟩ _ H.out.drop.at (HI.out.lr HP.out)).mono ?_; rintro r1 w2 (⟨er, q, hq, rfl, hbu⟩ | ⟨z, s1, V1, hq, rfl, hs⟩) <;> first | (have HO := hidb (Gm.all_lay _ _ H.out.ne _ _ hq).1; have H := hidb (H.out.drop.trans hs); have HR := hidb (HR.out.trans (Gm.bind_ok hq)); clear hs hq) | (have HR := hidb (HR.out.trans (Gm.bind_err hq)); have HBU := hidb (but_then H.out.but H.out.own hbu); clear hq hbu))
      · exact ⟨rfl, .inl ⟨_, _, HR.out, rfl, HBU.out⟩⟩
      · go_roundg g'
        case measure => omega
        case rel => exact ⟨z, _, _, k', rfl, H.out, HR.out, by have h1 := HF.out; have h3 := HO.out.len; omega, by omega⟩
    · exact bodyPost_ret (v := iv x) (by simp [results, Tryz.results144, go_sem]) rfl (.inr ⟨_, _, _, HR.out, rfl, H.out⟩)

end Go.Proofs.YthdljnakmekhkaaGreatDoor


/- unary. -/
namespace Go.Proofs.YthdljnakmekhkaaGreatDoor
open Go.RowKit Go.Lib
attribute [local go_sem] store_float f64bits
attribute [local go_sem ↓] Go.wp_at_zero Go.wp_at_succ
attribute [local go_sem] nd_p tk_k tk_x tk_n tk_f tk_p
variable {B g b o : Nat} {e : PM Nat}

theorem tkCells_get : ∀ (l : List Tk) (m : Nat) (t : Tk), l[m]? = some t → ∀ j, j < 5 → (tkCells l)[m * 5 + j]? = t.cells[j]?
  | [], _, _, h, _, _ => by simp at h
  | u :: r, 0, t, h, j, hj => by
    simp at h
    subst h
    have : tkCells (u :: r) = u.cells ++ tkCells r := rfl
    rw [this, Nat.zero_mul, Nat.zero_add, List.getElem?_append_left (by simpa [Tk.cells] using hj)]
  | u :: r, m + 1, t, h, j, hj => by
    have : tkCells (u :: r) = u.cells ++ tkCells r := rfl
    rw [this, List.getElem?_append_right (by simp [Tk.cells]; omega)]
    have h5 : u.cells.length = 5 := rfl
    rw [h5, show (m + 1) * 5 + j - 5 = m * 5 + j by omega]
    exact tkCells_get r m t (by simpa using h) j hj

theorem signs_t {γ : Type} {s s' : PS} {u : Tk} {k : Nat} {l : List Tk} {G : List Tk → PM γ} (h : Gm.hd s = u) (hm : Gm.isM u ⟨#[45]⟩ = true ∨ Gm.isM u ⟨#[110, 111, 116]⟩ = true) (hc : Gm.cut s = s') : (Gm.signs (k + 1) l >>= G) s = (Gm.signs k (l ++ [u]) >>= G) s' := by
  subst h hc
  rw [Gm.bind_at, Gm.bind_at]
  have : Gm.signs (k + 1) l s = Gm.signs k (l ++ [Gm.hd s]) (Gm.cut s) := Gm.ite_t hm
  rw [this]
theorem signs_f {γ : Type} {s : PS} {u : Tk} {k : Nat} {l : List Tk} {G : List Tk → PM γ} (h : Gm.hd s = u) (hm : ¬ (Gm.isM u ⟨#[45]⟩ = true ∨ Gm.isM u ⟨#[110, 111, 116]⟩ = true)) : (Gm.signs (k + 1) l >>= G) s = G l s := by
  subst h
  rw [Gm.bind_at]
  have : Gm.signs (k + 1) l s = .ok (l, s) := Gm.ite_f hm
  rw [this]
theorem app_tk (w : World) (t : Tk) (q : Nat) (hg : q = w.heap.size) (j : Nat) (u : Value) (hj : t.cells[j]? = some u) : (w.alloc (.cells #[.int .i64 t.k, .string t.x, .int .i64 t.n, .float .f64 t.f, .int .i64 (t.p : Int)] TT)).cell? ((⟨q, 0, none⟩ : Addr).add j) = some u := by
  subst hg
  match j, hj with
  | 0, hj => simp [Tk.cells] at hj; subst hj; simp [Addr.add]
  | 1, hj => simp [Tk.cells] at hj; subst hj; simp [Addr.add]
  | 2, hj => simp [Tk.cells] at hj; subst hj; simp [Addr.add]
  | 3, hj => simp [Tk.cells] at hj; subst hj; simp [Addr.add]
  | 4, hj => simp [Tk.cells] at hj; subst hj; simp [Addr.add]
  | (j + 5), hj => simp [Tk.cells] at hj
theorem layOps_step {x y z : Nat} {s s' s'' : PS} {t : Tk} {l r : List Tk} (hd : l = t :: r) (h : Gm.layOps r x s = .ok (y, s')) (ho : Gm.op t.p t.x [y] s' = .ok (z, s'')) : Gm.layOps l x s = .ok (z, s'') := by
  subst hd
  exact (Gm.bind_ok h).trans ho
theorem layOps_err {x : Nat} {s : PS} {er : Int × Nat} {r : List Tk} : ∀ (a : List Tk), Gm.layOps r x s = .error er → Gm.layOps (a ++ r) x s = .error er
  | [], h => h
  | _ :: a, h => Gm.bind_err (layOps_err a h)
theorem layOps_fell {x y m : Nat} {s s' : PS} {t : Tk} {l r : List Tk} {er : Int × Nat} (hd : l.drop m = t :: r) (h : Gm.layOps r x s = .ok (y, s')) (ho : Gm.op t.p t.x [y] s' = .error er) : Gm.layOps l x s = .error er := by
  have h1 : Gm.layOps (l.drop m) x s = .error er := by rw [hd]; exact (Gm.bind_ok h).trans ho
  have h2 := layOps_err (l.take m) h1
  rwa [List.take_append_drop] at h2

/-- A row of tokens of the call's own. -/
structure TR (w : World) (C g b : Nat) (V v : Value) (l : List Tk) : Prop where
  own : w.ownsRow C TT 5 v l.length (tkCells l)
  ng : v.ownBlock ≠ some g
  nb : v.ownBlock ≠ some b
  nv : ∀ k, v.ownBlock = some k → V.ownBlock ≠ some k
section
variable {C : Nat} {P : Nat → Prop} {w0 w w' : World} {V0 V V' v : Value} {s s' : PS} {l : List Tk}
theorem TR.step (h : TR w C g b V v l) (h' : St B g b o P w V w' V' s') : TR w' C g b V' v l := by
  refine ⟨row_but h.own h'.but ?_, h.ng, h.nb, fun k hk => h'.beside (row_lt h.own k hk) (h.nv k hk)⟩
  rintro k hk (rfl | hS)
  · exact h.ng hk
  · exact h.nv k hk hS
theorem TR.below (h : TR w C g b V v l) (hb : Below w.heap.size w w') : TR w' C g b V v l := ⟨row_but h.own (But.of_below (S := fun _ => False) hb) (fun _ _ h => h), h.ng, h.nb, h.nv⟩
theorem TR.none (w : World) (C g b : Nat) (V : Value) : TR w C g b V (.slice none 0 0) [] := ⟨⟨rfl, .inl ⟨rfl, rfl⟩⟩, by simp [Value.ownBlock], by simp [Value.ownBlock], by simp [Value.ownBlock]⟩
theorem TR.sl (h : TR w C g b V v l) : ∃ a c, v = .slice a l.length c := by
  rcases h.own.2 with ⟨hv, hn⟩ | ⟨q, cap, cur, hv, _⟩
  · exact ⟨Option.none, 0, by rw [hv, hn]⟩
  · exact ⟨_, _, hv⟩
theorem TR.grown (h : St B g b o (PV P v) w0 V0 w V s) (hi : TR w w0.heap.size g b V v l) {X : World} (hX : Below w.heap.size w X) {v' : Value} {l' : List Tk} (hG : X.grownBy w' v.ownBlock) (hA : ∀ k, v'.ownBlock = some k → v.ownBlock = some k ∨ X.heap.size ≤ k)
    (ho : w'.ownsRow w0.heap.size TT 5 v' l'.length (tkCells l')) : TR w' w0.heap.size g b V v' l' ∧ St B g b o (PV P v') w0 V0 w' V s := by
  have hXs := hX.size
  have hGs := hG.size
  have hw0 := h.but.size
  have hB3 : But (fun k => v.ownBlock = some k) w w' := (But.of_below hX).trans (grown_but hG)
  have hvg := hi.ng
  have hvb := hi.nb
  have hk' : ∀ k, v'.ownBlock = some k → k ≠ g ∧ k ≠ b ∧ V.ownBlock ≠ some k := by
    intro k hk
    rcases hA k hk with e | e
    · exact ⟨fun he => hi.ng (he ▸ e), fun he => hi.nb (he ▸ e), hi.nv k e⟩
    · exact ⟨by have := h.glt; omega, by have := h.blt; omega, fun he => by have := h.vlt k he; omega⟩
  refine ⟨⟨ho, fun he => (hk' g he).1 rfl, fun he => (hk' b he).2.1 rfl, fun k he => (hk' k he).2.2⟩, ?_⟩
  have hlo : ∀ k, v.ownBlock = some k → w0.heap.size ≤ k := fun k e => (hi.own.lt k e).1
  refine ⟨h.pb.but hB3 (fun e => hi.ng e) (fun e => hi.nb e), ?_, by have := h.le; omega, h.ne, h.op, ⟨hB3.os.trans h.but.os, hB3.tape.trans h.but.tape, hB3.output.trans h.but.output, by omega, fun k hk hs => ?_⟩, h.own, fun k hk => ?_, fun k hk => ?_, h.tl⟩
  · have h1 : NS X B g b (PV P v) V s.ns := h.ns.but (But.of_below (S := fun _ => False) hX) (fun _ _ h => h) (fun _ h => h.elim)
    obtain ⟨⟨vs, a1, a2, a3⟩, a4, a5, a6⟩ := h1
    refine ⟨⟨vs, a1, row_but a2 (grown_but hG) (fun k hV he => hi.nv k he hV), fun i n u hn hu => ?_⟩, a4, a5, a6⟩
    obtain ⟨c1, c2, c3⟩ := a3 i n u hn hu
    refine ⟨c1.but (grown_but hG) (fun k e he => (c3 k e).2 (.inr he)), c2, fun k e => ⟨(c3 k e).1, ?_⟩⟩
    rintro (hp | hp)
    · exact (c3 k e).2 (.inl hp)
    · rcases hA k hp with e2 | e2
      · exact (c3 k e).2 (.inr e2)
      · have := c1.lt k e; omega
  · refine (hB3.block k (by omega) (fun e => ?_)).trans (h.but.block k hk hs)
    have := hlo k e; omega
  · rcases hk with hp | hp
    · have := h.plt k (.inl hp); omega
    · exact row_lt ho k hp
  · rcases hk with hp | hp
    · exact h.npv k (.inl hp)
    · exact ⟨(hk' k hp).2.2, (hk' k hp).1⟩
end

set_option maxHeartbeats 2000000 in
set_option maxRecDepth 100000 in
theorem pUnary (hE : EC B g b o e) {P : Nat → Prop} {w : World} {V : Value} {s : PS} (h : At B g b o P w V s) :
    Calls Tryz.prog 142 #[.pointer (some ⟨g, 0, none⟩)] w fun r w' => Rz B g b o P w V (Gm.unary e s) iv r w' := by
  have H : Hid (St B g b o P w V w V s) := hidb h
  obtain ⟨R, hR⟩ : ∃ R, Gm.unary e s = R := ⟨_, rfl⟩
  rw [hR]
  have HR := hidb hR.symm
  clear hR
  have HP := hidb h.plt
  have HS0 := hidb (h.less (Q := PV P (.slice none 0 0)) (fun _ hk => hk.elim id (fun he => by simp [Value.ownBlock] at he)))
  have htl := h.tl
  have HE := hidb hE
  clear h hE
  obtain ⟨i0, hi0, hz0, hz1, hz2⟩ := info_parts (P := Tryz.prog) (e := TT) (z := .agg #[.int .i64 0, .string ⟨#[]⟩, .int .i64 0, .float .f64 0, .int .i64 0]) (size := 5) (bytes := 48) (by kernel_rfl)
  go_enter Tryz.func142, Tryz.ntmps142
  go_wp2_with fail
  have HR := hidb (HR.out.trans (Gm.bind_left rfl))
  go_loopg [3] s.ts.length (fun gf s3 wx => ∃ (l : List Tk) (sx : PS) (a : Option Addr) (c k : Nat), s3 = .slice a l.length c ∧ St B g b o (PV P (.slice a l.length c)) w V wx V sx ∧ TR wx w.heap.size g b V (.slice a l.length c) l ∧ R = (Gm.signs k l >>= fun l => Gm.call e >>= fun x => Gm.layOps l x) sx ∧ sx.ts.length ≤ k ∧ k ≤ gf ∧ l.length + sx.ts.length ≤ 100001)
  case atStart => exact ⟨[], s, none, 0, _, rfl, HS0.out, TR.none _ _ _ _ _, HR.out, Nat.le_refl _, Nat.le_refl _, by simp; omega⟩
  case round =>
    obtain ⟨l, sx, a, c, k, hs3, hst, hir, hmore, hk, hkg, hll⟩ := hrel
    subst hs3
    have hpos : 0 < sx.ts.length := by obtain ⟨r, hr⟩ := Gm.ne_hd hst.ne; rw [hr]; simp
    obtain ⟨k', rfl⟩ : ∃ k', k = k' + 1 := ⟨k - 1, by omega⟩
    obtain ⟨g', rfl⟩ : ∃ g', gk = g' + 1 := ⟨gk - 1, by omega⟩
    obtain ⟨u, hu⟩ : ∃ u, Gm.hd sx = u := ⟨_, rfl⟩
    have H := hidb hst
    have HI := hidb hir
    have HR := hidb hmore
    have Tu := hidb hu
    have HQ : Hid True := hidb trivial
    have hc1 : l.length + 1 ≤ maxLen := by unfold maxLen; omega
    have hc2 : (l.length + 1) * 48 ≤ 140737488355328 := by omega
    clear hst hir hmore hu
    have hw : IntKind.i64.wrap (((l.length : Nat) : Int) - 1) = ((l.length : Nat) : Int) - 1 := by rw [IntKind.wrap_i64]; omega
    go_wp2_with (first
      | (go_at_call 101; refine (sIsU _ H.out.at).mono ?_; rintro r1 w1 ⟨u2, hu, ⟨hq, rfl⟩ | ⟨hq, rfl⟩, hb⟩ <;> (obtain rfl : u = u2 := Tu.out.symm.trans hu; have HQ := hidb (And.intro HQ.out hq); have HI := hidb (HI.out.below hb); have H := hidb (H.out.below hb); clear hb hq hu))
      | (go_at_call 50; have hsg : Gm.isM u ⟨#[45]⟩ = true ∨ Gm.isM u ⟨#[110, 111, 116]⟩ = true := (by have := HQ.out; simp [this]); refine (sNext H.out.at (hk_of Tu.out (hsg.elim Gm.isM_k Gm.isM_k))).mono ?_; rintro r1 w2 ⟨t2, s1, hq, rfl, hs⟩; obtain rfl : u = t2 := Tu.out.symm.trans hq.1; have HC := hidb hq.2; have HR := hidb (HR.out.trans (signs_t hq.1 hsg hq.2)); have HI := hidb (HI.out.step hs); have H := hidb (H.out.trans hs); clear hs hq hsg)
      | (at_builtin; refine wpList_append_own_at _ rfl _ _ 36 rfl w.heap.size TT i0 (.agg #[.int .i64 0, .string ⟨#[]⟩, .int .i64 0, .float .f64 0, .int .i64 0]) 5 48 Tryz.underlying36 hi0 hz0 hz1 hz2 rfl (by decide) _ _ _ rfl (HI.out.own.alloc _) ⟨w2.heap.size, 0, none⟩ 1 1 u.cells rfl rfl ?_ ?_ ?_ ?_ ?_ ?_)
      | (go_at_call 144; refine (pCall HE.out H.out.at).mono ?_; rintro r1 w2 (⟨er, q, hq, rfl, hbu⟩ | ⟨x0, s1, V1, hq, rfl, hs⟩) <;> first | (have HR := hidb ((HR.out.trans (signs_f Tu.out (by have := HQ.out; simp [this]))).trans (Gm.bind_ok hq)); have HI := hidb (HI.out.step hs); have H := hidb (H.out.trans hs); clear hs hq) | (have HR := hidb ((HR.out.trans (signs_f Tu.out (by have := HQ.out; simp [this]))).trans (Gm.bind_err hq)); have HBU := hidb (but_then H.out.but H.out.own hbu); clear hq hbu)))
    all_goals first
      | (intro q u hq; exact app_tk _ _ _ rfl q u hq)
      | (intro y hy; simp only [Tk.cells, List.mem_cons, List.not_mem_nil, or_false] at hy; rcases hy with rfl | rfl | rfl | rfl | rfl <;> rfl)
      | exact hc1
      | exact hc2
      | (have := H.out.but.size; simp; omega)
      | exact ⟨rfl, .inl ⟨_, _, HR.out, rfl, HBU.out⟩⟩
      | (intro v' w3 hown hgrow hnil hat
         obtain ⟨j1, j2⟩ := TR.grown (l' := l ++ [u]) H.out HI.out (below_new _ _) hgrow (fun k hk => by rcases hat with h | h <;> rw [h] at hk; (exact .inl hk); (cases hk; right; simp)) (by rw [List.length_append, tkCells_snoc]; exact hown)
         obtain ⟨a', c', rfl⟩ := j1.sl
         have HI := hidb j1
         have H := hidb j2
         clear j1 j2 hown hgrow hnil hat
         go_wp2_with fail
         go_roundg g'
         (case measure => omega)
         (case rel => exact ⟨l ++ [u], _, a', c', k', rfl, H.out, HI.out, HR.out, (by have h1 := HC.out; subst h1; simp [Gm.cut]; omega), (by omega), (by have h1 := HC.out; subst h1; simp [Gm.cut]; omega)⟩))
      | skip
    go_loopg [4, 5] l.length (fun gf s4 s5 wx => ∃ (i x : Nat) (j : Int) (sy : PS) (Vy : Value), s4 = iv x ∧ s5 = .int .i64 j ∧ j + 1 = (i : Int) ∧ i ≤ l.length ∧ i ≤ gf ∧ Gm.layOps (l.drop i) x0 s1 = .ok (x, sy) ∧ St B g b o (PV P (.slice a l.length c)) w V wx Vy sy ∧ TR wx w.heap.size g b Vy (.slice a l.length c) l)
    case atStart => exact ⟨l.length, x0, _, s1, V1, rfl, rfl, by omega, Nat.le_refl _, Nat.le_refl _, by simp [Gm.layOps]; rfl, H.out, HI.out⟩
    case round =>
      obtain ⟨i, x, j, sy, Vy, hs4, hs5, hj, hil, hig, hlo, hst2, htr⟩ := hrel
      subst hs4
      subst hs5
      cases i with
      | zero =>
        obtain rfl : j = -1 := by omega
        have HO := hidb hlo
        have H := hidb hst2
        clear hlo hst2 htr hj
        go_wp2_with fail
        exact bodyPost_ret (v := iv x) (by simp [results, Tryz.results142, go_sem]) rfl (.inr ⟨_, _, _, HR.out.trans HO.out, rfl, H.out.drop⟩)
      | succ m =>
        obtain rfl : j = (m : Int) := by omega
        obtain ⟨g2, rfl⟩ : ∃ g2, gk = g2 + 1 := ⟨gk - 1, by omega⟩
        obtain ⟨q, hq⟩ : ∃ q, a = some ⟨q, 0, none⟩ := by
          rcases htr.own.2 with ⟨_, hn⟩ | ⟨q, cap, cur, hv, _⟩
          · omega
          · cases hv; exact ⟨q, rfl⟩
        subst hq
        obtain ⟨u2, hu2⟩ : ∃ u, l[m]? = some u := ⟨l[m], List.getElem?_eq_getElem (by omega)⟩
        have k1' : (tkCells l)[m * 5 + 1]? = some (.string u2.x) := tkCells_get l m u2 hu2 1 (by omega)
        have k4' : (tkCells l)[m * 5 + 4]? = some (.int .i64 (u2.p : Int)) := tkCells_get l m u2 hu2 4 (by omega)
        have k1 := (htr.own.cellAt (m * 5 + 1) (by omega)).trans k1'
        have k4 := (htr.own.cellAt (m * 5 + 4) (by omega)).trans k4'
        have hd : l.drop m = u2 :: l.drop (m + 1) := by rw [List.drop_eq_getElem_cons (by omega)]; congr 1; exact (List.getElem?_eq_some_iff.1 hu2).2
        have hmw : IntKind.i64.wrap ((m : Int) - 1) = (m : Int) - 1 := by rw [IntKind.wrap_i64]; omega
        have hm0 : (0 : Int) ≤ (m : Int) := by omega
        have hm1 : (m : Int) < ((l.length : Nat) : Int) := by omega
        have HO := hidb hlo
        have HD := hidb hd
        have H := hidb hst2
        have HI := hidb htr
        clear hlo hst2 htr hj hd hu2
        go_wp2_with fail
        have HX := hidb (H.out.below (Below.drew (Below.refl _ _)))
        have HIX := hidb (HI.out.below (Below.drew (Below.refl _ _)))
        go_region_held2 (fun w' => w'.cell? ⟨q, m * 5 + 1, none⟩ = some (.string u2.x) ∧ w'.cell? ⟨q, m * 5 + 4, none⟩ = some (.int .i64 (u2.p : Int)))
          (first | with_reducible exact ⟨z1, z4⟩ | go_keep)
          (first
            | (go_at_call 128; refine (sOp u2.p u2.x [x] _ (HX.out.below (below_new _ _)).at (LR.lit HX.out.at _ _ rfl (by simp))).mono ?_; rintro r1 w3 (⟨er, q2, hq, rfl, hbu⟩ | ⟨z, s3, V3, hq, rfl, hs⟩) <;> first | (have HI3 := hidb ((HIX.out.below (below_new _ _)).step hs); have z1 := (HI3.out.own.cellAt (m * 5 + 1) (by omega)).trans k1'; have z4 := (HI3.out.own.cellAt (m * 5 + 4) (by omega)).trans k4'; have H3 := hidb ((HX.out.below (below_new _ _)).trans hs); have HO3 := hidb (layOps_step HD.out HO.out hq); clear hs hq) | exact ⟨rfl, .inl ⟨_, _, HR.out.trans (layOps_fell HD.out HO.out hq), rfl, but_then (HX.out.below (below_new _ _)).but HX.out.own hbu⟩⟩))
        all_goals (
          go_wp2_with fail
          go_roundg g2
          (case measure => omega)
          (case rel => exact ⟨m, z, (m : Int) - 1, s3, V3, rfl, rfl, (by omega), (by omega), (by omega), HO3.out, H3.out, HI3.out⟩))
end Go.Proofs.YthdljnakmekhkaaGreatDoor


/- expr. -/
namespace Go.Proofs.YthdljnakmekhkaaGreatDoor
open Go.RowKit Go.Lib
attribute [local go_sem] store_float f64bits
attribute [local go_sem ↓] Go.wp_at_zero Go.wp_at_succ
attribute [local go_sem] nd_p tk_k tk_x tk_n tk_f tk_p
variable {B g b o : Nat} {e : PM Nat}

theorem fc_unary (hE : EC B g b o e) : FC B g b o 142 (Gm.unary e) := ⟨Gm.all_unary hE.all, ent_unary, fun h => pUnary hE h⟩
theorem fc_mul (hE : EC B g b o e) : FC B g b o 140 (Gm.mul e) := ⟨Gm.all_mul hE.all, ent_mul, fun h => pMul (fc_unary hE) h⟩
theorem fc_add (hE : EC B g b o e) : FC B g b o 138 (Gm.add e) := ⟨Gm.all_add hE.all, ent_add, fun h => pAdd (fc_mul hE) h⟩
theorem fc_compare (hE : EC B g b o e) : FC B g b o 133 (Gm.compare e) := ⟨Gm.all_compare hE.all, ent_compare, fun h => pCompare (fc_add hE) h⟩
theorem fc_andalso (hE : EC B g b o e) : FC B g b o 131 (Gm.andalso e) := ⟨Gm.all_right (Gm.all_compare hE.all) _, ent_andalso, fun h => pAndalso (fc_compare hE) h⟩

/-- How many expressions are open. -/
theorem St.opens {P : Nat → Prop} {w0 w : World} {V0 V : Value} {s : PS} (o' : Nat) (h : St B g b o P w0 V0 w V s) : St B g b o' P w0 V0 (w.setCell ⟨g, 2, none⟩ (.int .i64 (o' : Int))) V { s with o := o' } := by
  have hB : But (· = g) w (w.setCell ⟨g, 2, none⟩ (.int .i64 (o' : Int))) := (But.refl (· = g) w).setCell (p := ⟨g, 2, none⟩) (fun _ => rfl) _
  obtain ⟨⟨i, cap, hT, hcap, hts⟩, hne, hlt⟩ := h.pb
  refine ⟨⟨⟨i, cap, hT.set2 _, hcap, hts.but hB hlt hne⟩, hne, Nat.lt_of_lt_of_le hlt hB.size⟩, h.ns.but hB (fun k hk he => h.ns.ng (he ▸ hk)) (fun k he => .inl he), Nat.le_trans h.le hB.size, h.ne, rfl, h.but.trans (hB.mono fun k _ he => .inl he), h.own, fun k hk => Nat.lt_of_lt_of_le (h.plt k hk) hB.size, h.npv, h.tl⟩
theorem St.cell2 {P : Nat → Prop} {w0 w : World} {V0 V : Value} {s : PS} (h : St B g b o P w0 V0 w V s) : w.cell? ⟨g, 2, none⟩ = some (.int .i64 (o : Int)) ∧ w.frozen? ⟨g, 2, none⟩ = false := by
  obtain ⟨⟨i, cap, hT, _⟩, _⟩ := h.pb
  exact ⟨h.op ▸ hT.c2, hT.f2⟩

set_option maxHeartbeats 2000000 in
set_option maxRecDepth 100000 in
theorem pExpr_deep {k : Nat} {P : Nat → Prop} {w : World} {V : Value} {s : PS} (h : At B g b 200 P w V s) :
    Calls Tryz.prog 121 #[.pointer (some ⟨g, 0, none⟩)] w fun r w' => Rz B g b 200 P w V (Gm.expr (k + 1) s) iv r w' := by
  have H : Hid (St B g b 200 P w V w V s) := hidb h
  have hR : Gm.expr (k + 1) s = .error (25, (Gm.hd s).p) := by simp only [Gm.expr, if_pos h.op]
  rw [hR]
  obtain ⟨c2, f2⟩ := h.cell2
  clear hR h
  go_enter Tryz.func121, Tryz.ntmps121
  go_wp2_with (go_at_call 49; refine (sGiveUp (α := Nat) 25 H.out.at).mono ?_; rintro r1 w1 ⟨q, hq, rfl, hbu⟩; have HBU := hidb (but_then H.out.but H.out.own hbu); have HQ := hidb hq; clear hq hbu)
  exact ⟨rfl, .inl ⟨_, _, HQ.out, rfl, HBU.out⟩⟩

theorem expr_ok {k x : Nat} {s s' : PS} (h : s.o = o) (ho : o < 200) (hm : Gm.opened (Gm.expr k) { s with o := o + 1 } = .ok (x, s')) : Gm.expr (k + 1) s = .ok (x, { s' with o := s'.o - 1 }) := by
  subst h
  have : ¬ s.o = 200 := by omega
  simp only [Gm.expr, if_neg this, hm]
theorem expr_err {k : Nat} {s : PS} {er : Int × Nat} (h : s.o = o) (ho : o < 200) (hm : Gm.opened (Gm.expr k) { s with o := o + 1 } = .error er) : Gm.expr (k + 1) s = .error er := by
  subst h
  have : ¬ s.o = 200 := by omega
  simp only [Gm.expr, if_neg this, hm]

set_option maxHeartbeats 2000000 in
set_option maxRecDepth 100000 in
theorem pExpr_step {k : Nat} (hE : EC B g b (o + 1) (Gm.expr k)) (ho : o < 200) {P : Nat → Prop} {w : World} {V : Value} {s : PS} (h : At B g b o P w V s) :
    Calls Tryz.prog 121 #[.pointer (some ⟨g, 0, none⟩)] w fun r w' => Rz B g b o P w V (Gm.expr (k + 1) s) iv r w' := by
  have H : Hid (St B g b o P w V w V s) := hidb h
  obtain ⟨R, hR⟩ : ∃ R, Gm.expr (k + 1) s = R := ⟨_, rfl⟩
  rw [hR]
  have HR := hidb hR.symm
  have HOP := hidb h.op
  obtain ⟨c2, f2⟩ := h.cell2
  have HO := hidb (h.opens (o + 1))
  have hg := h.glt
  have e0 : ((o : Nat) : Int) ≠ 200 := by omega
  have e1 : IntKind.i64.wrap ((o : Int) + 1) = ((o + 1 : Nat) : Int) := by rw [IntKind.wrap_i64]; omega
  have e2 : IntKind.i64.wrap (((o + 1 : Nat) : Int) - 1) = (o : Int) := by rw [IntKind.wrap_i64]; omega
  have HE := hidb hE
  clear h hE hR
  go_enter Tryz.func121, Tryz.ntmps121
  go_wp2_with (go_at_call 124; refine (pOpened HE.out (fc_andalso HE.out) HO.out.at).mono ?_; rintro r1 w1 (⟨er, q, hq, rfl, hbu⟩ | ⟨x, s1, V1, hq, rfl, hs⟩) <;> first | (have H1 := hidb (HO.out.trans hs); obtain ⟨d2, g2⟩ := hs.cell2; have HR := hidb (HR.out.trans (expr_ok HOP.out ho hq)); clear hs hq) | (have HR := hidb (HR.out.trans (expr_err HOP.out ho hq)); have HBU := hidb (but_then HO.out.but HO.out.own hbu); clear hq hbu))
  · exact ⟨rfl, .inl ⟨er, q, HR.out, rfl, HBU.out⟩⟩
  · refine bodyPost_ret (v := iv x) (by simp [results, Tryz.results121, go_sem]) rfl (.inr ⟨x, { s1 with o := s1.o - 1 }, V1, HR.out, rfl, ?_⟩)
    have h2 := H1.out.opens o
    have h3 : s1.o - 1 = o := by rw [H1.out.op]; rfl
    rw [h3]
    exact h2

theorem ec_expr : ∀ (k o : Nat), o + k = 200 → EC B g b o (Gm.expr (k + 1))
  | 0, o, h => by
    obtain rfl : o = 200 := by omega
    exact ⟨Gm.all_expr _, fun h => pExpr_deep h⟩
  | k + 1, o, h => ⟨Gm.all_expr _, fun h' => pExpr_step (ec_expr k (o + 1) (by omega)) (by omega) h'⟩
end Go.Proofs.YthdljnakmekhkaaGreatDoor


/- function. -/
namespace Go.Proofs.YthdljnakmekhkaaGreatDoor
open Go.RowKit Go.Lib
attribute [local go_sem] store_float f64bits
attribute [local go_sem ↓] Go.wp_at_zero Go.wp_at_succ
attribute [local go_sem] nd_p tk_k tk_x tk_n tk_f tk_p
variable {B g b o : Nat} {e : PM Nat}

theorem bind_inv {α β : Type} {m : PM α} {f : α → PM β} {s s' : PS} {x : β} (h : (m >>= f) s = .ok (x, s')) : ∃ a s1, m s = .ok (a, s1) ∧ f a s1 = .ok (x, s') := by
  rw [Gm.bind_at] at h
  cases hm : m s with
  | error er => simp [hm] at h
  | ok p => obtain ⟨a, s1⟩ := p; simp only [hm] at h; exact ⟨a, s1, rfl, h⟩
theorem lay_at {n : Nd} {s s' : PS} {x : Nat} (h : Gm.lay n s = .ok (x, s')) : x = s.ns.length ∧ s'.ns = s.ns ++ [n] := by
  simp only [Gm.lay] at h
  split at h
  · cases h
  · cases h; exact ⟨rfl, rfl⟩
theorem lay_lt {n : Nd} {s s' : PS} {x : Nat} (h : Gm.lay n s = .ok (x, s')) : x < s'.ns.length := by
  obtain ⟨h1, h2⟩ := lay_at h
  rw [h1, h2]; simp
theorem tail_lt {p : Nat} {x : ByteArray} {l : List Nat} {s s' : PS} {y : Nat} (h : Gm.tail e p x l s = .ok (y, s')) : y < s'.ns.length := by
  obtain ⟨_, _, _, h⟩ := bind_inv h
  obtain ⟨_, _, _, h⟩ := bind_inv h
  obtain ⟨_, _, _, h⟩ := bind_inv h
  exact lay_lt h
theorem fclause_lt {s s' : PS} {y : Nat} (h : Gm.fclause e s = .ok (y, s')) : y < s'.ns.length := by
  obtain ⟨_, _, _, h⟩ := bind_inv h
  obtain ⟨_, _, _, h⟩ := bind_inv h
  exact tail_lt h
theorem moreC_head {c : PM Nat} : ∀ (k : Nat) {l l' : List Nat} {s s' : PS}, Gm.moreC c k l s = .ok (l', s') → ∃ r, l' = l ++ r
  | 0, _, _, _, _, h => by cases h; exact ⟨[], by simp⟩
  | k + 1, l, l', s, s', h => by
    rw [Gm.moreC_succ] at h
    obtain ⟨b, s1, _, h⟩ := bind_inv h
    cases b with
    | false => cases h; exact ⟨[], by simp⟩
    | true =>
      obtain ⟨x, s2, _, h⟩ := bind_inv (m := c) (f := fun x => Gm.moreC c k (l ++ [x])) h
      obtain ⟨r, hr⟩ := moreC_head k h
      exact ⟨x :: r, by rw [hr]; simp⟩
/-- Clauses have a first one, which is laid. -/
theorem clauses_first {m : PM Nat} (hm : Gm.All m) (hl : ∀ s x s', m s = .ok (x, s') → x < s'.ns.length) {s s' : PS} {c : Nat} (hn : Ne s) (h : Gm.clauses m s = .ok (c, s')) :
    ∃ nc x0 r f, s'.ns[c]? = some nc ∧ nc.l = x0 :: r ∧ s'.ns[x0]? = some f := by
  obtain ⟨t, s0, ht, h⟩ := bind_inv h
  cases ht
  obtain ⟨x0, s1, h1, h⟩ := bind_inv h
  obtain ⟨k, s2, hk, h⟩ := bind_inv h
  cases hk
  obtain ⟨l, s3, h3, h⟩ := bind_inv h
  obtain ⟨r, hr⟩ := moreC_head _ h3
  obtain ⟨hx, hs⟩ := lay_at h
  have hx0 := hl _ _ _ h1
  have hn1 := (hm s hn x0 s1 h1).2
  obtain ⟨b3, hb3⟩ := (Gm.all_moreC hm _ _ s1 hn1 l s3 h3).1.ns
  have hlt : x0 < s3.ns.length := by rw [hb3]; simp; omega
  refine ⟨⟨20, ⟨#[]⟩, 0, 0, l, (Gm.hd s).p⟩, x0, r, s3.ns[x0], by rw [hs, hx]; simp, by simp [hr], ?_⟩
  rw [hs, List.getElem?_append_left hlt, List.getElem?_eq_getElem hlt]

theorem ndCells_get : ∀ (l : List Nd) (vs : List Value) (i : Nat) (n : Nd) (v : Value), l[i]? = some n → vs[i]? = some v → ∀ j, j < 6 → (ndCells l vs)[i * 6 + j]? = (n.cells v)[j]?
  | [], _, _, _, _, h, _, _, _ => by simp at h
  | _ :: _, [], _, _, _, _, h, _, _ => by simp at h
  | m :: r, u :: us, 0, n, v, h, h', j, hj => by
    simp at h h'
    subst h h'
    have : ndCells (m :: r) (u :: us) = m.cells u ++ ndCells r us := rfl
    rw [this, Nat.zero_mul, Nat.zero_add, List.getElem?_append_left (by simpa [Nd.cells] using hj)]
  | m :: r, u :: us, i + 1, n, v, h, h', j, hj => by
    have : ndCells (m :: r) (u :: us) = m.cells u ++ ndCells r us := rfl
    rw [this, List.getElem?_append_right (by simp [Nd.cells]; omega)]
    have h6 : (m.cells u).length = 6 := rfl
    rw [h6, show (i + 1) * 6 + j - 6 = i * 6 + j by omega]
    exact ndCells_get r us i n v (by simpa using h) (by simpa using h') j hj
/-- A node in memory. -/
theorem St.node {P : Nat → Prop} {w0 w : World} {V0 V : Value} {s : PS} (h : St B g b o P w0 V0 w V s) {i : Nat} {n : Nd} (hi : s.ns[i]? = some n) :
    ∃ q cap v, V = .slice (some ⟨q, 0, none⟩) s.ns.length cap ∧ w.cell? ⟨g, 1, none⟩ = some V ∧ LRow w v n.l ∧ (∀ j, j < 6 → w.cell? ⟨q, i * 6 + j, none⟩ = (n.cells v)[j]?) := by
  obtain ⟨⟨vs, hl, ho, hr⟩, _⟩ := h.ns
  have hlt := (List.getElem?_eq_some_iff.1 hi).1
  obtain ⟨v, hv⟩ : ∃ v, vs[i]? = some v := ⟨_, List.getElem?_eq_getElem (by omega)⟩
  obtain ⟨⟨i', cap', hT, _⟩, _⟩ := h.pb
  have c1 := hT.c1
  rcases ho.2 with ⟨_, h0⟩ | ⟨q, cap, cur, hV, _⟩
  · omega
  · subst hV
    exact ⟨q, cap, v, rfl, c1, (hr i n v hi hv).1, fun j hj => (ho.cellAt (i * 6 + j) (by omega)).trans (ndCells_get s.ns vs i n v hi hv j hj)⟩

theorem need_ns {x : ByteArray} {s s' : PS} (h : Gm.need x s = .ok ((), s')) : s'.ns = s.ns := by
  simp only [Gm.need] at h
  split at h
  · cases h; rfl
  · cases h

set_option maxHeartbeats 8000000 in
set_option maxRecDepth 100000 in
theorem pFunction (hE : EC B g b o e) {P : Nat → Prop} {w : World} {V : Value} {s : PS} (h : At B g b o P w V s) :
    Calls Tryz.prog 52 #[.pointer (some ⟨g, 0, none⟩)] w fun r w' => Rz B g b o P w V (Gm.functionOf e s) iv r w' := by
  have H : Hid (St B g b o P w V w V s) := hidb h
  obtain ⟨R, hR⟩ : ∃ R, Gm.functionOf e s = R := ⟨_, rfl⟩
  rw [hR]
  have HR := hidb hR.symm
  clear hR
  have HE := hidb hE
  clear h hE
  have hmf : ∀ (fn : Fn) (first cap : Array Value) (w : World), (Instr.makeFunc fn first cap).run Tryz.prog w = .ok (.func fn first cap) w := fun _ _ _ _ => rfl
  go_enter Tryz.func52, Tryz.ntmps52
  go_wp2_with (first
    | (go_at_call 46; refine (sHere H.out.at).mono ?_; rintro r1 w1 ⟨t, hq, rfl, hs, hb⟩; have H := hidb (H.out.below hb); have HR := hidb (HR.out.trans (Gm.bind_here hq)); have Tt := hidb hq; clear hs hb hq)
    | (go_at_call 78; refine (pClauses (fc_fclause HE.out) H.out.at).mono ?_; rintro r1 w1 (⟨er, q, hq, rfl, hbu⟩ | ⟨c, s1, V1, hq, rfl, hs⟩) <;> first | (have HFI := hidb (clauses_first (Gm.all_fclause HE.out.all) (fun _ _ _ h => fclause_lt h) H.out.ne hq); have H := hidb (H.out.trans hs); have HR := hidb (HR.out.trans (Gm.bind_ok hq)); clear hs hq) | (have HR := hidb (HR.out.trans (Gm.bind_err hq)); have HBU := hidb (but_then H.out.but H.out.own hbu); clear hq hbu))
    | (go_at_call 47; refine (sNeed _ H.out.at).mono ?_; rintro r1 w1 (⟨er, q, hq, rfl, hbu⟩ | ⟨s1, hq, rfl, hs⟩) <;> first | (have HNN := hidb (need_ns hq); have H := hidb (H.out.trans hs); (first | (with_reducible have HR := hidb (HR.out.trans hq)) | have HR := hidb (HR.out.trans (Gm.bind_ok hq))); clear hs hq) | ((first | (with_reducible have HR := hidb (HR.out.trans hq)) | have HR := hidb (HR.out.trans (Gm.bind_err hq))); have HBU := hidb (but_then H.out.but H.out.own hbu); clear hq hbu)))
  · exact ⟨rfl, .inl ⟨_, _, HR.out, rfl, HBU.out⟩⟩
  · exact ⟨rfl, .inl ⟨_, _, HR.out, rfl, HBU.out⟩⟩
  obtain ⟨nc, x0, rl, f, hc, hcl, hf⟩ := HFI.out
  rw [← HNN.out] at hc hf
  obtain ⟨q, cap, vc, hV, cg1, hrow, hcells⟩ := H.out.node hc
  obtain ⟨q', cap', vf, hV', _, hrf, hfc⟩ := H.out.node hf
  obtain ⟨rfl, rfl⟩ : q = q' ∧ cap = cap' := by rw [hV] at hV'; cases hV'; exact ⟨rfl, rfl⟩
  clear hV'
  have HR := hidb (HR.out.trans (by simp only [List.getD_eq_getElem?_getD, hc, Option.getD_some, hcl, List.headD_cons, hf]) : R = Gm.lay ⟨23, f.x, f.n, 0, [c], t.p⟩ s1)
  have hcN := (List.getElem?_eq_some_iff.1 hc).1
  have hxN := (List.getElem?_eq_some_iff.1 hf).1
  obtain ⟨N, hN⟩ : ∃ N, s1.ns.length = N := ⟨_, rfl⟩
  rw [hN] at hcN hxN hV
  obtain ⟨lb, lcap, hvc, hlb, hl0⟩ : ∃ lb lcap, vc = .slice (some ⟨lb, 0, none⟩) (rl.length + 1) lcap ∧ lb < w1.heap.size ∧ w1.cell? ⟨lb, 0, none⟩ = some (iv x0) := by
    rcases hrow with ⟨_, h0⟩ | ⟨lb, lcap, hv, h1, h2⟩
    · rw [hcl] at h0; cases h0
    · rw [hcl] at hv h2; exact ⟨lb, lcap, hv, h1, h2 0 x0 rfl⟩
  have k4 := hcells 4 (by omega)
  have f0 := hfc 0 (by omega)
  have f1 := hfc 1 (by omega)
  have f2 := hfc 2 (by omega)
  have f3 := hfc 3 (by omega)
  have f4 := hfc 4 (by omega)
  have f5 := hfc 5 (by omega)
  simp only [Nd.cells, List.getElem?_cons_zero, List.getElem?_cons_succ] at k4 f0 f1 f2 f3 f4 f5
  obtain ⟨va, vm, vc2, hvf⟩ : ∃ a m c, vf = .slice a m c := by
    rcases hrf with ⟨rfl, _⟩ | ⟨_, _, rfl, _⟩ <;> exact ⟨_, _, _, rfl⟩
  subst hvf
  subst hvc
  subst hV
  have hglt := H.out.glt
  have hqlt := H.out.vlt q rfl
  have SF : ∀ X, Below w1.heap.size w1 X → X.cell? ⟨g, 1, none⟩ = some (.slice (some ⟨q, 0, none⟩) N cap) ∧ X.cell? ⟨q, c * 6 + 4, none⟩ = some (.slice (some ⟨lb, 0, none⟩) (rl.length + 1) lcap) ∧ X.cell? ⟨lb, 0, none⟩ = some (iv x0) ∧ X.cell? ⟨q, x0 * 6, none⟩ = some (.int .i64 f.k) ∧ X.cell? ⟨q, x0 * 6 + 1, none⟩ = some (.string f.x) ∧ X.cell? ⟨q, x0 * 6 + 2, none⟩ = some (.int .i64 f.n) ∧ X.cell? ⟨q, x0 * 6 + 3, none⟩ = some (.float .f64 f.f) ∧ X.cell? ⟨q, x0 * 6 + 4, none⟩ = some (.slice va vm vc2) ∧ X.cell? ⟨q, x0 * 6 + 5, none⟩ = some (.int .i64 (f.p : Int)) := fun X hb =>
    ⟨(hb.cell (p := ⟨g, 1, none⟩) hglt).trans cg1, (hb.cell (p := ⟨q, c * 6 + 4, none⟩) hqlt).trans k4, (hb.cell (p := ⟨lb, 0, none⟩) hlb).trans hl0, (hb.cell (p := ⟨q, x0 * 6, none⟩) hqlt).trans f0, (hb.cell (p := ⟨q, x0 * 6 + 1, none⟩) hqlt).trans f1, (hb.cell (p := ⟨q, x0 * 6 + 2, none⟩) hqlt).trans f2, (hb.cell (p := ⟨q, x0 * 6 + 3, none⟩) hqlt).trans f3, (hb.cell (p := ⟨q, x0 * 6 + 4, none⟩) hqlt).trans f4, (hb.cell (p := ⟨q, x0 * 6 + 5, none⟩) hqlt).trans f5⟩
  have hB0 : Below w1.heap.size w1 w1.drew := Below.drew (Below.refl _ _)
  have hB1 : ∀ ob, Below w1.heap.size w1 (w1.alloc ob).drew := fun ob => Below.drew (below_new w1 ob)
  have hB2 : ∀ ob (u0 u1 u2 u3 u4 u5 : Value), Below w1.heap.size w1 (((((((w1.alloc ob).drew.setCell ⟨w1.heap.size, 0, none⟩ u0).setCell ⟨w1.heap.size, 1, none⟩ u1).setCell ⟨w1.heap.size, 2, none⟩ u2).setCell ⟨w1.heap.size, 3, none⟩ u3).setCell ⟨w1.heap.size, 4, none⟩ u4).setCell ⟨w1.heap.size, 5, none⟩ u5) := fun ob u0 u1 u2 u3 u4 u5 => ((((((hB1 ob).setCell (p := ⟨w1.heap.size, 0, none⟩) (Nat.le_refl _) u0).setCell (p := ⟨w1.heap.size, 1, none⟩) (Nat.le_refl _) u1).setCell (p := ⟨w1.heap.size, 2, none⟩) (Nat.le_refl _) u2).setCell (p := ⟨w1.heap.size, 3, none⟩) (Nat.le_refl _) u3).setCell (p := ⟨w1.heap.size, 4, none⟩) (Nat.le_refl _) u4).setCell (p := ⟨w1.heap.size, 5, none⟩) (Nat.le_refl _) u5
  have z1 : (0 : Int) ≤ (c : Int) := by omega
  have z2 : (c : Int) < ((N : Nat) : Int) := by omega
  have z3 : (0 : Int) ≤ (x0 : Int) := by omega
  have z4 : (x0 : Int) < ((N : Nat) : Int) := by omega
  have z5 : (0 : Int) < ((rl.length + 1 : Nat) : Int) := by omega
  have SFH := hidb SF
  have HB0 := hidb hB0
  have HB1 := hidb hB1
  have HB2 := hidb hB2
  clear hB2 hc hf hcl hcells hfc hrow hrf SF hB0 hB1 k4 f0 f1 f2 f3 f4 f5 hl0 cg1
  go_region_held2 (fun X => X.cell? ⟨g, 1, none⟩ = some (.slice (some ⟨q, 0, none⟩) N cap) ∧ X.cell? ⟨q, c * 6 + 4, none⟩ = some (.slice (some ⟨lb, 0, none⟩) (rl.length + 1) lcap) ∧ X.cell? ⟨lb, 0, none⟩ = some (iv x0) ∧ X.cell? ⟨q, x0 * 6, none⟩ = some (.int .i64 f.k) ∧ X.cell? ⟨q, x0 * 6 + 1, none⟩ = some (.string f.x) ∧ X.cell? ⟨q, x0 * 6 + 2, none⟩ = some (.int .i64 f.n) ∧ X.cell? ⟨q, x0 * 6 + 3, none⟩ = some (.float .f64 f.f) ∧ X.cell? ⟨q, x0 * 6 + 4, none⟩ = some (.slice va vm vc2) ∧ X.cell? ⟨q, x0 * 6 + 5, none⟩ = some (.int .i64 (f.p : Int)))
    (first | with_reducible exact SFH.out _ HB0.out | with_reducible exact SFH.out _ (HB1.out _) | with_reducible exact SFH.out _ (HB2.out _ _ _ _ _ _ _))
    (fail)
  all_goals (
    have HX0 := H.out.below (below_new w1 (.cells #[.int .i64 f.k, .string f.x, .int .i64 f.n, .float .f64 f.f, .slice va vm vc2, .int .i64 (f.p : Int)] NT))
    have hsz : (w1.alloc (.cells #[.int .i64 f.k, .string f.x, .int .i64 f.n, .float .f64 f.f, .slice va vm vc2, .int .i64 (f.p : Int)] NT)).heap.size = w1.heap.size + 1 := by simp
    have LX0 := LR.lit HX0.at #[iv c] [c] rfl (by simp)
    rw [hsz] at LX0
    have hb2 : Below (w1.alloc (.cells #[.int .i64 f.k, .string f.x, .int .i64 f.n, .float .f64 f.f, .slice va vm vc2, .int .i64 (f.p : Int)] NT)).heap.size (w1.alloc (.cells #[.int .i64 f.k, .string f.x, .int .i64 f.n, .float .f64 f.f, .slice va vm vc2, .int .i64 (f.p : Int)] NT)) ((w1.alloc (.cells #[.int .i64 f.k, .string f.x, .int .i64 f.n, .float .f64 f.f, .slice va vm vc2, .int .i64 (f.p : Int)] NT)).alloc (.cells #[iv c] IT)).drew := Below.drew (below_new _ _)
    have LX := hidb (LX0.below (Below.drew (Below.refl _ _)))
    have HX := hidb (HX0.below hb2)
    clear LX0 HX0 hsz hb2
    go_wp2_with (go_at_call 53; refine (sLayR HR.out HX.out.at LX.out).mono ?_; rintro r1 w1 (⟨er, q, hq, rfl, hbu⟩ | ⟨z, s1, V1, hq, rfl, hs⟩) <;> first | (have H := hidb (HX.out.trans hs); have HR := hidb hq; clear hs hq) | (have HR := hidb hq; have HBU := hidb (but_then HX.out.but HX.out.own hbu); clear hq hbu))
    · exact ⟨rfl, .inl ⟨_, _, HR.out, rfl, HBU.out⟩⟩
    · exact bodyPost_ret (v := iv z) (by simp [results, Tryz.results52, go_sem]) rfl (.inr ⟨_, _, _, HR.out, rfl, H.out⟩))
end Go.Proofs.YthdljnakmekhkaaGreatDoor


/- module. -/
namespace Go.Proofs.YthdljnakmekhkaaGreatDoor
open Go.RowKit Go.Lib
attribute [local go_sem] store_float f64bits
attribute [local go_sem ↓] Go.wp_at_zero Go.wp_at_succ
attribute [local go_sem] nd_p tk_k tk_x tk_n tk_f tk_p
variable {B g b o : Nat} {e : PM Nat}

theorem functions_end {γ : Type} {s : PS} {u : Tk} {k : Nat} {l : List Nat} {G : List Nat → PM γ} (h : Gm.hd s = u) (hk : u.k = 8) : (Gm.functions e (k + 1) l >>= G) s = G l s := by
  subst h
  rw [Gm.bind_at]
  have : Gm.functions e (k + 1) l s = .ok (l, s) := Gm.ite_t hk
  rw [this]
theorem functions_ok {γ : Type} {s s' : PS} {u : Tk} {k x : Nat} {l : List Nat} {G : List Nat → PM γ} (h : Gm.hd s = u) (hk : ¬ u.k = 8) (hf : Gm.functionOf e s = .ok (x, s')) : (Gm.functions e (k + 1) l >>= G) s = (Gm.functions e k (l ++ [x]) >>= G) s' := by
  subst h
  rw [Gm.bind_at, Gm.bind_at]
  have : Gm.functions e (k + 1) l s = Gm.functions e k (l ++ [x]) s' := (Gm.ite_f hk).trans (Gm.bind_ok hf)
  rw [this]
theorem functions_err {γ : Type} {s : PS} {u : Tk} {k : Nat} {l : List Nat} {G : List Nat → PM γ} {er : Int × Nat} (h : Gm.hd s = u) (hk : ¬ u.k = 8) (hf : Gm.functionOf e s = .error er) : (Gm.functions e (k + 1) l >>= G) s = .error er := by
  subst h
  have : Gm.functions e (k + 1) l s = .error er := (Gm.ite_f hk).trans (Gm.bind_err hf)
  exact Gm.bind_err this
theorem function_lt (he : Gm.All e) {s s' : PS} {x : Nat} (hn : Ne s) (h : Gm.functionOf e s = .ok (x, s')) : s'.ts.length < s.ts.length := by
  obtain ⟨t, s0, ht, h⟩ := bind_inv h
  cases ht
  obtain ⟨c, s1, h1, h⟩ := bind_inv h
  obtain ⟨u, s2, h2, h⟩ := bind_inv h
  obtain ⟨k1, k2⟩ := Gm.all_clauses (Gm.all_fclause he) s hn c s1 h1
  have k3 := k1.len
  have hc : s2.ts.length + 1 = s1.ts.length := by
    simp only [Gm.need] at h2
    split at h2
    · cases h2
      obtain ⟨r, hr⟩ := Gm.ne_hd k2
      simp [Gm.cut, hr]
    · cases h2
  have k5 : s'.ts = s2.ts := by
    simp only [Gm.lay] at h
    split at h
    · cases h
    · cases h; rfl
  rw [k5]; omega

set_option maxHeartbeats 8000000 in
set_option maxRecDepth 100000 in
theorem pModule (hE : EC B g b o e) {P : Nat → Prop} {w : World} {V : Value} {s : PS} (h : At B g b o P w V s) :
    Calls Tryz.prog 23 #[.pointer (some ⟨g, 0, none⟩)] w fun r w' => Rz B g b o P w V (Gm.module e s) iv r w' := by
  have H : Hid (St B g b o P w V w V s) := hidb h
  obtain ⟨R, hR⟩ : ∃ R, Gm.module e s = R := ⟨_, rfl⟩
  rw [hR]
  have HR := hidb hR.symm
  clear hR
  have HP := hidb h.plt
  have HE := hidb hE
  clear h hE
  have M0 : Hid True := hidb trivial
  obtain ⟨i0, hi0, hz0, hz1, hz2⟩ := info_parts (P := Tryz.prog) (e := IT) (z := .int .i64 0) (size := 1) (bytes := 8) (by kernel_rfl)
  go_enter Tryz.func23, Tryz.ntmps23
  go_wp2_with (first
    | (go_at_call 46; first | (clear M0; refine (sHere H.out.at).mono ?_; rintro r1 w1 ⟨t, hq, rfl, hs, hb⟩; have H := hidb (H.out.below hb); have HR := hidb (HR.out.trans (Gm.bind_here hq)); clear hs hb hq) | (refine (sHere H.out.at).mono ?_; rintro r1 w1 ⟨u, hq, rfl, hs, hb⟩; have H := hidb (H.out.below hb); have HR := hidb (HR.out.trans (Gm.bind_here hq)); have Tu := hidb hq; clear hs hb hq))
    | (go_at_call 47; refine (sNeed _ H.out.at).mono ?_; rintro r1 w1 (⟨er, q, hq, rfl, hbu⟩ | ⟨s1, hq, rfl, hs⟩) <;> first | (have HL := hidb hs; have H := hidb (H.out.trans hs); (first | (with_reducible have HR := hidb (HR.out.trans hq)) | have HR := hidb (HR.out.trans (Gm.bind_ok hq)));  clear hs hq) | ((first | (with_reducible have HR := hidb (HR.out.trans hq)) | have HR := hidb (HR.out.trans (Gm.bind_err hq))); have HBU := hidb (but_then H.out.but H.out.own hbu); clear hq hbu))
    | (go_at_call 48; refine (pAtom_any _ _ _).mono ?_; rintro r1 w2 ⟨rfl, hb⟩; have H := hidb (H.out.below hb); clear hb; obtain ⟨c, hc⟩ : ∃ c, Gm.isA u ⟨#[109, 111, 100, 117, 108, 101]⟩ = c := ⟨_, rfl⟩; rw [hc]; have HA := hidb hc; clear hc; cases c)
    | (go_at_call 49; refine (sGiveUp (α := Nat) 24 H.out.at).mono ?_; rintro r1 w1 ⟨q, hq, rfl, hbu⟩; have HBU := hidb (but_then H.out.but H.out.own hbu); have HR := hidb ((HR.out.trans (Gm.ite_f (by simp [HA.out]))).trans hq); clear hq hbu)
    | (go_at_call 50; refine (sNext H.out.at (hk_of Tu.out (Gm.isA_k HA.out))).mono ?_; rintro r1 w1 ⟨t2, s1, hq, rfl, hs⟩; have H := hidb (H.out.trans hs); have HR := hidb ((HR.out.trans (Gm.ite_t HA.out)).trans (Gm.bind_next hq)); clear hs hq)
    | (go_at_call 51; refine (sNeedK (k := 1) (by omega) H.out.at).mono ?_; rintro r1 w1 (⟨er, q, hq, rfl, hbu⟩ | ⟨n, s1, hq, rfl, hs⟩) <;> first | (have HL := hidb hs; have H := hidb (H.out.trans hs); (first | (with_reducible have HR := hidb (HR.out.trans hq)) | have HR := hidb (HR.out.trans (Gm.bind_ok hq)));  clear hs hq) | ((first | (with_reducible have HR := hidb (HR.out.trans hq)) | have HR := hidb (HR.out.trans (Gm.bind_err hq))); have HBU := hidb (but_then H.out.but H.out.own hbu); clear hq hbu)))
  all_goals first
    | exact ⟨rfl, .inl ⟨_, _, HR.out, rfl, HBU.out⟩⟩
    | skip
  have HR := hidb (HR.out.trans (Gm.bind_left rfl))
  have H := hidb (H.out.less (Q := PV P (.slice none 0 0)) (fun _ hk => hk.elim id (fun he => by simp [Value.ownBlock] at he)))
  have htl := H.out.tl
  go_loopg [5] s1.ts.length (fun gf s5 wx => ∃ (l : List Nat) (sx : PS) (Vx : Value) (a : Option Addr) (c k : Nat), s5 = .slice a l.length c ∧ St B g b o (PV P (.slice a l.length c)) w V wx Vx sx ∧ IR wx w.heap.size g b Vx (.slice a l.length c) l ∧ R = (Gm.functions e k l >>= fun l => Gm.lay ⟨24, n.x, 0, 0, l, t.p⟩) sx ∧ sx.ts.length ≤ k ∧ k ≤ gf ∧ l.length + sx.ts.length ≤ 100001)
  case atStart => exact ⟨[], s1, V, none, 0, _, rfl, H.out, IR.none _ _ _ _ _, HR.out, Nat.le_refl _, Nat.le_refl _, by simp; omega⟩
  case round =>
    obtain ⟨l, sx, Vx, a, c, k, hs3, hst, hir, hmore, hk, hkg, hll⟩ := hrel
    subst hs3
    have hpos : 0 < sx.ts.length := by obtain ⟨r, hr⟩ := Gm.ne_hd hst.ne; rw [hr]; simp
    obtain ⟨k', rfl⟩ : ∃ k', k = k' + 1 := ⟨k - 1, by omega⟩
    obtain ⟨g', rfl⟩ : ∃ g', gk = g' + 1 := ⟨gk - 1, by omega⟩
    have H := hidb hst
    have HI := hidb hir
    have HR := hidb hmore
    have hc1 : l.length + 1 ≤ maxLen := by unfold maxLen; omega
    have hc2 : (l.length + 1) * 8 ≤ 140737488355328 := by omega
    clear hst hir hmore
    go_wp2_with (first
      | (go_at_call 46; refine (sHere H.out.at).mono ?_; rintro r1 w1 ⟨u, hq, rfl, hs, hb⟩; have HI := hidb (HI.out.below hb); have H := hidb (H.out.below hb); have Tu := hidb hq; clear hs hb hq)
      | (go_at_call 52; refine (pFunction HE.out H.out.at).mono ?_; rintro r1 w1 (⟨er, q, hq, rfl, hbu⟩ | ⟨x, s2, V2, hq, rfl, hs⟩) <;> first | (have HF := hidb (function_lt HE.out.all H.out.ne hq); have HR := hidb (HR.out.trans (functions_ok Tu.out (by first | assumption | (have h : (u.k != 8) = true := (by assumption); simpa using h)) hq)); have HI := hidb (HI.out.step hs); have H := hidb (H.out.trans hs); clear hs hq) | (have HR := hidb (HR.out.trans (functions_err Tu.out (by first | assumption | (have h : (u.k != 8) = true := (by assumption); simpa using h)) hq)); have HBU := hidb (but_then H.out.but H.out.own hbu); clear hq hbu))
      | (at_builtin; refine wpList_append_own_at _ rfl _ _ 44 rfl w.heap.size IT i0 (.int .i64 0) 1 8 Tryz.underlying44 hi0 hz0 hz1 hz2 rfl (by decide) _ _ _ rfl (HI.out.own.alloc _) ⟨w1.heap.size, 0, none⟩ 1 1 [iv x] rfl rfl ?_ ?_ ?_ ?_ ?_ ?_)
      | (go_at_call 53; refine (sLayR (HR.out.trans (functions_end Tu.out (by first | assumption | (have h : (u.k != 8) = false := (by assumption); simpa using h)))) H.out.drop.at (HI.out.lr HP.out)).mono ?_; rintro r1 w2 (⟨er, q, hq, rfl, hbu⟩ | ⟨z, s1, V1, hq, rfl, hs⟩) <;> first | (have H := hidb (H.out.drop.trans hs); have HR := hidb hq; clear hs hq) | (have HR := hidb hq; have HBU := hidb (but_then H.out.but H.out.own hbu); clear hq hbu)))
    all_goals first
      | (intro q u hq; exact app_ints _ _ _ rfl q u hq)
      | (intro u hu; cases List.mem_singleton.1 hu; rfl)
      | exact hc1
      | exact hc2
      | (have := H.out.but.size; simp; omega)
      | exact ⟨rfl, .inl ⟨_, _, HR.out, rfl, HBU.out⟩⟩
      | exact bodyPost_ret (v := iv z) (by simp [results, Tryz.results23, go_sem]) rfl (.inr ⟨_, _, _, HR.out, rfl, H.out⟩)
      | (intro v' w3 hown hgrow hnil hat
         obtain ⟨j1, j2⟩ := IR.app (xs := [x]) H.out HI.out hgrow hat hown
         obtain ⟨a', c', rfl⟩ := j1.sl
         have HI := hidb j1
         have H := hidb j2
         clear j1 j2 hown hgrow hnil hat
         go_wp2_with fail
         go_roundg g'
         (case measure => omega)
         (case rel => exact ⟨l ++ [x], s2, V2, a', c', k', rfl, H.out, HI.out, HR.out, (by have := HF.out; omega), (by omega), (by have := HF.out; simp; omega)⟩))
end Go.Proofs.YthdljnakmekhkaaGreatDoor


