import Derived.Test.YthdljnakmekhkaaGreatDoorG11
import Derived.Test.YthdljnakmekhkaaGreatDoorST
namespace Go.Proofs.YthdljnakmekhkaaGreatDoor
namespace Rf
open Go.RowKit Go.Lib
attribute [local go_sem] store_float f64bits
attribute [local go_sem ↓] Go.wp_at_zero Go.wp_at_succ
attribute [local go_sem] nd_p tk_k tk_x tk_n tk_f tk_p
variable {B g b o : Nat} {e : PM Nat}
theorem needK_hd {k : Int} {s s' : PS} {t : Tk} (h : Gm.needK k s = .ok (t, s')) : t = Gm.hd s := by
  unfold Gm.needK at h
  split at h
  · cases h; rfl
  · cases h
theorem fclause_is {α : Type} (F : Nat → PM α) : (Gm.fclause e >>= F) = (Gm.needK 1 >>= fun t => Gm.need ⟨#[40]⟩ >>= fun _ => maybeP e ⟨#[41]⟩ 16 >>= fun l => Gm.tail e t.p t.x l >>= F) := by
  show (Gm.needK 1 >>= fun t => (Gm.need ⟨#[40]⟩ >>= fun _ => maybeP e ⟨#[41]⟩ 16) >>= fun l => Gm.tail e t.p t.x l) >>= F = _
  rw [assocF]
  congr 1
  funext t
  rw [assocF, assocF]
def finC (c p : Nat) : PM Nat := fun s =>
  let f := s.ns.getD ((s.ns.getD c ⟨0, ⟨#[]⟩, 0, 0, [], 0⟩).l.headD 0) ⟨0, ⟨#[]⟩, 0, 0, [], 0⟩
  Gm.lay ⟨23, f.x, f.n, 0, [c], p⟩ s
def finF (p : Nat) (l : List Nat) : PM Nat := Gm.lay ⟨20, ⟨#[]⟩, 0, 0, l, p⟩ >>= fun c => Gm.need ⟨#[46]⟩ >>= fun _ => finC c p
theorem function_is (s : PS) : Gm.functionOf e s = (Gm.fclause e >>= fun x => Gm.left >>= fun k => Gm.moreC (Gm.fclause e) k [x] >>= finF (Gm.hd s).p) s := by
  have h : (Gm.clauses (Gm.fclause e) >>= fun c => Gm.need ⟨#[46]⟩ >>= fun _ => finC c (Gm.hd s).p) = (Gm.here >>= fun t => Gm.fclause e >>= fun x => Gm.left >>= fun k => Gm.moreC (Gm.fclause e) k [x] >>= fun l => Gm.lay ⟨20, ⟨#[]⟩, 0, 0, l, t.p⟩ >>= fun c => Gm.need ⟨#[46]⟩ >>= fun _ => finC c (Gm.hd s).p) := by
    unfold Gm.clauses
    rw [assocF]
    congr 1
    funext t
    rw [assocF]
    congr 1
    funext x
    rw [assocF]
    congr 1
    funext k
    rw [assocF]
  show (Gm.clauses (Gm.fclause e) >>= fun c => Gm.need ⟨#[46]⟩ >>= fun _ => finC c (Gm.hd s).p) s = _
  rw [h]
  rfl
theorem fin_is {c p x0 : Nat} {r : List Nat} {s : PS} {n f : Nd} (hc : s.ns[c]? = some n) (hl : n.l = x0 :: r) (hf : s.ns[x0]? = some f) : finC c p s = Gm.lay ⟨23, f.x, f.n, 0, [c], p⟩ s := by
  unfold finC
  simp only [List.getD_eq_getElem?_getD, hc, Option.getD_some, hl, List.headD_cons, hf]
theorem tail_node {p : Nat} {x : ByteArray} {l : List Nat} {s s' : PS} {y : Nat} (h : Gm.tail e p x l s = .ok (y, s')) : ∃ f, s'.ns[y]? = some f ∧ f.x = x ∧ f.n = (l.length : Int) := by
  obtain ⟨_, _, _, h⟩ := bind_inv h
  obtain ⟨_, _, _, h⟩ := bind_inv h
  obtain ⟨_, _, _, h⟩ := bind_inv h
  obtain ⟨h1, h2⟩ := lay_at h
  exact ⟨⟨21, x, (l.length : Int), 0, _, p⟩, by rw [h2, h1]; simp; rfl, rfl, rfl⟩
def Fst (ns : List Nd) (l : List Nat) (nm : ByteArray) (nn : Int) : Prop := ∀ x0 r, l = x0 :: r → ∃ f, ns[x0]? = some f ∧ f.x = nm ∧ f.n = nn
theorem Fst.grow {ns m : List Nd} {l : List Nat} {nm : ByteArray} {nn : Int} (h : Fst ns l nm nn) (hm : ∃ c, m = ns ++ c) : Fst m l nm nn := by
  obtain ⟨c, rfl⟩ := hm
  intro x0 r hl
  obtain ⟨f, h1, h2⟩ := h x0 r hl
  exact ⟨f, by rw [List.getElem?_append_left (List.getElem?_eq_some_iff.1 h1).1]; exact h1, h2⟩
theorem Fst.app {ns : List Nd} {l : List Nat} {nm : ByteArray} {nn : Int} {x : Nat} (h : Fst ns l nm nn) (hl : l ≠ []) : Fst ns (l ++ [x]) nm nn := by
  cases l with
  | nil => exact absurd rfl hl
  | cons a r => intro x0 r' he; simp at he; exact h x0 r (by rw [he.1])
theorem ns_of {α : Type} {m : PM α} (ha : Gm.All m) {s s' : PS} {x : α} (hn : Ne s) (h : m s = .ok (x, s')) : ∃ c, s'.ns = s.ns ++ c := (ha s hn x s' h).1.ns
theorem all_maybe {x : ByteArray} {most : Nat} (he : Gm.All e) : Gm.All (maybeP e x most) := Gm.all_bind (Gm.all_take _) (fun _ => Gm.all_ite (Gm.all_pure _) (Gm.all_bind (Gm.all_exprs he _) fun _ => Gm.all_bind (Gm.all_need _) fun _ => Gm.all_pure _))
theorem fin_end {c p : Nat} {l : List Nat} {s s' : PS} {n : Nd} {nm : ByteArray} {nn : Int} {ns : List Nd} (hl : c = ns.length ∧ s.ns = ns ++ [n]) (hf : Fst s.ns l nm nn) (hn : s'.ns = s.ns) (hh : n.l = l ∧ l ≠ []) : finC c p s' = Gm.lay ⟨23, nm, nn, 0, [c], p⟩ s' := by
  obtain ⟨h1, h2⟩ := hh
  cases l with
  | nil => exact absurd rfl h2
  | cons x0 r =>
    obtain ⟨f, h3, h4, h5⟩ := hf x0 r rfl
    rw [fin_is (n := n) (by rw [hn, hl.2, hl.1]; simp) h1 (by rw [hn]; exact h3), h4, h5]
set_option maxHeartbeats 8000000 in
set_option maxRecDepth 100000 in
theorem pFunction (hE : EC B g b o e) {P : Nat → Prop} {w : World} {V : Value} {s : PS} (h : At B g b o P w V s) :
    Calls Tryz.prog 31 #[.pointer (some ⟨g, 0, none⟩)] w fun r w' => Rz B g b o P w V (Gm.functionOf e s) r w' := by
  obtain ⟨i0, hi0, hz0, hz1, hz2⟩ := info_parts (P := Tryz.prog) (e := IT) (z := .int .i64 0) (size := 1) (bytes := 8) (by kernel_rfl)
  have H : Hid (St B g b o P w V w V s) := hidb h
  have HE := hidb hE
  have HP := hidb h.plt
  obtain ⟨R, hR⟩ : ∃ R, Gm.functionOf e s = R := ⟨_, rfl⟩
  rw [hR]
  have HR := hidb (hR.symm.trans (function_is s))
  have htl := h.tl
  have HGB := hidb (And.intro h.glt h.blt)
  have MB : Hid True := hidb trivial
  clear hR h hE
  go_enter Tryz.func31, Tryz.ntmps31
  go_wp2_with (first
    | (go_at_call 26; refine (sNow H.out).mono ?_; rintro r1 w1 ⟨t, hq, rfl, hb⟩; replace H := hidb (H.out.below hb); have Tt := hidb hq; clear hb hq))
  have HR := hidb (by have := HR.out; rw [Tt.out] at this; exact this)
  have H0 : Hid (St B g b o (PV P (.slice none 0 0)) w V w1 V s) := hidb (H.out.more (fun k hk => by simp [Value.ownBlock] at hk) (H.out.ns.newer (fun k hk => by simp [Value.ownBlock] at hk)))
  go_loopg [4, 5, 6] s.ts.length (fun gf s4 s5 s6 wx => ∃ (l : List Nat) (sx : PS) (Vx : Value) (a : Option Addr) (c : Nat) (F : Nat → PM Nat) (nm : ByteArray) (nn : Int), s4 = .slice a l.length c ∧ s5 = .string nm ∧ s6 = .int .i64 nn ∧ St B g b o (PV P (.slice a l.length c)) w V wx Vx sx ∧ IR wx w.heap.size g b Vx (.slice a l.length c) l ∧ R = (Gm.fclause e >>= F) sx ∧ (∀ x s1, s1.ts.length ≤ sx.ts.length → ∃ k, s1.ts.length ≤ k ∧ F x s1 = (Gm.moreC (Gm.fclause e) k (l ++ [x]) >>= finF t.p) s1) ∧ sx.ts.length ≤ gf ∧ l.length + sx.ts.length ≤ 100001 ∧ Fst sx.ns l nm nn)
  case atStart => exact ⟨[], s, V, none, 0, fun x => Gm.left >>= fun k => Gm.moreC (Gm.fclause e) k [x] >>= finF t.p, ⟨#[]⟩, 0, rfl, rfl, rfl, H0.out, IR.none _ _ _ _ _, HR.out, fun x s1 _ => ⟨s1.ts.length, Nat.le_refl _, rfl⟩, Nat.le_refl _, by simp; omega, fun _ _ h => by cases h⟩
  case round =>
    obtain ⟨l, sx, Vx, a, c, F, nm, nn, hs4, hs5, hs6, hst, hir, hmore, hF, hgf, hll, hfs⟩ := hrel
    subst hs4
    subst hs5
    subst hs6
    clear HR H H0 Tt
    have hpos := ne_pos hst.ne
    obtain ⟨g', rfl⟩ : ∃ g', gk = g' + 1 := ⟨gk - 1, by omega⟩
    have H := hidb hst
    have HI := hidb hir
    have HR := hidb (hmore.trans (congrFun (fclause_is F) sx))
    have HFF := hidb hF
    have HNS := hidb hfs
    have hc1 : l.length + 1 ≤ maxLen := by unfold maxLen; omega
    have hc2 : (l.length + 1) * 8 ≤ 140737488355328 := by omega
    have hlb : l.length ≤ 100002 := by omega
    have hgl : g < w.heap.size := HGB.out.1
    have hbl : b < w.heap.size := HGB.out.2
    clear hst hir hmore hF hfs
    by_cases hle : l = []
    · have e0 : (((l.length : Nat) : Int) == 0) = true := by rw [hle]; rfl
      have HLE := hidb hle
      clear hle
      (
        go_wp2_with (first
          | (go_at_call 26; refine (sNow H.out).mono ?_; rintro r1 w1 ⟨⟨ck, cx, cn, cf, cp⟩, hq, rfl, hb⟩; have Tt := hidb hq; replace HI := hidb (HI.out.below hb); replace H := hidb (H.out.below hb); clear hb hq)
          | (go_at_call 30; refine (sKind (by decide) H.out.at).mono ?_; rintro r1 wn (⟨er, q', ⟨tk, tx, tn, tf, tp⟩, hq, rfl, hbd⟩ | ⟨⟨tk, tx, tn, tf, tp⟩, s1, hq, rfl, hs⟩) <;> first | (have hcp : cp = tp := (congrArg Tk.p ((needK_hd hq).trans Tt.out)).symm; subst hcp; replace HNS := hidb (HNS.out.grow (ns_of (Gm.all_needK (by decide)) H.out.ne hq)); have HLN := hidb (Gm.all_needK (by decide) _ H.out.ne _ _ hq).1.len; replace HI := hidb (HI.out.step hs); replace H := hidb (H.out.trans hs); replace HR := hidb (HR.out.trans (Gm.bind_ok hq)); have BX := hidb (Box.new wn 41 (.int .i64 tk) (.string tx) (.int .i64 tn) (.float .f64 tf) (.int .i64 (cp : Int))); replace HI := hidb (HI.out.below (below_new wn (.cells #[.int .i64 tk, .string tx, .int .i64 tn, .float .f64 tf, .int .i64 (cp : Int)] 41))); replace H := hidb (H.out.hold (.cells #[.int .i64 tk, .string tx, .int .i64 tn, .float .f64 tf, .int .i64 (cp : Int)] 41)); obtain ⟨x0, x1, x2, x3, x4, -, -, -, -, -, xl⟩ := BX.out; clear hs hq) | (have HRE := hidb (HR.out.trans (Gm.bind_err hq)); have HNG := hidb HI.out.ng; have HW := hidb (HI.out.badrow hlb hbd); replace H := hidb (H.out.bad hbd); have HXG := hidb (by have := H.out.glt; omega : wn.heap.size ≠ g); have BX := hidb (Box.new wn 41 (.int .i64 tk) (.string tx) (.int .i64 tn) (.float .f64 tf) (.int .i64 (tp : Int))); replace HW := hidb (RB.but HW.out (But.of_below (S := fun _ => False) (below_new wn (.cells #[.int .i64 tk, .string tx, .int .i64 tn, .float .f64 tf, .int .i64 (tp : Int)] 41))) (fun _ _ h => h)); replace H := hidb (H.out.keep (below_new wn (.cells #[.int .i64 tk, .string tx, .int .i64 tn, .float .f64 tf, .int .i64 (tp : Int)] 41))); obtain ⟨x0, x1, x2, x3, x4, -, -, -, -, -, xl⟩ := BX.out; clear hq hbd HR HI))
          | (go_at_call 27; refine (sWant (by first | exact .inl ⟨rfl, rfl⟩ | exact .inr ⟨rfl, rfl⟩) H.out.at).mono ?_; rintro r1 w1 (⟨er, q', hq, rfl, hbd⟩ | ⟨s1, hq, rfl, hs⟩) <;> first | (replace BX := hidb (Box.but BX.out hs.but (bx_no H.out)); obtain ⟨x0, x1, x2, x3, x4, -, -, -, -, -, xl⟩ := BX.out; replace HNS := hidb (HNS.out.grow (ns_of (Gm.all_need _) H.out.ne hq)); replace HLN := hidb (Nat.le_trans (Gm.all_need _ _ H.out.ne _ _ hq).1.len HLN.out); replace HI := hidb (HI.out.step hs); replace H := hidb (H.out.trans hs); replace HR := hidb (HR.out.trans (Gm.bind_ok hq)); clear hs hq) | (have HRE := hidb (HR.out.trans (Gm.bind_err hq)); replace BX := hidb (Box.but BX.out hbd.but (bx_no H.out)); have HXG := hidb (fun e => (bx_no H.out) (.inl e) : wn.heap.size ≠ g); obtain ⟨x0, x1, x2, x3, x4, -, -, -, -, -, xl⟩ := BX.out; have HNG := hidb HI.out.ng; have HW := hidb (HI.out.badrow hlb hbd); replace H := hidb (H.out.bad hbd); clear hq hbd HR HI))
          | (go_at_call 62; refine (pMaybeT HE.out (x := ⟨#[41]⟩) rfl H.out.at).mono ?_; rintro r1 w1 (⟨er, q', v, la, hq, rfl, hw, hng, hbd⟩ | ⟨la, s1, V1, v, hq, rfl, hs, hs2, hi, hlen⟩) <;> first | (obtain ⟨aa, ac, rfl⟩ := hi.sl; have HA := hidb hi; have HN := hidb hlen; replace BX := hidb (Box.but BX.out hs.but (bx_no H.out)); obtain ⟨x0, x1, x2, x3, x4, -, -, -, -, -, xl⟩ := BX.out; replace HNS := hidb (HNS.out.grow (ns_of (all_maybe HE.out.all) H.out.ne hq)); replace HLN := hidb (Nat.le_trans (all_maybe HE.out.all _ H.out.ne _ _ hq).1.len HLN.out); replace HI := hidb (HI.out.step hs); replace H := hidb (H.out.trans hs2); replace HR := hidb (HR.out.trans (Gm.bind_ok hq)); clear hs hs2 hi hq hlen) | (obtain ⟨aa, ac, rfl⟩ := own_sl hw.1; have HRE := hidb (HR.out.trans (Gm.bind_err hq)); replace BX := hidb (Box.but BX.out hbd.but (bx_no H.out)); have HXG := hidb (fun e => (bx_no H.out) (.inl e) : wn.heap.size ≠ g); obtain ⟨x0, x1, x2, x3, x4, -, -, -, -, -, xl⟩ := BX.out; have HNG := hidb HI.out.ng; have HW := hidb (HI.out.badrow hlb hbd); have HAW := hidb hw; have HAG := hidb hng; replace H := hidb (H.out.bad hbd); clear hq hbd hw hng HR HI))
          | (go_at_call 63; refine (pClause HE.out _ la _ cp H.out.at HA.out HN.out).mono ?_; rintro r1 w2 (⟨er, q', x, hq, rfl, hbd⟩ | ⟨x, s2, V2, hq, rfl, hs⟩) <;> first | (replace BX := hidb (Box.but BX.out hs.but (bx_no H.out.drop)); obtain ⟨x0, x1, x2, x3, x4, -, -, -, -, -, xl⟩ := BX.out; replace HNS := hidb (HNS.out.grow (ns_of (Gm.all_tail HE.out.all _ _ _) H.out.ne hq)); replace HLN := hidb (Nat.le_trans (Gm.all_tail HE.out.all _ _ _ _ H.out.ne _ _ hq).1.len HLN.out); have HTN := hidb (tail_node hq); replace HI := hidb (HI.out.step hs); replace H := hidb (H.out.trans hs).drop.drop; replace HR := hidb (HR.out.trans (Gm.bind_ok hq)); clear hs hq) | (have HRE := hidb (HR.out.trans (Gm.bind_err hq)); replace BX := hidb (Box.but BX.out hbd.but (bx_no H.out.drop)); obtain ⟨x0, x1, x2, x3, x4, -, -, -, -, -, xl⟩ := BX.out; have HNG := hidb HI.out.ng; have HW := hidb (HI.out.badrow hlb hbd); replace H := hidb (H.out.bad hbd); clear hq hbd HR HI))
          | (go_at_call 27; refine (bWant _ _ H.out).mono ?_; rintro r1 w1 ⟨rfl, hd, hb⟩; replace BX := hidb (Box.but BX.out hb (fun e => HXG.out e)); obtain ⟨x0, x1, x2, x3, x4, -, -, -, -, -, xl⟩ := BX.out; replace HW := hidb (RB.but HW.out hb (fun k hk he => HNG.out (by have he2 : k = g := he; exact he2 ▸ hk))); replace H := hidb hd; clear hb hd)
          | (go_at_call 62; refine (bMaybe _ _ H.out).mono ?_; rintro r1 w1 ⟨va, vc, rfl, hr, hd, hb⟩; have HAG := hidb (fun e => by have := RB.low hr g e; have := H.out.glt; omega : (Value.slice va 1 vc).ownBlock ≠ some g); have HAW := hidb hr; replace BX := hidb (Box.but BX.out hb (fun e => HXG.out e)); obtain ⟨x0, x1, x2, x3, x4, -, -, -, -, -, xl⟩ := BX.out; replace HW := hidb (RB.but HW.out hb (fun k hk he => HNG.out (by have he2 : k = g := he; exact he2 ▸ hk))); replace H := hidb hd; clear hr hb hd)
          | (go_at_call 63; refine (bClause _ _ _ _ HAW.out HAG.out H.out).mono ?_; rintro r1 w2 ⟨rfl, hd, hb⟩; replace BX := hidb (Box.but BX.out hb (fun e => HXG.out e)); obtain ⟨x0, x1, x2, x3, x4, -, -, -, -, -, xl⟩ := BX.out; replace HW := hidb (RB.but HW.out hb (fun k hk he => HNG.out (by have he2 : k = g := he; exact he2 ▸ hk))); replace H := hidb hd; clear hb hd)
          | (at_builtin; refine wpList_append_own_at _ rfl _ _ 44 rfl w.heap.size IT i0 (.int .i64 0) 1 8 Tryz.underlying44 hi0 hz0 hz1 hz2 rfl (by decide) _ _ _ rfl (HI.out.own.alloc _) ⟨w2.heap.size, 0, none⟩ 1 1 [iv x] rfl rfl ?_ ?_ ?_ ?_ ?_ ?_)
          | (at_builtin; refine wpList_append_own_at _ rfl _ _ 44 rfl w.heap.size IT i0 (.int .i64 0) 1 8 Tryz.underlying44 hi0 hz0 hz1 hz2 rfl (by decide) _ _ _ rfl (HW.out.1.alloc _) ⟨w2.heap.size, 0, none⟩ 1 1 [iv x] rfl rfl ?_ ?_ ?_ ?_ ?_ ?_)
          | (at_builtin; refine wpList_append_own_at _ rfl _ _ 44 rfl w.heap.size IT i0 (.int .i64 0) 1 8 Tryz.underlying44 hi0 hz0 hz1 hz2 rfl (by decide) _ _ _ rfl (HW.out.1.alloc _) ⟨w2.heap.size, 0, none⟩ 1 1 [iv 0] rfl rfl ?_ ?_ ?_ ?_ ?_ ?_))
        all_goals first
          | (intro q u hq; exact app_ints _ _ _ rfl q u hq)
          | (intro u hu; cases List.mem_singleton.1 hu; rfl)
          | exact hc1
          | exact hc2
          | (have := H.out.but.size; simp; omega)
          | skip
        · intro v' w3 hown hgrow hnil hat
          obtain ⟨j1, j2, j3⟩ := RB.app (xs := [0]) H.out hgl hbl HW.out hgrow hown (by simp; omega)
          obtain ⟨a', c', rfl⟩ := own_sl j1.1
          replace H := hidb j2
          have HB : Hid (But (· = g) w3 w3) := hidb (But.refl _ _)
          clear j1 j2 j3 hown hgrow hnil hat HW BX
          go_wp2_with (first
            | (go_at_call 64; refine (bSign _ H.out).mono ?_; rintro r1 w1 ⟨rfl, hb⟩; replace HB := hidb (HB.out.trans (But.of_below hb)); replace H := hidb (H.out.keep hb); clear hb)
            | (go_at_call 32; clear MB; refine (bNode _ _ _ _ _ _ H.out).mono ?_; rintro r1 w1 ⟨rfl, hd, hb⟩; replace H := hidb hd; clear hb hd)
            | (go_at_call 27; refine (bWant _ _ H.out).mono ?_; rintro r1 w1 ⟨rfl, hd, hb⟩; replace H := hidb hd; clear hb hd)
            | (go_at_call 32; refine (bNode _ _ _ _ _ _ (H.out.keep (below_new _ _))).mono ?_; rintro r1 w1 ⟨rfl, hd, hb⟩; replace H := hidb hd; clear hb hd))
          go_ret
          exact .inl ⟨_, _, _, HRE.out, rfl, H.out⟩
        · intro v' w3 hown hgrow hnil hat
          obtain ⟨j1, j2, j3⟩ := RB.app (xs := [0]) H.out hgl hbl HW.out hgrow hown (by simp; omega)
          obtain ⟨a', c', rfl⟩ := own_sl j1.1
          replace H := hidb j2
          have HB : Hid (But (· = g) w3 w3) := hidb (But.refl _ _)
          clear j1 j2 j3 hown hgrow hnil hat HW BX
          go_wp2_with (first
            | (go_at_call 64; refine (bSign _ H.out).mono ?_; rintro r1 w1 ⟨rfl, hb⟩; replace HB := hidb (HB.out.trans (But.of_below hb)); replace H := hidb (H.out.keep hb); clear hb)
            | (go_at_call 32; clear MB; refine (bNode _ _ _ _ _ _ H.out).mono ?_; rintro r1 w1 ⟨rfl, hd, hb⟩; replace H := hidb hd; clear hb hd)
            | (go_at_call 27; refine (bWant _ _ H.out).mono ?_; rintro r1 w1 ⟨rfl, hd, hb⟩; replace H := hidb hd; clear hb hd)
            | (go_at_call 32; refine (bNode _ _ _ _ _ _ (H.out.keep (below_new _ _))).mono ?_; rintro r1 w1 ⟨rfl, hd, hb⟩; replace H := hidb hd; clear hb hd))
          go_ret
          exact .inl ⟨_, _, _, HRE.out, rfl, H.out⟩
        · intro v' w3 hown hgrow hnil hat
          obtain ⟨j1, j2, j3⟩ := RB.app (xs := [0]) H.out hgl hbl HW.out hgrow hown (by simp; omega)
          obtain ⟨a', c', rfl⟩ := own_sl j1.1
          replace H := hidb j2
          have HB : Hid (But (· = g) w3 w3) := hidb (But.refl _ _)
          clear j1 j2 j3 hown hgrow hnil hat HW BX
          go_wp2_with (first
            | (go_at_call 64; refine (bSign _ H.out).mono ?_; rintro r1 w1 ⟨rfl, hb⟩; replace HB := hidb (HB.out.trans (But.of_below hb)); replace H := hidb (H.out.keep hb); clear hb)
            | (go_at_call 32; clear MB; refine (bNode _ _ _ _ _ _ H.out).mono ?_; rintro r1 w1 ⟨rfl, hd, hb⟩; replace H := hidb hd; clear hb hd)
            | (go_at_call 27; refine (bWant _ _ H.out).mono ?_; rintro r1 w1 ⟨rfl, hd, hb⟩; replace H := hidb hd; clear hb hd)
            | (go_at_call 32; refine (bNode _ _ _ _ _ _ (H.out.keep (below_new _ _))).mono ?_; rintro r1 w1 ⟨rfl, hd, hb⟩; replace H := hidb hd; clear hb hd))
          go_ret
          exact .inl ⟨_, _, _, HRE.out, rfl, H.out⟩
        · intro v' w3 hown hgrow hnil hat
          obtain ⟨j1, j2, j3⟩ := RB.app (xs := [x]) H.out hgl hbl HW.out hgrow hown (by simp; omega)
          obtain ⟨a', c', rfl⟩ := own_sl j1.1
          replace H := hidb j2
          have HB : Hid (But (· = g) w3 w3) := hidb (But.refl _ _)
          clear j1 j2 j3 hown hgrow hnil hat HW BX
          go_wp2_with (first
            | (go_at_call 64; refine (bSign _ H.out).mono ?_; rintro r1 w1 ⟨rfl, hb⟩; replace HB := hidb (HB.out.trans (But.of_below hb)); replace H := hidb (H.out.keep hb); clear hb)
            | (go_at_call 32; clear MB; refine (bNode _ _ _ _ _ _ H.out).mono ?_; rintro r1 w1 ⟨rfl, hd, hb⟩; replace H := hidb hd; clear hb hd)
            | (go_at_call 27; refine (bWant _ _ H.out).mono ?_; rintro r1 w1 ⟨rfl, hd, hb⟩; replace H := hidb hd; clear hb hd)
            | (go_at_call 32; refine (bNode _ _ _ _ _ _ (H.out.keep (below_new _ _))).mono ?_; rintro r1 w1 ⟨rfl, hd, hb⟩; replace H := hidb hd; clear hb hd))
          go_ret
          exact .inl ⟨_, _, _, HRE.out, rfl, H.out⟩
        · intro v' w3 hown hgrow hnil hat
          obtain ⟨j1, j2⟩ := IR.app (xs := [x]) H.out HI.out hgrow hat hown
          obtain ⟨a', c', rfl⟩ : ∃ a' c', v' = .slice a' (l.length + 1) c' := by obtain ⟨a', c', h⟩ := j1.sl; exact ⟨a', c', by simpa using h⟩
          replace HI := hidb j1
          replace H := hidb j2
          clear j1 j2 hown hgrow hnil hat BX
          obtain ⟨k, hk, hm⟩ := HFF.out x s2 HLN.out
          have hp1 := ne_pos H.out.ne
          obtain ⟨k', rfl⟩ : ∃ k', k = k' + 1 := ⟨k - 1, by omega⟩
          replace HR := hidb ((HR.out.trans hm).trans (Gm.assoc _ _ _ _))
          have HF2 : Hid (Fst s2.ns (l ++ [x]) tx (la.length : Int)) := hidb (by have hle := HLE.out; subst hle; intro x0 r he; simp at he; obtain ⟨f, h1, h2, h3⟩ := HTN.out; exact ⟨f, by rw [← he.1]; exact h1, h2, h3⟩)
          have hlen := HLN.out
          clear hm
          go_wp2_with (first
            | (go_at_call 64; refine (sSign (x := ⟨#[59]⟩) rfl H.out).mono ?_; rintro r1 w4 ⟨⟨hq, rfl⟩ | ⟨hq, rfl⟩, hb⟩ <;> first | (have HT : Hid (Gm.isM (Gm.hd s2) ⟨#[59]⟩ = true) := hidb hq; replace HI := hidb (HI.out.below hb); replace H := hidb (H.out.below hb); replace HR := hidb ((HR.out.trans (Gm.bind_ok (take_t hq))).trans (Gm.assoc _ _ _ _)); clear hb hq) | (replace HI := hidb (HI.out.below hb); replace H := hidb (H.out.below hb); have HR2 : Hid (R = (Gm.lay ⟨20, ⟨#[]⟩, 0, 0, l ++ [x], t.p⟩ >>= fun c => Gm.need ⟨#[46]⟩ >>= fun _ => finC c t.p) s2) := hidb (HR.out.trans (Gm.bind_ok (take_f hq))); clear hb hq HR; have HR := HR2; clear HR2))
            | (go_at_call 29; refine (sNext H.out.at (Gm.isM_k HT.out)).mono ?_; rintro r1 w5 ⟨rfl, hs⟩; have HC := hidb (cut_len H.out.ne); replace H := hidb (H.out.trans hs); replace HI := hidb (HI.out.step hs); clear hs)
            | (go_at_call 32; clear MB; refine (sNode ⟨20, ⟨#[]⟩, 0, 0, l ++ [x], t.p⟩ _ H.out.drop.at (HI.out.lr HP.out)).mono ?_; rintro r1 w6 (⟨er, q, c2, hq, rfl, hbd⟩ | ⟨c2, s3, V3, hq, rfl, hs⟩) <;> first | (have HLY := hidb (lay_at hq); replace HF2 := hidb (HF2.out.grow ⟨_, (lay_at hq).2⟩); replace H := hidb (H.out.drop.trans hs); replace HR := hidb (HR.out.trans (Gm.bind_ok hq)); clear hs hq HI) | (have HRE := hidb (HR.out.trans (Gm.bind_err hq)); replace H := hidb (H.out.drop.bad hbd); clear hq hbd HR HI))
            | (go_at_call 27; refine (sWant (by first | exact .inl ⟨rfl, rfl⟩ | exact .inr ⟨rfl, rfl⟩) H.out.at).mono ?_; rintro r1 w1 (⟨er, q', hq, rfl, hbd⟩ | ⟨s4, hq, rfl, hs⟩) <;> first | (have HNN := hidb (need_ns hq); replace H := hidb (H.out.trans hs); replace HR := hidb (HR.out.trans (Gm.bind_ok hq)); clear hs hq) | (have HRE := hidb (HR.out.trans (Gm.bind_err hq)); replace H := hidb (H.out.bad hbd); clear hq hbd HR))
            | (go_at_call 32; refine (sNodeR (n := ⟨23, tx, (la.length : Int), 0, [c2], t.p⟩) (HR.out.trans (fin_end HLY.out HF2.out HNN.out (by simp))) (IR.lit H.out #[iv c2] [c2] rfl (by simp)).2.drop.at ((IR.lit H.out #[iv c2] [c2] rfl (by simp)).1.lr HP.out)).mono ?_; rintro r1 w6 (⟨er, q, z, hq, rfl, hbd⟩ | ⟨z, s5, V5, hq, rfl, hs⟩) <;> first | (replace H := hidb ((IR.lit H.out #[iv c2] [c2] rfl (by simp)).2.drop.trans hs); replace HR := hidb hq; clear hs hq) | (have HRE := hidb hq; replace H := hidb ((IR.lit H.out #[iv c2] [c2] rfl (by simp)).2.drop.bad hbd); clear hq hbd HR))
            | (go_at_call 27; refine (bWant _ _ H.out).mono ?_; rintro r1 w1 ⟨rfl, hd, hb⟩; replace H := hidb hd; clear hb hd)
            | (go_at_call 32; refine (bNode _ _ _ _ _ _ (H.out.keep (below_new _ _))).mono ?_; rintro r1 w1 ⟨rfl, hd, hb⟩; replace H := hidb hd; clear hb hd))
          all_goals first
            | (go_roundg g'
               case measure => omega
               case rel => exact ⟨l ++ [x], Gm.cut s2, V2, a', c', fun y => Gm.moreC _ k' (l ++ [x] ++ [y]) >>= finF t.p, tx, (la.length : Int), by simp, rfl, rfl, by simpa using H.out, by simpa using HI.out, HR.out, fun y s2 h2 => ⟨k', by have := HC.out; omega, rfl⟩, by have := HC.out; omega, by have := HC.out; simp; omega, HF2.out⟩)
            | (go_ret
               first
                 | exact .inr ⟨_, _, _, HR.out, rfl, H.out⟩
                 | exact .inl ⟨_, _, _, HRE.out, rfl, H.out⟩)
      )
    · have e0 : (((l.length : Nat) : Int) == 0) = false := by have := List.length_pos_iff.2 hle; simp; omega
      have HLE := hidb hle
      clear hle
      (
        go_wp2_with (first
          | (go_at_call 26; refine (sNow H.out).mono ?_; rintro r1 w1 ⟨⟨ck, cx, cn, cf, cp⟩, hq, rfl, hb⟩; have Tt := hidb hq; replace HI := hidb (HI.out.below hb); replace H := hidb (H.out.below hb); clear hb hq)
          | (go_at_call 30; refine (sKind (by decide) H.out.at).mono ?_; rintro r1 wn (⟨er, q', ⟨tk, tx, tn, tf, tp⟩, hq, rfl, hbd⟩ | ⟨⟨tk, tx, tn, tf, tp⟩, s1, hq, rfl, hs⟩) <;> first | (have hcp : cp = tp := (congrArg Tk.p ((needK_hd hq).trans Tt.out)).symm; subst hcp; replace HNS := hidb (HNS.out.grow (ns_of (Gm.all_needK (by decide)) H.out.ne hq)); have HLN := hidb (Gm.all_needK (by decide) _ H.out.ne _ _ hq).1.len; replace HI := hidb (HI.out.step hs); replace H := hidb (H.out.trans hs); replace HR := hidb (HR.out.trans (Gm.bind_ok hq)); have BX := hidb (Box.new wn 41 (.int .i64 tk) (.string tx) (.int .i64 tn) (.float .f64 tf) (.int .i64 (cp : Int))); replace HI := hidb (HI.out.below (below_new wn (.cells #[.int .i64 tk, .string tx, .int .i64 tn, .float .f64 tf, .int .i64 (cp : Int)] 41))); replace H := hidb (H.out.hold (.cells #[.int .i64 tk, .string tx, .int .i64 tn, .float .f64 tf, .int .i64 (cp : Int)] 41)); obtain ⟨x0, x1, x2, x3, x4, -, -, -, -, -, xl⟩ := BX.out; clear hs hq) | (have HRE := hidb (HR.out.trans (Gm.bind_err hq)); have HNG := hidb HI.out.ng; have HW := hidb (HI.out.badrow hlb hbd); replace H := hidb (H.out.bad hbd); have HXG := hidb (by have := H.out.glt; omega : wn.heap.size ≠ g); have BX := hidb (Box.new wn 41 (.int .i64 tk) (.string tx) (.int .i64 tn) (.float .f64 tf) (.int .i64 (tp : Int))); replace HW := hidb (RB.but HW.out (But.of_below (S := fun _ => False) (below_new wn (.cells #[.int .i64 tk, .string tx, .int .i64 tn, .float .f64 tf, .int .i64 (tp : Int)] 41))) (fun _ _ h => h)); replace H := hidb (H.out.keep (below_new wn (.cells #[.int .i64 tk, .string tx, .int .i64 tn, .float .f64 tf, .int .i64 (tp : Int)] 41))); obtain ⟨x0, x1, x2, x3, x4, -, -, -, -, -, xl⟩ := BX.out; clear hq hbd HR HI))
          | (go_at_call 27; refine (sWant (by first | exact .inl ⟨rfl, rfl⟩ | exact .inr ⟨rfl, rfl⟩) H.out.at).mono ?_; rintro r1 w1 (⟨er, q', hq, rfl, hbd⟩ | ⟨s1, hq, rfl, hs⟩) <;> first | (replace BX := hidb (Box.but BX.out hs.but (bx_no H.out)); obtain ⟨x0, x1, x2, x3, x4, -, -, -, -, -, xl⟩ := BX.out; replace HNS := hidb (HNS.out.grow (ns_of (Gm.all_need _) H.out.ne hq)); replace HLN := hidb (Nat.le_trans (Gm.all_need _ _ H.out.ne _ _ hq).1.len HLN.out); replace HI := hidb (HI.out.step hs); replace H := hidb (H.out.trans hs); replace HR := hidb (HR.out.trans (Gm.bind_ok hq)); clear hs hq) | (have HRE := hidb (HR.out.trans (Gm.bind_err hq)); replace BX := hidb (Box.but BX.out hbd.but (bx_no H.out)); have HXG := hidb (fun e => (bx_no H.out) (.inl e) : wn.heap.size ≠ g); obtain ⟨x0, x1, x2, x3, x4, -, -, -, -, -, xl⟩ := BX.out; have HNG := hidb HI.out.ng; have HW := hidb (HI.out.badrow hlb hbd); replace H := hidb (H.out.bad hbd); clear hq hbd HR HI))
          | (go_at_call 62; refine (pMaybeT HE.out (x := ⟨#[41]⟩) rfl H.out.at).mono ?_; rintro r1 w1 (⟨er, q', v, la, hq, rfl, hw, hng, hbd⟩ | ⟨la, s1, V1, v, hq, rfl, hs, hs2, hi, hlen⟩) <;> first | (obtain ⟨aa, ac, rfl⟩ := hi.sl; have HA := hidb hi; have HN := hidb hlen; replace BX := hidb (Box.but BX.out hs.but (bx_no H.out)); obtain ⟨x0, x1, x2, x3, x4, -, -, -, -, -, xl⟩ := BX.out; replace HNS := hidb (HNS.out.grow (ns_of (all_maybe HE.out.all) H.out.ne hq)); replace HLN := hidb (Nat.le_trans (all_maybe HE.out.all _ H.out.ne _ _ hq).1.len HLN.out); replace HI := hidb (HI.out.step hs); replace H := hidb (H.out.trans hs2); replace HR := hidb (HR.out.trans (Gm.bind_ok hq)); clear hs hs2 hi hq hlen) | (obtain ⟨aa, ac, rfl⟩ := own_sl hw.1; have HRE := hidb (HR.out.trans (Gm.bind_err hq)); replace BX := hidb (Box.but BX.out hbd.but (bx_no H.out)); have HXG := hidb (fun e => (bx_no H.out) (.inl e) : wn.heap.size ≠ g); obtain ⟨x0, x1, x2, x3, x4, -, -, -, -, -, xl⟩ := BX.out; have HNG := hidb HI.out.ng; have HW := hidb (HI.out.badrow hlb hbd); have HAW := hidb hw; have HAG := hidb hng; replace H := hidb (H.out.bad hbd); clear hq hbd hw hng HR HI))
          | (go_at_call 63; refine (pClause HE.out _ la _ cp H.out.at HA.out HN.out).mono ?_; rintro r1 w2 (⟨er, q', x, hq, rfl, hbd⟩ | ⟨x, s2, V2, hq, rfl, hs⟩) <;> first | (replace BX := hidb (Box.but BX.out hs.but (bx_no H.out.drop)); obtain ⟨x0, x1, x2, x3, x4, -, -, -, -, -, xl⟩ := BX.out; replace HNS := hidb (HNS.out.grow (ns_of (Gm.all_tail HE.out.all _ _ _) H.out.ne hq)); replace HLN := hidb (Nat.le_trans (Gm.all_tail HE.out.all _ _ _ _ H.out.ne _ _ hq).1.len HLN.out); have HTN := hidb (tail_node hq); replace HI := hidb (HI.out.step hs); replace H := hidb (H.out.trans hs).drop.drop; replace HR := hidb (HR.out.trans (Gm.bind_ok hq)); clear hs hq) | (have HRE := hidb (HR.out.trans (Gm.bind_err hq)); replace BX := hidb (Box.but BX.out hbd.but (bx_no H.out.drop)); obtain ⟨x0, x1, x2, x3, x4, -, -, -, -, -, xl⟩ := BX.out; have HNG := hidb HI.out.ng; have HW := hidb (HI.out.badrow hlb hbd); replace H := hidb (H.out.bad hbd); clear hq hbd HR HI))
          | (go_at_call 27; refine (bWant _ _ H.out).mono ?_; rintro r1 w1 ⟨rfl, hd, hb⟩; replace BX := hidb (Box.but BX.out hb (fun e => HXG.out e)); obtain ⟨x0, x1, x2, x3, x4, -, -, -, -, -, xl⟩ := BX.out; replace HW := hidb (RB.but HW.out hb (fun k hk he => HNG.out (by have he2 : k = g := he; exact he2 ▸ hk))); replace H := hidb hd; clear hb hd)
          | (go_at_call 62; refine (bMaybe _ _ H.out).mono ?_; rintro r1 w1 ⟨va, vc, rfl, hr, hd, hb⟩; have HAG := hidb (fun e => by have := RB.low hr g e; have := H.out.glt; omega : (Value.slice va 1 vc).ownBlock ≠ some g); have HAW := hidb hr; replace BX := hidb (Box.but BX.out hb (fun e => HXG.out e)); obtain ⟨x0, x1, x2, x3, x4, -, -, -, -, -, xl⟩ := BX.out; replace HW := hidb (RB.but HW.out hb (fun k hk he => HNG.out (by have he2 : k = g := he; exact he2 ▸ hk))); replace H := hidb hd; clear hr hb hd)
          | (go_at_call 63; refine (bClause _ _ _ _ HAW.out HAG.out H.out).mono ?_; rintro r1 w2 ⟨rfl, hd, hb⟩; replace BX := hidb (Box.but BX.out hb (fun e => HXG.out e)); obtain ⟨x0, x1, x2, x3, x4, -, -, -, -, -, xl⟩ := BX.out; replace HW := hidb (RB.but HW.out hb (fun k hk he => HNG.out (by have he2 : k = g := he; exact he2 ▸ hk))); replace H := hidb hd; clear hb hd)
          | (at_builtin; refine wpList_append_own_at _ rfl _ _ 44 rfl w.heap.size IT i0 (.int .i64 0) 1 8 Tryz.underlying44 hi0 hz0 hz1 hz2 rfl (by decide) _ _ _ rfl (HI.out.own.alloc _) ⟨w2.heap.size, 0, none⟩ 1 1 [iv x] rfl rfl ?_ ?_ ?_ ?_ ?_ ?_)
          | (at_builtin; refine wpList_append_own_at _ rfl _ _ 44 rfl w.heap.size IT i0 (.int .i64 0) 1 8 Tryz.underlying44 hi0 hz0 hz1 hz2 rfl (by decide) _ _ _ rfl (HW.out.1.alloc _) ⟨w2.heap.size, 0, none⟩ 1 1 [iv x] rfl rfl ?_ ?_ ?_ ?_ ?_ ?_)
          | (at_builtin; refine wpList_append_own_at _ rfl _ _ 44 rfl w.heap.size IT i0 (.int .i64 0) 1 8 Tryz.underlying44 hi0 hz0 hz1 hz2 rfl (by decide) _ _ _ rfl (HW.out.1.alloc _) ⟨w2.heap.size, 0, none⟩ 1 1 [iv 0] rfl rfl ?_ ?_ ?_ ?_ ?_ ?_))
        all_goals first
          | (intro q u hq; exact app_ints _ _ _ rfl q u hq)
          | (intro u hu; cases List.mem_singleton.1 hu; rfl)
          | exact hc1
          | exact hc2
          | (have := H.out.but.size; simp; omega)
          | skip
        · intro v' w3 hown hgrow hnil hat
          obtain ⟨j1, j2, j3⟩ := RB.app (xs := [0]) H.out hgl hbl HW.out hgrow hown (by simp; omega)
          obtain ⟨a', c', rfl⟩ := own_sl j1.1
          replace H := hidb j2
          have HB : Hid (But (· = g) w3 w3) := hidb (But.refl _ _)
          clear j1 j2 j3 hown hgrow hnil hat HW BX
          go_wp2_with (first
            | (go_at_call 64; refine (bSign _ H.out).mono ?_; rintro r1 w1 ⟨rfl, hb⟩; replace HB := hidb (HB.out.trans (But.of_below hb)); replace H := hidb (H.out.keep hb); clear hb)
            | (go_at_call 32; clear MB; refine (bNode _ _ _ _ _ _ H.out).mono ?_; rintro r1 w1 ⟨rfl, hd, hb⟩; replace H := hidb hd; clear hb hd)
            | (go_at_call 27; refine (bWant _ _ H.out).mono ?_; rintro r1 w1 ⟨rfl, hd, hb⟩; replace H := hidb hd; clear hb hd)
            | (go_at_call 32; refine (bNode _ _ _ _ _ _ (H.out.keep (below_new _ _))).mono ?_; rintro r1 w1 ⟨rfl, hd, hb⟩; replace H := hidb hd; clear hb hd))
          go_ret
          exact .inl ⟨_, _, _, HRE.out, rfl, H.out⟩
        · intro v' w3 hown hgrow hnil hat
          obtain ⟨j1, j2, j3⟩ := RB.app (xs := [0]) H.out hgl hbl HW.out hgrow hown (by simp; omega)
          obtain ⟨a', c', rfl⟩ := own_sl j1.1
          replace H := hidb j2
          have HB : Hid (But (· = g) w3 w3) := hidb (But.refl _ _)
          clear j1 j2 j3 hown hgrow hnil hat HW BX
          go_wp2_with (first
            | (go_at_call 64; refine (bSign _ H.out).mono ?_; rintro r1 w1 ⟨rfl, hb⟩; replace HB := hidb (HB.out.trans (But.of_below hb)); replace H := hidb (H.out.keep hb); clear hb)
            | (go_at_call 32; clear MB; refine (bNode _ _ _ _ _ _ H.out).mono ?_; rintro r1 w1 ⟨rfl, hd, hb⟩; replace H := hidb hd; clear hb hd)
            | (go_at_call 27; refine (bWant _ _ H.out).mono ?_; rintro r1 w1 ⟨rfl, hd, hb⟩; replace H := hidb hd; clear hb hd)
            | (go_at_call 32; refine (bNode _ _ _ _ _ _ (H.out.keep (below_new _ _))).mono ?_; rintro r1 w1 ⟨rfl, hd, hb⟩; replace H := hidb hd; clear hb hd))
          go_ret
          exact .inl ⟨_, _, _, HRE.out, rfl, H.out⟩
        · intro v' w3 hown hgrow hnil hat
          obtain ⟨j1, j2, j3⟩ := RB.app (xs := [0]) H.out hgl hbl HW.out hgrow hown (by simp; omega)
          obtain ⟨a', c', rfl⟩ := own_sl j1.1
          replace H := hidb j2
          have HB : Hid (But (· = g) w3 w3) := hidb (But.refl _ _)
          clear j1 j2 j3 hown hgrow hnil hat HW BX
          go_wp2_with (first
            | (go_at_call 64; refine (bSign _ H.out).mono ?_; rintro r1 w1 ⟨rfl, hb⟩; replace HB := hidb (HB.out.trans (But.of_below hb)); replace H := hidb (H.out.keep hb); clear hb)
            | (go_at_call 32; clear MB; refine (bNode _ _ _ _ _ _ H.out).mono ?_; rintro r1 w1 ⟨rfl, hd, hb⟩; replace H := hidb hd; clear hb hd)
            | (go_at_call 27; refine (bWant _ _ H.out).mono ?_; rintro r1 w1 ⟨rfl, hd, hb⟩; replace H := hidb hd; clear hb hd)
            | (go_at_call 32; refine (bNode _ _ _ _ _ _ (H.out.keep (below_new _ _))).mono ?_; rintro r1 w1 ⟨rfl, hd, hb⟩; replace H := hidb hd; clear hb hd))
          go_ret
          exact .inl ⟨_, _, _, HRE.out, rfl, H.out⟩
        · intro v' w3 hown hgrow hnil hat
          obtain ⟨j1, j2, j3⟩ := RB.app (xs := [x]) H.out hgl hbl HW.out hgrow hown (by simp; omega)
          obtain ⟨a', c', rfl⟩ := own_sl j1.1
          replace H := hidb j2
          have HB : Hid (But (· = g) w3 w3) := hidb (But.refl _ _)
          clear j1 j2 j3 hown hgrow hnil hat HW BX
          go_wp2_with (first
            | (go_at_call 64; refine (bSign _ H.out).mono ?_; rintro r1 w1 ⟨rfl, hb⟩; replace HB := hidb (HB.out.trans (But.of_below hb)); replace H := hidb (H.out.keep hb); clear hb)
            | (go_at_call 32; clear MB; refine (bNode _ _ _ _ _ _ H.out).mono ?_; rintro r1 w1 ⟨rfl, hd, hb⟩; replace H := hidb hd; clear hb hd)
            | (go_at_call 27; refine (bWant _ _ H.out).mono ?_; rintro r1 w1 ⟨rfl, hd, hb⟩; replace H := hidb hd; clear hb hd)
            | (go_at_call 32; refine (bNode _ _ _ _ _ _ (H.out.keep (below_new _ _))).mono ?_; rintro r1 w1 ⟨rfl, hd, hb⟩; replace H := hidb hd; clear hb hd))
          go_ret
          exact .inl ⟨_, _, _, HRE.out, rfl, H.out⟩
        · intro v' w3 hown hgrow hnil hat
          obtain ⟨j1, j2⟩ := IR.app (xs := [x]) H.out HI.out hgrow hat hown
          obtain ⟨a', c', rfl⟩ : ∃ a' c', v' = .slice a' (l.length + 1) c' := by obtain ⟨a', c', h⟩ := j1.sl; exact ⟨a', c', by simpa using h⟩
          replace HI := hidb j1
          replace H := hidb j2
          clear j1 j2 hown hgrow hnil hat BX
          obtain ⟨k, hk, hm⟩ := HFF.out x s2 HLN.out
          have hp1 := ne_pos H.out.ne
          obtain ⟨k', rfl⟩ : ∃ k', k = k' + 1 := ⟨k - 1, by omega⟩
          replace HR := hidb ((HR.out.trans hm).trans (Gm.assoc _ _ _ _))
          have HF2 : Hid (Fst s2.ns (l ++ [x]) nm nn) := hidb (HNS.out.app HLE.out)
          have hlen := HLN.out
          clear hm
          go_wp2_with (first
            | (go_at_call 64; refine (sSign (x := ⟨#[59]⟩) rfl H.out).mono ?_; rintro r1 w4 ⟨⟨hq, rfl⟩ | ⟨hq, rfl⟩, hb⟩ <;> first | (have HT : Hid (Gm.isM (Gm.hd s2) ⟨#[59]⟩ = true) := hidb hq; replace HI := hidb (HI.out.below hb); replace H := hidb (H.out.below hb); replace HR := hidb ((HR.out.trans (Gm.bind_ok (take_t hq))).trans (Gm.assoc _ _ _ _)); clear hb hq) | (replace HI := hidb (HI.out.below hb); replace H := hidb (H.out.below hb); have HR2 : Hid (R = (Gm.lay ⟨20, ⟨#[]⟩, 0, 0, l ++ [x], t.p⟩ >>= fun c => Gm.need ⟨#[46]⟩ >>= fun _ => finC c t.p) s2) := hidb (HR.out.trans (Gm.bind_ok (take_f hq))); clear hb hq HR; have HR := HR2; clear HR2))
            | (go_at_call 29; refine (sNext H.out.at (Gm.isM_k HT.out)).mono ?_; rintro r1 w5 ⟨rfl, hs⟩; have HC := hidb (cut_len H.out.ne); replace H := hidb (H.out.trans hs); replace HI := hidb (HI.out.step hs); clear hs)
            | (go_at_call 32; clear MB; refine (sNode ⟨20, ⟨#[]⟩, 0, 0, l ++ [x], t.p⟩ _ H.out.drop.at (HI.out.lr HP.out)).mono ?_; rintro r1 w6 (⟨er, q, c2, hq, rfl, hbd⟩ | ⟨c2, s3, V3, hq, rfl, hs⟩) <;> first | (have HLY := hidb (lay_at hq); replace HF2 := hidb (HF2.out.grow ⟨_, (lay_at hq).2⟩); replace H := hidb (H.out.drop.trans hs); replace HR := hidb (HR.out.trans (Gm.bind_ok hq)); clear hs hq HI) | (have HRE := hidb (HR.out.trans (Gm.bind_err hq)); replace H := hidb (H.out.drop.bad hbd); clear hq hbd HR HI))
            | (go_at_call 27; refine (sWant (by first | exact .inl ⟨rfl, rfl⟩ | exact .inr ⟨rfl, rfl⟩) H.out.at).mono ?_; rintro r1 w1 (⟨er, q', hq, rfl, hbd⟩ | ⟨s4, hq, rfl, hs⟩) <;> first | (have HNN := hidb (need_ns hq); replace H := hidb (H.out.trans hs); replace HR := hidb (HR.out.trans (Gm.bind_ok hq)); clear hs hq) | (have HRE := hidb (HR.out.trans (Gm.bind_err hq)); replace H := hidb (H.out.bad hbd); clear hq hbd HR))
            | (go_at_call 32; refine (sNodeR (n := ⟨23, nm, nn, 0, [c2], t.p⟩) (HR.out.trans (fin_end HLY.out HF2.out HNN.out (by simp))) (IR.lit H.out #[iv c2] [c2] rfl (by simp)).2.drop.at ((IR.lit H.out #[iv c2] [c2] rfl (by simp)).1.lr HP.out)).mono ?_; rintro r1 w6 (⟨er, q, z, hq, rfl, hbd⟩ | ⟨z, s5, V5, hq, rfl, hs⟩) <;> first | (replace H := hidb ((IR.lit H.out #[iv c2] [c2] rfl (by simp)).2.drop.trans hs); replace HR := hidb hq; clear hs hq) | (have HRE := hidb hq; replace H := hidb ((IR.lit H.out #[iv c2] [c2] rfl (by simp)).2.drop.bad hbd); clear hq hbd HR))
            | (go_at_call 27; refine (bWant _ _ H.out).mono ?_; rintro r1 w1 ⟨rfl, hd, hb⟩; replace H := hidb hd; clear hb hd)
            | (go_at_call 32; refine (bNode _ _ _ _ _ _ (H.out.keep (below_new _ _))).mono ?_; rintro r1 w1 ⟨rfl, hd, hb⟩; replace H := hidb hd; clear hb hd))
          all_goals first
            | (go_roundg g'
               case measure => omega
               case rel => exact ⟨l ++ [x], Gm.cut s2, V2, a', c', fun y => Gm.moreC _ k' (l ++ [x] ++ [y]) >>= finF t.p, nm, nn, by simp, rfl, rfl, by simpa using H.out, by simpa using HI.out, HR.out, fun y s2 h2 => ⟨k', by have := HC.out; omega, rfl⟩, by have := HC.out; omega, by have := HC.out; simp; omega, HF2.out⟩)
            | (go_ret
               first
                 | exact .inr ⟨_, _, _, HR.out, rfl, H.out⟩
                 | exact .inl ⟨_, _, _, HRE.out, rfl, H.out⟩)
      )
end Rf
end Go.Proofs.YthdljnakmekhkaaGreatDoor
