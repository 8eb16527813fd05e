import Derived.Test.YtpcpdehnppfbfaaGreatG43
/- EtherOwn: two ethers side by side. -/
namespace Go.Proofs.YtpcpdehnppfbfaaGreat
open Go.RowKit Go.Lib Go.Maps

/-- Two ethers, apart, in blocks of Z. -/
def J (w W : World) (eb : Nat) (le : List SG) (fb : Nat) (lf : List SG) (Z : Nat → Prop) : Prop :=
  ∃ Xe ve fe ae Ne sige Xf vf ff af Nf sigf, EI w W Xe eb ve fe ae Ne le sige ∧ EI w W Xf fb vf ff af Nf lf sigf ∧ (∀ q, Xe q → ¬ Xf q) ∧ ∀ q, Xe q ∨ Xf q → Z q

variable {w W W' : World} {eb fb : Nat} {le lf : List SG} {Z : Nat → Prop}

theorem J.swap (h : J w W eb le fb lf Z) : J w W fb lf eb le Z := by
  obtain ⟨Xe, ve, fe, ae, Ne, sige, Xf, vf, ff, af, Nf, sigf, he, hf, hd, hz⟩ := h
  exact ⟨Xf, vf, ff, af, Nf, sigf, Xe, ve, fe, ae, Ne, sige, hf, he, fun q h1 h2 => hd q h2 h1, fun q hq => hz q hq.symm⟩
theorem J.z (h : J w W eb le fb lf Z) : J w W eb le fb lf (fun q => w.heap.size ≤ q ∧ q < W.heap.size) := by
  obtain ⟨Xe, ve, fe, ae, Ne, sige, Xf, vf, ff, af, Nf, sigf, he, hf, hd, _⟩ := h
  exact ⟨Xe, ve, fe, ae, Ne, sige, Xf, vf, ff, af, Nf, sigf, he, hf, hd, fun q hq => hq.elim (he.low q) (hf.low q)⟩
theorem J.more {Z' : Nat → Prop} (h : J w W eb le fb lf Z) (hZ : ∀ q, w.heap.size ≤ q → q < W.heap.size → Z q → Z' q) : J w W eb le fb lf Z' := by
  obtain ⟨Xe, ve, fe, ae, Ne, sige, Xf, vf, ff, af, Nf, sigf, he, hf, hd, hz⟩ := h
  exact ⟨Xe, ve, fe, ae, Ne, sige, Xf, vf, ff, af, Nf, sigf, he, hf, hd, fun q hq => by
    obtain ⟨h1, h2⟩ := hq.elim (he.low q) (hf.low q)
    exact hZ q h1 h2 (hz q hq)⟩
theorem J.but {S : Nat → Prop} (h : J w W eb le fb lf Z) (hb : But S W W') (hS : ∀ q, Z q → ¬ S q) (hge : ∀ q, S q → w.heap.size ≤ q) : J w W' eb le fb lf Z := by
  obtain ⟨Xe, ve, fe, ae, Ne, sige, Xf, vf, ff, af, Nf, sigf, he, hf, hd, hz⟩ := h
  exact ⟨Xe, ve, fe, ae, Ne, sige, Xf, vf, ff, af, Nf, sigf, he.but hb (fun q hq => hS q (hz q (.inl hq))) hge, hf.but hb (fun q hq => hS q (hz q (.inr hq))) hge, hd, hz⟩
theorem J.keep (h : J w W eb le fb lf Z) (hb : Below W.heap.size W W') : J w W' eb le fb lf Z := by
  obtain ⟨Xe, ve, fe, ae, Ne, sige, Xf, vf, ff, af, Nf, sigf, he, hf, hd, hz⟩ := h
  exact ⟨Xe, ve, fe, ae, Ne, sige, Xf, vf, ff, af, Nf, sigf, he.keep hb, hf.keep hb, hd, hz⟩
theorem J.bel (h : J w W eb le fb lf Z) : Below w.heap.size w W := by
  obtain ⟨Xe, ve, fe, ae, Ne, sige, Xf, vf, ff, af, Nf, sigf, he, hf, hd, hz⟩ := h
  exact he.eo.bel
theorem J.new (w W : World) (hB : Below w.heap.size w W) (hs : (W.alloc (.cells #[.map none, .int .i64 0] 54)).heap.size = W.heap.size + 1) : J w ((W.alloc (.cells #[.map none, .int .i64 0] 54)).alloc (.cells #[.map none, .int .i64 0] 54)) W.heap.size [] (W.heap.size + 1) [] (fun _ => True) := by
  have h1 := (EI.new w W hB).keep (below_new (W.alloc (.cells #[.map none, .int .i64 0] 54)) (.cells #[.map none, .int .i64 0] 54))
  have h2 := EI.new w (W.alloc (.cells #[.map none, .int .i64 0] 54)) (hB.alloc hB.size _)
  rw [hs] at h2
  exact ⟨_, _, _, _, _, _, _, _, _, _, _, _, h1, h2, fun q e1 e2 => by omega, fun _ _ => trivial⟩

/-- Put into the first. -/
theorem J.put1 {x0 x1 x2 x3 x4 : Int} {lk : Bool} {nm : ByteArray} {t : Tr} {uk un : Int} {uf : Nat} {us : ByteArray} {ua : Option Addr} {uc : Nat} {uks : List Tr} (h : J w W eb le fb lf Z) (hl : le.length ≤ 400) (hi : wfi x0) (hj : wfi x1) (hsl : Small t) (hcn : cnT t ≤ 1000000000) (hs : Sm t (.mk uk un uf us ua uc uks)) (hin : (Tr.mk uk un uf us ua uc uks).In W 0) (hon : (Tr.mk uk un uf us ua uc uks).On (fun q => ¬ Z q)) :
    Calls Tryz.prog 8 #[.pointer (some ⟨eb, 0, none⟩), .agg #[.int .i64 x0, .int .i64 x1, .int .i64 x2, .int .i64 x3, .int .i64 x4, .bool lk, .string nm, .int .i64 uk, .int .i64 un, .float .f64 uf, .string us, .slice ua uks.length uc]] W fun e w' => e = .returned (.int .i64 (Xk.errS x0 x1 x2 x3 x4 lk nm t)) ∧ J w w' eb (le ++ [⟨x0, x1, x2, x3, x4, lk, nm, t⟩]) fb lf (fun q => Z q ∨ W.heap.size ≤ q) ∧ But Z W w' := by
  obtain ⟨Xe, ve, fe, ae, Ne, sige, Xf, vf, ff, af, Nf, sigf, he, hf, hd, hz⟩ := h
  have hss := sm_small _ _ hs
  have hsame : Xk.errS x0 x1 x2 x3 x4 lk nm (.mk uk un uf us ua uc uks) = Xk.errS x0 x1 x2 x3 x4 lk nm t := errS_sm hs x0 x1 x2 x3 x4 lk nm
  have hfar : (Tr.mk uk un uf us ua uc uks).On (fun q => q ≠ eb ∧ ve ≠ .map (some q)) := on_mono (fun q hq => ⟨fun e => hq (hz q (.inl (he.fo q (.inl e)))), fun e => hq (hz q (.inl (he.fo q (.inr (.inl e)))))⟩) _ hon
  refine (put_any hi hj he.eo (by have := he.cnt; omega) (by have := he.cnt; omega) hin (hss.1 hsl) (by rw [hss.2]; exact hcn) hfar).mono ?_
  rintro e w' ⟨rfl, hbad, hgood⟩
  rw [hsame] at hbad hgood ⊢
  refine ⟨rfl, ?_⟩
  by_cases h0 : Xk.errS x0 x1 x2 x3 x4 lk nm t = 0
  · obtain ⟨mv', l, t', hE, hx, hk, hb, hmv, hfo, hsm', hin', hon'⟩ := hgood h0
    have hg := he.good (s := ⟨x0, x1, x2, x3, x4, lk, nm, t⟩) h0 hE hx hk hb hmv hfo (sm_trans _ _ _ hs hsm') hin' hon' hsl hcn
    have hpz : ∀ q, putS ve fe eb x0 x1 q → Xe q := fun q hq => he.fo q (EF.of_put hq)
    refine ⟨⟨_, _, _, _, _, _, Xf, vf, ff, af, Nf, sigf, hg, hf.but hb (fun q hq e => hd q (hpz q e) hq) (fun q e => (he.low q (hpz q e)).1), fun q hq hq2 => ?_, fun q hq => ?_⟩, hb.mono (fun q _ e => hz q (.inl (hpz q e)))⟩
    · rcases hq with e | e
      · exact hd q e hq2
      · have := (hf.low q hq2).2; omega
    · rcases hq with (e | e) | e
      · exact .inl (hz q (.inl e))
      · exact .inr e.1
      · exact .inl (hz q (.inr e))
  · obtain ⟨hE, hb⟩ := hbad h0
    refine ⟨⟨Xe, ve, fe, ae, Ne, sige, Xf, vf, ff, af, Nf, sigf, (he.keep hb).bad (s := ⟨x0, x1, x2, x3, x4, lk, nm, t⟩) h0, hf.keep hb, hd, fun q hq => .inl (hz q hq)⟩, But.of_below hb⟩
/-- Put into the second. -/
theorem J.put2 {x0 x1 x2 x3 x4 : Int} {lk : Bool} {nm : ByteArray} {t : Tr} {uk un : Int} {uf : Nat} {us : ByteArray} {ua : Option Addr} {uc : Nat} {uks : List Tr} (h : J w W eb le fb lf Z) (hl : lf.length ≤ 400) (hi : wfi x0) (hj : wfi x1) (hsl : Small t) (hcn : cnT t ≤ 1000000000) (hs : Sm t (.mk uk un uf us ua uc uks)) (hin : (Tr.mk uk un uf us ua uc uks).In W 0) (hon : (Tr.mk uk un uf us ua uc uks).On (fun q => ¬ Z q)) :
    Calls Tryz.prog 8 #[.pointer (some ⟨fb, 0, none⟩), .agg #[.int .i64 x0, .int .i64 x1, .int .i64 x2, .int .i64 x3, .int .i64 x4, .bool lk, .string nm, .int .i64 uk, .int .i64 un, .float .f64 uf, .string us, .slice ua uks.length uc]] W fun e w' => e = .returned (.int .i64 (Xk.errS x0 x1 x2 x3 x4 lk nm t)) ∧ J w w' eb le fb (lf ++ [⟨x0, x1, x2, x3, x4, lk, nm, t⟩]) (fun q => Z q ∨ W.heap.size ≤ q) ∧ But Z W w' :=
  (h.swap.put1 hl hi hj hsl hcn hs hin hon).mono fun _ _ ⟨h1, h2, h3⟩ => ⟨h1, h2.swap, h3⟩
/-- Peek. -/
theorem J.peek {i j : Int} (h : J w W eb le fb lf Z) (hl : le.length ≤ 400) (hi : wfi i) (hj : wfi j) :
    (∀ W', Below W.heap.size W W' → Calls Tryz.prog 10 #[.pointer (some ⟨eb, 0, none⟩), .int .i64 i, .int .i64 j] W' fun e w' => e = .returned (.tuple #[zsig, .bool false]) ∧ Below W'.heap.size W' w') ∨
    (∀ W', Below W.heap.size W W' → Calls Tryz.prog 10 #[.pointer (some ⟨eb, 0, none⟩), .int .i64 i, .int .i64 j] W' fun e w' => ∃ (x0 x1 x2 x3 x4 : Int) (lk : Bool) (nm : ByteArray) (k' n' : Int) (f' : Nat) (s' : ByteArray) (a' : Option Addr) (L' c' : Nat), e = .returned (.tuple #[.agg #[.int .i64 x0, .int .i64 x1, .int .i64 x2, .int .i64 x3, .int .i64 x4, .bool lk, .string nm, .int .i64 k', .int .i64 n', .float .f64 f', .string s', .slice a' L' c'], .bool true]) ∧ Below W'.heap.size W' w' ∧ ∃ H, SpH (fun q => W'.heap.size ≤ q ∧ q < w'.heap.size) w' H (.slice a' L' c')) := by
  obtain ⟨Xe, ve, fe, ae, Ne, sige, Xf, vf, ff, af, Nf, sigf, he, hf, hd, hz⟩ := h
  cases hfe : fe i j with
  | none => exact .inl fun W' hb => peek_none hi hj (he.eo.keep hb) hfe
  | some l =>
    have hne := (he.has i j).1 (by rw [hfe]; rfl)
    obtain ⟨s1, s2⟩ := he.sg i j l hfe
    have hsl := (he.sam i j).1
    have hpos := List.length_pos_iff.2 hne
    obtain ⟨s, rest, hsr⟩ : ∃ s rest, sige i j = s :: rest := by
      cases hs : sige i j with
      | nil => rw [hs] at hsl; simp at hsl; omega
      | cons s r => exact ⟨s, r, rfl⟩
    rw [hsr] at s1 s2
    obtain ⟨t1, -, t3, t4⟩ := he.tr i j s (by rw [hsr]; exact List.mem_cons_self ..)
    exact .inr fun W' hb => peek_sp hi hj (he.eo.keep hb) (by have := he.cnt; omega) hfe s1 (by simpa using s2) (in_below hb t1) t3 t4

/-- A term in memory that is the call's own is spoilt. -/
theorem spoil_at {wd w8 : World} {C H : Nat} {v0 v1 v2 v3 v : Value} (hb : Below wd.heap.size wd w8) (hC : wd.heap.size ≤ C) (h : SpH (fun q => C ≤ q ∧ q < w8.heap.size) w8 H v) : ∀ wx, But (fun q => wd.heap.size ≤ q ∧ q < C) w8 wx → Calls Tryz.prog 9 #[.agg #[v0, v1, v2, v3, v]] wx fun e w' => e = .returned (.tuple #[]) ∧ Below wd.heap.size wd w' := fun wx hx => by
  have hs := hx.size
  refine (spoil_any (S := fun q => C ≤ q ∧ q < w8.heap.size) H v0 v1 v2 v3 v wx (fun q hq => Nat.lt_of_lt_of_le hq.2 hs) (SpH.but hx (fun q h1 h2 => by have := h1.1; have := h2.2; omega) h)).mono ?_
  rintro e w' ⟨rfl, hb', -⟩
  exact ⟨rfl, (hb.trans (hx.below hb.size (fun q hq => hq.1))).trans (hb'.below (Nat.le_trans hb.size hs) (fun q hq => Nat.le_trans hC hq.1))⟩
/-- What Lanes has told, and may be written over. -/
def LL (C : Nat) (w : World) (tv : Value) (n : Nat) : Prop := ∃ rs : List (Int × Int × Value × List SG), w.ownsRow C NT 3 tv n (lvs (rs.map lvr)) ∧ rs.length = n ∧ (∀ r ∈ rs, w.ownsRow C ST 12 r.2.2.1 r.2.2.2.length (sgcs r.2.2.2) ∧ r.2.2.2.length ≤ 400) ∧ ToldS C w tv rs
theorem rmL_len (ss : List SG) (a b : Int) : (rmL ss a b).length ≤ ss.length := List.length_filter_le _ _
theorem J.lanes (h : J w W eb le fb lf Z) (hl : le.length ≤ 400) : Calls Tryz.prog 11 #[.pointer (some ⟨eb, 0, none⟩)] W fun e w' => ∃ (a : Option Addr) (n c : Nat), e = .returned (.slice a n c) ∧ LL W.heap.size w' (.slice a n c) n ∧ n ≤ 400 ∧ Below W.heap.size W w' := by
  obtain ⟨Xe, ve, fe, ae, Ne, sige, Xf, vf, ff, af, Nf, sigf, he, hf, hd, hz⟩ := h
  refine (lanes_sp he.eo (by have := he.cnt; omega) he.sg (fun ks hk => by have := he.few ks hk; omega) (fun a b l _ s hs => by obtain ⟨t1, -, t3, t4⟩ := he.tr a b s hs; exact ⟨t1, t3, t4⟩)).mono ?_
  rintro e w' ⟨tv, rfl, ks, rs, hk, hr, hrs, ht, hts, hb⟩
  obtain ⟨a, c, rfl⟩ := own_sl ht.1
  refine ⟨a, rs.length, c, rfl, ⟨rs, ht.1, rfl, fun r hr => ?_, hts⟩, ?_, hb⟩
  · obtain ⟨h1, h2, _⟩ := ht.2.2 r hr
    have h3 := he.sam r.1 r.2.1
    have h4 := rmL_len le r.1 r.2.1
    rw [← h2.1] at h1
    exact ⟨h1, by have := h2.1; have := h3.1; omega⟩
  · have := he.few ks hk
    rw [← hrs] at this
    simpa using Nat.le_trans this hl
end Go.Proofs.YtpcpdehnppfbfaaGreat


/- EtherOwn: at the end both tell the same lanes. -/
namespace Go.Proofs.YtpcpdehnppfbfaaGreat
open Go.RowKit Go.Lib Go.Maps
attribute [local go_sem] store_float f64bits
attribute [local go_sem ↓] Go.wp_at_zero Go.wp_at_succ

set_option maxHeartbeats 1000000 in
set_option maxRecDepth 100000 in
theorem sameLanes_nil (a a' : Option Addr) (c c' : Nat) (w : World) : Calls Tryz.prog 12 #[.slice a 0 c, .slice a' 0 c'] w fun e w' => e = .returned (.bool true) ∧ Below w.heap.size w w' := by
  have HB := hidb (Below.refl w.heap.size w)
  go_enter Tryz.func12, Tryz.ntmps12
  go_wp2_with fail
  refine wp_loop_rounds 1 ?_
  rw [rounds_succ]
  go_wp2_with fail
  go_ret
  exact ⟨rfl, HB.out⟩

variable {w W W' : World} {eb fb : Nat} {le lf : List SG} {Z : Nat → Prop}

theorem map_at {α β : Type} {f : α → β} {l : List α} {m : Nat} {y : β} (h : (l.map f)[m]? = some y) : ∃ x, l[m]? = some x ∧ f x = y := by
  rw [List.getElem?_map, Option.map_eq_some_iff] at h
  exact h

theorem J.same (h : J w W eb le fb le Z) (hl : le.length ≤ 400) : Calls Tryz.prog 11 #[.pointer (some ⟨eb, 0, none⟩)] W fun e w1 => ∃ (a : Option Addr) (n c : Nat), e = .returned (.slice a n c) ∧ Below W.heap.size W w1 ∧ ∀ w1', Below w1.heap.size w1 w1' → Calls Tryz.prog 11 #[.pointer (some ⟨fb, 0, none⟩)] w1' fun e w2 => ∃ (a' : Option Addr) (c' : Nat), e = .returned (.slice a' n c') ∧ Below w1'.heap.size w1' w2 ∧
    ∀ w3, Below w2.heap.size w2 w3 → Calls Tryz.prog 12 #[.slice a n c, .slice a' n c'] w3 fun e w' => e = .returned (.bool true) ∧ Below w3.heap.size w3 w' := by
  obtain ⟨Xe, ve, fe, ae, Ne, sige, Xf, vf, ff, af, Nf, sigf, he, hf, hd, hz⟩ := h
  refine (lanes_sig he.eo (by have := he.cnt; omega) he.sg (fun ks hk => by have := he.few ks hk; omega) (fun a b l _ s hs => by obtain ⟨t1, -, t3, t4⟩ := he.tr a b s hs; exact ⟨t1, t3, t4⟩)).mono ?_
  rintro e w1 ⟨tv, rfl, ks, rs, hk, hr, hrs, ht, hb⟩
  obtain ⟨a, c, rfl⟩ := own_sl ht.1
  refine ⟨a, rs.length, c, rfl, hb, fun w1' hb1 => ?_⟩
  have hbb := hb.trans (hb1.mono hb.size)
  have hf1 := hf.keep hbb
  refine (lanes_sig hf1.eo (by have := hf1.cnt; omega) hf1.sg (fun ks hk => by have := hf1.few ks hk; omega) (fun a b l _ s hs => by obtain ⟨t1, -, t3, t4⟩ := hf1.tr a b s hs; exact ⟨t1, t3, t4⟩)).mono ?_
  rintro e w2 ⟨tv', rfl, ks', rs', hk', hr', hrs', ht', hb'⟩
  obtain ⟨a', c', rfl⟩ := own_sl ht'.1
  have hkk : ks = ks' := keys_same he hf hk hk' hr hr'
  subst hkk
  have hln : rs'.length = rs.length := by
    have e1 := congrArg List.length hrs
    have e2 := congrArg List.length hrs'
    rw [List.length_map] at e1 e2
    omega
  rw [hln] at ht' ⊢
  refine ⟨a', c', rfl, hb', fun w3 hb3 => ?_⟩
  have hsize : rs.length ≤ 400 := by
    have := he.few ks hk
    rw [← hrs, List.length_map] at this
    omega
  have hb13 : Below w1.heap.size w1 w3 := hb1.trans ((hb'.trans (hb3.mono hb'.size)).mono hb1.size)
  rcases Nat.eq_zero_or_pos rs.length with h0 | hpos
  · rw [h0]
    exact sameLanes_nil a a' c c' w3
  obtain ⟨r0, hr0⟩ : ∃ r, rs[0]? = some r := ⟨_, List.getElem?_eq_getElem hpos⟩
  obtain ⟨r1, hr1⟩ : ∃ r, rs'[0]? = some r := ⟨_, List.getElem?_eq_getElem (by omega)⟩
  obtain ⟨g, _, _, rfl, _⟩ := ht.at hr0
  obtain ⟨g', _, _, rfl, _⟩ := ht'.at hr1
  refine sameLanes_any (rs := rs.map fun r => (r.1, r.2.1, r.2.2.2)) (rs' := rs'.map fun r => (r.1, r.2.1, r.2.2.2)) (by omega) (by simp) (by simpa using hln) (fun m r hm => ?_) (fun m r hm => ?_) (fun m r r' hm hm' => ?_)
  · obtain ⟨x, hx, rfl⟩ := map_at hm
    obtain ⟨g9, a5, c5, e9, hL⟩ := ht.at hx
    obtain rfl : g = g9 := by simpa using e9
    have h2 := (ht.2.2 x (List.mem_of_getElem? hx)).2.1
    have h3 := he.sam x.1 x.2.1
    have h4 := rmL_len le x.1 x.2.1
    refine ⟨?_, a5, c5, hL.keep hb13⟩
    have := h2.1
    have := h3.1
    show x.2.2.2.length ≤ _
    omega
  · obtain ⟨x, hx, rfl⟩ := map_at hm
    obtain ⟨g9, a5, c5, e9, hL⟩ := ht'.at hx
    obtain rfl : g' = g9 := by simpa using e9
    exact ⟨a5, c5, hL.keep hb3⟩
  · obtain ⟨x, hx, rfl⟩ := map_at hm
    obtain ⟨y, hy, rfl⟩ := map_at hm'
    have k1 : (rs.map fun r => (r.1, r.2.1))[m]? = some (x.1, x.2.1) := by rw [List.getElem?_map, hx]; rfl
    have k2 : (rs'.map fun r => (r.1, r.2.1))[m]? = some (y.1, y.2.1) := by rw [List.getElem?_map, hy]; rfl
    rw [hrs] at k1
    rw [hrs'] at k2
    have k3 := Option.some.inj (k1.symm.trans k2)
    obtain ⟨e1, e2⟩ := Prod.mk.inj k3
    have h2 := (ht.2.2 x (List.mem_of_getElem? hx)).2.1
    have h2' := (ht'.2.2 y (List.mem_of_getElem? hy)).2.1
    have h3 := he.sam x.1 x.2.1
    have h3' := hf.sam y.1 y.2.1
    refine ⟨e1, e2, ?_⟩
    rw [← e1, ← e2] at h3' h2'
    exact samL_trans (samL_symm (samL_trans h3 h2)) (samL_trans h3' h2')
end Go.Proofs.YtpcpdehnppfbfaaGreat


