import Derived.Test.YtjiigabfdigkaaaG13
import Derived.Test.YtjiigabfdigkaaaG21
import Derived.Test.YtjiigabfdigkaaaG24
import Derived.Test.YtjiigabfdigkaaaSdK
import Derived.WalkSpells
import Derived.Deep.LoopGhost
import Derived.Maps.AppendAt
/- Of a state: the rules that it breaks, as the program says. -/
namespace Go.Proofs.Ytjiigabfdigkaaa
open Go.RowKit
attribute [local go_sem] store_float
/-- What a rule asks of a state, as the program goes by it. -/
def RuS (ps : List Pc) (ls : List Ln) (r : Nat) : Prop := (r = 1 → LnOk ls) ∧ ∀ i p, ps[i]? = some p → RuP ps (ps.flatMap Pc.names) (fT ps ps.length) i p r
/-- The numbers of rules that are broken. -/
def BrkL (ps : List Pc) (ls : List Ln) (m : Nat) (out : List Int) : Prop :=
  ∃ bs : List Bool, bs.length = m ∧ (∀ (k : Nat) (b : Bool), bs[k]? = some b → (b = true ↔ RuS ps ls (k + 1))) ∧ out = brk bs m
def PkSays (ps : List Pc) (ls : List Ln) (w : World) (e : Ending) (w' : World) : Prop :=
  ∃ (m : Nat) (out : List Int) (a : Option Addr) (n c : Nat), ((Calm ps ls ∧ m = 8) ∨ (¬ Calm ps ls ∧ m = 4)) ∧ BrkL ps ls m out ∧ e = .returned (.slice a n c) ∧ out.length = n ∧
    w'.ownsRow w.heap.size 46 1 (.slice a n c) n (zX out) ∧ Below w.heap.size w w'
theorem row_butS {S : Nat → Prop} {w w' : World} {C e size n : Nat} {v : Value} {xs : List Value} (h : w.ownsRow C e size v n xs) (hb : But S w w') (hs : ∀ g, v.ownBlock = some g → ¬ S g) : w'.ownsRow C e size v n xs := by
  refine ⟨h.1, ?_⟩
  rcases h.2 with hn | ⟨g, cap, cur, rfl, hc, hg, r⟩
  · exact .inl hn
  · exact .inr ⟨g, cap, cur, rfl, hc, (hb.block g (Array.getElem?_eq_some_iff.1 hg).1 (hs g rfl)).trans hg, r⟩
theorem infoRule : (Try.prog.info? 46).map (fun i => (i.zero, i.size, i.bytes)) = some (some (.int .i64 0), 1, 8) := by kernel_rfl
theorem info_rule : ∃ i0, Try.prog.info? 46 = some i0 ∧ i0.zero = some (.int .i64 0) ∧ i0.size = 1 ∧ i0.bytes = 8 := by
  have h := infoRule
  cases hi : Try.prog.info? 46 with
  | none => rw [hi] at h; cases h
  | some i =>
    rw [hi] at h
    simp only [Option.map_some, Option.some.injEq, Prod.mk.injEq] at h
    exact ⟨i, rfl, h.1, h.2.1, h.2.2⟩
abbrev RuT : TypeId := 46
theorem brkl_zero (ps : List Pc) (ls : List Ln) : BrkL ps ls 0 [] := ⟨[], rfl, fun k b h => by simp at h, rfl⟩
theorem brk_app (bs : List Bool) (b : Bool) : brk (bs ++ [b]) (bs.length + 1) = brk bs bs.length ++ (if b then [] else [(bs.length : Int) + 1]) := by
  have h1 : brk (bs ++ [b]) bs.length = brk bs bs.length := by
    unfold brk
    congr 1
    apply List.filter_congr
    intro k hk
    rw [List.getElem?_append_left (List.mem_range.1 hk)]
  have h2 : (bs ++ [b])[bs.length]? = some b := by simp
  cases b
  · rw [brk_no h2, h1]; rfl
  · rw [brk_yes h2, h1]; simp
theorem BrkL.more {ps : List Pc} {ls : List Ln} {m : Nat} {out : List Int} (h : BrkL ps ls m out) (b : Bool) (hb : b = true ↔ RuS ps ls (m + 1)) : BrkL ps ls (m + 1) (out ++ (if b then [] else [(m : Int) + 1])) := by
  obtain ⟨bs, hl, hk, rfl⟩ := h
  subst hl
  refine ⟨bs ++ [b], by simp, fun k c hc => ?_, (brk_app bs b).symm⟩
  by_cases e : k < bs.length
  · rw [List.getElem?_append_left e] at hc
    exact hk k c hc
  · have e2 : k = bs.length := by
      have := (List.getElem?_eq_some_iff.1 hc).1
      simp at this
      omega
    subst e2
    simp at hc
    subst hc
    exact hb
theorem BrkL.ok {ps : List Pc} {ls : List Ln} {r : Nat} {out : List Int} (h : BrkL ps ls (r - 1) out) (h1 : 1 ≤ r) (hr : RuS ps ls r) : BrkL ps ls (r + 1 - 1) out := by
  have q := h.more true (iff_of_true rfl (by rw [show r - 1 + 1 = r by omega]; exact hr))
  rw [show r - 1 + 1 = r + 1 - 1 by omega] at q
  simpa using q
theorem BrkL.no {ps : List Pc} {ls : List Ln} {r : Nat} {out : List Int} (h : BrkL ps ls (r - 1) out) (h1 : 1 ≤ r) (hr : ¬ RuS ps ls r) : BrkL ps ls (r + 1 - 1) (out ++ [(r : Int)]) := by
  have q := h.more false (iff_of_false (by simp) (by rw [show r - 1 + 1 = r by omega]; exact hr))
  rw [show r - 1 + 1 = r + 1 - 1 by omega] at q
  simpa [show (((r - 1 : Nat) : Int) + 1) = (r : Int) by omega] using q
theorem BrkL.len {ps : List Pc} {ls : List Ln} {m : Nat} {out : List Int} (h : BrkL ps ls m out) : out.length ≤ m := by
  obtain ⟨bs, hl, hk, rfl⟩ := h
  exact brk_len bs m
set_option maxHeartbeats 8000000 in
set_option maxRecDepth 10000 in
theorem check_any (w : World) (pa la : Option Addr) (cp cl np nl : Nat) (ps : List Pc) (ls : List Ln) (oa : Option Addr) (no co : Nat) (hs : StIn w pa ps la ls) (hnp : ps.length = np) (hnl : ls.length = nl) (hfew : np ≤ 1000)
    (hwf : ∀ p ∈ ps, PcWf p) (hm : (ps.flatMap Pc.names).length < 1000000000 ∧ tot (fun p => (tiesOf p).length) ps < 1000000000) :
    Calls Try.prog 9 #[stV pa np cp la nl cl oa no co] w (PkSays ps ls w) := by
  have HM := hidb hnl
  have HS := hidb hs
  have HN := hidb hnp
  have HF := hidb hfew
  have HWF := hidb hwf
  have HSZ := hidb hm
  clear hs hnp hnl hfew hwf hm
  have HX0 := hidb (At.new w [.slice pa np cp, .slice la nl cl, .slice oa no co] 26)
  go_enter Try.func9, Try.ntmps9
  go_wp2_with fail
  go_step3
  go_wp2_with fail
  obtain ⟨W0, hW0⟩ : ∃ W0, w.alloc (.cells #[.slice pa np cp, .slice la nl cl, .slice oa no co] 26) = W0 := ⟨_, rfl⟩
  have HB0 : Hid (Below w.heap.size w W0) := hidb (by rw [← hW0]; exact below_new w _)
  rw [hW0] at HX0 ⊢
  clear hW0
  refine (calmed_any _ pa la cp cl np nl ps ls oa no co (HS.out.keep HB0.out) HN.out HM.out).mono ?_
  rintro e w1 ⟨⟨cb, rfl, hcb⟩, hb1⟩
  have HCB := hidb hcb
  have HB1 := hidb (HB0.out.trans (hb1.mono HB0.out.size))
  have HX1 := hidb (HX0.out.keep hb1)
  clear hcb hb1 HB0 HX0
  obtain ⟨x0, -⟩ := HX1.out.1 0 _ rfl
  obtain ⟨x1, -⟩ := HX1.out.1 1 _ rfl
  obtain ⟨x2, -⟩ := HX1.out.1 2 _ rfl
  cases cb
  · skip
    obtain ⟨lm, hlm⟩ : ∃ lm : Nat, lm = 4 := ⟨_, rfl⟩
    have HCM : Hid ((Calm ps ls ∧ lm = 8) ∨ (¬ Calm ps ls ∧ lm = 4)) := hidb (.inr ⟨fun h => (by have h9 := HCB.out.2 h; cases h9), hlm⟩)
    clear HCB
    go_wp2_with fail
    refine (look_any (HS.out.procs.keep HB1.out) HN.out HF.out (fun p hp => (HS.out.each p hp).keep HB1.out) HWF.out HSZ.out).mono ?_
    rintro e w2 ⟨vb, fb, nb, tb, fn, rfl, hvw, hb2⟩
    have HV := hidb hvw
    have HB2 := hidb (HB1.out.trans (hb2.mono HB1.out.size))
    have HX2 := hidb (HX1.out.keep hb2)
    clear hvw hb2 x0 x1 x2 HX1 HB1
    have HLM : Hid (lm ≤ 8) := hidb (by omega)
    rw [show ((4 : Int)) = ((lm : Nat) : Int) by omega]
    clear hlm
    go_wp2_with fail
    go_step3
    go_wp2_with fail
    obtain ⟨i0, hi, hz0, hz1, hz2⟩ := info_rule
    go_loopg [5, 6] lm (fun gk bv rv wr => ∃ (r : Nat) (out : List Int) (a : Option Addr) (n c : Nat), 1 ≤ r ∧ r + gk = lm + 1 ∧ rv = .int .i64 (r : Int) ∧ BrkL ps ls (r - 1) out ∧ bv = .slice a n c ∧ out.length = n ∧ wr.ownsRow w2.heap.size RuT 1 (.slice a n c) n (zX out) ∧ Below w2.heap.size w2 wr)
    case atStart => exact ⟨1, [], none, 0, 0, by omega, by omega, rfl, brkl_zero ps ls, rfl, rfl, ⟨rfl, .inl ⟨rfl, rfl⟩⟩, Below.refl _ _⟩
    case round =>
      obtain ⟨r, out, a, n, c, hr1, hrg, rfl, hbl, rfl, hon, hown, hbr⟩ := hrel
      have HBL := hidb hbl
      have HON := hidb hon
      have HOWN := hidb hown
      have HBR := hidb hbr
      have HRG := hidb (And.intro hr1 hrg)
      have HXR := hidb (HX2.out.keep hbr)
      have HBW := hidb (HB2.out.trans (hbr.mono HB2.out.size))
      have HVR := hidb (HV.out.keep hbr)
      clear hbl hon hown hbr hr1 hrg
      obtain ⟨x0, -⟩ := HXR.out.1 0 _ rfl
      obtain ⟨x1, -⟩ := HXR.out.1 1 _ rfl
      obtain ⟨x2, -⟩ := HXR.out.1 2 _ rfl
      by_cases hrl : r ≤ lm
      · have HRL := hidb hrl
        have hrb : (r : Int) ≤ (lm : Int) := by omega
        have hrw : IntKind.i64.wrap ((r : Int) + 1) = (r : Int) + 1 := by have := HLM.out; rw [IntKind.wrap_i64]; omega
        have hrw2 : wrap64 ((r : Int) + 1) = (r : Int) + 1 := by have := HLM.out; unfold wrap64; omega
        by_cases h1 : r = 1
        · have HE1 := hidb h1
          subst h1
          go_wp2_with fail
          refine (inorder_any wr la cl nl ls (HS.out.keep HBW.out).lns HM.out).mono ?_
          rintro e w3 ⟨⟨bo, rfl, hbo⟩, hb3⟩
          have HBO := hidb hbo
          have HBR3 := hidb (HBR.out.trans (hb3.mono HBR.out.size))
          have HBW3 := hidb (HBW.out.trans (hb3.mono HBW.out.size))
          have HX3 := hidb (HXR.out.keep hb3)
          have HV3 := hidb (HVR.out.keep hb3)
          have HO3 := hidb (row_butS HOWN.out (But.of_below (S := fun _ => False) hb3) (fun _ _ z => z))
          clear hbo hb3 x0 x1 x2
          obtain ⟨x0, -⟩ := HX3.out.1 0 _ rfl
          cases bo
          · skip
            have HOA := hidb (HO3.out.alloc (.cells #[.int .i64 1] 46))
            go_wp2_with (first
              | (at_builtin; go_must (refine wpList_append_own _ rfl _ _ 32 rfl w2.heap.size 46 i0 (.int .i64 0) 1 8 Try.underlying32 hi hz0 hz1 hz2 rfl (by decide) (.slice a n c) n (zX out) rfl HOA.out ⟨w3.heap.size, 0, none⟩ 1 1 [.int .i64 1] rfl rfl (cell_one_new _ _ _) (by simp [Value.oneCell']) (by have h1 := HBL.out.len; have h2 := HON.out; have h3 := HRG.out; have h4 := HLM.out; unfold maxLen; omega) (by have h1 := HBL.out.len; have h2 := HON.out; have h3 := HRG.out; have h4 := HLM.out; omega) (by have := HBR3.out.size; simp; omega) ?_; intro v4 w4 hown hg hnil; have HO4 := hidb hown; have HG4 := hidb hg; obtain ⟨a4, c4, m4, rfl, hm4⟩ := own_slN hown; subst hm4; clear hown hg hnil)))
            have HB4 : Hid (Below w2.heap.size w2 w4) := hidb ((HBR3.out.alloc HBR3.out.size _).grown HG4.out (by have := HBR3.out.size; simp; omega) (fun j hj => (HOWN.out.lt j hj).1))
            go_roundg (lm - 1)
            case measure => have := HRG.out; have := HRL.out; omega
            case rel =>
              refine ⟨1 + 1, out ++ [1], _, _, _, by omega, by have := HRG.out; have := HRL.out; omega, by go_num, HBL.out.no HRG.out.1 (fun h => (by have h8 := HBO.out.2 (h.1 rfl); cases h8)), rfl, by rw [List.length_append, HON.out]; rfl, ?_, HB4.out⟩
              rw [show zX (out ++ [1]) = zX out ++ [.int .i64 1] by simp [zX]]
              exact HO4.out
          · have HLN : Hid (1 = 1 → LnOk ls) := hidb (fun _ => HBO.out.1 rfl)
            go_wp2_with fail
            go_loopg [5, 34] np (fun gi bv5 iv wi => ∃ (i : Nat), i + gi = np ∧ bv5 = .slice a n c ∧ iv = .int .i64 (i : Int) ∧ (∀ (j : Nat) (p : Pc), j < i → ps[j]? = some p → RuP ps (ps.flatMap Pc.names) (fT ps np) j p 1) ∧ Below w3.heap.size w3 wi)
            case atStart => exact ⟨0, by omega, rfl, rfl, fun j p hj => absurd hj (by omega), Below.refl _ _⟩
            case round =>
              obtain ⟨i, hig, rfl, rfl, hall, hbi⟩ := hrel
              have HIG := hidb hig
              have HALL := hidb hall
              have HBI := hidb hbi
              clear hig hall hbi
              by_cases hil : i < np
              · have hib : (i : Int) < (np : Int) := by omega
                have hiw : IntKind.i64.wrap ((i : Int) + 1) = (i : Int) + 1 := by have := HF.out; rw [IntKind.wrap_i64]; omega
                have hiw2 : wrap64 ((i : Int) + 1) = (i : Int) + 1 := by have := HF.out; unfold wrap64; omega
                obtain ⟨p, hp⟩ : ∃ p, ps[i]? = some p := ⟨_, List.getElem?_eq_getElem (by have := HN.out; omega)⟩
                have HPP := hidb hp
                have HIL := hidb hil
                have HBWI := hidb (HBW3.out.trans (HBI.out.mono HBW3.out.size))
                clear hp hil
                go_wp2_with fail
                refine (breaks_any (r := 1) (HV3.out.keep HBI.out) (HS.out.procs.keep HBWI.out) HN.out HF.out HPP.out ((HS.out.each p (List.mem_of_getElem? HPP.out)).keep HBWI.out) (HWF.out p (List.mem_of_getElem? HPP.out)) HRG.out.1 (by have h1 := HRG.out; have h2 := HLM.out; have h3 := HRL.out; omega)).mono ?_
                rintro e w5 ⟨⟨bk, rfl, hbk⟩, hb5⟩
                have HBK := hidb hbk
                have HB5 := hidb (HBI.out.trans (hb5.mono HBI.out.size))
                have HBR5 := hidb (HBR3.out.trans (HB5.out.mono HBR3.out.size))
                have HO5 := hidb (row_butS HO3.out (But.of_below (S := fun _ => False) HB5.out) (fun _ _ z => z))
                clear hbk hb5
                cases bk
                · go_wp2_with fail
                  go_roundg (gk - 1)
                  case measure => have := HIG.out; have := HIL.out; omega
                  case rel =>
                    refine ⟨i + 1, by have := HIG.out; have := HIL.out; omega, rfl, by go_num, fun j q hj hq => ?_, HB5.out⟩
                    by_cases e : j = i
                    · subst e
                      have h9 := HPP.out
                      rw [hq] at h9
                      cases h9
                      exact Classical.byContradiction fun hn => by have h8 := HBK.out.2 hn; cases h8
                    · exact HALL.out j q (by omega) hq
                · skip
                  have HOA := hidb (HO5.out.alloc (.cells #[.int .i64 1] 46))
                  go_wp2_with (first
                    | (at_builtin; go_must (refine wpList_append_own _ rfl _ _ 32 rfl w2.heap.size 46 i0 (.int .i64 0) 1 8 Try.underlying32 hi hz0 hz1 hz2 rfl (by decide) (.slice a n c) n (zX out) rfl HOA.out ⟨w5.heap.size, 0, none⟩ 1 1 [.int .i64 1] rfl rfl (cell_one_new _ _ _) (by simp [Value.oneCell']) (by have h1 := HBL.out.len; have h2 := HON.out; have h3 := HRG.out; have h4 := HLM.out; unfold maxLen; omega) (by have h1 := HBL.out.len; have h2 := HON.out; have h3 := HRG.out; have h4 := HLM.out; omega) (by have := HBR5.out.size; simp; omega) ?_; intro v4 w4 hown hg hnil; have HO4 := hidb hown; have HG4 := hidb hg; obtain ⟨a4, c4, m4, rfl, hm4⟩ := own_slN hown; subst hm4; clear hown hg hnil)))
                  have HB4 : Hid (Below w2.heap.size w2 w4) := hidb ((HBR5.out.alloc HBR5.out.size _).grown HG4.out (by have := HBR5.out.size; simp; omega) (fun j hj => (HOWN.out.lt j hj).1))
                  go_roundg (lm - 1)
                  case measure => have := HRG.out; have := HRL.out; omega
                  case rel =>
                    refine ⟨1 + 1, out ++ [1], _, _, _, by omega, by have := HRG.out; have := HRL.out; omega, by go_num, HBL.out.no HRG.out.1 (fun h => HBK.out.1 (by first | exact rfl | exact trivial) (by have h8 := h.2 i p HPP.out; rw [show fT ps ps.length = fT ps np by rw [HN.out]] at h8; exact h8)), rfl, by rw [List.length_append, HON.out]; rfl, ?_, HB4.out⟩
                    rw [show zX (out ++ [1]) = zX out ++ [.int .i64 1] by simp [zX]]
                    exact HO4.out
              · have hin : ¬ (i : Int) < (np : Int) := by omega
                have HIN2 := hidb (show i = np by have := HIG.out; omega)
                have HO5 := hidb (row_butS HO3.out (But.of_below (S := fun _ => False) HBI.out) (fun _ _ z => z))
                have HBR5 := hidb (HBR3.out.trans (HBI.out.mono HBR3.out.size))
                go_wp2_with fail
                go_roundg (lm - 1)
                case measure => have := HRG.out; have := HRL.out; omega
                case rel =>
                  exact ⟨1 + 1, out, a, n, c, by omega, by have := HRG.out; have := HRL.out; omega, by go_num, HBL.out.ok HRG.out.1 ⟨by first | exact HLN.out | exact fun _ => HLN.out trivial, fun j q hq => by rw [show fT ps ps.length = fT ps np by rw [HN.out]]; exact HALL.out j q (by have h1 := (List.getElem?_eq_some_iff.1 hq).1; have h2 := HN.out; have h3 := HIN2.out; omega) hq⟩, rfl, HON.out, HO5.out, HBR5.out⟩
        · have HE1 := hidb h1
          have hq : ((r : Int) == 1) = false := by simp; omega
          clear h1
          go_wp2_with fail
          have HLN : Hid (r = 1 → LnOk ls) := hidb (fun h => absurd h HE1.out)
          obtain ⟨w3, hw3⟩ : ∃ w3, wr = w3 := ⟨_, rfl⟩
          subst hw3
          have HBR3 := HBR
          have HBW3 := HBW
          have HV3 := HVR
          have HO3 := HOWN
          go_loopg [5, 34] np (fun gi bv5 iv wi => ∃ (i : Nat), i + gi = np ∧ bv5 = .slice a n c ∧ iv = .int .i64 (i : Int) ∧ (∀ (j : Nat) (p : Pc), j < i → ps[j]? = some p → RuP ps (ps.flatMap Pc.names) (fT ps np) j p r) ∧ Below wr.heap.size wr wi)
          case atStart => exact ⟨0, by omega, rfl, rfl, fun j p hj => absurd hj (by omega), Below.refl _ _⟩
          case round =>
            obtain ⟨i, hig, rfl, rfl, hall, hbi⟩ := hrel
            have HIG := hidb hig
            have HALL := hidb hall
            have HBI := hidb hbi
            clear hig hall hbi
            by_cases hil : i < np
            · have hib : (i : Int) < (np : Int) := by omega
              have hiw : IntKind.i64.wrap ((i : Int) + 1) = (i : Int) + 1 := by have := HF.out; rw [IntKind.wrap_i64]; omega
              have hiw2 : wrap64 ((i : Int) + 1) = (i : Int) + 1 := by have := HF.out; unfold wrap64; omega
              obtain ⟨p, hp⟩ : ∃ p, ps[i]? = some p := ⟨_, List.getElem?_eq_getElem (by have := HN.out; omega)⟩
              have HPP := hidb hp
              have HIL := hidb hil
              have HBWI := hidb (HBW3.out.trans (HBI.out.mono HBW3.out.size))
              clear hp hil
              go_wp2_with fail
              refine (breaks_any (r := r) (HV3.out.keep HBI.out) (HS.out.procs.keep HBWI.out) HN.out HF.out HPP.out ((HS.out.each p (List.mem_of_getElem? HPP.out)).keep HBWI.out) (HWF.out p (List.mem_of_getElem? HPP.out)) HRG.out.1 (by have h1 := HRG.out; have h2 := HLM.out; have h3 := HRL.out; omega)).mono ?_
              rintro e w5 ⟨⟨bk, rfl, hbk⟩, hb5⟩
              have HBK := hidb hbk
              have HB5 := hidb (HBI.out.trans (hb5.mono HBI.out.size))
              have HBR5 := hidb (HBR3.out.trans (HB5.out.mono HBR3.out.size))
              have HO5 := hidb (row_butS HO3.out (But.of_below (S := fun _ => False) HB5.out) (fun _ _ z => z))
              clear hbk hb5
              cases bk
              · go_wp2_with fail
                go_roundg (gk - 1)
                case measure => have := HIG.out; have := HIL.out; omega
                case rel =>
                  refine ⟨i + 1, by have := HIG.out; have := HIL.out; omega, rfl, by go_num, fun j q hj hq => ?_, HB5.out⟩
                  by_cases e : j = i
                  · subst e
                    have h9 := HPP.out
                    rw [hq] at h9
                    cases h9
                    exact Classical.byContradiction fun hn => by have h8 := HBK.out.2 hn; cases h8
                  · exact HALL.out j q (by omega) hq
              · skip
                have HOA := hidb (HO5.out.alloc (.cells #[.int .i64 (r : Int)] 46))
                go_wp2_with (first
                  | (at_builtin; go_must (refine wpList_append_own _ rfl _ _ 32 rfl w2.heap.size 46 i0 (.int .i64 0) 1 8 Try.underlying32 hi hz0 hz1 hz2 rfl (by decide) (.slice a n c) n (zX out) rfl HOA.out ⟨w5.heap.size, 0, none⟩ 1 1 [.int .i64 (r : Int)] rfl rfl (cell_one_new _ _ _) (by simp [Value.oneCell']) (by have h1 := HBL.out.len; have h2 := HON.out; have h3 := HRG.out; have h4 := HLM.out; unfold maxLen; omega) (by have h1 := HBL.out.len; have h2 := HON.out; have h3 := HRG.out; have h4 := HLM.out; omega) (by have := HBR5.out.size; simp; omega) ?_; intro v4 w4 hown hg hnil; have HO4 := hidb hown; have HG4 := hidb hg; obtain ⟨a4, c4, m4, rfl, hm4⟩ := own_slN hown; subst hm4; clear hown hg hnil)))
                have HB4 : Hid (Below w2.heap.size w2 w4) := hidb ((HBR5.out.alloc HBR5.out.size _).grown HG4.out (by have := HBR5.out.size; simp; omega) (fun j hj => (HOWN.out.lt j hj).1))
                go_roundg (lm - r)
                case measure => have := HRG.out; have := HRL.out; omega
                case rel =>
                  refine ⟨r + 1, out ++ [(r : Int)], _, _, _, by omega, by have := HRG.out; have := HRL.out; omega, by go_num, HBL.out.no HRG.out.1 (fun h => HBK.out.1 (by first | exact rfl | exact trivial) (by have h8 := h.2 i p HPP.out; rw [show fT ps ps.length = fT ps np by rw [HN.out]] at h8; exact h8)), rfl, by rw [List.length_append, HON.out]; rfl, ?_, HB4.out⟩
                  rw [show zX (out ++ [(r : Int)]) = zX out ++ [.int .i64 (r : Int)] by simp [zX]]
                  exact HO4.out
            · have hin : ¬ (i : Int) < (np : Int) := by omega
              have HIN2 := hidb (show i = np by have := HIG.out; omega)
              have HO5 := hidb (row_butS HO3.out (But.of_below (S := fun _ => False) HBI.out) (fun _ _ z => z))
              have HBR5 := hidb (HBR3.out.trans (HBI.out.mono HBR3.out.size))
              go_wp2_with fail
              go_roundg (lm - r)
              case measure => have := HRG.out; have := HRL.out; omega
              case rel =>
                exact ⟨r + 1, out, a, n, c, by omega, by have := HRG.out; have := HRL.out; omega, by go_num, HBL.out.ok HRG.out.1 ⟨by first | exact HLN.out | exact fun _ => HLN.out trivial, fun j q hq => by rw [show fT ps ps.length = fT ps np by rw [HN.out]]; exact HALL.out j q (by have h1 := (List.getElem?_eq_some_iff.1 hq).1; have h2 := HN.out; have h3 := HIN2.out; omega) hq⟩, rfl, HON.out, HO5.out, HBR5.out⟩
      · have hrn : ¬ (r : Int) ≤ (lm : Int) := by omega
        go_wp2_with fail
        go_ret
        have hre : r = lm + 1 := by have := HRG.out; omega
        subst hre
        exact ⟨lm, out, a, n, c, HCM.out, HBL.out, rfl, HON.out, own_baseN HOWN.out HB2.out.size, HBW.out⟩
  · skip
    obtain ⟨lm, hlm⟩ : ∃ lm : Nat, lm = 8 := ⟨_, rfl⟩
    have HCM : Hid ((Calm ps ls ∧ lm = 8) ∨ (¬ Calm ps ls ∧ lm = 4)) := hidb (.inl ⟨HCB.out.1 rfl, hlm⟩)
    clear HCB
    go_wp2_with fail
    refine (look_any (HS.out.procs.keep HB1.out) HN.out HF.out (fun p hp => (HS.out.each p hp).keep HB1.out) HWF.out HSZ.out).mono ?_
    rintro e w2 ⟨vb, fb, nb, tb, fn, rfl, hvw, hb2⟩
    have HV := hidb hvw
    have HB2 := hidb (HB1.out.trans (hb2.mono HB1.out.size))
    have HX2 := hidb (HX1.out.keep hb2)
    clear hvw hb2 x0 x1 x2 HX1 HB1
    have HLM : Hid (lm ≤ 8) := hidb (by omega)
    rw [show ((8 : Int)) = ((lm : Nat) : Int) by omega]
    clear hlm
    go_wp2_with fail
    go_step3
    go_wp2_with fail
    obtain ⟨i0, hi, hz0, hz1, hz2⟩ := info_rule
    go_loopg [5, 6] lm (fun gk bv rv wr => ∃ (r : Nat) (out : List Int) (a : Option Addr) (n c : Nat), 1 ≤ r ∧ r + gk = lm + 1 ∧ rv = .int .i64 (r : Int) ∧ BrkL ps ls (r - 1) out ∧ bv = .slice a n c ∧ out.length = n ∧ wr.ownsRow w2.heap.size RuT 1 (.slice a n c) n (zX out) ∧ Below w2.heap.size w2 wr)
    case atStart => exact ⟨1, [], none, 0, 0, by omega, by omega, rfl, brkl_zero ps ls, rfl, rfl, ⟨rfl, .inl ⟨rfl, rfl⟩⟩, Below.refl _ _⟩
    case round =>
      obtain ⟨r, out, a, n, c, hr1, hrg, rfl, hbl, rfl, hon, hown, hbr⟩ := hrel
      have HBL := hidb hbl
      have HON := hidb hon
      have HOWN := hidb hown
      have HBR := hidb hbr
      have HRG := hidb (And.intro hr1 hrg)
      have HXR := hidb (HX2.out.keep hbr)
      have HBW := hidb (HB2.out.trans (hbr.mono HB2.out.size))
      have HVR := hidb (HV.out.keep hbr)
      clear hbl hon hown hbr hr1 hrg
      obtain ⟨x0, -⟩ := HXR.out.1 0 _ rfl
      obtain ⟨x1, -⟩ := HXR.out.1 1 _ rfl
      obtain ⟨x2, -⟩ := HXR.out.1 2 _ rfl
      by_cases hrl : r ≤ lm
      · have HRL := hidb hrl
        have hrb : (r : Int) ≤ (lm : Int) := by omega
        have hrw : IntKind.i64.wrap ((r : Int) + 1) = (r : Int) + 1 := by have := HLM.out; rw [IntKind.wrap_i64]; omega
        have hrw2 : wrap64 ((r : Int) + 1) = (r : Int) + 1 := by have := HLM.out; unfold wrap64; omega
        by_cases h1 : r = 1
        · have HE1 := hidb h1
          subst h1
          go_wp2_with fail
          refine (inorder_any wr la cl nl ls (HS.out.keep HBW.out).lns HM.out).mono ?_
          rintro e w3 ⟨⟨bo, rfl, hbo⟩, hb3⟩
          have HBO := hidb hbo
          have HBR3 := hidb (HBR.out.trans (hb3.mono HBR.out.size))
          have HBW3 := hidb (HBW.out.trans (hb3.mono HBW.out.size))
          have HX3 := hidb (HXR.out.keep hb3)
          have HV3 := hidb (HVR.out.keep hb3)
          have HO3 := hidb (row_butS HOWN.out (But.of_below (S := fun _ => False) hb3) (fun _ _ z => z))
          clear hbo hb3 x0 x1 x2
          obtain ⟨x0, -⟩ := HX3.out.1 0 _ rfl
          cases bo
          · skip
            have HOA := hidb (HO3.out.alloc (.cells #[.int .i64 1] 46))
            go_wp2_with (first
              | (at_builtin; go_must (refine wpList_append_own _ rfl _ _ 32 rfl w2.heap.size 46 i0 (.int .i64 0) 1 8 Try.underlying32 hi hz0 hz1 hz2 rfl (by decide) (.slice a n c) n (zX out) rfl HOA.out ⟨w3.heap.size, 0, none⟩ 1 1 [.int .i64 1] rfl rfl (cell_one_new _ _ _) (by simp [Value.oneCell']) (by have h1 := HBL.out.len; have h2 := HON.out; have h3 := HRG.out; have h4 := HLM.out; unfold maxLen; omega) (by have h1 := HBL.out.len; have h2 := HON.out; have h3 := HRG.out; have h4 := HLM.out; omega) (by have := HBR3.out.size; simp; omega) ?_; intro v4 w4 hown hg hnil; have HO4 := hidb hown; have HG4 := hidb hg; obtain ⟨a4, c4, m4, rfl, hm4⟩ := own_slN hown; subst hm4; clear hown hg hnil)))
            have HB4 : Hid (Below w2.heap.size w2 w4) := hidb ((HBR3.out.alloc HBR3.out.size _).grown HG4.out (by have := HBR3.out.size; simp; omega) (fun j hj => (HOWN.out.lt j hj).1))
            go_roundg (lm - 1)
            case measure => have := HRG.out; have := HRL.out; omega
            case rel =>
              refine ⟨1 + 1, out ++ [1], _, _, _, by omega, by have := HRG.out; have := HRL.out; omega, by go_num, HBL.out.no HRG.out.1 (fun h => (by have h8 := HBO.out.2 (h.1 rfl); cases h8)), rfl, by rw [List.length_append, HON.out]; rfl, ?_, HB4.out⟩
              rw [show zX (out ++ [1]) = zX out ++ [.int .i64 1] by simp [zX]]
              exact HO4.out
          · have HLN : Hid (1 = 1 → LnOk ls) := hidb (fun _ => HBO.out.1 rfl)
            go_wp2_with fail
            go_loopg [5, 34] np (fun gi bv5 iv wi => ∃ (i : Nat), i + gi = np ∧ bv5 = .slice a n c ∧ iv = .int .i64 (i : Int) ∧ (∀ (j : Nat) (p : Pc), j < i → ps[j]? = some p → RuP ps (ps.flatMap Pc.names) (fT ps np) j p 1) ∧ Below w3.heap.size w3 wi)
            case atStart => exact ⟨0, by omega, rfl, rfl, fun j p hj => absurd hj (by omega), Below.refl _ _⟩
            case round =>
              obtain ⟨i, hig, rfl, rfl, hall, hbi⟩ := hrel
              have HIG := hidb hig
              have HALL := hidb hall
              have HBI := hidb hbi
              clear hig hall hbi
              by_cases hil : i < np
              · have hib : (i : Int) < (np : Int) := by omega
                have hiw : IntKind.i64.wrap ((i : Int) + 1) = (i : Int) + 1 := by have := HF.out; rw [IntKind.wrap_i64]; omega
                have hiw2 : wrap64 ((i : Int) + 1) = (i : Int) + 1 := by have := HF.out; unfold wrap64; omega
                obtain ⟨p, hp⟩ : ∃ p, ps[i]? = some p := ⟨_, List.getElem?_eq_getElem (by have := HN.out; omega)⟩
                have HPP := hidb hp
                have HIL := hidb hil
                have HBWI := hidb (HBW3.out.trans (HBI.out.mono HBW3.out.size))
                clear hp hil
                go_wp2_with fail
                refine (breaks_any (r := 1) (HV3.out.keep HBI.out) (HS.out.procs.keep HBWI.out) HN.out HF.out HPP.out ((HS.out.each p (List.mem_of_getElem? HPP.out)).keep HBWI.out) (HWF.out p (List.mem_of_getElem? HPP.out)) HRG.out.1 (by have h1 := HRG.out; have h2 := HLM.out; have h3 := HRL.out; omega)).mono ?_
                rintro e w5 ⟨⟨bk, rfl, hbk⟩, hb5⟩
                have HBK := hidb hbk
                have HB5 := hidb (HBI.out.trans (hb5.mono HBI.out.size))
                have HBR5 := hidb (HBR3.out.trans (HB5.out.mono HBR3.out.size))
                have HO5 := hidb (row_butS HO3.out (But.of_below (S := fun _ => False) HB5.out) (fun _ _ z => z))
                clear hbk hb5
                cases bk
                · go_wp2_with fail
                  go_roundg (gk - 1)
                  case measure => have := HIG.out; have := HIL.out; omega
                  case rel =>
                    refine ⟨i + 1, by have := HIG.out; have := HIL.out; omega, rfl, by go_num, fun j q hj hq => ?_, HB5.out⟩
                    by_cases e : j = i
                    · subst e
                      have h9 := HPP.out
                      rw [hq] at h9
                      cases h9
                      exact Classical.byContradiction fun hn => by have h8 := HBK.out.2 hn; cases h8
                    · exact HALL.out j q (by omega) hq
                · skip
                  have HOA := hidb (HO5.out.alloc (.cells #[.int .i64 1] 46))
                  go_wp2_with (first
                    | (at_builtin; go_must (refine wpList_append_own _ rfl _ _ 32 rfl w2.heap.size 46 i0 (.int .i64 0) 1 8 Try.underlying32 hi hz0 hz1 hz2 rfl (by decide) (.slice a n c) n (zX out) rfl HOA.out ⟨w5.heap.size, 0, none⟩ 1 1 [.int .i64 1] rfl rfl (cell_one_new _ _ _) (by simp [Value.oneCell']) (by have h1 := HBL.out.len; have h2 := HON.out; have h3 := HRG.out; have h4 := HLM.out; unfold maxLen; omega) (by have h1 := HBL.out.len; have h2 := HON.out; have h3 := HRG.out; have h4 := HLM.out; omega) (by have := HBR5.out.size; simp; omega) ?_; intro v4 w4 hown hg hnil; have HO4 := hidb hown; have HG4 := hidb hg; obtain ⟨a4, c4, m4, rfl, hm4⟩ := own_slN hown; subst hm4; clear hown hg hnil)))
                  have HB4 : Hid (Below w2.heap.size w2 w4) := hidb ((HBR5.out.alloc HBR5.out.size _).grown HG4.out (by have := HBR5.out.size; simp; omega) (fun j hj => (HOWN.out.lt j hj).1))
                  go_roundg (lm - 1)
                  case measure => have := HRG.out; have := HRL.out; omega
                  case rel =>
                    refine ⟨1 + 1, out ++ [1], _, _, _, by omega, by have := HRG.out; have := HRL.out; omega, by go_num, HBL.out.no HRG.out.1 (fun h => HBK.out.1 (by first | exact rfl | exact trivial) (by have h8 := h.2 i p HPP.out; rw [show fT ps ps.length = fT ps np by rw [HN.out]] at h8; exact h8)), rfl, by rw [List.length_append, HON.out]; rfl, ?_, HB4.out⟩
                    rw [show zX (out ++ [1]) = zX out ++ [.int .i64 1] by simp [zX]]
                    exact HO4.out
              · have hin : ¬ (i : Int) < (np : Int) := by omega
                have HIN2 := hidb (show i = np by have := HIG.out; omega)
                have HO5 := hidb (row_butS HO3.out (But.of_below (S := fun _ => False) HBI.out) (fun _ _ z => z))
                have HBR5 := hidb (HBR3.out.trans (HBI.out.mono HBR3.out.size))
                go_wp2_with fail
                go_roundg (lm - 1)
                case measure => have := HRG.out; have := HRL.out; omega
                case rel =>
                  exact ⟨1 + 1, out, a, n, c, by omega, by have := HRG.out; have := HRL.out; omega, by go_num, HBL.out.ok HRG.out.1 ⟨by first | exact HLN.out | exact fun _ => HLN.out trivial, fun j q hq => by rw [show fT ps ps.length = fT ps np by rw [HN.out]]; exact HALL.out j q (by have h1 := (List.getElem?_eq_some_iff.1 hq).1; have h2 := HN.out; have h3 := HIN2.out; omega) hq⟩, rfl, HON.out, HO5.out, HBR5.out⟩
        · have HE1 := hidb h1
          have hq : ((r : Int) == 1) = false := by simp; omega
          clear h1
          go_wp2_with fail
          have HLN : Hid (r = 1 → LnOk ls) := hidb (fun h => absurd h HE1.out)
          obtain ⟨w3, hw3⟩ : ∃ w3, wr = w3 := ⟨_, rfl⟩
          subst hw3
          have HBR3 := HBR
          have HBW3 := HBW
          have HV3 := HVR
          have HO3 := HOWN
          go_loopg [5, 34] np (fun gi bv5 iv wi => ∃ (i : Nat), i + gi = np ∧ bv5 = .slice a n c ∧ iv = .int .i64 (i : Int) ∧ (∀ (j : Nat) (p : Pc), j < i → ps[j]? = some p → RuP ps (ps.flatMap Pc.names) (fT ps np) j p r) ∧ Below wr.heap.size wr wi)
          case atStart => exact ⟨0, by omega, rfl, rfl, fun j p hj => absurd hj (by omega), Below.refl _ _⟩
          case round =>
            obtain ⟨i, hig, rfl, rfl, hall, hbi⟩ := hrel
            have HIG := hidb hig
            have HALL := hidb hall
            have HBI := hidb hbi
            clear hig hall hbi
            by_cases hil : i < np
            · have hib : (i : Int) < (np : Int) := by omega
              have hiw : IntKind.i64.wrap ((i : Int) + 1) = (i : Int) + 1 := by have := HF.out; rw [IntKind.wrap_i64]; omega
              have hiw2 : wrap64 ((i : Int) + 1) = (i : Int) + 1 := by have := HF.out; unfold wrap64; omega
              obtain ⟨p, hp⟩ : ∃ p, ps[i]? = some p := ⟨_, List.getElem?_eq_getElem (by have := HN.out; omega)⟩
              have HPP := hidb hp
              have HIL := hidb hil
              have HBWI := hidb (HBW3.out.trans (HBI.out.mono HBW3.out.size))
              clear hp hil
              go_wp2_with fail
              refine (breaks_any (r := r) (HV3.out.keep HBI.out) (HS.out.procs.keep HBWI.out) HN.out HF.out HPP.out ((HS.out.each p (List.mem_of_getElem? HPP.out)).keep HBWI.out) (HWF.out p (List.mem_of_getElem? HPP.out)) HRG.out.1 (by have h1 := HRG.out; have h2 := HLM.out; have h3 := HRL.out; omega)).mono ?_
              rintro e w5 ⟨⟨bk, rfl, hbk⟩, hb5⟩
              have HBK := hidb hbk
              have HB5 := hidb (HBI.out.trans (hb5.mono HBI.out.size))
              have HBR5 := hidb (HBR3.out.trans (HB5.out.mono HBR3.out.size))
              have HO5 := hidb (row_butS HO3.out (But.of_below (S := fun _ => False) HB5.out) (fun _ _ z => z))
              clear hbk hb5
              cases bk
              · go_wp2_with fail
                go_roundg (gk - 1)
                case measure => have := HIG.out; have := HIL.out; omega
                case rel =>
                  refine ⟨i + 1, by have := HIG.out; have := HIL.out; omega, rfl, by go_num, fun j q hj hq => ?_, HB5.out⟩
                  by_cases e : j = i
                  · subst e
                    have h9 := HPP.out
                    rw [hq] at h9
                    cases h9
                    exact Classical.byContradiction fun hn => by have h8 := HBK.out.2 hn; cases h8
                  · exact HALL.out j q (by omega) hq
              · skip
                have HOA := hidb (HO5.out.alloc (.cells #[.int .i64 (r : Int)] 46))
                go_wp2_with (first
                  | (at_builtin; go_must (refine wpList_append_own _ rfl _ _ 32 rfl w2.heap.size 46 i0 (.int .i64 0) 1 8 Try.underlying32 hi hz0 hz1 hz2 rfl (by decide) (.slice a n c) n (zX out) rfl HOA.out ⟨w5.heap.size, 0, none⟩ 1 1 [.int .i64 (r : Int)] rfl rfl (cell_one_new _ _ _) (by simp [Value.oneCell']) (by have h1 := HBL.out.len; have h2 := HON.out; have h3 := HRG.out; have h4 := HLM.out; unfold maxLen; omega) (by have h1 := HBL.out.len; have h2 := HON.out; have h3 := HRG.out; have h4 := HLM.out; omega) (by have := HBR5.out.size; simp; omega) ?_; intro v4 w4 hown hg hnil; have HO4 := hidb hown; have HG4 := hidb hg; obtain ⟨a4, c4, m4, rfl, hm4⟩ := own_slN hown; subst hm4; clear hown hg hnil)))
                have HB4 : Hid (Below w2.heap.size w2 w4) := hidb ((HBR5.out.alloc HBR5.out.size _).grown HG4.out (by have := HBR5.out.size; simp; omega) (fun j hj => (HOWN.out.lt j hj).1))
                go_roundg (lm - r)
                case measure => have := HRG.out; have := HRL.out; omega
                case rel =>
                  refine ⟨r + 1, out ++ [(r : Int)], _, _, _, by omega, by have := HRG.out; have := HRL.out; omega, by go_num, HBL.out.no HRG.out.1 (fun h => HBK.out.1 (by first | exact rfl | exact trivial) (by have h8 := h.2 i p HPP.out; rw [show fT ps ps.length = fT ps np by rw [HN.out]] at h8; exact h8)), rfl, by rw [List.length_append, HON.out]; rfl, ?_, HB4.out⟩
                  rw [show zX (out ++ [(r : Int)]) = zX out ++ [.int .i64 (r : Int)] by simp [zX]]
                  exact HO4.out
            · have hin : ¬ (i : Int) < (np : Int) := by omega
              have HIN2 := hidb (show i = np by have := HIG.out; omega)
              have HO5 := hidb (row_butS HO3.out (But.of_below (S := fun _ => False) HBI.out) (fun _ _ z => z))
              have HBR5 := hidb (HBR3.out.trans (HBI.out.mono HBR3.out.size))
              go_wp2_with fail
              go_roundg (lm - r)
              case measure => have := HRG.out; have := HRL.out; omega
              case rel =>
                exact ⟨r + 1, out, a, n, c, by omega, by have := HRG.out; have := HRL.out; omega, by go_num, HBL.out.ok HRG.out.1 ⟨by first | exact HLN.out | exact fun _ => HLN.out trivial, fun j q hq => by rw [show fT ps ps.length = fT ps np by rw [HN.out]]; exact HALL.out j q (by have h1 := (List.getElem?_eq_some_iff.1 hq).1; have h2 := HN.out; have h3 := HIN2.out; omega) hq⟩, rfl, HON.out, HO5.out, HBR5.out⟩
      · have hrn : ¬ (r : Int) ≤ (lm : Int) := by omega
        go_wp2_with fail
        go_ret
        have hre : r = lm + 1 := by have := HRG.out; omega
        subst hre
        exact ⟨lm, out, a, n, c, HCM.out, HBL.out, rfl, HON.out, own_baseN HOWN.out HB2.out.size, HBW.out⟩
end Go.Proofs.Ytjiigabfdigkaaa


/- Of a state: both say the same. -/
namespace Go.Proofs.Ytjiigabfdigkaaa
open Go.RowKit

theorem rise_mon (l : List Int) : Rise l ↔ Rise l := Iff.rfl
theorem allS_of {ls : List Ln} {i k : Nat} {l : Ln} {s : Sg} (hl : ls[i]? = some l) (hs : l.sigs[k]? = some s) : (⟨i, k, s⟩ : Spt) ∈ allS ls := by
  have h := allS_mid hl (k + 1)
  refine h.subset ?_
  rw [← allS_next hs]
  simp
theorem ru1 {ps : List Pc} {ls : List Ln} : RuS ps ls 1 ↔ OrPs ps ∧ OrLs ls := by
  constructor
  · rintro ⟨h1, h2⟩
    obtain ⟨a, b, c⟩ := h1 rfl
    refine ⟨fun i p hp => ?_, fun i l hl => ⟨a l (List.mem_of_getElem? hl), fun j l' e hj => ?_, fun s hs => ?_⟩⟩
    · obtain ⟨e1, e2, e3, e4⟩ := h2 i p hp
      exact ⟨e1, e3, e4, e2⟩
    · subst e
      have := c j l' l hj hl
      unfold LtE at this
      omega
    · obtain ⟨k, hk⟩ := List.mem_iff_getElem?.1 hs
      exact b _ (allS_of hl hk) l hl
  · rintro ⟨h1, h2⟩
    refine ⟨fun _ => ⟨fun l hl => ?_, fun x hx l hl => ?_, fun i a b ha hb => ?_⟩, fun i p hp => ?_⟩
    · obtain ⟨i, hi⟩ := List.mem_iff_getElem?.1 hl
      exact (h2 i l hi).1
    · obtain ⟨l', hl', hs⟩ := allS_mem hx
      rw [hl] at hl'
      cases hl'
      exact (h2 x.i l hl).2.2 x.s (List.mem_of_getElem? hs)
    · have := (h2 (i + 1) b hb).2.1 i a rfl ha
      unfold LtE
      omega
    · obtain ⟨e1, e2, e3, e4⟩ := h1 i p hp
      exact ⟨e1, e4, e2, e3⟩
theorem all_at {α : Type} {ps : List α} {P : α → Prop} : (∀ (i : Nat) p, ps[i]? = some p → P p) ↔ ∀ p ∈ ps, P p :=
  ⟨fun h p hp => by obtain ⟨i, hi⟩ := List.mem_iff_getElem?.1 hp; exact h i p hi, fun h i p hp => h p (List.mem_of_getElem? hp)⟩
theorem ru2 {ps : List Pc} {ls : List Ln} : RuS ps ls 2 ↔ ∀ p ∈ ps, GhOk p :=
  ⟨fun h => all_at.1 (fun i p hp => h.2 i p hp), fun h => ⟨fun e => by omega, fun i p hp => all_at.2 h i p hp⟩⟩
theorem ru3 {ps : List Pc} {ls : List Ln} : RuS ps ls 3 ↔ ∀ p ∈ ps, LivOk p :=
  ⟨fun h => all_at.1 (fun i p hp => h.2 i p hp), fun h => ⟨fun e => by omega, fun i p hp => all_at.2 h i p hp⟩⟩
theorem ru4 {ps : List Pc} {ls : List Ln} : RuS ps ls 4 ↔ NmOk ps := by
  constructor
  · rintro ⟨-, h⟩
    have h' : ∀ p ∈ ps, MisOk p (ps.flatMap Pc.names) := all_at.1 (fun i p hp => h i p hp)
    refine ⟨fun p hp => (h' p hp).1, (cnt_nodup _).2 fun a ha => ?_⟩
    obtain ⟨p, hp, hs⟩ := List.mem_flatMap.1 ha
    exact (h' p hp).2 a hs
  · rintro ⟨h1, h2⟩
    refine ⟨fun e => by omega, fun i p hp => ⟨h1 p (List.mem_of_getElem? hp), fun s hs => (cnt_nodup _).1 h2 s (List.mem_flatMap.2 ⟨p, List.mem_of_getElem? hp, hs⟩)⟩⟩
theorem ru5 {ps : List Pc} {ls : List Ln} : RuS ps ls 5 ↔ ∀ p ∈ ps, AllL p :=
  ⟨fun h => all_at.1 (fun i p hp => h.2 i p hp), fun h => ⟨fun e => by omega, fun i p hp => all_at.2 h i p hp⟩⟩
theorem mem_fT (ps : List Pc) (t : Tie) (n : Nat) (hn : n ≤ ps.length) : t ∈ fT ps n ↔ ∃ (m : Nat) (p : Pc), m < n ∧ ps[m]? = some p ∧ (∀ (i : Nat) (q : Pc), i < m → ps[i]? = some q → q.pid ≠ p.pid) ∧ t ∈ tiesOf p := by
  induction n with
  | zero => simp [fT]
  | succ n ih =>
    have ih := ih (by omega)
    obtain ⟨p, hp⟩ : ∃ p, ps[n]? = some p := ⟨_, List.getElem?_eq_getElem (by omega)⟩
    have hfst : fst (ps.take n) p.pid = none ↔ ∀ (i : Nat) (q : Pc), i < n → ps[i]? = some q → q.pid ≠ p.pid := by
      unfold fst
      rw [List.findIdx?_eq_none_iff]
      constructor
      · intro h i q hi hq
        simpa using h q (List.mem_of_getElem? (i := i) (by rw [List.getElem?_take_of_lt hi]; exact hq))
      · intro h x hx
        obtain ⟨i, hi⟩ := List.mem_iff_getElem?.1 hx
        have hl := (List.getElem?_eq_some_iff.1 hi).1
        simp at hl
        rw [List.getElem?_take_of_lt (by omega)] at hi
        simpa using h i x (by omega) hi
    cases hf : fst (ps.take n) p.pid with
    | none =>
      rw [fT_new hp hf, List.mem_append, ih]
      constructor
      · rintro (⟨m, q, hm, h⟩ | h)
        · exact ⟨m, q, by omega, h⟩
        · exact ⟨n, p, by omega, hp, hfst.1 hf, h⟩
      · rintro ⟨m, q, hm, hq, h1, h2⟩
        by_cases e : m = n
        · subst e
          rw [hp] at hq
          cases hq
          exact .inr h2
        · exact .inl ⟨m, q, by omega, hq, h1, h2⟩
    | some k =>
      rw [fT_old hp hf, ih]
      constructor
      · rintro ⟨m, q, hm, h⟩
        exact ⟨m, q, by omega, h⟩
      · rintro ⟨m, q, hm, hq, h1, h2⟩
        by_cases e : m = n
        · subst e
          rw [hp] at hq
          cases hq
          have := hfst.2 h1
          rw [hf] at this
          cases this
        · exact ⟨m, q, by omega, hq, h1, h2⟩
theorem fT_fi (ps : List Pc) (t : Tie) : t ∈ fT ps ps.length ↔ ∃ (m : Nat) (p : Pc), fi ps p.pid = (m : Int) ∧ ps[m]? = some p ∧ t ∈ tiesOf p := by
  rw [mem_fT ps t ps.length (Nat.le_refl _)]
  constructor
  · rintro ⟨m, p, hm, hp, h1, h2⟩
    exact ⟨m, p, fi_some hp rfl h1, hp, h2⟩
  · rintro ⟨m, p, hf, hp, h2⟩
    refine ⟨m, p, (List.getElem?_eq_some_iff.1 hp).1, hp, ?_, h2⟩
    rcases fi_cases ps p.pid with ⟨h, -⟩ | ⟨m', p', h3, h4, h5, h6⟩
    · rw [hf] at h; omega
    · have : m = m' := by rw [hf] at h3; omega
      subst this
      exact h6
theorem fi_pid {ps : List Pc} {pid : Int} {m : Nat} {p : Pc} (h : fi ps pid = (m : Int)) (hp : ps[m]? = some p) : p.pid = pid := by
  rcases fi_cases ps pid with ⟨h2, -⟩ | ⟨m', p', h3, h4, h5, h6⟩
  · rw [h] at h2; omega
  · have : m = m' := by rw [h] at h3; omega
    subst this
    rw [hp] at h4
    cases h4
    exact h5
theorem mem_ties (p : Pc) (t : Tie) : t ∈ tiesOf p ↔ (∃ h ∈ p.links, t = ⟨0, p.pid, 0, h.pid⟩) ∨ (∃ m ∈ p.origins, t = ⟨1, p.pid, m.ref, m.pid⟩) ∨ ∃ m ∈ p.targets, t = ⟨2, p.pid, m.ref, m.pid⟩ := by
  unfold tiesOf lnkT monT
  simp only [List.mem_append, List.mem_map, or_assoc]
  constructor
  · rintro (⟨h, hh, e⟩ | ⟨h, hh, e⟩ | ⟨h, hh, e⟩)
    · exact .inl ⟨h, hh, e.symm⟩
    · exact .inr (.inl ⟨h, hh, e.symm⟩)
    · exact .inr (.inr ⟨h, hh, e.symm⟩)
  · rintro (⟨h, hh, e⟩ | ⟨h, hh, e⟩ | ⟨h, hh, e⟩)
    · exact .inl ⟨h, hh, e.symm⟩
    · exact .inr (.inl ⟨h, hh, e.symm⟩)
    · exact .inr (.inr ⟨h, hh, e.symm⟩)
theorem tie_lnk (ps : List Pc) (a b : Int) : (⟨0, a, 0, b⟩ : Tie) ∈ fT ps ps.length ↔ Holds ps a b := by
  rw [fT_fi]
  constructor
  · rintro ⟨m, p, hf, hp, ht⟩
    rcases (mem_ties p _).1 ht with ⟨h, hh, e⟩ | ⟨h, hh, e⟩ | ⟨h, hh, e⟩
    · simp only [Tie.mk.injEq] at e
      exact ⟨m, p, by rw [e.2.1]; exact hf, hp, h, hh, e.2.2.2.symm⟩
    · simp only [Tie.mk.injEq] at e; omega
    · simp only [Tie.mk.injEq] at e; omega
  · rintro ⟨m, p, hf, hp, h, hh, e⟩
    have := fi_pid hf hp
    exact ⟨m, p, by rw [this]; exact hf, hp, (mem_ties p _).2 (.inl ⟨h, hh, by rw [this, e]⟩)⟩
theorem tie_tgt (ps : List Pc) (a r b : Int) : (⟨2, a, r, b⟩ : Tie) ∈ fT ps ps.length ↔ ∃ (m : Nat) (p : Pc), fi ps a = (m : Int) ∧ ps[m]? = some p ∧ Has p.targets r b := by
  rw [fT_fi]
  constructor
  · rintro ⟨m, p, hf, hp, ht⟩
    rcases (mem_ties p _).1 ht with ⟨h, hh, e⟩ | ⟨h, hh, e⟩ | ⟨h, hh, e⟩
    · simp only [Tie.mk.injEq] at e; omega
    · simp only [Tie.mk.injEq] at e; omega
    · simp only [Tie.mk.injEq] at e
      exact ⟨m, p, by rw [e.2.1]; exact hf, hp, h, hh, e.2.2.1.symm, e.2.2.2.symm⟩
  · rintro ⟨m, p, hf, hp, h, hh, e1, e2⟩
    have := fi_pid hf hp
    exact ⟨m, p, by rw [this]; exact hf, hp, (mem_ties p _).2 (.inr (.inr ⟨h, hh, by rw [this, e1, e2]⟩))⟩
theorem tie_org (ps : List Pc) (a r b : Int) : (⟨1, a, r, b⟩ : Tie) ∈ fT ps ps.length ↔ ∃ (m : Nat) (p : Pc), fi ps a = (m : Int) ∧ ps[m]? = some p ∧ Has p.origins r b := by
  rw [fT_fi]
  constructor
  · rintro ⟨m, p, hf, hp, ht⟩
    rcases (mem_ties p _).1 ht with ⟨h, hh, e⟩ | ⟨h, hh, e⟩ | ⟨h, hh, e⟩
    · simp only [Tie.mk.injEq] at e; omega
    · simp only [Tie.mk.injEq] at e
      exact ⟨m, p, by rw [e.2.1]; exact hf, hp, h, hh, e.2.2.1.symm, e.2.2.2.symm⟩
    · simp only [Tie.mk.injEq] at e; omega
  · rintro ⟨m, p, hf, hp, h, hh, e1, e2⟩
    have := fi_pid hf hp
    exact ⟨m, p, by rw [this]; exact hf, hp, (mem_ties p _).2 (.inr (.inl ⟨h, hh, by rw [this, e1, e2]⟩))⟩
theorem ru6 {ps : List Pc} {ls : List Ln} : RuS ps ls 6 ↔ ∀ p ∈ ps, MutL ps p := by
  rw [← all_at]
  constructor
  · rintro ⟨-, h⟩ i p hp ha x hx
    exact (tie_lnk ps x.pid p.pid).1 (h i p hp ha x hx)
  · intro h
    exact ⟨fun e => by omega, fun i p hp ha x hx => (tie_lnk ps x.pid p.pid).2 (h i p hp ha x hx)⟩
theorem ru7 {ps : List Pc} {ls : List Ln} : RuS ps ls 7 ↔ ∀ p ∈ ps, DeadOk ps p :=
  ⟨fun h => all_at.1 (fun i p hp => h.2 i p hp), fun h => ⟨fun e => by omega, fun i p hp => all_at.2 h i p hp⟩⟩
theorem ru8 {ps : List Pc} {ls : List Ln} : RuS ps ls 8 ↔ ∀ p ∈ ps, PairOk ps p := by
  rw [← all_at]
  constructor
  · rintro ⟨-, h⟩ i p hp ha
    obtain ⟨h1, h2⟩ := h i p hp ha
    exact ⟨fun m hm h0 => (tie_tgt ps m.pid m.ref p.pid).1 (h1 m hm h0), fun m hm => (tie_org ps m.pid m.ref p.pid).1 (h2 m hm)⟩
  · intro h
    refine ⟨fun e => by omega, fun i p hp ha => ?_⟩
    obtain ⟨h1, h2⟩ := h i p hp ha
    exact ⟨fun m hm h0 => (tie_tgt ps m.pid m.ref p.pid).2 (h1 m hm h0), fun m hm => (tie_org ps m.pid m.ref p.pid).2 (h2 m hm)⟩
theorem brk_end (bs : List Bool) (h : ∀ b, b = bs → bs[4]? = some true ∧ bs[5]? = some true ∧ bs[6]? = some true ∧ bs[7]? = some true) : brk bs 8 = brk bs 4 := by
  obtain ⟨a, b, c, d⟩ := h bs rfl
  rw [brk_yes (m := 7) d, brk_yes (m := 6) c, brk_yes (m := 5) b, brk_yes (m := 4) a]
theorem brk_ext {a b : List Bool} {m : Nat} (h : ∀ k, k < m → a[k]? = b[k]?) : brk a m = brk b m := by
  unfold brk
  congr 1
  apply List.filter_congr
  intro k hk
  rw [h k (List.mem_range.1 hk)]
theorem bool_iff {a b : Bool} {P : Prop} (ha : a = true ↔ P) (hb : b = true ↔ P) : a = b := by
  rw [Bool.eq_iff_iff, ha, hb]
/-- Both tell the same rules. -/
theorem same_rules {ps : List Pc} {ls : List Ln} {r1 r2 r3 r4 r5 r6 r7 r8 : Bool} (h : RuOk ps ls r1 r2 r3 r4 r5 r6 r7 r8) {m : Nat} {out : List Int} (hm : (Calm ps ls ∧ m = 8) ∨ (¬ Calm ps ls ∧ m = 4)) (hb : BrkL ps ls m out) : brk [r1, r2, r3, r4, r5, r6, r7, r8] 8 = out := by
  obtain ⟨bs, hl, hk, rfl⟩ := hb
  have key : ∀ (k : Nat) (r : Bool) (P : Prop), k < m → (RuS ps ls (k + 1) ↔ P) → (r = true ↔ P) → bs[k]? = some r := by
    intro k r P hkm h1 h2
    obtain ⟨b, hb⟩ : ∃ b, bs[k]? = some b := ⟨_, List.getElem?_eq_getElem (by omega)⟩
    rw [hb, bool_iff ((hk k b hb).trans h1) h2]
  rcases hm with ⟨hc, rfl⟩ | ⟨hc, rfl⟩
  · refine brk_ext fun k hk8 => ?_
    have c5 : r5 = true ↔ ∀ p ∈ ps, AllL p := h.h5.trans ⟨fun x => x hc, fun x _ => x⟩
    have c6 : r6 = true ↔ ∀ p ∈ ps, MutL ps p := h.h6.trans ⟨fun x => x hc, fun x _ => x⟩
    have c7 : r7 = true ↔ ∀ p ∈ ps, DeadOk ps p := h.h7.trans ⟨fun x => x hc, fun x _ => x⟩
    have c8 : r8 = true ↔ ∀ p ∈ ps, PairOk ps p := h.h8.trans ⟨fun x => x hc, fun x _ => x⟩
    have e0 := key 0 r1 _ (by omega) ru1 h.h1
    have e1 := key 1 r2 _ (by omega) ru2 h.h2
    have e2 := key 2 r3 _ (by omega) ru3 h.h3
    have e3 := key 3 r4 _ (by omega) ru4 h.h4
    have e4 := key 4 r5 _ (by omega) ru5 c5
    have e5 := key 5 r6 _ (by omega) ru6 c6
    have e6 := key 6 r7 _ (by omega) ru7 c7
    have e7 := key 7 r8 _ (by omega) ru8 c8
    obtain rfl | rfl | rfl | rfl | rfl | rfl | rfl | rfl : k = 0 ∨ k = 1 ∨ k = 2 ∨ k = 3 ∨ k = 4 ∨ k = 5 ∨ k = 6 ∨ k = 7 := by omega
    · rw [e0]; rfl
    · rw [e1]; rfl
    · rw [e2]; rfl
    · rw [e3]; rfl
    · rw [e4]; rfl
    · rw [e5]; rfl
    · rw [e6]; rfl
    · rw [e7]; rfl
  · have c5 : r5 = true := h.h5.2 fun x => absurd x hc
    have c6 : r6 = true := h.h6.2 fun x => absurd x hc
    have c7 : r7 = true := h.h7.2 fun x => absurd x hc
    have c8 : r8 = true := h.h8.2 fun x => absurd x hc
    subst c5 c6 c7 c8
    rw [brk_end _ (fun _ _ => ⟨rfl, rfl, rfl, rfl⟩)]
    refine brk_ext fun k hk8 => ?_
    have e0 := key 0 r1 _ (by omega) ru1 h.h1
    have e1 := key 1 r2 _ (by omega) ru2 h.h2
    have e2 := key 2 r3 _ (by omega) ru3 h.h3
    have e3 := key 3 r4 _ (by omega) ru4 h.h4
    obtain rfl | rfl | rfl | rfl : k = 0 ∨ k = 1 ∨ k = 2 ∨ k = 3 := by omega
    · rw [e0]; rfl
    · rw [e1]; rfl
    · rw [e2]; rfl
    · rw [e3]; rfl
end Go.Proofs.Ytjiigabfdigkaaa


