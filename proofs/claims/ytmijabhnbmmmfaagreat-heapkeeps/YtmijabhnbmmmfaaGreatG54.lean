import Derived.Test.YtmijabhnbmmmfaaGreatG53
import Derived.Test.YtmijabhnbmmmfaaGreatG40
import Derived.ProofKit
import Derived.OpenShut
/- HeapKeeps. -/
namespace Go.Proofs.YtmijabhnbmmmfaaGreat
open Go.RowKit Go.Deep
attribute [local go_sem] store_float f64bits f64frombits
attribute [local go_sem ↓] Go.wp_at_zero Go.wp_at_succ

/-- A row of truths that was handed in. -/
structure Bls (w : World) (a : Option Addr) (bs : List Bool) : Prop where
  at_ : 0 < bs.length → ∃ b o, a = some ⟨b, o, none⟩ ∧ b < w.heap.size ∧ ∀ (j : Nat) (x : Bool), bs[j]? = some x → w.cell? ⟨b, o + j, none⟩ = some (.bool x)

theorem wAll_app (a b : List Tr) : wAll (a ++ b) = wAll a + wAll b := by
  induction a with
  | nil => simp [wAll]
  | cons t r ih => simp only [List.cons_append, wAll, ih]; omega

theorem sel_len (bs : List Bool) : ∀ m, (sel bs m).length ≤ m
  | 0 => by simp [sel]
  | m + 1 => by
    have := sel_len bs m
    simp only [sel, List.length_append]
    split <;> simp <;> omega

theorem sel_w {w : World} {a : Option Addr} {c : Nat} {kids : List Tr} (cx : FullCx w a c kids) (bs : List Bool) : ∀ m, m ≤ kids.length → wAll (selT bs kids m) ≤ wAll (kids.take m)
  | 0, _ => by simp [selT, sel, wAll]
  | m + 1, h => by
    have ih := sel_w cx bs m (by omega)
    have ht : kids[m]? = some kids[m] := List.getElem?_eq_getElem (by omega)
    rw [wAll_take ht]
    by_cases hy : bs[m]? = some true
    · rw [selT_yes hy ht, wAll_app]
      simp only [wAll]
      omega
    · rw [selT_no hy]
      omega

set_option maxHeartbeats 3000000 in
set_option maxRecDepth 100000 in
theorem heapKeeps_any (a : Option Addr) (c : Nat) (kids : List Tr) (ka : Option Addr) (kc : Nat) (bs : List Bool) (w : World) (hin : (Tr.mk 0 0 0 ⟨#[]⟩ a c kids).In w 0) (hbs : Bls w ka bs) :
    Calls Tryz.prog 4 #[.slice a kids.length c, .slice ka bs.length kc] w fun e w' => e = .returned (.bool true) ∧ Below w.heap.size w w' := by
  have KN := hidb known4_any
  have RR := hidb (fun w' (hb : Below w.heap.size w w') => right_row a c kids w' (in_below hb hin))
  obtain ⟨R, hR⟩ : ∃ R, (decide (kids.length ≤ 40) && decide (0 ≤ fewT (.mk 0 0 0 ⟨#[]⟩ a c kids) 60000 1000) && allOk kids) = R := ⟨_, rfl⟩
  rw [hR] at RR
  have HBS := hidb hbs
  cases R with
  | false =>
    clear hR hin hbs
    go_enter Tryz.func4, Tryz.ntmps4
    go_wp2_with (first
      | (go_at_call 8; refine (KN.out _).mono ?_; rintro e w1 ⟨rfl, hb1⟩; have HB1 := hidb hb1; clear hb1)
      | (go_at_call 16; refine (RR.out _ HB1.out).mono ?_; rintro e w2 ⟨rfl, hb2⟩; have HB2 := hidb (HB1.out.trans (hb2.mono HB1.out.size)); clear hb2))
    go_ret
    exact ⟨rfl, HB2.out⟩
  | true =>
  simp only [Bool.and_eq_true, decide_eq_true_eq] at hR
  obtain ⟨⟨h40, hfew⟩, hall⟩ := hR
  have CX := hidb (show FullCx w a c kids from ⟨hin, (few_small _ _ _ (by omega) hfew).1, h40, by have := few_cnt _ _ _ hfew; simp only [cntT] at this; have := (fewT_le (.mk 0 0 0 ⟨#[]⟩ a c kids) 60000 1000 (by omega)).1; omega, hall⟩)
  clear hin hfew hall hbs
  go_enter Tryz.func4, Tryz.ntmps4
  go_wp2_with (first
    | (go_at_call 8; refine (KN.out _).mono ?_; rintro e w1 ⟨rfl, hb1⟩; have HB1 := hidb hb1; clear hb1)
    | (go_at_call 16; refine (RR.out _ HB1.out).mono ?_; rintro e w2 ⟨rfl, hb2⟩; have HB2 := hidb (HB1.out.trans (hb2.mono HB1.out.size)); clear hb2)
    | (go_at_call 17; refine (stored_any CX.out HB2.out).mono ?_; rintro e w3 ⟨hb, ab, ws, L, F, a2, c2, us, vo, rfl, hst, hus⟩; obtain ⟨av, cv, rfl⟩ := own_formW hus.own; have HST := hidb hst; have HUS := hidb hus; clear hst hus))
  clear RR KN HB1 HB2
  have HLL := hidb (show L.length ≤ 100000 by have := HST.out.ll; have := cntAll_take_le kids kids.length; have := CX.out.cnt; omega)
  have HUL := hidb HST.out.ul
  have hwl := CX.out.words
  have HRO := hidb (rts_own HUS.out.own)
  go_loopw [7, 8] (fun nv iv wr => ∃ (m : Nat), m ≤ kids.length ∧ iv = .int .i64 m ∧ nv = .int .i64 (wAll (kids.take m) : Nat) ∧ Below w3.heap.size w3 wr) (fun _ iv _ => kids.length - (intOf iv).toNat)
  case atStart => exact ⟨0, by omega, rfl, by simp [wAll], Below.refl _ _⟩
  case round =>
  obtain ⟨m, hm, rfl, rfl, hby⟩ := hrel
  have HBY := hidb hby
  have HBW := hidb (HST.out.be.trans (hby.mono HST.out.be.size))
  clear hby
  by_cases hml : m < kids.length
  · have hmb : (m : Int) < (kids.length : Int) := by omega
    have hmb2 : (m : Int) < (us.length : Int) := by have := HUL.out; omega
    have hmz : (0 : Int) ≤ (m : Int) := by omega
    obtain ⟨b2, o2, k2, n2, f2, s2, a3, c3, ks2, rfl, hu2, hin2, hsk2, he2, hcell2⟩ := CX.out.kid (m := m) hml
    obtain ⟨v0, v1, v2, v3, v4⟩ := hcell2 wr HBW.out
    obtain ⟨u, hu⟩ : ∃ u, us[m]? = some u := ⟨_, List.getElem?_eq_getElem (by have := HUL.out; omega)⟩
    obtain ⟨b4, o4, rfl, hb4, hc4⟩ := HRO.out.at_ (by have := HUL.out; omega)
    have v5 := (HBY.out.cell (p := ⟨b4, o4 + m, none⟩) hb4).trans (hc4 m u hu)
    have hw2 := wAll_take hu2
    have hwt := wAll_take_le kids (m + 1)
    obtain ⟨-, hww, -⟩ := words_right he2
    have WD := hidb (words_t (.mk k2 n2 f2 s2 a3 c3 ks2) wr (in_below HBW.out hin2) hsk2)
    rw [hww, he2] at WD
    have LD := hidb (fun (w' : World) (hb' : Below w3.heap.size w3 w') => load_all w w' (.mk k2 n2 f2 s2 a3 c3 ks2) u (HST.out.hp.keep hb') HLL.out hin2 he2 (HST.out.rep m _ u hu2 hu))
    have HC2 := hidb hcell2
    have HI2 := hidb hin2
    generalize wN (.mk k2 n2 f2 s2 a3 c3 ks2) = Wm at *
    generalize wAll (kids.take m) = Wt at *
    have hadd : IntKind.i64.wrap ((Wt : Int) + (Wm : Int)) = ((Wt + Wm : Nat) : Int) := by rw [IntKind.wrap_i64]; omega
    clear hu2 hin2 hsk2 he2 hcell2 hww hu hc4 hb4
    go_wp2_with (first
      | (go_at_call 18; refine WD.out.mono ?_; rintro e wz ⟨rfl, hbz⟩; have HBZ := hidb (HBY.out.trans (hbz.mono HBY.out.size)); clear v0 v1 v2 v3 v4; obtain ⟨v0, v1, v2, v3, v4⟩ := HC2.out wz (HBW.out.trans (hbz.mono HBW.out.size)); replace v5 := (hbz.cell (p := ⟨b4, o4 + m, none⟩) (World.block_lt_of_cell? _ _ v5)).trans v5; clear hbz))
    refine (LD.out _ HBZ.out).mono ?_
    rintro e w9 ⟨⟨k9, n9, f9, s9, a9, c9, ks9⟩, rfl, hsm, hin9, hb9⟩
    have HB9 := hidb (HBZ.out.trans (hb9.mono HBZ.out.size))
    have hw9 : Below w.heap.size w w9 := HST.out.be.trans (HB9.out.mono HST.out.be.size)
    have HW9 := hidb (hw9.trans ((below_new w9 (objT k9 n9 f9 s9 a9 ks9.length c9)).mono hw9.size))
    have HBA := hidb (HB9.out.trans ((below_new w9 (objT k9 n9 f9 s9 a9 ks9.length c9)).mono HB9.out.size))
    have BY9 := hidb (Box.new w9 44 (.int .i64 k9) (.int .i64 n9) (.float .f64 f9) (.string s9) (.slice a9 ks9.length c9))
    have TW := hidb (fun (w' : World) (hb' : Below (w9.alloc (objT k9 n9 f9 s9 a9 ks9.length c9)).heap.size (w9.alloc (objT k9 n9 f9 s9 a9 ks9.length c9)) w') => twin_same (.mk k9 n9 f9 s9 a9 c9 ks9) (.mk k2 n2 f2 s2 a3 c3 ks2) (same_symm _ _ hsm) w' (in_below hb' (in_below (below_new w9 _) (in_mono (Nat.zero_le _) _ hin9))) (in_below (HW9.out.trans (hb'.mono HW9.out.size)) HI2.out))
    clear hsm hin9 hb9 LD hw9 v0 v1 v2 v3 v4 v5
    simp only [Tr.val, Tr.cells] at TW ⊢
    go_wp2_with fail
    generalize (w9.alloc (objT k9 n9 f9 s9 a9 ks9.length c9)) = W9 at *
    obtain ⟨g0, g1, g2, g3, g4, -, -, -, -, -, -⟩ := BY9.out
    obtain ⟨v0, v1, v2, v3, v4⟩ := HC2.out W9 HW9.out
    go_region_with (first
      | (go_at_call 20; refine (fine0 _).mono ?_; rintro e w' ⟨rfl, hw'⟩; obtain rfl := hw'.symm)
      | (go_at_call 21; refine (TW.out _ ((Below.refl _ _).drew)).mono ?_; rintro e w5 ⟨rfl, hb5⟩; have HB5 := hidb (HBA.out.trans ((((Below.refl _ _).drew).trans hb5).mono HBA.out.size)); clear hb5))
    all_goals (
      go_wp2_with fail
      go_roundw
      case rel => exact ⟨m + 1, by omega, by go_num, by simp [hw2], HB5.out⟩
      case measure => simp [intOf]; omega)
  · have hmn : ¬ (m : Int) < (kids.length : Int) := by omega
    obtain rfl : m = kids.length := by omega
    have hwk : ws.length = wAll (kids.take kids.length) := HST.out.wl
    have HP5 := hidb (HST.out.hp.keep HBY.out)
    have HU5 := hidb (used_any HP5.out)
    rw [hwk] at HU5
    clear hwk
    generalize wAll (kids.take kids.length) = WK at *
    go_wp2_with (go_at_call 22; refine HU5.out.mono ?_; rintro e w' ⟨rfl, hw'⟩; obtain rfl := hw'.symm)
    obtain ⟨w5, hw5⟩ : ∃ x, x = wr := ⟨wr, rfl⟩
    subst hw5
    have HB5 := hidb HBW.out
    have HRO5 := hidb (HRO.out.keep HBY.out)
    have HS := hidb (fun (j : Nat) (t : Tr) (u : Int) (ht : kids[j]? = some t) (hu : us[j]? = some u) => sto_of CX.out HST.out ht hu)
    have HBS5 := hidb (show Bls w5 ka bs from ⟨fun h => by
      obtain ⟨b, o, e, h1, h2⟩ := HBS.out.at_ h
      exact ⟨b, o, e, Nat.lt_of_lt_of_le h1 HBW.out.size, fun j x hx => (HBW.out.cell (p := ⟨b, o + j, none⟩) h1).trans (h2 j x hx)⟩⟩)
    have hhb := HST.out.hbB
    clear HRO HBS HUS HBY HBW HU5 hmn hml hm
    obtain ⟨i0, hi, hz0, hz1, hz2⟩ := info_parts infoW
    obtain ⟨i1, hj, hy0, hy1, hy2⟩ := info_parts infoT
    go_loopw [13, 14, 15, 16] (fun rv kv lv iv wq => ∃ (m : Nat) (av2 : Option Addr) (cv2 : Nat) (av3 : Option Addr) (cv3 : Nat), m ≤ kids.length ∧ iv = .int .i64 m ∧ lv = .int .i64 (wAll (selT bs kids m) : Nat) ∧ rv = .slice av2 (selU bs us m).length cv2 ∧ kv = .slice av3 (selT bs kids m).length cv3 ∧ RK w5 wq (selU bs us m) (selT bs kids m) (.slice av2 (selU bs us m).length cv2) (.slice av3 (selT bs kids m).length cv3)) (fun _ _ _ iv _ => kids.length - (intOf iv).toNat)
    case atStart => exact ⟨0, none, 0, none, 0, by omega, rfl, by simp [selT, sel, wAll], rfl, rfl, ⟨⟨rfl, Or.inl ⟨rfl, rfl⟩⟩, ⟨rfl, Or.inl ⟨rfl, rfl⟩⟩, fun q hq => by simp [Value.ownBlock] at hq, Below.refl _ _⟩⟩
    case round =>
    obtain ⟨m, av2, cv2, av3, cv3, hm, rfl, rfl, rfl, rfl, hrk⟩ := hrel
    have HRK := hidb hrk
    have hbq := hrk.be
    have HBQ := hidb hbq
    clear hrk hbq
    by_cases hml : m < kids.length
    · have hmb : (m : Int) < (kids.length : Int) := by omega
      have hmb2 : (m : Int) < (us.length : Int) := by have := HUL.out; omega
      have hmz : (0 : Int) ≤ (m : Int) := by omega
      by_cases hyes : bs[m]? = some true
      · have hbl := get_lt hyes
        have hbb : (m : Int) < (bs.length : Int) := by omega
        obtain ⟨kb, ko, rfl, hkb, hkc⟩ := HBS5.out.at_ (by omega)
        have v6 := (HBQ.out.cell (p := ⟨kb, ko + m, none⟩) hkb).trans (hkc m true hyes)
        obtain ⟨b2, o2, k2, n2, f2, s2, a3, c3, ks2, rfl, hu2, hin2, hsk2, he2, hcell2⟩ := CX.out.kid (m := m) hml
        have hBq : Below w.heap.size w wr := HB5.out.trans (HBQ.out.mono HB5.out.size)
        obtain ⟨v0, v1, v2, v3, v4⟩ := hcell2 wr hBq
        obtain ⟨u, hu⟩ : ∃ u, us[m]? = some u := ⟨_, List.getElem?_eq_getElem (by have := HUL.out; omega)⟩
        obtain ⟨b4, o4, rfl, hb4, hc4⟩ := HRO5.out.at_ (by have := HUL.out; omega)
        have v5 := (HBQ.out.cell (p := ⟨b4, o4 + m, none⟩) hb4).trans (hc4 m u hu)
        obtain ⟨-, hww, hw65⟩ := words_right he2
        have WD := hidb (fun (w' : World) (hb' : Below w.heap.size w w') => words_t (.mk k2 n2 f2 s2 a3 c3 ks2) w' (in_below hb' hin2) hsk2)
        rw [hww, he2] at WD
        have HC2 := hidb hcell2
        have eU := selU_yes hyes hu
        have eT := selT_yes hyes hu2
        have hsl : (sel bs m).length ≤ 40 := by
          have h1 := selT_len bs kids m
          have : (sel bs m).length ≤ m := sel_len bs m
          omega
        have hlU : (selU bs us m).length ≤ 40 := by rw [selU_len]; exact hsl
        have hlT : (selT bs kids m).length ≤ 40 := by rw [selT_len]; exact hsl
        have hwsel : wAll (selT bs kids m) ≤ 2621440 := (by have := sel_w CX.out bs m (by omega); have := wAll_take_le kids m; omega)
        have eW : wAll (selT bs kids (m + 1)) = wAll (selT bs kids m) + wN (.mk k2 n2 f2 s2 a3 c3 ks2) := by rw [eT, wAll_app]; simp [wAll]
        have HEU := hidb eU
        have HET := hidb eT
        have HEW := hidb eW
        generalize selU bs us m = U at *
        generalize selT bs kids m = Tt at *
        generalize wAll Tt = Wt at *
        generalize wN (.mk k2 n2 f2 s2 a3 c3 ks2) = Wm at *
        have hadd : IntKind.i64.wrap ((Wt : Int) + (Wm : Int)) = ((Wt + Wm : Nat) : Int) := by rw [IntKind.wrap_i64]; omega
        have hwz := HBQ.out.size
        clear hyes hkc hu2 hin2 hsk2 he2 hcell2 hww hu hc4 hb4 eU eT eW hkb hBq hsl
        go_wp2_with (first
          | (at_builtin; refine wpList_append_own_at _ rfl _ _ 59 rfl w5.heap.size 51 i0 (.int .u64 0) 1 8 Tryz.underlying59 hi hz0 hz1 hz2 rfl (by decide) _ _ _ rfl (HRK.out.r.alloc _) ⟨wr.heap.size, 0, none⟩ 1 1 [.int .u64 u] rfl rfl (cell_one_new _ _ _) (by simp [Value.oneCell']) (by unfold maxLen; omega) (by omega) (by simp; omega) ?_; intro v' w6 row6 hgrow6 hnil6 hloc6; obtain ⟨av6, cv6, e6⟩ := own_formW row6; subst e6; have HR6 := hidb (HRK.out.app1 (u := u) (below_new wr _) hgrow6 hloc6 row6); have HB6 := hidb (HB5.out.trans (HR6.out.be.mono HB5.out.size)); have hw6z := HR6.out.be.size; clear row6 hgrow6 hnil6 hloc6 v0 v1 v2 v3 v4 v5; obtain ⟨v0, v1, v2, v3, v4⟩ := HC2.out w6 HB6.out)
          | (at_builtin; refine wpList_append_own_at _ rfl _ _ 42 rfl w5.heap.size 44 i1 (.agg #[.int .i64 (0), .int .i64 (0), .float .f64 (0), .string ⟨#[]⟩, .slice none 0 0]) 5 64 Tryz.underlying42 hj hy0 hy1 hy2 rfl (by decide) _ _ _ rfl (HR6.out.k.alloc _) ⟨w6.heap.size, 0, none⟩ 1 1 [.int .i64 k2, .int .i64 n2, .float .f64 f2, .string s2, .slice a3 ks2.length c3] rfl rfl cells_new (by simp [Value.oneCell']) (by unfold maxLen; omega) (by omega) (by simp; omega) ?_; intro v' w7 row7 hgrow7 hnil7 hloc7; obtain ⟨av7, cv7, e7⟩ := own_formT row7; subst e7; have HR7 := hidb (HR6.out.app2 (t := .mk k2 n2 f2 s2 a3 c3 ks2) (below_new w6 _) hgrow7 hloc7 row7); have HB7 := hidb (HB5.out.trans (HR7.out.be.mono HB5.out.size)); clear row7 hgrow7 hnil7 hloc7 v0 v1 v2 v3 v4; obtain ⟨v0, v1, v2, v3, v4⟩ := HC2.out w7 HB7.out)
          | (go_at_call 18; refine (WD.out _ HB7.out).mono ?_; rintro e w8 ⟨rfl, hb8⟩; have HR8 := hidb (HR7.out.keep hb8); clear hb8))
        go_roundw
        case rel =>
          refine ⟨m + 1, av6, cv6, av7, cv7, by omega, by go_num, ?_⟩
          rw [HEW.out, HEU.out, HET.out, List.length_append, List.length_append]
          exact ⟨by simp, rfl, rfl, HR8.out⟩
        case measure => simp [intOf]; omega
      · have eU := selU_no (us := us) hyes
        have eT := selT_no (kids := kids) hyes
        have HEU := hidb eU
        have HET := hidb eT
        clear eU eT
        by_cases hbl : m < bs.length
        · have hbb : (m : Int) < (bs.length : Int) := by omega
          obtain ⟨kb, ko, rfl, hkb, hkc⟩ := HBS5.out.at_ (by omega)
          have hf : bs[m]? = some false := by
            rw [List.getElem?_eq_getElem hbl] at hyes ⊢
            cases hx : bs[m] with
            | true => rw [hx] at hyes; exact absurd rfl hyes
            | false => rfl
          have v6 := (HBQ.out.cell (p := ⟨kb, ko + m, none⟩) hkb).trans (hkc m false hf)
          clear hyes hkc hkb hf
          go_wp2_with fail
          go_roundw
          case rel =>
            refine ⟨m + 1, av2, cv2, av3, cv3, by omega, by go_num, ?_⟩
            rw [HEU.out, HET.out]
            exact ⟨rfl, rfl, rfl, HRK.out⟩
          case measure => simp [intOf]; omega
        · have hbb : ¬ (m : Int) < (bs.length : Int) := by omega
          clear hyes
          go_wp2_with fail
          go_roundw
          case rel =>
            refine ⟨m + 1, av2, cv2, av3, cv3, by omega, by go_num, ?_⟩
            rw [HEU.out, HET.out]
            exact ⟨rfl, rfl, rfl, HRK.out⟩
          case measure => simp [intOf]; omega
    · have hmn : ¬ (m : Int) < (kids.length : Int) := by omega
      obtain rfl : m = kids.length := by omega
      have HP6 := hidb (HP5.out.keep HBQ.out)
      have RTS := hidb (rts_own HRK.out.r)
      have HRT := hidb (show Rts2 ws L (selU bs us kids.length) (selT bs kids kids.length) from rts2_of HS.out _ _ (sel bs kids.length) (by rw [selU_len, selT_len]) (fun i u t hu ht => sel_at HUL.out rfl hu ht))
      have HUN := hidb (show Unlike (selU bs us kids.length) (selT bs kids kids.length) (selU bs us kids.length).length from unlike_sel HS.out HUL.out rfl _)
      have hlen2 : (selU bs us kids.length).length = (selT bs kids kids.length).length := by rw [selU_len, selT_len]
      have hr0 := rT_sum HLL.out HRT.out HUN.out _ (Nat.le_refl _)
      rw [hlen2, List.take_length] at hr0
      have hl40 : (selU bs us kids.length).length ≤ 40 := by rw [selU_len]; exact Nat.le_trans (sel_len bs _) h40
      have hwsel : wAll (selT bs kids kids.length) ≤ 2621440 := by have := sel_w CX.out bs kids.length (Nat.le_refl _); have := wAll_take_le kids kids.length; omega
      have HHB := hidb HST.out.hbB
      have HKI := hidb (show ∀ (i : Nat) (t : Tr), (selT bs kids kids.length)[i]? = some t → t.In w 0 ∧ errT t = 0 from fun i t ht => by
        obtain ⟨p, _, _, hp⟩ := sel_at (us := us) (bs := bs) HUL.out rfl (List.getElem?_eq_getElem (by rw [hlen2]; exact get_lt ht)) ht
        obtain ⟨b2, o2, k2, n2, f2, s2, a3, c3, ks2, _, hu2, hin2, _, he2, _⟩ := CX.out.kid (m := p) (get_lt hp)
        obtain rfl := Option.some.inj (hp.symm.trans hu2)
        exact ⟨hin2, he2⟩)
      clear HBS5 HRO5 HST CX HS HUL hmn hml hm hi hz0 hz1 hz2 hj hy0 hy1 hy2
      generalize selU bs us kids.length = U at *
      generalize selT bs kids kids.length = Tt at *
      have LV := hidb (live_ok (rc := cv2) wr HP6.out HLL.out RTS.out (by omega) HRT.out (by rw [hlen2, hr0]; omega))
      have CO := hidb (fun (w' : World) (hb' : Below wr.heap.size wr w') => collect_ok (rc := cv2) w' (HP6.out.keep hb') HLL.out (RTS.out.keep hb') (by omega) HRT.out (by rw [hlen2, hr0]; omega))
      rw [hlen2, hr0] at LV
      rw [hlen2] at CO
      have HR0 := hidb hr0
      have HL2 := hidb hlen2
      have hlT : Tt.length ≤ 40 := by omega
      generalize hWt : wAll Tt = Wt at *
      have HWT := hidb hWt
      clear hWt
      rw [hlen2] at HRK ⊢
      clear hr0 hlen2 hl40 RTS
      go_wp2_with (first
        | (go_at_call 23; refine LV.out.mono ?_; rintro e w6 ⟨rfl, hb6⟩; have HB6 := hidb hb6; clear hb6)
        | (go_at_call 24; refine (CO.out _ HB6.out).mono ?_; rintro e w7 ⟨tb, laid, tl, rfl, hco⟩; have HCO := hidb hco; have HU7 := hidb (show Calls Tryz.prog 22 #[.pointer (some ⟨hb, 0, none⟩)] w7 fun e w' => e = .returned (.int .i64 (Wt : Nat)) ∧ w' = w7 from (by obtain ⟨a7, c7, h7, _⟩ := hco.hp; have := used_any h7; rw [hco.len, HL2.out, HR0.out] at this; exact this)); clear hco)
        | (go_at_call 20; refine (fine0 _).mono ?_; rintro e w' ⟨rfl, hw'⟩; obtain rfl := hw'.symm)
        | (go_at_call 22; refine HU7.out.mono ?_; rintro e w' ⟨rfl, hw'⟩; obtain rfl := hw'.symm))
      have hhl : hb < w5.heap.size := HP5.out.tri.lt
      have hw56 : w5.heap.size ≤ w6.heap.size := Nat.le_trans HBQ.out.size HB6.out.size
      have hB7 : Below w.heap.size w w7 := ((HB5.out.trans (HBQ.out.mono HB5.out.size)).trans (HB6.out.mono (Nat.le_trans HB5.out.size HBQ.out.size))).trans (HCO.out.bt.below (Nat.le_trans HB5.out.size hw56) (fun k e => by have e' : k = hb := e; have := hhb; omega))
      have HB7 := hidb hB7
      have k6 := (HRK.out.keep HB6.out).k
      have k7 := ownsRow_block (w' := w7) k6 (fun g hg => HCO.out.bt.block g (ownsRow_lt k6 g hg).2 (fun e => by have e' : g = hb := e; have := (ownsRow_lt k6 g hg).1; omega))
      have hrows : Rows w7 0 (.slice av3 Tt.length cv3) Tt := ⟨⟨k7.1, k7.2.imp id (fun ⟨g, cap, cur, q1, q2, q3⟩ => ⟨g, cap, cur, q1, Nat.zero_le _, q3⟩)⟩, fun t ht => by
        obtain ⟨i, hi⟩ := List.getElem?_of_mem ht
        have hti := (HKI.out i t hi).1
        exact ⟨in_below hB7 hti, on_mono (fun b hS => ⟨fun e => by have := (ownsRow_lt k7 b e).1; have := HB5.out.size; omega, by have := hB7.size; omega, Nat.zero_le _⟩) t (on_all t hti)⟩⟩
      obtain ⟨a9, c9, e9, hkt⟩ := rows_tree hrows 0 0 0 ⟨#[]⟩ (by decide) (by decide) (by decide) (Nat.zero_le _)
      obtain ⟨rfl, rfl⟩ : av3 = a9 ∧ cv3 = c9 := by simpa using e9
      have HKT := hidb hkt
      obtain ⟨a7, c7, h7, -⟩ := HCO.out.hp
      have H7 := hidb h7
      have LD := hidb (fun (i : Nat) (t : Tr) (ht : Tt[i]? = some t) (w' : World) (hb' : Below w7.heap.size w7 w') => load_all w w' t (tl i) (h7.keep hb') HLL.out (HKI.out i t ht).1 (HKI.out i t ht).2 (HCO.out.rep i _ t (List.getElem?_eq_getElem (by have := HL2.out; have := get_lt ht; omega)) ht))
      have HTR := hidb (show TR w7 tb Tt.length tl from by have := HCO.out.tr; rw [HL2.out] at this; exact this)
      have HTB := hidb (show tb ≠ hb from fun e => by have := HCO.out.tB; omega)
      clear k6 k7 hrows e9 hkt h7 hB7 LV CO HU7 HRK HP6
      go_loopw [23] (fun iv wq => ∃ (r : Nat), r ≤ Tt.length ∧ iv = .int .i64 r ∧ Below w7.heap.size w7 wq) (fun iv _ => Tt.length - (intOf iv).toNat)
      case atStart => exact ⟨0, by omega, rfl, Below.refl _ _⟩
      case round =>
      obtain ⟨r, hr, rfl, hbr⟩ := hrel
      have HBR := hidb hbr
      have HBW := hidb (HB7.out.trans (hbr.mono HB7.out.size))
      clear hbr
      by_cases hrl : r < Tt.length
      · have hrb : (r : Int) < (Tt.length : Int) := by omega
        have hrz : (0 : Int) ≤ (r : Int) := by omega
        have v5 := ((HTR.out.keep HBR.out).row r hrl).1
        obtain ⟨b2, o2, rfl, hat⟩ := kid_at HKT.out (by omega)
        obtain ⟨k2, n2, f2, s2, a3, c3, ks2, hu2, hin2, x0, x1, x2, x3, x4⟩ := hat r hrl
        have hlb : b2 < w7.heap.size := World.block_lt_of_cell? w7 _ x0
        have HC2 := hidb (fun (w' : World) (hb' : Below w7.heap.size w7 w') => show w'.cell? ⟨b2, o2 + r * 5, none⟩ = some (.int .i64 k2) ∧ w'.cell? ⟨b2, o2 + r * 5 + 1, none⟩ = some (.int .i64 n2) ∧ w'.cell? ⟨b2, o2 + r * 5 + 2, none⟩ = some (.float .f64 f2) ∧ w'.cell? ⟨b2, o2 + r * 5 + 3, none⟩ = some (.string s2) ∧ w'.cell? ⟨b2, o2 + r * 5 + 4, none⟩ = some (.slice a3 ks2.length c3) from ⟨(hb'.cell hlb).trans x0, (hb'.cell hlb).trans x1, (hb'.cell hlb).trans x2, (hb'.cell hlb).trans x3, (hb'.cell hlb).trans x4⟩)
        have LD2 := hidb (LD.out r _ hu2)
        have HI2 := hidb hin2
        clear hat hu2 hin2 x0 x1 x2 x3 x4 hlb
        go_wp2_with fail
        refine (LD2.out _ HBR.out).mono ?_
        rintro e w9 ⟨⟨k9, n9, f9, s9, a9, c9, ks9⟩, rfl, hsm, hin9, hb9⟩
        have HB9 := hidb (HBR.out.trans (hb9.mono HBR.out.size))
        have HBA := hidb (HB9.out.trans ((below_new w9 (objT k9 n9 f9 s9 a9 ks9.length c9)).mono HB9.out.size))
        have BY9 := hidb (Box.new w9 44 (.int .i64 k9) (.int .i64 n9) (.float .f64 f9) (.string s9) (.slice a9 ks9.length c9))
        have TW := hidb (fun (w' : World) (hb' : Below (w9.alloc (objT k9 n9 f9 s9 a9 ks9.length c9)).heap.size (w9.alloc (objT k9 n9 f9 s9 a9 ks9.length c9)) w') => twin_same (.mk k9 n9 f9 s9 a9 c9 ks9) (.mk k2 n2 f2 s2 a3 c3 ks2) (same_symm _ _ hsm) w' (in_below hb' (in_below (below_new w9 _) (in_mono (Nat.zero_le _) _ hin9))) (in_below (HBA.out.trans (hb'.mono HBA.out.size)) HI2.out))
        clear hsm hin9 hb9 LD2 v5
        simp only [Tr.val, Tr.cells] at TW ⊢
        go_wp2_with fail
        generalize (w9.alloc (objT k9 n9 f9 s9 a9 ks9.length c9)) = W9 at *
        obtain ⟨g0, g1, g2, g3, g4, -, -, -, -, -, -⟩ := BY9.out
        obtain ⟨v0, v1, v2, v3, v4⟩ := HC2.out W9 HBA.out
        go_region_with (first
          | (go_at_call 20; refine (fine0 _).mono ?_; rintro e w' ⟨rfl, hw'⟩; obtain rfl := hw'.symm)
          | (go_at_call 21; refine (TW.out _ ((Below.refl _ _).drew)).mono ?_; rintro e w5' ⟨rfl, hb5⟩; have HBF := hidb (HBA.out.trans ((((Below.refl _ _).drew).trans hb5).mono HBA.out.size)); clear hb5))
        all_goals (
          go_wp2_with fail
          go_roundw
          case rel => exact ⟨r + 1, by omega, by go_num, HBF.out⟩
          case measure => simp [intOf]; omega)
      · have hrn : ¬ (r : Int) < (Tt.length : Int) := by omega
        have hr2 := rts2_after HRT.out HCO.out
        have hu2 := unlike_after HCO.out HUN.out
        have hln : ((List.range U.length).map tl).length = Tt.length := by simp [HL2.out]
        have hs2 := rT_sum HLL.out hr2 (hu2 _) _ (Nat.le_refl _)
        rw [hln, List.take_length, HWT.out] at hs2
        have HS2 := hidb hs2
        have HLN := hidb hln
        have hrts : Rts wr (some ⟨tb, 0, none⟩) ((List.range U.length).map tl) := ⟨fun _ => ⟨tb, 0, rfl, Nat.lt_of_lt_of_le HTR.out.lt HBR.out.size, fun j u hj => by
          have hjl : j < U.length := by have := get_lt hj; simpa using this
          rw [List.getElem?_map, List.getElem?_range hjl] at hj
          have e : tl j = u := by simpa using hj
          have := ((HTR.out.keep HBR.out).row j (by have := HL2.out; omega)).1
          rw [e] at this
          simpa using this⟩⟩
        have CO2 := hidb (collect_ok (rc := Tt.length) wr (H7.out.keep HBR.out) HLL.out hrts (by rw [hln]; omega) hr2 (by rw [hln, hs2]; omega))
        rw [hln] at CO2
        have HAS := hidb (fun (w1' w2' : World) (tb2 : Nat) (laid2 : List Int) (tl2 : Nat → Int) (h2 : Coll w1' w2' hb ab 16777216 laid L F ((List.range U.length).map tl) Tt tb2 laid2 tl2) => again_same HL2.out HUN.out HCO.out h2)
        clear hr2 hu2 hln hs2 hrts
        go_wp2_with (first
          | (go_at_call 24; refine CO2.out.mono ?_; rintro e w8 ⟨tb2, laid2, tl2, rfl, hco2⟩; have HCO2 := hidb hco2; have HU8 := hidb (show Calls Tryz.prog 22 #[.pointer (some ⟨hb, 0, none⟩)] w8 fun e w' => e = .returned (.int .i64 (Wt : Nat)) ∧ w' = w8 from (by obtain ⟨a8, c8, h8, _⟩ := hco2.hp; have := used_any h8; rw [hco2.len, HLN.out, HS2.out] at this; exact this)); have HB8 := hidb (HBW.out.trans (hco2.bt.below HBW.out.size (fun k e => (by have e' : k = hb := e; have := hhb; omega)))); have SM := hidb (same_ok (w := w8) (ta := tb2) (tb := tb) (n := Tt.length) (fa := tl2) (fb := tl) (by have := hco2.tr; rw [HLN.out] at this; exact this) ((HTR.out.keep HBR.out).but hco2.bt HTB.out) (fun j hj => HAS.out _ _ _ _ _ hco2 j (by have := HL2.out; omega)) (by omega)); clear hco2)
          | (go_at_call 20; refine (fine0 _).mono ?_; rintro e w' ⟨rfl, hw'⟩; obtain rfl := hw'.symm)
          | (go_at_call 22; refine HU8.out.mono ?_; rintro e w' ⟨rfl, hw'⟩; obtain rfl := hw'.symm)
          | (go_at_call 25; refine SM.out.mono ?_; rintro e wA ⟨rfl, hbA⟩; have HBE := hidb (HB8.out.trans (hbA.mono HB8.out.size)); clear hbA))
        go_ret
        exact ⟨rfl, HBE.out⟩
end Go.Proofs.YtmijabhnbmmmfaaGreat


/- A row of terms that is handed in, opened. -/
namespace Go.Proofs.YtmijabhnbmmmfaaGreat
open Go.ChangeShapes Go.WideShapes Go.ChangeAt Go.WideMaps Go.WideElems Go.RowKit

theorem open_row {H : Type} {enc : TypeId × Value → H} {P : Program} {w : World} {base : Nat} {spare : Nat → Bool} {held : Bool} {e u : TypeId} (T : TermType P e) (hu : P.underlying u = some (.slice e)) {fuel : Nat} {cs : List Value} {x : DataW H × List MemPlace} (h : DataW.trod enc P w base spare held fuel u cs = some x) :
    ∃ (a : Option Addr) (c : Nat) (kids : List Tr), cs = [.slice a kids.length c] ∧ (Tr.mk 0 0 0 ⟨#[]⟩ a c kids).In w base := by
  rcases DataW.trod_slice hu h with ⟨e4, _⟩ | ⟨a, len, cap, elems, rest, q, hq, e4, _, hb, hl, hm, hel, hx4, _, _⟩
  · refine ⟨none, 0, [], e4, ?_⟩
    unfold Tr.In
    exact ⟨⟨by decide, by decide, by decide, by show (0 : Nat) ≤ maxLen; exact Nat.zero_le _, Nat.le_refl _, Nat.zero_le _, fun _ => rfl⟩, fun ad h => by simp at h⟩
  · have each : ∀ i, i < len → ∃ t : Tr, (∀ j, j < 5 → w.cell? ((a.add (i * 5)).add j) = t.cells[j]?) ∧ t.In w base := by
      intro i hi
      have hb := hx4 i hi
      have hsome : elems[i]? = some (elems[i]'(by omega)) := List.getElem?_eq_getElem (by omega)
      rw [hsome, T.size, Option.bind_eq_some_iff] at hb
      obtain ⟨cs', hc, ht⟩ := hb
      obtain ⟨t, ht1, ht2⟩ := open_term T q cs' _ ht
      refine ⟨t, fun j hj => ?_, ht2⟩
      have := (World.cells?_some hc).2.2 j hj
      rw [this, ht1]
    obtain ⟨tf, htf⟩ : ∃ tf : Nat → Tr, ∀ i, i < len → (∀ j, j < 5 → w.cell? ((a.add (i * 5)).add j) = (tf i).cells[j]?) ∧ (tf i).In w base := by
      refine ⟨fun i => if h : i < len then Classical.choose (each i h) else .mk 0 0 0 ⟨#[]⟩ none 0 [], fun i hi => ?_⟩
      simp only [hi, dif_pos]
      exact Classical.choose_spec (each i hi)
    refine ⟨some a, cap, (List.range len).map tf, by rw [e4]; simp, ?_⟩
    unfold Tr.In
    refine ⟨⟨by decide, by decide, by decide, by show (0 : Nat) ≤ maxLen; exact Nat.zero_le _, by simpa using hl, hm, fun h => by simp at h⟩, fun ad had => ?_⟩
    obtain rfl : a = ad := by simpa using had
    refine ⟨hb, inAll_of fun j t hj => ?_⟩
    have hj' : j < len := by
      rcases Nat.lt_or_ge j len with h | h
      · exact h
      · rw [List.getElem?_eq_none (by simpa using h)] at hj; simp at hj
    rw [List.getElem?_map, List.getElem?_range hj'] at hj
    obtain rfl : tf j = t := by simpa using hj
    exact htf j hj'

end Go.Proofs.YtmijabhnbmmmfaaGreat


