/- LinksLast, walked. -/
import Derived.Test.YtodelafnboimnaaGreatPm6
import Derived.Test.YtodelafnboimnaaGreatEg5
namespace Go.Proofs.YtodelafnboimnaaGreat
open Go.RowKit Go.Lib
open HV (Hf hf0 getL insL delL Rise Wfk TB Nw Rst)
open PR (Sd Inv cnt)
attribute [local go_sem] store_float f64bits
attribute [local go_sem ↓] Go.wp_at_zero Go.wp_at_succ

/-- The one that calls link, with no unlink under way to it: all ends linked. -/
theorem last_call {w1 w : World} {A B : Sd} {p q : List PR.Sig} {N : Nat} (h : PM w1 w (w1.heap.size + 1) (.pointer (some ⟨w1.heap.size + 2, 0, none⟩)) (.pointer (some ⟨w1.heap.size + 3, 0, none⟩)) (w1.heap.size + 2) (w1.heap.size + 3) w1.heap.size 1 2 A B p q N) (hi : Inv A B p q) (hN : N ≤ 8000) (hL : p.length + q.length ≤ 4000) {z : Int} (hz : z = 0 ∧ PR.us q = [] ∨ z = 1 ∧ PR.us p = []) :
    Calls Tryz.prog 8 #[.pointer (some ⟨w1.heap.size + 1, 0, none⟩), .int .i64 z, .int .i64 1] w fun e w' => e = .returned (.tuple #[]) ∧ ∃ A2 B2 p2 q2 N2, PM w1 w' (w1.heap.size + 1) (.pointer (some ⟨w1.heap.size + 2, 0, none⟩)) (.pointer (some ⟨w1.heap.size + 3, 0, none⟩)) (w1.heap.size + 2) (w1.heap.size + 3) w1.heap.size 1 2 A2 B2 p2 q2 N2 ∧ Inv A2 B2 p2 q2 ∧ fin A2 p2 q2 = 1 ∧ N2 ≤ 8002 ∧ p2.length + q2.length ≤ 4001 := by
  rcases hz with ⟨rfl, hu⟩ | ⟨rfl, hu⟩
  · refine (callL0 h hi (by omega) (by omega)).mono ?_
    rintro e w' ⟨rfl, A', p', N', g1, g2, g3, g4, g5, g6⟩
    exact ⟨rfl, A', B, p', q, N', g1, g2, g2.lasts (g6 rfl) hu, by omega, by omega⟩
  · refine (callL1 h.swap hi.swap (by omega) (by omega)).mono ?_
    rintro e w' ⟨rfl, A', p', N', g1, g2, g3, g4, g5, g6⟩
    exact ⟨rfl, A, A', p, p', N', g1.swap, g2.swap, (fin_swap g2).trans (g2.lasts (g6 rfl) hu), by omega, by omega⟩

theorem us_nil {l : List PR.Sig} (h : ∀ s ∈ l, s.1 ≠ 3) : PR.us l = [] := by
  induction l with
  | nil => rfl
  | cons x r ih => simp only [PR.us, if_neg (h x (by simp))]; exact ih (fun s hs => h s (by simp [hs]))

theorem lvs_at {rs : List (Int × Int × Value)} {i : Nat} {r : Int × Int × Value} (h : rs[i]? = some r) : (lvs rs)[i * 3]? = some (.int .i64 r.1) ∧ (lvs rs)[i * 3 + 1]? = some (.int .i64 r.2.1) ∧ (lvs rs)[i * 3 + 2]? = some r.2.2 := by
  induction rs generalizing i with
  | nil => simp at h
  | cons x rs ih =>
    cases i with
    | zero => simp at h; subst h; simp [lvs]
    | succ i =>
      have := ih (i := i) (by simpa using h)
      have e : lvs (x :: rs) = .int .i64 x.1 :: .int .i64 x.2.1 :: x.2.2 :: lvs rs := by simp [lvs]
      rw [e, show (i + 1) * 3 = i * 3 + 1 + 1 + 1 by omega, show i * 3 + 1 + 1 + 1 + 1 = (i * 3 + 1) + 1 + 1 + 1 by omega, show i * 3 + 1 + 1 + 1 + 2 = (i * 3 + 2) + 1 + 1 + 1 by omega]
      simpa using this
theorem lvs_len (rs : List (Int × Int × Value)) : (lvs rs).length = rs.length * 3 := by
  induction rs with
  | nil => rfl
  | cons x rs ih =>
    have e : lvs (x :: rs) = .int .i64 x.1 :: .int .i64 x.2.1 :: x.2.2 :: lvs rs := by simp [lvs]
    rw [e]; simp [ih]; omega

/-- The lanes' signals. -/
def sigOf (p q : List PR.Sig) (a b : Int) : List (Int × Int × Int × Int) := if a = 1 ∧ b = 2 then p.map (fun s => (1, 2, s.1, s.2)) else if a = 2 ∧ b = 1 then q.map (fun s => (2, 1, s.1, s.2)) else []

theorem lq_sgls (i j : Int) (l : List PR.Sig) : lq i j l = sgls (l.map (fun s => (i, j, s.1, s.2))) := by
  induction l with
  | nil => rfl
  | cons x r ih => rw [lq, ih]; simp [sgls]

/-- Lanes, told of the pair. -/
theorem PM.lanes {w0 w : World} {pb tA tB eb N : Nat} {v0 v1 : Value} {A B : Sd} {p q : List PR.Sig} (h : PM w0 w pb v0 v1 tA tB eb 1 2 A B p q N) (hN : N ≤ 8000) :
    Calls Tryz.prog 13 #[.pointer (some ⟨eb, 0, none⟩)] w fun e w' => ∃ rs a c, e = .returned (.slice a rs.length c) ∧ Below w.heap.size w w' ∧ Told w.heap.size w' (sigOf p q) (.slice a rs.length c) rs.length rs ∧ rs.length ≤ 12 ∧ (p ≠ [] → ∃ r ∈ rs, r.1 = 1 ∧ r.2.1 = 2) ∧ (q ≠ [] → ∃ r ∈ rs, r.1 = 2 ∧ r.2.1 = 1) := by
  obtain ⟨DA, DB, mv, f, h1, h2, h3, h4, h5, h6, h7, h8⟩ := h
  have hks : ∀ ks, LKeys f ks → ks.length ≤ 2 := by
    intro ks hk
    have hsub : ∀ x ∈ ks, x = ((1 : Int), (2 : Int)) ∨ x = (2, 1) := by
      intro x hx
      have hs := (hk.2.1 x.1 x.2 (hk.2.2 x hx).1 (hk.2.2 x hx).2).1 hx
      by_cases c1 : x.1 = 1 ∧ x.2 = 2
      · left; exact Prod.ext c1.1 c1.2
      · by_cases c2 : x.1 = 2 ∧ x.2 = 1
        · right; exact Prod.ext c2.1 c2.2
        · rw [h7 _ _ c1 c2] at hs; cases hs
    have hnd := hk.1
    match ks, hnd, hsub with
    | [], _, _ => simp
    | [_], _, _ => simp
    | [_, _], _, _ => simp
    | x :: y :: z :: r, hnd, hsub =>
      exfalso
      have n1 := List.nodup_cons.1 hnd
      have n2 := List.nodup_cons.1 n1.2
      rcases hsub x (by simp) with ex | ex <;> rcases hsub y (by simp) with ey | ey <;> rcases hsub z (by simp) with ez | ez
      all_goals (subst ex ey ez; simp at n1 n2)
  have hsig : Sig f (sigOf p q) := by
    intro a b l hl
    unfold sigOf
    by_cases c1 : a = 1 ∧ b = 2
    · obtain ⟨rfl, rfl⟩ := c1
      rcases h5 with ⟨_, e⟩ | ⟨_, m, e, e2, e3⟩
      · rw [e] at hl; cases hl
      · rw [e] at hl
        obtain rfl : m = l := by simpa using hl
        simp only [and_self, if_true]
        exact ⟨by rw [e2, lq_sgls], by rw [e3]; simp⟩
    · by_cases c2 : a = 2 ∧ b = 1
      · obtain ⟨rfl, rfl⟩ := c2
        rcases h6 with ⟨_, e⟩ | ⟨_, m, e, e2, e3⟩
        · rw [e] at hl; cases hl
        · rw [e] at hl
          obtain rfl : m = l := by simpa using hl
          simp only [show ¬ ((2 : Int) = 1 ∧ (1 : Int) = 2) by omega, if_false, and_self, if_true]
          exact ⟨by rw [e2, lq_sgls], by rw [e3]; simp⟩
      · rw [h7 _ _ c1 c2] at hl; cases hl
  refine (lanes_any h4 (by omega) hsig (fun ks hk => by have := hks ks hk; omega)).mono ?_
  rintro e w' ⟨tv, rfl, ks, rs, k1, k2, k3, k4⟩
  obtain ⟨a, c, rfl⟩ : ∃ a c, tv = .slice a rs.length c := by
    rcases k3.1.2 with ⟨e1, e2⟩ | ⟨g, cap, cur, e1, _⟩
    · exact ⟨none, 0, by rw [e1, e2]⟩
    · exact ⟨_, _, e1⟩
  have hlen : rs.length ≤ 2 := by have := hks ks k1; rw [← k2] at this; simpa using this
  have hmem : ∀ a b : Int, wfi a → wfi b → (f a b).isSome = true → ∃ r ∈ rs, r.1 = a ∧ r.2.1 = b := by
    intro a b ha hb hs
    have := (k1.2.1 a b ha hb).2 hs
    rw [← k2] at this
    obtain ⟨r, hr, e⟩ := List.mem_map.1 this
    have e1 := (Prod.mk.inj e)
    exact ⟨r, hr, e1.1, e1.2⟩
  refine ⟨rs, a, c, rfl, k4, k3, by omega, fun hp => ?_, fun hq => ?_⟩
  · refine hmem 1 2 rfl rfl ?_
    rcases h5 with ⟨e, _⟩ | ⟨_, m, e, _⟩
    · exact absurd e hp
    · rw [e]; rfl
  · refine hmem 2 1 rfl rfl ?_
    rcases h6 with ⟨e, _⟩ | ⟨_, m, e, _⟩
    · exact absurd e hq
    · rw [e]; rfl

set_option maxRecDepth 100000 in
set_option maxHeartbeats 16000000 in
theorem linksLast_walk (v0 : Value) (l : List (Int × Int)) (who first : Int) (w : World) (hl1 : MC w v0 l) :
    Calls Tryz.prog 4 #[v0, .int .i64 who, .int .i64 first] w fun e w' => e = .returned (.bool true) ∧ Below w.heap.size w w' := by
  obtain ⟨q1, c1, rfl, hcl1⟩ := hl1
  have HC1 := hidb hcl1
  clear hcl1
  by_cases z1 : l.length > 2000
  · have e1 : (2000 : Int) < (l.length : Int) := by omega
    go_enter Tryz.func4, Tryz.ntmps4
    go_wp2_with (go_at_call 5; refine (known14_any _).mono ?_; rintro e w1 ⟨rfl, hb1⟩; have HB1 := hidb hb1; clear hb1)
    go_ret
    exact ⟨rfl, HB1.out⟩
  have e1 : ¬ (2000 : Int) < (l.length : Int) := by omega
  have HZ : Hid (l.length ≤ 2000) := hidb (by omega)
  clear z1
  go_enter Tryz.func4, Tryz.ntmps4
  go_wp2_with (first
    | (go_at_call 5; refine (known14_any _).mono ?_; rintro e w1 ⟨rfl, hb1⟩; have HB1 := hidb hb1; clear hb1)
    | (go_at_call 6; refine (begun_any _).mono ?_; rintro e w2 ⟨rfl, hbg⟩; have HBG := hidb hbg; clear hbg))
  go_loopw [8] (fun iv wr => ∃ (i : Nat), iv = .int .i64 (i : Int) ∧ i ≤ l.length ∧ StP w1 wr i) (fun iv _ => l.length - (RowKit.intOf iv).toNat)
  case atStart => exact ⟨0, rfl, by omega, StP.start w1 HBG.out⟩
  case round =>
  obtain ⟨i, rfl, hi, hST⟩ := hrel
  have HST := hidb hST
  have HI := hidb hi
  clear hi hST HBG
  by_cases hlt : i < l.length
  · have hlt' : (i : Int) < (l.length : Int) := by omega
    obtain ⟨x0, x1, hx⟩ : ∃ x0 x1 : Int, l[i]? = some (x0, x1) := ⟨_, _, List.getElem?_eq_getElem hlt⟩
    obtain ⟨b, o, rfl, y0, y1⟩ := HC1.out i _ hx
    have hbw : b < w.heap.size := World.block_lt_of_cell? _ _ y0
    have hbr := HB1.out.trans (HST.out.below.mono HB1.out.size)
    have m0 := (hbr.cell (p := ⟨b, o + i * 2, none⟩) hbw).trans y0
    have m1 := (hbr.cell (p := ⟨b, o + i * 2 + 1, none⟩) hbw).trans y1
    simp only at m0 m1
    have s0 : (0 : Int) ≤ (i : Int) := by omega
    have HW : Hid (wrap64 ((i : Int) + 1) = ((i + 1 : Nat) : Int)) := hidb (by have := HZ.out; unfold wrap64; omega)
    have hz5 := HZ.out
    have hi5 := HI.out
    have HSD := hidb (side_any x0)
    have CC : Hid (∀ z op : Int, z = 0 ∨ z = 1 → op = 1 ∨ op = 2 → Calls Tryz.prog 8 #[.pointer (some ⟨w1.heap.size + 1, 0, none⟩), .int .i64 z, .int .i64 op] wr fun e w' => e = .returned (.tuple #[]) ∧ StP w1 w' (i + 1)) := hidb (fun z op h1 h2 => HST.out.call (by omega) h1 h2)
    have CT : Hid (∀ z : Int, z = 0 ∨ z = 1 → Calls Tryz.prog 9 #[.pointer (some ⟨w1.heap.size + 1, 0, none⟩), .int .i64 z] wr fun e w' => ∃ b, e = .returned (.bool b) ∧ StP w1 w' (i + 1)) := hidb (fun z h1 => HST.out.take (by omega) h1)
    clear hx y0 y1 hbw hbr hz5 hi5 hlt
    by_cases o1 : x1 = 1
    · subst o1
      go_wp2_with (first
        | (go_at_call 7; refine (HSD.out _).mono ?_; clear HSD; rintro e w5 ⟨z, rfl, hw5, hz⟩; (have hw6 := hw5.symm); clear hw5; subst hw6; have HZZ := hidb hz; clear hz)
        | (go_at_call 8; refine (CC.out _ _ HZZ.out (.inl rfl)).mono ?_; clear CC; rintro e w6 ⟨rfl, hR⟩; have HR := hidb hR; clear hR))
      go_roundw
      case rel => exact ⟨i + 1, by first | rfl | (rw [HW.out]), by omega, HR.out⟩
      case measure =>
        try rw [HW.out]
        simp only [RowKit.intOf]
        omega
    · have d1 : (x1 == 1) = false := by simpa using o1
      by_cases o2 : x1 = 2
      · subst o2
        go_wp2_with (first
          | (go_at_call 7; refine (HSD.out _).mono ?_; clear HSD; rintro e w5 ⟨z, rfl, hw5, hz⟩; (have hw6 := hw5.symm); clear hw5; subst hw6; have HZZ := hidb hz; clear hz)
          | (go_at_call 8; refine (CC.out _ _ HZZ.out (.inr rfl)).mono ?_; clear CC; rintro e w6 ⟨rfl, hR⟩; have HR := hidb hR; clear hR))
        go_roundw
        case rel => exact ⟨i + 1, by first | rfl | (rw [HW.out]), by omega, HR.out⟩
        case measure =>
          try rw [HW.out]
          simp only [RowKit.intOf]
          omega
      · have d2 : (x1 == 2) = false := by simpa using o2
        clear o1 o2
        go_wp2_with (first
          | (go_at_call 7; refine (HSD.out _).mono ?_; clear HSD; rintro e w5 ⟨z, rfl, hw5, hz⟩; (have hw6 := hw5.symm); clear hw5; subst hw6; have HZZ := hidb hz; clear hz)
          | (go_at_call 9; refine (CT.out _ HZZ.out).mono ?_; clear CT; rintro e w6 ⟨bb, rfl, hR⟩; have HR := hidb hR; clear hR))
        go_roundw
        case rel => exact ⟨i + 1, by first | rfl | (rw [HW.out]), by omega, HR.out⟩
        case measure =>
          try rw [HW.out]
          simp only [RowKit.intOf]
          omega
  · have hlt' : ¬ (i : Int) < (l.length : Int) := by omega
    obtain ⟨A, B, p, q, N, hP, hV, hN, hlen, -, -⟩ := HST.out
    have hz5 := HZ.out
    have hi5 := HI.out
    have k2 := hP.box.c2
    have HP := hidb hP
    have HV := hidb hV
    have HNL : Hid (N ≤ 4000 ∧ p.length + q.length ≤ 2000) := hidb (by omega)
    have HSD := hidb (side_any who)
    have HSF := hidb (side_any first)
    have CL := hidb (hP.lanes (by omega))
    clear hP hV hN hlen hz5 hi5 hlt HST
    go_wp2_with (first
      | (go_at_call 7; refine (HSD.out _).mono ?_; clear HSD; rintro e w5 ⟨z, rfl, hw5, hz⟩; (have hw6 := hw5.symm); clear hw5; subst hw6; have HZZ := hidb hz; clear hz)
      | (go_at_call 13; refine CL.out.mono ?_; clear CL; rintro e w7 ⟨rs, ra, rc, rfl, hb7, ht7, hl7, hp7, hq7⟩; have HT7 := hidb ht7; have HB7 := hidb hb7; have HL7 := hidb (⟨hl7, hp7, hq7⟩ : _ ∧ _ ∧ _); clear hb7 ht7 hl7 hp7 hq7))
    clear hlt' k2
    obtain ⟨rn, hrn⟩ : ∃ rn, rs.length = rn := ⟨_, rfl⟩
    have HRN := hidb hrn
    rw [hrn] at HT7 ⊢
    clear hrn
    go_loopw [12] (fun iv wr => ∃ (j : Nat), iv = .int .i64 (j : Int) ∧ j ≤ rn ∧ wr = w7 ∧ ∀ j' r, j' < j → rs[j']? = some r → r.2.1 = z + 1 → ∀ s ∈ sigOf p q r.1 r.2.1, s.2.2.1 ≠ 3) (fun iv _ => rn - (RowKit.intOf iv).toNat)
    case atStart => exact ⟨0, rfl, by omega, rfl, fun j' r h => by omega⟩
    case round =>
    rename World => wq
    obtain ⟨j, rfl, hj, rfl, hdn⟩ := hrel
    have HJ := hidb (⟨hj, hdn⟩ : _ ∧ _)
    clear hj hdn
    by_cases hjl : j < rn
    · have hjl' : (j : Int) < (rn : Int) := by omega
      have s0 : (0 : Int) ≤ (j : Int) := by omega
      have HWJ : Hid (wrap64 ((j : Int) + 1) = ((j + 1 : Nat) : Int)) := hidb (by have := HL7.out.1; have := HRN.out; unfold wrap64; omega)
      obtain ⟨⟨ra1, ra2, rv⟩, hr⟩ : ∃ r, rs[j]? = some r := ⟨_, List.getElem?_eq_getElem (by have := HRN.out; omega)⟩
      obtain ⟨t1, t2, t3⟩ := HT7.out
      obtain ⟨g, hg⟩ : ∃ g, ra = some ⟨g, 0, none⟩ := by
        rcases t1.2 with ⟨h0, h1⟩ | ⟨g, cap, cur, h0, -⟩
        · omega
        · exact ⟨g, by simp at h0; exact h0.1⟩
      subst hg
      obtain ⟨y0, y1, y2⟩ := lvs_at hr
      have m1 : wq.cell? ⟨g, j * 3 + 1, none⟩ = some (.int .i64 ra2) := (t1.cellAt _ (by omega)).trans y1
      have m2 : wq.cell? ⟨g, j * 3 + 2, none⟩ = some rv := (t1.cellAt _ (by omega)).trans y2
      have t4 := t3 _ (List.mem_of_getElem? hr)
      simp only at t4
      obtain ⟨sn, hsn⟩ : ∃ sn, (sigOf p q ra1 ra2).length = sn := ⟨_, rfl⟩
      rw [hsn] at t4
      obtain ⟨sa, sc, rfl⟩ : ∃ sa sc, rv = .slice sa sn sc := by
        rcases t4.2 with ⟨e1, e2⟩ | ⟨g, cap, cur, e1, _⟩
        · exact ⟨none, 0, by rw [e1, e2]⟩
        · exact ⟨_, _, e1⟩
      have HT4 := hidb t4
      have HSN := hidb (⟨hsn, hr⟩ : (sigOf p q ra1 ra2).length = sn ∧ rs[j]? = some (ra1, ra2, .slice sa sn sc))
      clear t1 t2 t3 t4 y0 y1 y2 hsn hr hjl
      go_wp2_with fail
      go_loopw [13] (fun iv wr => ∃ (k : Nat), iv = .int .i64 (k : Int) ∧ k ≤ sn ∧ wr = wq ∧ (ra2 = z + 1 → ∀ k' s, k' < k → (sigOf p q ra1 ra2)[k']? = some s → s.2.2.1 ≠ 3)) (fun iv _ => sn - (RowKit.intOf iv).toNat)
      case atStart => exact ⟨0, rfl, by omega, rfl, fun _ k' s h => by omega⟩
      case round =>
      rename World => wk
      obtain ⟨k, rfl, hk, rfl, hkd⟩ := hrel
      have HK := hidb (⟨hk, hkd⟩ : _ ∧ _)
      clear hk hkd
      by_cases hkl : k < sn
      · have hkl' : (k : Int) < (sn : Int) := by omega
        have s1 : (0 : Int) ≤ (k : Int) := by omega
        have hsl : sn ≤ 2000 := by
          have h1 := HSN.out.1
          have h2 := HNL.out.2
          unfold sigOf at h1
          split at h1
          · simp at h1; omega
          · split at h1
            · simp at h1; omega
            · simp at h1; omega
        have HWK : Hid (wrap64 ((k : Int) + 1) = ((k + 1 : Nat) : Int)) := hidb (by unfold wrap64; omega)
        obtain ⟨⟨s0', s1', kd, si⟩, hs⟩ : ∃ s, (sigOf p q ra1 ra2)[k]? = some s := ⟨_, List.getElem?_eq_getElem (by have := HSN.out.1; omega)⟩
        obtain ⟨gs, hgs⟩ : ∃ gs, sa = some ⟨gs, 0, none⟩ := by
          rcases HT4.out.2 with ⟨h0, h1⟩ | ⟨g, cap, cur, h0, -⟩
          · omega
          · exact ⟨g, by simp at h0; exact h0.1⟩
        subst hgs
        have m3 : wk.cell? ⟨gs, k * 12 + 2, none⟩ = some (.int .i64 kd) := (HT4.out.cellAt _ (by omega)).trans ((sgls_at hs 2 (by omega)).trans rfl)
        have HS := hidb hs
        have ez : wrap64 (z + 1) = z + 1 := by have := HZZ.out; unfold wrap64; omega
        clear hs hsl hkl
        by_cases c1 : ra2 = z + 1
        · have d1 : (ra2 == z + 1) = true := by simpa using c1
          by_cases c2 : kd = 3
          · subst c2
            have HB9 : Hid (Below w.heap.size w wk) := hidb (HB1.out.trans ((HP.out.below.trans (HB7.out.mono HP.out.below.size)).mono HB1.out.size))
            clear c1
            go_wp2_with fail
            go_ret
            exact ⟨rfl, HB9.out⟩
          · have d2 : (kd == 3) = false := by simpa using c2
            have HC1' := hidb c1
            have HC2' := hidb c2
            clear c1 c2
            go_wp2_with fail
            go_roundw
            case rel =>
              refine ⟨k + 1, by first | rfl | (rw [HWK.out]), by omega, trivial, fun e k' s hk' hs' => ?_⟩
              rcases Nat.lt_or_ge k' k with h | h
              · exact HK.out.2 e k' s h hs'
              · obtain rfl : k' = k := by omega
                rw [HS.out] at hs'
                obtain rfl : (s0', s1', kd, si) = s := by simpa using hs'
                exact HC2'.out
            case measure =>
              try rw [HWK.out]
              simp only [RowKit.intOf]
              omega
        · have d1 : (ra2 == z + 1) = false := by simpa using c1
          have HC1' := hidb c1
          clear c1
          go_wp2_with fail
          go_roundw
          case rel => exact ⟨k + 1, by first | rfl | (rw [HWK.out]), by omega, trivial, fun e => absurd e HC1'.out⟩
          case measure =>
            try rw [HWK.out]
            simp only [RowKit.intOf]
            omega
      · have hkl' : ¬ (k : Int) < (sn : Int) := by omega
        have HKN : Hid (k = sn) := hidb (by have := HK.out.1; omega)
        clear hkl
        go_wp2_with fail
        go_roundw
        case rel =>
          refine ⟨j + 1, by first | rfl | (rw [HWJ.out]), by omega, trivial, fun j' r hj' hr' e s hs => ?_⟩
          rcases Nat.lt_or_ge j' j with h | h
          · exact HJ.out.2 j' r h hr' e s hs
          · obtain rfl : j' = j := by omega
            rw [HSN.out.2] at hr'
            obtain rfl : (ra1, ra2, .slice sa sn sc) = r := by simpa using hr'
            obtain ⟨k', hk'⟩ := List.getElem?_of_mem hs
            have hkl2 : k' < sn := by have h1 : k' < (sigOf p q ra1 ra2).length := (List.getElem?_eq_some_iff.1 hk').1; have := HSN.out.1; omega
            exact HK.out.2 e k' s (by have := HKN.out; omega) hk'
        case measure =>
          try rw [HWJ.out]
          simp only [RowKit.intOf]
          omega
    · have hjl' : ¬ (j : Int) < (rn : Int) := by omega
      have hall : ∀ r ∈ rs, r.2.1 = z + 1 → ∀ s ∈ sigOf p q r.1 r.2.1, s.2.2.1 ≠ 3 := by
        intro r hr e s hs
        obtain ⟨j', hj'⟩ := List.getElem?_of_mem hr
        exact HJ.out.2 j' r (by have := (List.getElem?_eq_some_iff.1 hj').1; have := HRN.out; have := HJ.out.1; omega) hj' e s hs
      have hus : z = 0 ∧ PR.us q = [] ∨ z = 1 ∧ PR.us p = [] := by
        rcases HZZ.out with hz | hz
        · refine .inl ⟨hz, us_nil (fun s hs h3 => ?_)⟩
          obtain ⟨r, hr, e1, e2⟩ := HL7.out.2.2 (fun e => by rw [e] at hs; simp at hs)
          refine hall r hr (by omega) (2, 1, s.1, s.2) ?_ h3
          rw [e1, e2]
          simp only [sigOf, show ¬ ((2 : Int) = 1 ∧ (1 : Int) = 2) by omega, if_false, and_self, if_true]
          exact List.mem_map.2 ⟨s, hs, rfl⟩
        · refine .inr ⟨hz, us_nil (fun s hs h3 => ?_)⟩
          obtain ⟨r, hr, e1, e2⟩ := HL7.out.2.1 (fun e => by rw [e] at hs; simp at hs)
          refine hall r hr (by omega) (1, 2, s.1, s.2) ?_ h3
          rw [e1, e2]
          simp only [sigOf, and_self, if_true]
          exact List.mem_map.2 ⟨s, hs, rfl⟩
      have CC : Hid (Calls Tryz.prog 8 #[.pointer (some ⟨w1.heap.size + 1, 0, none⟩), .int .i64 z, .int .i64 1] wq fun e w8 => e = .returned (.tuple #[]) ∧ Hid (∀ z2 : Int, z2 = 0 ∨ z2 = 1 → Calls Tryz.prog 11 #[.pointer (some ⟨w1.heap.size + 1, 0, none⟩), .int .i64 z2] w8 fun e w9 => ∃ K : Int, e = .returned (.int .i64 K) ∧ w9.cell? ⟨w1.heap.size + 1, 0, none⟩ = some (.pointer (some ⟨w1.heap.size + 2, 0, none⟩)) ∧ Hid (Calls Tryz.prog 12 #[.pointer (some ⟨w1.heap.size + 2, 0, none⟩), .int .i64 2] w9 fun e w10 => ∃ va vc, e = .returned (.tuple #[.agg #[.int .i64 va, .int .i64 1, .int .i64 vc], .bool true]) ∧ (w10.alloc (.cells #[.int .i64 va, .int .i64 1, .int .i64 vc] 38)).cell? ⟨w1.heap.size + 1, 1, none⟩ = some (.pointer (some ⟨w1.heap.size + 3, 0, none⟩)) ∧ Hid (Calls Tryz.prog 12 #[.pointer (some ⟨w1.heap.size + 3, 0, none⟩), .int .i64 1] (w10.alloc (.cells #[.int .i64 va, .int .i64 1, .int .i64 vc] 38)) fun e w11 => ∃ vb vd, e = .returned (.tuple #[.agg #[.int .i64 vb, .int .i64 1, .int .i64 vd], .bool true]) ∧ Tri (w11.alloc (.cells #[.int .i64 vb, .int .i64 1, .int .i64 vd] 38)) w10.heap.size (.int .i64 va) (.int .i64 1) (.int .i64 vc) ∧ Hid (Below w.heap.size w w11))))) := by
        have hnl := HNL.out
        refine hidb ((last_call (HP.out.keep HB7.out) HV.out (by omega) (by omega) hus).mono ?_)
        rintro e w8 ⟨rfl, A2, B2, p2, q2, N2, g1, g2, g3, g4, g5⟩
        have hcn := PR.cnt_le p2 q2
        refine ⟨rfl, hidb (fun z2 hz2 => (drained_any g1 g2 (by omega) (by omega) hz2).mono ?_)⟩
        rintro e w9 ⟨rfl, A3, B3, N3, r1, r2, r3, -⟩
        rw [g3] at r2 r3
        refine ⟨_, rfl, r1.box.c0, hidb ((getA r1).mono ?_)⟩
        rintro e w10 ⟨va, vc, rfl, hb10⟩
        rw [r2]
        have hb10' : Below w9.heap.size w9 (w10.alloc (.cells #[.int .i64 va, .int .i64 1, .int .i64 vc] 38)) := hb10.alloc hb10.size _
        have g10 := r1.keep hb10'
        refine ⟨va, vc, rfl, g10.box.c1, hidb ((getA g10.swap).mono ?_)⟩
        rintro e w11 ⟨vb, vd, rfl, hb11⟩
        rw [r3]
        exact ⟨vb, vd, rfl, ((Tri.new w10 _ _ _ _).keep hb11).keep (below_new _ _), hidb (HB1.out.trans ((g10.keep hb11).below.mono HB1.out.size))⟩
      clear hall hus hjl
      go_wp2_with (first
        | (go_at_call 8; refine CC.out.mono ?_; clear CC; rintro e w8 ⟨rfl, CD⟩)
        | (go_at_call 7; refine (HSF.out _).mono ?_; clear HSF; rintro e w5 ⟨z2, rfl, hw5, hz⟩; (have hw6 := hw5.symm); clear hw5; subst hw6; have HZ2 := hidb hz; clear hz)
        | (go_at_call 11; refine (CD.out _ HZ2.out).mono ?_; clear CD; rintro e w9 ⟨K, rfl, n0, CG⟩)
        | (go_at_call 12; refine CG.out.mono ?_; clear CG; rintro e w10 ⟨va, vc, rfl, n2, CH⟩)
        | (go_at_call 12; refine CH.out.mono ?_; clear CH; rintro e w11 ⟨vb, vd, rfl, P9, HB⟩; have r0 := P9.c0; have r1 := P9.c1; have r2 := P9.c2))
      go_ret
      exact ⟨rfl, HB.out.alloc HB.out.size _⟩

end Go.Proofs.YtodelafnboimnaaGreat
