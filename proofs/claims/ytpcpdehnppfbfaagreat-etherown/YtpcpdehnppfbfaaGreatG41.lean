import Derived.Test.YtpcpdehnppfbfaaGreatG40
import Derived.Test.YtpcpdehnppfbfaaGreatG10
import Derived.Test.YtpcpdehnppfbfaaGreatG11
import Derived.Test.YtpcpdehnppfbfaaGreatG06
/- slices.Sort of two whole numbers. -/
namespace Go.Proofs.YtpcpdehnppfbfaaGreat
open Go.RowKit Go.Lib Go.Maps
attribute [local go_sem] store_float f64bits
attribute [local go_sem ↓] Go.wp_at_zero Go.wp_at_succ

set_option maxHeartbeats 1000000 in
theorem pdq2 (g cap : Nat) (a b lim : Int) (w : World) (h : w.ownsRow 0 IT 1 (.slice (some ⟨g, 0, none⟩) 2 cap) 2 [.int .i64 a, .int .i64 b]) : Calls Tryz.prog 44 #[.slice (some ⟨g, 0, none⟩) 2 cap, .int .i64 0, .int .i64 2, .int .i64 lim] w fun e w' => e = .returned (.tuple #[]) ∧ w'.ownsRow 0 IT 1 (.slice (some ⟨g, 0, none⟩) 2 cap) 2 [.int .i64 (min a b), .int .i64 (max a b)] ∧ But (fun k => k = g) w w' := by
  have IN := hidb (insertion2 g cap a b w h)
  clear h
  go_enter Tryz.func44, Tryz.ntmps44
  go_wp2_with fail
  go_loopw [1, 2] (fun av bv wr => av = .int .i64 0 ∧ bv = .int .i64 2 ∧ wr = w) (fun _ _ _ => 0)
  case atStart => exact ⟨rfl, rfl, rfl⟩
  case round =>
  obtain ⟨rfl, rfl, hw⟩ := hrel
  obtain rfl := hw.symm
  clear hw
  go_wp2_with (go_at_call 54; refine IN.out.mono ?_; rintro e w1 ⟨rfl, ho, hb⟩; have HO := hidb ho; have HB := hidb hb; clear ho hb)
  exact bodyPost_ret (v := .tuple #[]) (by simp [results, Tryz.results44]) rfl ⟨rfl, HO.out, HB.out⟩
theorem sort2 (g cap : Nat) (a b : Int) (w : World) (h : w.ownsRow 0 IT 1 (.slice (some ⟨g, 0, none⟩) 2 cap) 2 [.int .i64 a, .int .i64 b]) : Calls Tryz.prog 28 #[.slice (some ⟨g, 0, none⟩) 2 cap] w fun e w' => e = .returned (.tuple #[]) ∧ w'.ownsRow 0 IT 1 (.slice (some ⟨g, 0, none⟩) 2 cap) 2 [.int .i64 (min a b), .int .i64 (max a b)] ∧ But (fun k => k = g) w w' := by
  have PQ := hidb (fun lim => pdq2 g cap a b lim w h)
  have BL := hidb (Tryz.bits_Len 2 w (by omega) (by omega))
  clear h
  go_enter Tryz.func28, Tryz.ntmps28
  go_wp2_with (first
    | (go_at_call 45; refine BL.out.mono ?_; rintro e w1 ⟨rfl, rfl⟩)
    | (go_at_call 44; refine (PQ.out _).mono ?_; rintro e w1 ⟨rfl, ho, hb⟩; have HO := hidb ho; have HB := hidb hb; clear ho hb))
  exact bodyPost_end (by simp [results, Tryz.results28]) rfl ⟨rfl, HO.out, HB.out⟩
end Go.Proofs.YtpcpdehnppfbfaaGreat


/- Ready, where two lanes lead to one. -/
namespace Go.Proofs.YtpcpdehnppfbfaaGreat
open Go.RowKit Go.Lib Go.Maps
attribute [local go_sem] store_float f64bits
attribute [local go_sem ↓] Go.wp_at_zero Go.wp_at_succ

variable {w0 w : World} {eb all N : Nat} {mv : Value} {f : Int → Int → Option Lane}
theorem wf1 : wfi 1 := by unfold wfi; decide
theorem wf2 : wfi 2 := by unfold wfi; decide
theorem wf3 : wfi 3 := by unfold wfi; decide
theorem kl_13 : (kl 1 2).sameKey (kl 3 2) = false := sameKey_ne (fun e => by have := (kl_inj wf1 wf2 wf3 wf2 e).1; omega)
theorem kl_31 : (kl 3 2).sameKey (kl 1 2) = false := sameKey_ne (fun e => by have := (kl_inj wf3 wf2 wf1 wf2 e).1; omega)

theorem row_up {w : World} {C e size n g cap : Nat} {xs : List Value} (h : w.ownsRow 0 e size (.slice (some ⟨g, 0, none⟩) n cap) n xs) (hg : C + 1 ≤ g) : w.ownsRow C e size (.slice (some ⟨g, 0, none⟩) n cap) n xs := by
  refine ⟨h.1, ?_⟩
  rcases h.2 with hn | ⟨q, cap', cur, hv, _, rest⟩
  · exact .inl hn
  · have hv' : g = q := by simp at hv; exact hv.1
    exact .inr ⟨q, cap', cur, hv, by omega, rest⟩

/-- What has come of the two lanes. -/
def Came (left : Lit → Bool) (ts : List Int) : Prop :=
  (∀ a b, wfi a → wfi b → left (kl a b) = true → (a = 1 ∨ a = 3) ∧ b = 2) ∧ ts.Perm ((if left (kl 1 2) then [] else [1]) ++ (if left (kl 3 2) then [] else [3]))

theorem Came.step1 {left : Lit → Bool} {ts : List Int} (h : Came left ts) (hl : left (kl 1 2) = true) : Came (fun z => left z && !z.sameKey (kl 1 2)) (ts ++ [1]) := by
  refine ⟨fun a b ha hb hq => h.1 a b ha hb (by simp at hq; exact hq.1), ?_⟩
  have := h.2
  simp only [hl, kl_same, kl_31, if_true, Bool.not_true, Bool.and_false, Bool.not_false, Bool.and_true, List.nil_append] at this ⊢
  exact (List.perm_append_comm).trans (this.cons 1)
theorem Came.step3 {left : Lit → Bool} {ts : List Int} (h : Came left ts) (hl : left (kl 3 2) = true) : Came (fun z => left z && !z.sameKey (kl 3 2)) (ts ++ [3]) := by
  refine ⟨fun a b ha hb hq => h.1 a b ha hb (by simp at hq; exact hq.1), ?_⟩
  have := h.2
  simp only [hl, kl_same, kl_13, if_true, Bool.not_true, Bool.and_false, Bool.not_false, Bool.and_true, List.append_nil] at this ⊢
  exact this.append_right [3]
theorem Came.done {left : Lit → Bool} {ts : List Int} (h : Came left ts) (hl : ∀ k, left k = false) : ∃ a b, ts = [a, b] ∧ min a b = 1 ∧ max a b = 3 := by
  have := h.2
  simp only [hl] at this
  have hlen := this.length_eq
  match ts, hlen with
  | [a, b], _ =>
    have ha : a ∈ ([1, 3] : List Int) := this.mem_iff.1 (by simp)
    have h1 : (1 : Int) ∈ [a, b] := this.mem_iff.2 (by simp)
    have h3 : (3 : Int) ∈ [a, b] := this.mem_iff.2 (by simp)
    simp at h1 h3
    exact ⟨a, b, rfl, by omega, by omega⟩
theorem Came.short {left : Lit → Bool} {ts : List Int} (h : Came left ts) : ts.length ≤ 2 := by
  have := h.2.length_eq
  rw [this]
  split <;> split <;> simp

set_option maxHeartbeats 1000000 in
set_option maxRecDepth 100000 in
theorem ready2 {l1 l2 : Lane} (h : EO w0 w eb mv f all N) (h1 : f 1 2 = some l1) (h2 : f 3 2 = some l2) (h3 : ∀ a b, (f a b).isSome = true → (a = 1 ∨ a = 3) ∧ b = 2) :
    Calls Tryz.prog 13 #[.pointer (some ⟨eb, 0, none⟩), .int .i64 2] w fun e w' => ∃ g cap, e = .returned (.slice (some ⟨g, 0, none⟩) 2 cap) ∧ w'.ownsRow w.heap.size IT 1 (.slice (some ⟨g, 0, none⟩) 2 cap) 2 [.int .i64 1, .int .i64 3] ∧ Below w.heap.size w w' := by
  rcases h.map with ⟨_, hn⟩ | ⟨mb, n, rfl, he, hn, hm, hme, hmf⟩
  · rw [hn] at h1; cases h1
  obtain ⟨c0, c1, f0, f1, hlt⟩ := h.duo
  obtain ⟨D, hown, hD1, hD2⟩ := he
  have HE := hidb h
  clear h hmf
  go_enter Tryz.func13, Tryz.ntmps13
  go_wp2_with (first
    | (at_range; refine wpList_range_own _ rfl _ MT rfl KT RP lawK undMT _ mb n D rfl hown ?_; intro wa hrg0 hg0 hs0))
  have HR0 := hidb hrg0
  have HB0 : Hid (Below w.heap.size w wa) := hidb ⟨hg0.os, hg0.tape, hg0.output, hg0.size, fun k hk => hg0.block k hk (by simp)⟩
  have HS0 := hidb hs0
  have HC0 : Hid (Came (Maps.has D) []) := hidb ⟨fun a b ha hb hq => h3 a b (by rw [hD1 a b ha hb] at hq; simpa using hq), by rw [hD1 1 2 wf1 wf2, hD1 3 2 wf3 wf2, h1, h2]; simp⟩
  have HMB : Hid (mb < w.heap.size) := hidb hown.lt
  obtain ⟨i0, hi, hz0, hz1, hz2⟩ := infoI
  clear hrg0 hg0 hs0 hown hD1 hD2 h1 h2 h3
  go_loopw [5] (fun tv wr => ∃ (left : Lit → Bool) (cnt : Nat) (ts : List Int), wr.ranges Tryz.prog KT ptrElem mb w.heap.size n D left cnt ∧ Came left ts ∧ wr.ownsRow (w.heap.size + 1) IT 1 tv ts.length (ivs ts) ∧ Below w.heap.size w wr) (fun _ wr => wr.rangeLeft mb w.heap.size)
  case atStart => exact ⟨_, _, [], HR0.out, HC0.out, World.ownsRow_nil _ _ _ _, HB0.out⟩
  case round =>
  obtain ⟨left, cnt, ts, hrg, hcm, hrow, hbel⟩ := hrel
  obtain ⟨qt, ct, rfl⟩ := own_sl hrow
  have HRG := hidb hrg
  have HCM := hidb hcm
  have HRO := hidb hrow
  have HB := hidb hbel
  clear hrg hcm hrow hbel HR0 HC0 HB0 HS0
  go_wp2_with (first
    | (at_next; refine wpList_next_ranges _ rfl _ rfl KT lawK ptrElem (fun x : Int × Int => kv x.1 x.2) (fun v : Value => v) keyK_inv (fun v _ _ => ⟨v, rfl⟩) mb w.heap.size n D left cnt rfl HRG.out ?_ ?_))
  · intro _ hl0
    obtain ⟨ta, tb, rfl, hmi, hma⟩ := HCM.out.done hl0
    have hg : ∃ g, qt = some ⟨g, 0, none⟩ := by
      rcases HRO.out.2 with ⟨_, h0⟩ | ⟨g, cap, cur, hv, _⟩
      · simp at h0
      · simp at hv; exact ⟨g, hv.1⟩
    obtain ⟨g, rfl⟩ := hg
    have SO := hidb (sort2 g ct ta tb wr (row_base HRO.out (Nat.zero_le _)))
    rw [hmi, hma] at SO
    have HGE : Hid (w.heap.size + 1 ≤ g) := hidb (row_lt HRO.out g rfl).2
    clear hl0 hmi hma
    go_wp2_with (first
      | (go_at_call 28; refine SO.out.mono ?_; rintro e w1 ⟨rfl, ho, hb⟩; have HO1 := hidb ho; have HB1 := hidb hb; clear ho hb))
    go_ret
    refine ⟨g, ct, rfl, ?_, ?_⟩
    · have := HO1.out
      exact row_up this HGE.out
    · exact HB.out.trans (HB1.out.below HB.out.size (fun k e => by have := HGE.out; omega))
  · intro a b c k yd yp w1 cnt1 hkey hlk hv hat hrg1 hlt1 hg1 hs1 hen
    obtain ⟨ha, hb, rfl⟩ := keyK_wf hkey
    obtain ⟨ha13, hb2⟩ := HCM.out.1 a b ha hb hlk
    subst hb2
    have HRG1 := hidb hrg1
    have HG1 := hidb hg1
    have HS1 := hidb hs1
    have HRO1 := hidb (row_but HRO.out (grown_but hg1) (fun k hk e => by have := (row_lt HRO.out k hk).2; have e' : w.heap.size = k := (by simpa using e); omega))
    have HB1 : Hid (Below w.heap.size w w1) := hidb (HB.out.trans ((grown_but hg1).below HB.out.size (fun k e => by have e' : w.heap.size = k := (by simpa using e); omega)))
    have HLT := hidb hlt1
    have hts := HCM.out.short
    clear hg1 hs1 hlt1 hrg1 hv hat hkey ha hb
    rcases ha13 with rfl | rfl
    · have HC1 := hidb (HCM.out.step1 hlk)
      clear hlk
      go_wp2_with (first
        | (at_builtin; refine wpList_append_own_at _ rfl _ _ 48 rfl (w.heap.size + 1) IT i0 (.int .i64 0) 1 8 Tryz.underlying48 hi hz0 hz1 hz2 rfl (by decide) (.slice qt ts.length ct) ts.length (ivs ts) rfl ?e1 ⟨w1.heap.size + 1, 0, none⟩ 1 1 [.int .i64 1] rfl rfl ?e2 ?e3 ?e4 ?e5 ?e6 ?_))
      case e1 => exact (HRO1.out.alloc _).alloc _
      case e2 => have := cell_one_new (w1.alloc (.cells #[.int .i64 1, .int .i64 2] KT)) (.int .i64 1) IT; simpa using this
      case e3 => intro u hu; simp at hu; subst hu; rfl
      case e4 => unfold maxLen; omega
      case e5 => omega
      case e6 => have := HRG1.out.lt; simp; omega
      intro v' w4 hown' hgrow hnil hat
      obtain ⟨a', c', rfl⟩ := own_sl hown'
      have HROW : Hid (∀ k, some k = (Value.slice qt ts.length ct).ownBlock → w.heap.size + 1 ≤ k) := hidb (fun k hk => (row_lt HRO1.out k hk.symm).2)
      have HRG4 := hidb (((HRG1.out.alloc (.cells #[.int .i64 1, .int .i64 2] KT)).alloc (.cells #[.int .i64 1] IT)).kept hgrow (fun e => by have := HROW.out _ e; have := HMB.out; omega) (fun e => by have := HROW.out _ e; omega))
      have HO4 := hidb hown'
      have HB4 := hidb (((HB1.out.alloc HB1.out.size (.cells #[.int .i64 1, .int .i64 2] KT)).alloc (by have := HB1.out.size; simp; omega) (.cells #[.int .i64 1] IT)).trans ((grown_but hgrow).below (by have := HB1.out.size; simp; omega) (fun k e => by have := HROW.out k e.symm; omega)))
      clear hown' hgrow hnil hat
      go_wp2_with fail
      go_roundw
      case rel => exact ⟨_, _, ts ++ [1], HRG4.out, HC1.out, by rw [ivs_append, List.length_append]; exact HO4.out, HB4.out⟩
      case measure => rw [HRG4.out.left_eq, HRG.out.left_eq]; exact HLT.out
    · have HC1 := hidb (HCM.out.step3 hlk)
      clear hlk
      go_wp2_with (first
        | (at_builtin; refine wpList_append_own_at _ rfl _ _ 48 rfl (w.heap.size + 1) IT i0 (.int .i64 0) 1 8 Tryz.underlying48 hi hz0 hz1 hz2 rfl (by decide) (.slice qt ts.length ct) ts.length (ivs ts) rfl ?e1 ⟨w1.heap.size + 1, 0, none⟩ 1 1 [.int .i64 3] rfl rfl ?e2 ?e3 ?e4 ?e5 ?e6 ?_))
      case e1 => exact (HRO1.out.alloc _).alloc _
      case e2 => have := cell_one_new (w1.alloc (.cells #[.int .i64 3, .int .i64 2] KT)) (.int .i64 3) IT; simpa using this
      case e3 => intro u hu; simp at hu; subst hu; rfl
      case e4 => unfold maxLen; omega
      case e5 => omega
      case e6 => have := HRG1.out.lt; simp; omega
      intro v' w4 hown' hgrow hnil hat
      obtain ⟨a', c', rfl⟩ := own_sl hown'
      have HROW : Hid (∀ k, some k = (Value.slice qt ts.length ct).ownBlock → w.heap.size + 1 ≤ k) := hidb (fun k hk => (row_lt HRO1.out k hk.symm).2)
      have HRG4 := hidb (((HRG1.out.alloc (.cells #[.int .i64 3, .int .i64 2] KT)).alloc (.cells #[.int .i64 3] IT)).kept hgrow (fun e => by have := HROW.out _ e; have := HMB.out; omega) (fun e => by have := HROW.out _ e; omega))
      have HO4 := hidb hown'
      have HB4 := hidb (((HB1.out.alloc HB1.out.size (.cells #[.int .i64 3, .int .i64 2] KT)).alloc (by have := HB1.out.size; simp; omega) (.cells #[.int .i64 3] IT)).trans ((grown_but hgrow).below (by have := HB1.out.size; simp; omega) (fun k e => by have := HROW.out k e.symm; omega)))
      clear hown' hgrow hnil hat
      go_wp2_with fail
      go_roundw
      case rel => exact ⟨_, _, ts ++ [3], HRG4.out, HC1.out, by rw [ivs_append, List.length_append]; exact HO4.out, HB4.out⟩
      case measure => rw [HRG4.out.left_eq, HRG.out.left_eq]; exact HLT.out
end Go.Proofs.YtpcpdehnppfbfaaGreat


