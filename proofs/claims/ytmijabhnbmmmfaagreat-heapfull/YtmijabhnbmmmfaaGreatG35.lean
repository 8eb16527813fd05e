import Derived.Test.YtmijabhnbmmmfaaGreatG34
import Derived.Test.YtmijabhnbmmmfaaGreatG23
import Derived.Test.YtmijabhnbmmmfaaGreatG11
/- The chapter's first example. -/
namespace Go.Proofs.YtmijabhnbmmmfaaGreat
open Go.RowKit Go.Deep
attribute [local go_sem] store_float f64bits f64frombits
attribute [local go_sem ↓] Go.wp_at_zero Go.wp_at_succ

/-- {a, 1.5}. -/
def tK (b : Nat) : Tr := .mk 7 0 0 ⟨#[]⟩ (some ⟨b, 0, none⟩) 2 [.mk 3 0 0 ⟨#[97]⟩ none 0 [], .mk 2 0 4609434218613702656 ⟨#[]⟩ none 0 []]

abbrev objK : Obj := .cells #[.int .i64 3, .int .i64 0, .float .f64 0, .string ⟨#[97]⟩, .slice none 0 0, .int .i64 2, .int .i64 0, .float .f64 4609434218613702656, .string ⟨#[]⟩, .slice none 0 0] 44

theorem leaf_in (w : World) (k n : Int) (f : Nat) (s : ByteArray) (hk : (Lit.int .i64 k).wf = true) (hn : (Lit.int .i64 n).wf = true) (hf : (Lit.float .f64 f).wf = true) (hs : s.size ≤ maxLen) : (Tr.mk k n f s none 0 []).In w 0 := by
  unfold Tr.In
  exact ⟨⟨hk, hn, hf, hs, by simp, by omega, fun _ => rfl⟩, fun ad h => by simp at h⟩

theorem kn_in (w : World) : (tK w.heap.size).In (w.alloc objK) 0 := by
  unfold tK Tr.In
  refine ⟨⟨by decide, by decide, by decide, Nat.zero_le _, by simp, by unfold maxLen; omega, fun h => by simp at h⟩, fun ad had => ⟨Nat.zero_le _, inAll_of fun j t hj => ?_⟩⟩
  obtain rfl : (⟨w.heap.size, 0, none⟩ : Addr) = ad := by simpa using had
  match j, hj with
  | 0, hj =>
    obtain rfl : Tr.mk 3 0 0 ⟨#[97]⟩ none 0 [] = t := by simpa using hj
    refine ⟨fun i hi => ?_, leaf_in _ _ _ _ _ (by decide) (by decide) (by decide) (by show (1 : Nat) ≤ maxLen; unfold maxLen; omega)⟩
    match i, hi with
    | 0, _ => simp [Addr.add, Tr.cells]
    | 1, _ => simp [Addr.add, Tr.cells]
    | 2, _ => simp [Addr.add, Tr.cells]
    | 3, _ => simp [Addr.add, Tr.cells]
    | 4, _ => simp [Addr.add, Tr.cells]
  | 1, hj =>
    obtain rfl : Tr.mk 2 0 4609434218613702656 ⟨#[]⟩ none 0 [] = t := by simpa using hj
    refine ⟨fun i hi => ?_, leaf_in _ _ _ _ _ (by decide) (by decide) (by decide) (Nat.zero_le _)⟩
    match i, hi with
    | 0, _ => simp [Addr.add, Tr.cells]
    | 1, _ => simp [Addr.add, Tr.cells]
    | 2, _ => simp [Addr.add, Tr.cells]
    | 3, _ => simp [Addr.add, Tr.cells]
    | 4, _ => simp [Addr.add, Tr.cells]
  | j + 2, hj => simp at hj

theorem kn_on (b : Nat) : (tK b).On (fun k => k = b) := by
  unfold tK Tr.On
  refine ⟨fun _ ad had => ?_, ?_⟩
  · obtain rfl : (⟨b, 0, none⟩ : Addr) = ad := by simpa using had
    rfl
  · unfold Tr.OnAll
    refine ⟨?_, ?_⟩
    · unfold Tr.On; exact ⟨fun h => by simp at h, by unfold Tr.OnAll; trivial⟩
    · unfold Tr.OnAll
      refine ⟨?_, by unfold Tr.OnAll; trivial⟩
      unfold Tr.On; exact ⟨fun h => by simp at h, by unfold Tr.OnAll; trivial⟩

theorem kn_small (b : Nat) : Small (tK b) := by
  unfold tK
  simp [Small, SmallAll]

theorem kn_err (b : Nat) : errT (tK b) = 0 := by
  have h1 : meas (tK b) 200 65536 = 5 := by simp [tK, meas, measAll, own]
  have h2 : allT goodT (tK b) = true := by
    simp [tK, allT, allAll, goodT, rightB]
    decide
  unfold errT
  rw [h1, h2]
  rfl

theorem kn_w (b : Nat) : wN (tK b) = 5 := by simp [tK, wN, wAll, front]
theorem kn_cnt (b : Nat) : cntT (tK b) = 3 := by simp [tK, cntT, cntAll]
theorem kn_1 (b : Nat) : (layT (tK b) 0 []).1 = 5 := by
  have : (layT (tK b) 0 []).1 = ofW 5 ((0 : Nat) : Int) := by simp [tK, layT]
  rw [this]
  decide
theorem kn_4 (b : Nat) : (layT (tK b) 0 []).2.1[4]? = some 4609434218613702656 := by
  simp [tK, layT, layAll, front]
end Go.Proofs.YtmijabhnbmmmfaaGreat


/- A row of right terms. -/
namespace Go.Proofs.YtmijabhnbmmmfaaGreat
open Go.RowKit Go.Deep
attribute [local go_sem] store_float f64bits
attribute [local go_sem ↓] Go.wp_at_zero Go.wp_at_succ

theorem fine_any (e : Int) (w : World) : Calls Tryz.prog 20 #[.int .i64 e] w fun en w' => en = .returned (.bool (e == 0)) ∧ w' = w := by
  go_enter Tryz.func20, Tryz.ntmps20
  go_wp2
  go_ret
  exact ⟨rfl, rfl⟩

/-- Are all of a row right? -/
def allOk (kids : List Tr) : Bool := kids.all fun t => errT t == 0

theorem allOk_drop {kids : List Tr} {m : Nat} {t : Tr} (h : kids[m]? = some t) : allOk (kids.drop m) = ((errT t == 0) && allOk (kids.drop (m + 1))) := by
  unfold allOk
  rw [drop_one h, List.all_cons]

set_option maxHeartbeats 1600000 in
set_option maxRecDepth 100000 in
theorem right_row (a : Option Addr) (c : Nat) (kids : List Tr) (w : World) (hin : (Tr.mk 0 0 0 ⟨#[]⟩ a c kids).In w 0) :
    Calls Tryz.prog 16 #[.slice a kids.length c] w fun e w' => e = .returned (.bool (decide (kids.length ≤ 40) && decide (0 ≤ fewT (.mk 0 0 0 ⟨#[]⟩ a c kids) 60000 1000) && allOk kids)) ∧ Below w.heap.size w w' := by
  have hlen := len_small hin
  by_cases h40 : kids.length ≤ 40
  case neg =>
    have e : (decide (kids.length ≤ 40) && decide (0 ≤ fewT (.mk 0 0 0 ⟨#[]⟩ a c kids) 60000 1000) && allOk kids) = false := by simp [h40]
    rw [e]
    clear hin e
    have q : (40 : Int) < (kids.length : Int) := by omega
    go_enter Tryz.func16, Tryz.ntmps16
    go_wp2
    go_ret
    exact ⟨rfl, Below.refl _ _⟩
  have FW := hidb (few_any (.mk 0 0 0 ⟨#[]⟩ a c kids) 60000 1000 w hin (by omega) (by omega) (by omega) (by omega))
  have hsm := few_small (.mk 0 0 0 ⟨#[]⟩ a c kids) 60000 1000 (by omega)
  simp only [decide_eq_true h40, Bool.true_and]
  generalize fewT (.mk 0 0 0 ⟨#[]⟩ a c kids) 60000 1000 = Q at *
  have q : ¬ (40 : Int) < (kids.length : Int) := by omega
  have HIN := hidb hin
  by_cases h0 : 0 ≤ Q
  case neg =>
    have e : (decide (0 ≤ Q) && allOk kids) = false := by simp [h0]
    rw [e]
    clear hin e hsm
    have hq0 : Q < 0 := by omega
    go_enter Tryz.func16, Tryz.ntmps16
    go_wp2_with (go_at_call 28; refine FW.out.mono ?_; rintro e w1 ⟨rfl, hb1⟩)
    go_ret
    exact ⟨rfl, hb1⟩
  have HSM := hidb (hsm h0).1
  simp only [decide_eq_true h0, Bool.true_and]
  have hq0 : ¬ Q < 0 := by omega
  clear hin hsm h0
  go_enter Tryz.func16, Tryz.ntmps16
  go_wp2_with (go_at_call 28; refine FW.out.mono ?_; rintro e w1 ⟨rfl, hb1⟩; have HB1 := hidb hb1; clear hb1)
  go_loopw [3] (fun iv wr => ∃ (m : Nat), m ≤ kids.length ∧ iv = .int .i64 m ∧ allOk (kids.drop m) = allOk kids ∧ Below w.heap.size w wr) (fun iv _ => kids.length - (intOf iv).toNat)
  case atStart => exact ⟨0, by omega, rfl, by simp, HB1.out⟩
  case round =>
    obtain ⟨m, hm, rfl, hall, hbel⟩ := hrel
    have HA := hidb hall
    have HB := hidb hbel
    clear hall hbel HB1 FW
    by_cases hml : m < kids.length
    · have hmb : (m : Int) < (kids.length : Int) := by omega
      have hmz : (0 : Int) ≤ (m : Int) := by omega
      obtain ⟨b, o, rfl, hat⟩ := kid_at HIN.out (by omega)
      obtain ⟨k', n', f', s', a', c', kids', hu', hin', x0, x1, x2, x3, x4⟩ := hat m hml
      have hlb : b < w.heap.size := World.block_lt_of_cell? w _ x0
      have v0 := (HB.out.cell hlb).trans x0
      have v1 := (HB.out.cell hlb).trans x1
      have v2 := (HB.out.cell hlb).trans x2
      have v3 := (HB.out.cell hlb).trans x3
      have v4 := (HB.out.cell hlb).trans x4
      have hsk : Small (.mk k' n' f' s' a' c' kids') := by have := HSM.out; unfold Small at this; exact smallAll_get this.2 (List.mem_of_getElem? hu')
      have CK := hidb (check_t (.mk k' n' f' s' a' c' kids') wr (in_below HB.out hin') hsk)
      have hd := allOk_drop hu'
      rw [HA.out] at hd
      have HD := hidb hd
      clear hu' hin' hat hsk x0 x1 x2 x3 x4 hd
      generalize errT (.mk k' n' f' s' a' c' kids') = E at *
      cases hE : (E == 0) with
      | false =>
        have FN := hidb (fine_any E)
        rw [hE] at FN
        have e : allOk kids = false := by have := HD.out; rw [hE] at this; simpa using this
        have HEF := hidb e
        clear hE e
        go_wp2_with (first | (go_at_call 27; refine CK.out.mono ?_; rintro e wz ⟨rfl, hbz⟩; have HZ := hidb (HB.out.trans (hbz.mono HB.out.size)); clear hbz) | (go_at_call 20; refine (FN.out _).mono ?_; rintro e w' ⟨rfl, rfl⟩))
        go_ret
        exact ⟨by rw [HEF.out]; rfl, HZ.out⟩
      | true =>
        have FN := hidb (fine_any E)
        rw [hE] at FN
        have e : allOk (kids.drop (m + 1)) = allOk kids := by have := HD.out; rw [hE] at this; simpa using this.symm
        have HE2 := hidb e
        clear hE e
        go_wp2_with (first | (go_at_call 27; refine CK.out.mono ?_; rintro e wz ⟨rfl, hbz⟩; have HZ := hidb (HB.out.trans (hbz.mono HB.out.size)); clear hbz) | (go_at_call 20; refine (FN.out _).mono ?_; rintro e w' ⟨rfl, rfl⟩))
        go_roundw
        case rel => exact ⟨m + 1, by omega, by go_num, HE2.out, HZ.out⟩
        case measure => simp [intOf]; omega
    · have hmn : ¬ (m : Int) < (kids.length : Int) := by omega
      have e : allOk kids = true := by
        have := HA.out
        rw [List.drop_of_length_le (by omega)] at this
        rw [← this]; rfl
      have HEF := hidb e
      clear e
      go_wp2
      go_ret
      exact ⟨by rw [HEF.out]; rfl, HB.out⟩
end Go.Proofs.YtmijabhnbmmmfaaGreat


