import Derived.Test.YtmijabhnbmmmfaaGreatG36
import Derived.Test.YtmijabhnbmmmfaaGreatG24
import Derived.Test.YtmijabhnbmmmfaaGreatG25
/- The chapter's first example. -/
namespace Go.Proofs.YtmijabhnbmmmfaaGreat
open Go.RowKit Go.Deep
attribute [local go_sem] store_float f64bits f64frombits
attribute [local go_sem ↓] Go.wp_at_zero Go.wp_at_succ

/-- {a, 1.5}. -/
def tK (b : Nat) : Tr := .mk 7 0 0 ⟨#[]⟩ (some ⟨b, 0, none⟩) 2 [.mk 3 0 0 ⟨#[97]⟩ none 0 [], .mk 2 0 4609434218613702656 ⟨#[]⟩ none 0 []]

abbrev objK : Obj := .cells #[.int .i64 3, .int .i64 0, .float .f64 0, .string ⟨#[97]⟩, .slice none 0 0, .int .i64 2, .int .i64 0, .float .f64 4609434218613702656, .string ⟨#[]⟩, .slice none 0 0] 44

theorem leaf_in (w : World) (k n : Int) (f : Nat) (s : ByteArray) (hk : (Lit.int .i64 k).wf = true) (hn : (Lit.int .i64 n).wf = true) (hf : (Lit.float .f64 f).wf = true) (hs : s.size ≤ maxLen) : (Tr.mk k n f s none 0 []).In w 0 := by
  unfold Tr.In
  exact ⟨⟨hk, hn, hf, hs, by simp, by omega, fun _ => rfl⟩, fun ad h => by simp at h⟩

theorem kn_in (w : World) : (tK w.heap.size).In (w.alloc objK) 0 := by
  unfold tK Tr.In
  refine ⟨⟨by decide, by decide, by decide, Nat.zero_le _, by simp, by unfold maxLen; omega, fun h => by simp at h⟩, fun ad had => ⟨Nat.zero_le _, inAll_of fun j t hj => ?_⟩⟩
  obtain rfl : (⟨w.heap.size, 0, none⟩ : Addr) = ad := by simpa using had
  match j, hj with
  | 0, hj =>
    obtain rfl : Tr.mk 3 0 0 ⟨#[97]⟩ none 0 [] = t := by simpa using hj
    refine ⟨fun i hi => ?_, leaf_in _ _ _ _ _ (by decide) (by decide) (by decide) (by show (1 : Nat) ≤ maxLen; unfold maxLen; omega)⟩
    match i, hi with
    | 0, _ => simp [Addr.add, Tr.cells]
    | 1, _ => simp [Addr.add, Tr.cells]
    | 2, _ => simp [Addr.add, Tr.cells]
    | 3, _ => simp [Addr.add, Tr.cells]
    | 4, _ => simp [Addr.add, Tr.cells]
  | 1, hj =>
    obtain rfl : Tr.mk 2 0 4609434218613702656 ⟨#[]⟩ none 0 [] = t := by simpa using hj
    refine ⟨fun i hi => ?_, leaf_in _ _ _ _ _ (by decide) (by decide) (by decide) (Nat.zero_le _)⟩
    match i, hi with
    | 0, _ => simp [Addr.add, Tr.cells]
    | 1, _ => simp [Addr.add, Tr.cells]
    | 2, _ => simp [Addr.add, Tr.cells]
    | 3, _ => simp [Addr.add, Tr.cells]
    | 4, _ => simp [Addr.add, Tr.cells]
  | j + 2, hj => simp at hj

theorem kn_on (b : Nat) : (tK b).On (fun k => k = b) := by
  unfold tK Tr.On
  refine ⟨fun _ ad had => ?_, ?_⟩
  · obtain rfl : (⟨b, 0, none⟩ : Addr) = ad := by simpa using had
    rfl
  · unfold Tr.OnAll
    refine ⟨?_, ?_⟩
    · unfold Tr.On; exact ⟨fun h => by simp at h, by unfold Tr.OnAll; trivial⟩
    · unfold Tr.OnAll
      refine ⟨?_, by unfold Tr.OnAll; trivial⟩
      unfold Tr.On; exact ⟨fun h => by simp at h, by unfold Tr.OnAll; trivial⟩

theorem kn_small (b : Nat) : Small (tK b) := by
  unfold tK
  simp [Small, SmallAll]

theorem kn_err (b : Nat) : errT (tK b) = 0 := by
  have h1 : meas (tK b) 200 65536 = 5 := by simp [tK, meas, measAll, own]
  have h2 : allT goodT (tK b) = true := by
    simp [tK, allT, allAll, goodT, rightB]
    decide
  unfold errT
  rw [h1, h2]
  rfl

theorem kn_w (b : Nat) : wN (tK b) = 5 := by simp [tK, wN, wAll, front]
theorem kn_cnt (b : Nat) : cntT (tK b) = 3 := by simp [tK, cntT, cntAll]
theorem kn_1 (b : Nat) : (layT (tK b) 0 []).1 = 5 := by
  have : (layT (tK b) 0 []).1 = ofW 5 ((0 : Nat) : Int) := by simp [tK, layT]
  rw [this]
  decide
theorem kn_4 (b : Nat) : (layT (tK b) 0 []).2.1[4]? = some 4609434218613702656 := by
  simp [tK, layT, layAll, front]
end Go.Proofs.YtmijabhnbmmmfaaGreat


/- The chapter's first example, walked. -/
namespace Go.Proofs.YtmijabhnbmmmfaaGreat
open Go.RowKit Go.Deep
attribute [local go_sem] store_float f64bits f64frombits
attribute [local go_sem ↓] Go.wp_at_zero Go.wp_at_succ

/-- What Store tells of the example. -/
theorem kn_store {w5 : World} {hb ab : Nat} (hp : HP w5 hb ab 100 [] [] [ab] none 0) : Calls Tryz.prog 26 #[.pointer (some ⟨hb, 0, none⟩), .agg #[.int .i64 7, .int .i64 0, .float .f64 0, .string ⟨#[]⟩, .slice (some ⟨w5.heap.size, 0, none⟩) 2 2]] (w5.alloc objK) fun e w' => e = .returned (.tuple #[.int .u64 5, .int .i64 0]) ∧
      ∃ (ws : List Int) (L : List ByteArray) (F : List Nat) (g c : Nat), HP w' hb ab 100 ws L F (some ⟨g, 0, none⟩) c ∧ ws.length = 5 ∧ ws[4]? = some 4609434218613702656 ∧ L.length ≤ 100000 ∧ Rep ws L (tK w5.heap.size) 5 ∧ Kept [hb, ab] w5 w' := by
  have hlt := hp.tri.lt
  have hab := hp.tab.lt ab (by simp)
  have ST := store_good (fun k => k = w5.heap.size) (tK w5.heap.size) (w5.alloc objK) hb ab 100 [] [] [ab] none 0 (hp.keep (below_new w5 objK)) (kn_in w5) (kn_on _) (kn_small _) (kn_err _) (by rw [kn_w]; decide)
    (fun k hk => by have : k = w5.heap.size := hk; subst this; simp) (by omega) (fun g h => by cases h) (fun k hk => by obtain rfl := List.mem_singleton.1 hk; omega) (by rw [kn_cnt]; decide)
  refine ST.mono ?_
  rintro e w' ⟨rfl, a', c', F', hp', _, _, hk⟩
  have hlen := lay_len (tK w5.heap.size) 0 []
  rw [kn_w] at hlen
  have h4 := kn_4 w5.heap.size
  have hat := lay_atoms (tK w5.heap.size) 0 []
  rw [kn_cnt] at hat
  have hsay := lay_says (tK w5.heap.size) (words_right (kn_err _)).1 0 [] (layT (tK w5.heap.size) 0 []).2.1 (layT (tK w5.heap.size) 0 []).2.2 (fun i x h => by simpa using h) (by rw [kn_w]; decide) (fun i x h => h)
  simp only [List.length_nil, List.nil_append] at hp' ⊢
  rw [kn_1] at hsay ⊢
  obtain ⟨g, rfl, _⟩ := hp_cell hp' 4 _ h4
  refine ⟨rfl, _, _, F', g, c', hp', hlen, h4, by simp only [List.length_nil] at hat; omega, hsay, ?_⟩
  refine ⟨hk.os, hk.tape, hk.output, Nat.le_trans (by simp) hk.size, fun k h1 h2 => ?_⟩
  rw [hk.block k (by simp; omega) (by simpa [gOf] using h2)]
  exact Below.heap_alloc _ _ _ h1

set_option maxHeartbeats 1600000 in
set_option maxRecDepth 100000 in
theorem known4_any (w : World) : Calls Tryz.prog 8 #[] w fun e w' => e = .returned (.bool true) ∧ Below w.heap.size w w' := by
  have NA := hidb (new_any w)
  go_enter Tryz.func8, Tryz.ntmps8
  go_wp2_with (first
    | (go_at_call 11; refine NA.out.mono ?_; rintro e w4 ⟨rfl, hb4, hs4, ht4⟩; have HB4 := hidb hb4; have HT4 := hidb ht4; clear hb4 ht4 hs4)
    | (go_at_call 10; refine (new_heap 100 w.heap.size [w.heap.size] w4 HT4.out (by omega) (by omega)).mono ?_; rintro e w5 ⟨hb, rfl, hge, hp, hb5⟩; have HP5 := hidb hp; have HB5 := hidb (HB4.out.trans (hb5.mono HB4.out.size)); have HGE := hidb (Nat.le_trans HB4.out.size hge); clear hb5 hp hge)
    | (go_at_call 26; refine (kn_store HP5.out).mono ?_; rintro e w6 ⟨rfl, ws, L, F, g, c, hp, hl, h4, hL, hr, hk⟩; have HP6 := hidb hp; have HL6 := hidb hl; have H4 := hidb h4; have HLL := hidb hL; have HR := hidb hr; have HB6 := hidb (HB5.out.trans (kept_below hk HB5.out.size (fun k hk => by have := HGE.out; simp at hk; omega))); clear hp hl h4 hL hr hk)
    | (go_at_call 14; refine (at_in HP6.out 4 _ H4.out).mono ?_; rintro e w' ⟨rfl, hw'⟩; obtain rfl := hw'.symm)
    | (go_at_call 19; refine (load_ok (w5.alloc objK) _ (tK w5.heap.size) 5 HP6.out rfl HLL.out (kn_in w5) (kn_err _) HR.out).mono ?_; rintro e w7 ⟨⟨k7, n7, f7, s7, a7, c7, ks7⟩, rfl, hsm, hin7, hb7⟩; have HB7 := hidb (HB6.out.trans (hb7.mono HB6.out.size)); have HP7 := hidb (HP6.out.keep hb7); have hks : ks7.length = 2 := (by unfold tK Same at hsm; exact (sameAll_len _ _ hsm.2.2.2.2).symm); clear hsm hin7 hb7; simp only [Tr.val, Tr.cells])
    | (go_at_call 22; refine (used_any (HP7.out.keep (below_new _ _))).mono ?_; rw [HL6.out]; rintro e w' ⟨rfl, hw'⟩; obtain rfl := hw'.symm))
  go_ret
  exact ⟨rfl, HB7.out.alloc HB7.out.size _⟩
end Go.Proofs.YtmijabhnbmmmfaaGreat


