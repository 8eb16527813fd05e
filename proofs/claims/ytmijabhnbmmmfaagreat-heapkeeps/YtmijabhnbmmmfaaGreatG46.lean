import Derived.Test.YtmijabhnbmmmfaaGreatG45
import Derived.Laws.MakeOwn
/- All right terms are held, also by a gauge that keeps what it has seen. -/
namespace Go.Proofs.YtmijabhnbmmmfaaGreat
open Go.RowKit Go.Deep
attribute [local go_sem] store_float f64bits f64frombits
attribute [local go_sem ↓] Go.wp_at_zero Go.wp_at_succ

section
variable {hb ab most gb sb : Nat} {ws : List Int} {L : List ByteArray} {F : List Nat} {a : Option Addr} {c g : Nat}

set_option maxRecDepth 100000 in
theorem rep_ovS (cx : CxS hb ab most gb sb ws L F a c g) : ∀ t : Tr, allT smF t = true → Fine t → ∀ u d, 1 ≤ d → Rep ws L t u → d + deepN t ≤ 201 → OvS hb ab most gb sb ws L F a c u d (deepN t) (wN t) := by
  refine Tr.ind fun k n f s a' c' kids hk hin hfi u d hd1 h hd => ?_
  have hrep := h
  have hg := hfi.1
  have hwn := hfi.2
  have hL := cx.hL
  have hwn0 := hwn
  simp only [allT, Bool.and_eq_true] at hg hin
  obtain ⟨hg1, hg2⟩ := hg
  have hf : f < 18446744073709551616 := by have := hin.1; simpa [smF] using this
  have hkids : ∀ t, t ∈ kids → ∀ u d, 1 ≤ d → Rep ws L t u → d + deepN t ≤ 201 → OvS hb ab most gb sb ws L F a c u d (deepN t) (wN t) := by
    intro t ht
    exact hk t ht (good_kids hin.2 ht) ((fine_kids hfi).2.2 t ht)
  unfold Rep at h
  simp only [wN] at hwn
  by_cases c1 : k = 1
  · rw [if_pos c1] at h
    subst c1 h
    simp [goodT] at hg1
    obtain ⟨hs0, hl0, ⟨_, hw, hf0⟩ | ⟨hq, _⟩⟩ := rightB_cases0 hg1
    · have e0 : kids = [] := List.length_eq_zero_iff.1 hl0
      subst e0 hf0
      obtain rfl := empty_of hs0
      have hb' := whB_yes hw
      obtain ⟨m1, m2, m3, m4, m5⟩ := of_made (t := 1) (b := n) (by decide) (by decide) (by simp [mayB]; omega)
      have dd : deepN (.mk 1 n 0 ⟨#[]⟩ a' c' []) = 1 := by simp [deepN, deepNs]
      have ww : wN (.mk 1 n 0 ⟨#[]⟩ a' c' []) = 0 := by simp [wN]
      rw [dd] at hd ⊢
      rw [ww]
      exact ovS_alone m3 m4 m5 (by omega) (by unfold aloneB; rw [m1]; rfl) (by omega)
    · omega
  rw [if_neg c1] at h hwn
  by_cases c6 : k = 6
  · rw [if_pos c6] at h
    subst c6 h
    simp [goodT] at hg1
    have e0 : kids = [] := hg1.2.2
    have hf0 := hg1.2.1.1
    subst e0 hf0
    obtain rfl := empty_of (s := s) (by simpa using hg1.2.1.2)
    obtain ⟨m1, m2, m3, m4, m5⟩ := of_made (t := 3) (b := n) (by decide) (by decide) (by simp [mayB]; omega)
    have dd : deepN (.mk 6 n 0 ⟨#[]⟩ a' c' []) = 1 := by simp [deepN, deepNs]
    have ww : wN (.mk 6 n 0 ⟨#[]⟩ a' c' []) = 0 := by simp [wN]
    rw [dd] at hd ⊢
    rw [ww]
    exact ovS_alone m3 m4 m5 (by omega) (by unfold aloneB; rw [m1]; rfl) (by omega)
  rw [if_neg c6] at h hwn
  by_cases c3 : k = 3
  · rw [if_pos c3] at h
    obtain ⟨i, rfl, hi⟩ := h
    subst c3
    simp [goodT] at hg1
    have e0 : kids = [] := hg1.2.2
    have hf0 := hg1.2.1.1
    have hn0 := hg1.2.1.2
    subst e0 hf0 hn0
    have hil := get_lt hi
    obtain ⟨m1, m2, m3, m4, m5⟩ := of_made (t := 2) (b := (i : Int)) (by decide) (by decide) (by simp [mayB]; omega)
    have dd : deepN (.mk 3 0 0 s a' c' []) = 1 := by simp [deepN, deepNs]
    have ww : wN (.mk 3 0 0 s a' c' []) = 0 := by simp [wN]
    rw [dd] at hd ⊢
    rw [ww]
    exact ovS_alone m3 m4 m5 (by omega) (by unfold aloneB; rw [m1, m2]; simp [txIs]; omega) (by omega)
  rw [if_neg c3] at h hwn
  by_cases c8 : k = 8
  · rw [if_pos c8] at h hwn
    subst c8
    simp [goodT] at hg1
    obtain ⟨⟨rfl, rfl⟩, hs0⟩ := hg1
    obtain rfl := empty_of (s := s) (by simpa using hs0)
    have dd : deepN (.mk 8 0 0 ⟨#[]⟩ a' c' kids) = deepL kids := by simp only [deepN, deepL_is]
    have ww : wN (.mk 8 0 0 ⟨#[]⟩ a' c' kids) = 2 * kids.length + wAll kids := by simp [wN]
    rw [dd] at hd ⊢
    rw [ww]
    have hf8 : Fine (.mk 8 0 0 ⟨#[]⟩ none 0 kids) := by
      have e1 : goodT (.mk 8 0 0 ⟨#[]⟩ none 0 kids) = true := by simp [goodT, ByteArray.toList_eq]
      refine ⟨by simp only [allT, e1, hg2, Bool.and_self], ?_⟩
      have : wN (.mk 8 0 0 ⟨#[]⟩ none 0 kids) = 2 * kids.length + wAll kids := by simp [wN]
      omega
    exact ovS_list cx kids hkids u d hd1 h hf8 hd
  rw [if_neg c8] at h hwn
  obtain ⟨p, rfl, hp, hfr, hra⟩ := h
  have hfl : (front k n f kids.length).length = frN k := by
    unfold front frN
    by_cases c2 : k = 2
    · simp [c2]
    by_cases c4 : k = 4
    · simp [c4]
    by_cases c5 : k = 5
    · simp [c5]
    have c7 : k = 7 := by
      simp only [goodT, c1, c2, c3, c4, c5, c6, c8, or_self, if_false] at hg1
      by_cases h : k = 7
      · exact h
      · simp [h] at hg1
    simp [c7]
  have hplen : p + frN k ≤ ws.length := by
    have : frN k - 1 < (front k n f kids.length).length := by rw [hfl]; unfold frN; split <;> omega
    have := get_lt (hfr (frN k - 1) _ (List.getElem?_eq_getElem this))
    have : 1 ≤ frN k := by unfold frN; split <;> omega
    omega
  have hlen := all_len kids (p + (front k n f kids.length).length) hra (by rw [hfl]; exact hplen)
  rw [hfl] at hra hlen hwn
  have hkk := hkids
  have hdd : d + deepNs kids 1 ≤ 201 := by simpa only [deepN] using hd
  have hwv : wN (.mk k n f s a' c' kids) = frN k + kids.length + wAll kids := by
    simp only [wN]
    rw [if_neg c1, if_neg c6, if_neg c3, if_neg c8, hfl]
  by_cases c2 : k = 2
  · subst c2
    simp [goodT] at hg1
    obtain ⟨hs0, hl0, ⟨hq, _⟩ | ⟨_, hn0, hfin⟩⟩ := rightB_cases0 hg1
    · omega
    have e0 : kids = [] := List.length_eq_zero_iff.1 hl0
    subst e0 hn0
    obtain rfl := empty_of hs0
    have hx := hfr 1 (f : Int) rfl
    exact ovS_box cx 2 0 f p 1 2 [] rfl rfl (by omega) (hfr 0 _ rfl) (by simpa [frN] using hlen) rfl rfl hf (by decide) (by decide) (fun w hp' => by
      obtain ⟨g', e', _, _, hc⟩ := hp_cell hp' (p + 1) (f : Int) hx
      rw [cx.ha] at e'
      obtain rfl : g = g' := by simpa using e'
      exact bare_2 g p 2 f w (by omega) (hc w (Below.refl _ _))) (bare_err (by simp [goodT, rightB, hfin]) (by decide)) hp hra hkk d hd1 hdd hfi hrep (by simpa [frN] using hwv)
  by_cases c4 : k = 4
  · subst c4
    simp [goodT] at hg1
    have e0 : kids = [] := hg1.2.2
    subst e0
    have hx := hfr 1 n rfl
    have hn := hg1.1
    have hf0 := hg1.2.1.1
    subst hf0
    obtain rfl := empty_of (s := s) (by simpa using hg1.2.1.2)
    exact ovS_box cx 4 n 0 p 1 2 [] rfl rfl (by omega) (hfr 0 _ rfl) (by simpa [frN] using hlen) rfl rfl (by omega) (wf64 (by omega) (by omega)) (by decide) (fun w hp' => by
      obtain ⟨g', e', _, _, hc⟩ := hp_cell hp' (p + 1) n hx
      rw [cx.ha] at e'
      obtain rfl : g = g' := by simpa using e'
      exact bare_n 4 (Or.inl rfl) g p 2 n w (by omega) hn.1 hn.2 (hc w (Below.refl _ _))) (bare_err (by simp [goodT]; exact hn) (by decide)) hp hra hkk d hd1 hdd hfi hrep (by simpa [frN] using hwv)
  by_cases c5 : k = 5
  · subst c5
    simp [goodT] at hg1
    have hx := hfr 1 n rfl
    have hn := hg1.1
    have hf0 := hg1.2.1
    subst hf0
    obtain rfl := empty_of (s := s) (by simpa using hg1.2.2)
    exact ovS_box cx 5 n 0 p kids.length 2 kids rfl rfl (by simp [frN] at hwn; omega) (hfr 0 _ rfl) (by simp [frN] at hlen; omega) (by simp [lnN]) (by simp [lnB]) (by omega) (wf64 (by omega) (by omega)) (by decide) (fun w hp' => by
      obtain ⟨g', e', _, _, hc⟩ := hp_cell hp' (p + 1) n hx
      rw [cx.ha] at e'
      obtain rfl : g = g' := by simpa using e'
      exact bare_n 5 (Or.inr rfl) g p (2 + kids.length) n w (by omega) hn.1 (by omega) (hc w (Below.refl _ _))) (bare_err (by simp [goodT]; omega) (by decide)) hp hra hkk d hd1 hdd hfi hrep (by simpa [frN] using hwv)
  have c7 : k = 7 := by
    simp only [goodT, c1, c2, c3, c4, c5, c6, c8, or_self, if_false] at hg1
    by_cases h : k = 7
    · exact h
    · simp [h] at hg1
  subst c7
  simp [goodT] at hg1
  obtain ⟨⟨rfl, rfl⟩, hs0⟩ := hg1
  obtain rfl := empty_of (s := s) (by simpa using hs0)
  exact ovS_box cx 7 0 0 p kids.length 1 kids rfl rfl (by simp [frN] at hwn; omega) (hfr 0 _ rfl) (by simp [frN] at hlen; omega) (by simp [lnN]) (by simp [lnB]) (by omega) (by decide) (by decide) (fun w hp' => bare_7 _ w) (bare_err (by simp [goodT]) (by decide)) hp hra hkk d hd1 hdd hfi hrep (by simpa [frN] using hwv)

end
end Go.Proofs.YtmijabhnbmmmfaaGreat


/- holdsAll. -/
namespace Go.Proofs.YtmijabhnbmmmfaaGreat
open Go.RowKit Go.Deep
attribute [local go_sem] store_float f64bits f64frombits
attribute [local go_sem ↓] Go.wp_at_zero Go.wp_at_succ

/-- A term that a word says, right and not too great. -/
abbrev Good (ws : List Int) (L : List ByteArray) (t : Tr) (u : Int) : Prop := allT smF t = true ∧ Fine t ∧ deepN t ≤ 200 ∧ Rep ws L t u

theorem ovS_empty {hb ab most gb sb : Nat} {ws : List Int} {L : List ByteArray} {F : List Nat} {a : Option Addr} {c d : Nat} (he : ws = []) (hL : L.length ≤ 100000) (t : Tr) (hg : allT goodT t = true) (u : Int) (h : Rep ws L t u) (hd : d ≤ 200) : OvS hb ab most gb sb ws L F a c u d (deepN t) (wN t) := by
  obtain ⟨k, n, f, s, a', c', kids⟩ := t
  simp only [allT, Bool.and_eq_true] at hg
  have hg1 := hg.1
  have fin : kids = [] → (k = 1 ∨ k = 3 ∨ k = 6 ∨ k = 8) → OvS hb ab most gb sb ws L F a c u d 1 0 → OvS hb ab most gb sb ws L F a c u d (deepN (.mk k n f s a' c' kids)) (wN (.mk k n f s a' c' kids)) := by
    intro e hk ho
    subst e
    have dd : deepN (.mk k n f s a' c' []) = 1 := by simp [deepN, deepNs]
    have ww : wN (.mk k n f s a' c' []) = 0 := by rcases hk with rfl | rfl | rfl | rfl <;> simp [wN, wAll]
    rw [dd, ww]
    exact ho
  unfold Rep at h
  by_cases c1 : k = 1
  · rw [if_pos c1] at h
    subst c1 h
    simp [goodT] at hg1
    obtain ⟨hs0, hl0, ⟨_, hw, hf0⟩ | ⟨hq, _⟩⟩ := rightB_cases0 hg1
    · have hb' := whB_yes hw
      obtain ⟨m1, m2, m3, m4, m5⟩ := of_made (t := 1) (b := n) (by decide) (by decide) (by simp [mayB]; omega)
      exact fin (List.length_eq_zero_iff.1 hl0) (by simp) (ovS_alone m3 m4 m5 (by omega) (by unfold aloneB; rw [m1]; rfl) hd)
    · omega
  rw [if_neg c1] at h
  by_cases c6 : k = 6
  · rw [if_pos c6] at h
    subst c6 h
    simp [goodT] at hg1
    obtain ⟨m1, m2, m3, m4, m5⟩ := of_made (t := 3) (b := n) (by decide) (by decide) (by simp [mayB]; omega)
    exact fin hg1.2.2 (by simp) (ovS_alone m3 m4 m5 (by omega) (by unfold aloneB; rw [m1]; rfl) hd)
  rw [if_neg c6] at h
  by_cases c3 : k = 3
  · rw [if_pos c3] at h
    obtain ⟨i, rfl, hi⟩ := h
    subst c3
    simp [goodT] at hg1
    have hil := get_lt hi
    obtain ⟨m1, m2, m3, m4, m5⟩ := of_made (t := 2) (b := (i : Int)) (by decide) (by decide) (by simp [mayB]; omega)
    exact fin hg1.2.2 (by simp) (ovS_alone m3 m4 m5 (by omega) (by unfold aloneB; rw [m1, m2]; simp [txIs]; omega) hd)
  rw [if_neg c3] at h
  by_cases c8 : k = 8
  · rw [if_pos c8] at h
    cases kids with
    | nil => unfold RepL at h; subst h; exact fin rfl (by simp [c8]) (ovS_nil hd)
    | cons t r =>
      unfold RepL at h
      obtain ⟨p, _, _, ⟨x, hx, _⟩, _⟩ := h
      rw [he] at hx
      simp at hx
  rw [if_neg c8] at h
  obtain ⟨p, _, _, hfr, _⟩ := h
  have h0 : 0 < (front k n f kids.length).length := by
    unfold front
    repeat' split
    all_goals simp
  have := hfr 0 _ (List.getElem?_eq_getElem h0)
  rw [he] at this
  simp at this

set_option maxHeartbeats 1000000 in
theorem holds_s {hb ab most gb sb : Nat} {ws : List Int} {L : List ByteArray} {F : List Nat} {a : Option Addr} {c D N W : Nat} {S : Sn} {u : Int} (w : World) (hp : HP w hb ab most ws L F a c) (hg : GS w gb hb sb ws.length W S) (hs : SeenOk ws L S) (hgh : gb ≠ hb) (hgF : gb ∉ F) (hgg : ∀ g, a = some ⟨g, 0, none⟩ → gb ≠ g) (h : OvS hb ab most gb sb ws L F a c u 1 D N) (hD : 0 < D) (hN : N ≤ 65536) :
    Calls Tryz.prog 37 #[.pointer (some ⟨gb, 0, none⟩), .int .u64 u] w fun e w' => e = .returned (.bool true) ∧ (∃ W' S', GS w' gb hb sb ws.length W' S' ∧ SeenOk ws L S') ∧ But (GB gb sb) w w' := by
  have hg2 := hg.count 0
  have hb2 : But (GB gb sb) w (w.setCell ⟨gb, 1, none⟩ (.int .i64 ((0 : Nat) : Int))) := (But.refl (GB gb sb) w).setCell (p := ⟨gb, 1, none⟩) (fun _ => .inl rfl) _
  have hb3 : But (· = gb) w (w.setCell ⟨gb, 1, none⟩ (.int .i64 ((0 : Nat) : Int))) := (But.refl (· = gb) w).setCell (p := ⟨gb, 1, none⟩) (fun _ => rfl) _
  have OV := hidb (h 0 S _ (hp.but hb3 (fun e => hgh e.symm) (fun x hx e => hgF (e ▸ hx)) (fun g hg' e => hgg g hg' e.symm)) hg2 hs (by omega))
  have HB2 := hidb hb2
  obtain ⟨c0, c1, c2, f0, f1, f2, hlt⟩ := hg.tri
  clear hp h hg2 hb2 hb3 hg hs
  have hDD : (0 : Int) < (D : Int) := by omega
  go_enter Tryz.func37, Tryz.ntmps37
  go_wp2_with fail
  refine OV.out.mono ?_
  rintro e w1 ⟨rfl, ⟨S', hs1⟩, hb1⟩
  have HB := hidb (HB2.out.trans hb1)
  have HS1 := hidb hs1
  clear hb1 OV hs1
  go_wp2
  go_ret
  exact ⟨rfl, ⟨_, S', HS1.out⟩, HB.out⟩

/-- A row of words in memory. -/
structure Rts (w : World) (ra : Option Addr) (us : List Int) : Prop where
  at_ : 0 < us.length → ∃ b o, ra = some ⟨b, o, none⟩ ∧ b < w.heap.size ∧ ∀ (j : Nat) (u : Int), us[j]? = some u → w.cell? ⟨b, o + j, none⟩ = some (.int .u64 u)

theorem infoK : (Tryz.prog.info? 167).map (fun i => (i.zero.map Value.cells, i.size, i.bytes)) = some (some #[.int .u64 0, .int .i32 0, .int .i32 0], 3, 16) := by kernel_rfl

theorem made_known (N : Nat) (hN : N ≤ 16777216) (w : World) : (Instr.makeSlice 101 (.int .i64 (N : Int)) (.int .i64 (N : Int))).run Tryz.prog w = .ok (.slice (some ⟨w.heap.size, 0, none⟩) N N) (w.alloc (.cells (madeCells #[.int .u64 0, .int .i32 0, .int .i32 0] (N * 3)) 167)) := by
  have h := infoK
  cases hi : Tryz.prog.info? 167 with
  | none => rw [hi] at h; simp at h
  | some i =>
    rw [hi] at h
    simp only [Option.map_some, Option.some.injEq, Prod.mk.injEq] at h
    obtain ⟨h1, h2, h3⟩ := h
    cases hz : i.zero with
    | none => rw [hz] at h1; simp at h1
    | some z =>
      rw [hz] at h1
      simp only [Option.map_some, Option.some.injEq] at h1
      have := run_make (P := Tryz.prog) w 101 167 i z Tryz.underlying101 hi hz .i64 .i64 (N : Int) (N : Int) (by omega) (by omega) (by rw [h3]; omega) (by omega)
      rw [h1, h2] at this
      simpa using this

theorem GS.made {w : World} {hb N : Nat} {t t' : TypeId} : GS ((w.alloc (.cells (madeCells #[.int .u64 0, .int .i32 0, .int .i32 0] (N * 3)) t)).alloc (.cells #[.pointer (some ⟨hb, 0, none⟩), .int .i64 0, .slice (some ⟨w.heap.size, 0, none⟩) N N] t')) (w.heap.size + 1) hb w.heap.size N 0 (fun _ => (0, 0, 0)) := by
  have e1 : (w.alloc (.cells (madeCells #[.int .u64 0, .int .i32 0, .int .i32 0] (N * 3)) t)).heap.size = w.heap.size + 1 := by simp
  have tr := Tri.new (w.alloc (.cells (madeCells #[.int .u64 0, .int .i32 0, .int .i32 0] (N * 3)) t)) t' (.pointer (some ⟨hb, 0, none⟩)) (.int .i64 0) (.slice (some ⟨w.heap.size, 0, none⟩) N N)
  rw [e1] at tr
  refine ⟨tr, fun j hj => ?_, by simp; omega, by omega⟩
  have hlt : w.heap.size < (w.alloc (.cells (madeCells #[.int .u64 0, .int .i32 0, .int .i32 0] (N * 3)) t)).heap.size := by simp
  have m0 : j * 3 < N * 3 := by omega
  have m1 : j * 3 + 1 < N * 3 := by omega
  have m2 : j * 3 + 2 < N * 3 := by omega
  have q0 : j * 3 % 3 = 0 := by omega
  have q1 : (j * 3 + 1) % 3 = 1 := by omega
  have q2 : (j * 3 + 2) % 3 = 2 := by omega
  refine ⟨?_, ?_, ?_, ?_, ?_, ?_⟩
  · rw [World.cell?_alloc_lt _ _ _ hlt, World.cell?_alloc_new]; simp [madeCells, m0, q0]
  · rw [World.cell?_alloc_lt _ _ _ hlt, World.cell?_alloc_new]; simp [madeCells, m1, q1]
  · rw [World.cell?_alloc_lt _ _ _ hlt, World.cell?_alloc_new]; simp [madeCells, m2, q2]
  · rw [(below_new _ _).frozen hlt]; exact World.frozen?_alloc_new _ _ _ _
  · rw [(below_new _ _).frozen hlt]; exact World.frozen?_alloc_new _ _ _ _
  · rw [(below_new _ _).frozen hlt]; exact World.frozen?_alloc_new _ _ _ _

set_option maxHeartbeats 1600000 in
set_option maxRecDepth 100000 in
theorem holdsAll_ok {hb ab most : Nat} {ws : List Int} {L : List ByteArray} {F : List Nat} {a : Option Addr} {c : Nat} {ra : Option Addr} {rc : Nat} {us : List Int} (w : World) (hp : HP w hb ab most ws L F a c) (hL : L.length ≤ 100000) (hru : Rts w ra us) (hul : us.length ≤ 1000000) (hok : ∀ u, u ∈ us → ∃ t, Good ws L t u) :
    Calls Tryz.prog 55 #[.pointer (some ⟨hb, 0, none⟩), .slice ra us.length rc] w fun e w' => e = .returned (.bool true) ∧ Below w.heap.size w w' := by
  have hws : ws.length ≤ 16777216 := Nat.le_trans hp.fits hp.small
  have hlt := hp.tri.lt
  have hFlt := hp.tab.lt
  have hglt : ∀ g, a = some ⟨g, 0, none⟩ → g < w.heap.size := by
    intro g ha
    rcases hp.row with ⟨e, _⟩ | ⟨g', cs, e, _, _, _, h4⟩
    · rw [ha] at e; cases e
    · rw [ha] at e
      obtain rfl : g = g' := by simpa using e
      exact h4
  have hA : ws = [] ∨ ∃ g, a = some ⟨g, 0, none⟩ := by
    rcases hp.row with ⟨_, _, e⟩ | ⟨g, cs, e, _⟩
    · exact Or.inl e
    · exact Or.inr ⟨g, e⟩
  have OV := hidb (fun u (hu : u ∈ us) => show ∃ D N, 0 < D ∧ N ≤ 65536 ∧ OvS hb ab most (w.heap.size + 1) w.heap.size ws L F a c u 1 D N from by
    obtain ⟨t, g1, g2, g3, g4⟩ := hok u hu
    refine ⟨deepN t, wN t, deepN_pos t, g2.2, ?_⟩
    rcases hA with e | ⟨g, ha⟩
    · exact ovS_empty e hL t g2.1 u g4 (by omega)
    · have := hglt g ha
      exact rep_ovS ⟨ha, by omega, fun h => by have := hFlt _ h; omega, by omega, by omega, fun h => by have := hFlt _ h; omega, by omega, hL, hws⟩ t g1 g2 u 1 (by omega) g4 (by omega))
  have hmk := made_known ws.length hws
  have HS1 := hidb (show w.heap.size + 1 ≠ hb ∧ w.heap.size + 1 ∉ F ∧ ∀ g, a = some ⟨g, 0, none⟩ → w.heap.size + 1 ≠ g from ⟨by omega, fun h => by have := hFlt _ h; omega, fun g e => by have := hglt g e; omega⟩)
  have HPB := hidb (fun w' (hbt : But (GB (w.heap.size + 1) w.heap.size) w w') => hp.but hbt (fun e => e.elim (fun e => by omega) (fun e => by omega)) (fun x hx e => e.elim (fun e => by have := hFlt x hx; omega) (fun e => by have := hFlt x hx; omega)) (fun g hg' e => e.elim (fun e => by have := hglt g hg'; omega) (fun e => by have := hglt g hg'; omega)))
  obtain ⟨c0, c1, c2, f0, f1, f2, -⟩ := hp.tri
  have HRU := hidb hru
  clear hp hlt hFlt hglt hA hok hru
  go_enter Tryz.func55, Tryz.ntmps55
  go_wp2_with fail
  have HG0 := hidb (GS.made (w := w) (hb := hb) (N := ws.length) (t := 167) (t' := 103))
  have HB0 := hidb (show Below w.heap.size w _ from (below_new w (.cells (madeCells #[.int .u64 0, .int .i32 0, .int .i32 0] (ws.length * 3)) 167)).alloc (by simp) (.cells #[.pointer (some ⟨hb, 0, none⟩), .int .i64 0, .slice (some ⟨w.heap.size, 0, none⟩) ws.length ws.length] 103))
  generalize ((w.alloc (.cells (madeCells #[.int .u64 0, .int .i32 0, .int .i32 0] (ws.length * 3)) 167)).alloc (.cells #[.pointer (some ⟨hb, 0, none⟩), .int .i64 0, .slice (some ⟨w.heap.size, 0, none⟩) ws.length ws.length] 103)) = W0 at *
  clear hmk c0 c1 c2 f0 f1 f2
  go_loopw [18] (fun iv wr => ∃ (m W' : Nat) (S' : Sn), m ≤ us.length ∧ iv = .int .i64 m ∧ GS wr (w.heap.size + 1) hb w.heap.size ws.length W' S' ∧ SeenOk ws L S' ∧ But (GB (w.heap.size + 1) w.heap.size) w wr) (fun iv _ => us.length - (intOf iv).toNat)
  case atStart => exact ⟨0, 0, _, by omega, rfl, HG0.out, fun j => Or.inl rfl, But.of_below HB0.out⟩
  case round =>
  obtain ⟨m, W', S', hm, rfl, hgs, hso, hbt⟩ := hrel
  have HGS := hidb hgs
  have HSO := hidb hso
  have HBT := hidb hbt
  clear hgs hso hbt HG0
  by_cases hml : m < us.length
  · have hmb : (m : Int) < (us.length : Int) := by omega
    have hmz : (0 : Int) ≤ (m : Int) := by omega
    obtain ⟨b, o, rfl, hbl, hcell⟩ := HRU.out.at_ (by omega)
    obtain ⟨u, hu⟩ : ∃ u, us[m]? = some u := ⟨_, List.getElem?_eq_getElem hml⟩
    have v0 := (HBT.out.cell (p := ⟨b, o + m, none⟩) hbl (fun e => e.elim (fun e => by simp only at e; omega) (fun e => by simp only at e; omega))).trans (hcell m u hu)
    obtain ⟨D, N, hD, hN, hov⟩ := OV.out u (List.mem_of_getElem? hu)
    have HO := hidb (holds_s wr (HPB.out wr HBT.out) HGS.out HSO.out HS1.out.1 HS1.out.2.1 HS1.out.2.2 hov hD hN)
    clear hcell hu hov hbl
    go_wp2_with (go_at_call 37; refine HO.out.mono ?_; rintro e wz ⟨rfl, ⟨W2, S2, hq1, hq2⟩, hq3⟩; have HQ1 := hidb hq1; have HQ2 := hidb hq2; have HQ3 := hidb (HBT.out.trans hq3); clear hq1 hq2 hq3)
    go_roundw
    case rel => exact ⟨m + 1, W2, S2, by omega, by go_num, HQ1.out, HQ2.out, HQ3.out⟩
    case measure => simp [intOf]; omega
  · have hmn : ¬ (m : Int) < (us.length : Int) := by omega
    go_wp2_with fail
    go_ret
    exact ⟨rfl, HBT.out.below (Nat.le_refl _) (fun k e => e.elim (fun e => by omega) (fun e => by omega))⟩
end Go.Proofs.YtmijabhnbmmmfaaGreat


