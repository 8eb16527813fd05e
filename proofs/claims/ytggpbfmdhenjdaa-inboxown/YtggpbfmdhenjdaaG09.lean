import Derived.Test.YtggpbfmdhenjdaaG08
import Derived.Deep.RegionHeld3
import Derived.Deep.DrawnRows
/- An inbox: its small methods. -/
namespace Go.Proofs.Ytggpbfmdhenjdaa
open Go.RowKit Go.Deep
attribute [local go_sem] store_float f64bits
attribute [local go_sem ↓] Go.wp_at_zero Go.wp_at_succ

abbrev BT : Nat := 53
abbrev GT : Nat := 59

set_option maxRecDepth 100000 in
theorem newB (n : Int) (h1 : 1 ≤ n) (h2 : n ≤ 16777216) (w : World) : Calls Try.prog 7 #[.int .i64 n] w fun e w' => e = .returned (.tuple #[.pointer (some ⟨w.heap.size, 0, none⟩), .int .i64 0]) ∧ w' = w.alloc (.cells #[.pointer none, .pointer none, .pointer none, .int .i64 0, .int .i64 0, .int .i64 n, .int .i64 0] BT) := by
  have e1 : ¬ n < 1 := by omega
  have e2 : ¬ 16777216 < n := by omega
  go_enter Try.func7, Try.ntmps7
  go_wp2
  exact bodyPost_ret (v := .tuple #[.pointer (some ⟨w.heap.size, 0, none⟩), .int .i64 0]) (by simp [results, Try.results7, go_sem]) rfl ⟨rfl, rfl⟩

variable {w : World} {bb place most puts : Nat} {ms : List Msg} {R : Nat → Prop}

theorem lenB (h : BX w bb ms place most puts R) : Calls Try.prog 13 #[.pointer (some ⟨bb, 0, none⟩)] w fun e w' => e = .returned (.int .i64 (ms.length : Int)) ∧ w' = w := by
  have c3 := (h.box.1 3 _ rfl).1
  clear h
  go_enter Try.func13, Try.ntmps13
  go_wp2
  go_ret
  exact ⟨rfl, rfl⟩

theorem wordsB (h : BX w bb ms place most puts R) : Calls Try.prog 18 #[.pointer (some ⟨bb, 0, none⟩)] w fun e w' => e = .returned (.int .i64 (wds ms : Int)) ∧ w' = w := by
  have c4 := (h.box.1 4 _ rfl).1
  clear h
  go_enter Try.func18, Try.ntmps18
  go_wp2
  go_ret
  exact ⟨rfl, rfl⟩

/-- Where join writes. -/
def jA (bb : Nat) (ah : Option Nat) : Addr := match ah with | none => ⟨bb, 0, none⟩ | some x => ⟨x, 1, none⟩
def jB (bb : Nat) (bh : Option Nat) : Addr := match bh with | none => ⟨bb, 1, none⟩ | some x => ⟨x, 0, none⟩

theorem joinB (ah bh : Option Nat) (u v : Value) (h1 : w.cell? (jA bb ah) = some u) (h2 : w.frozen? (jA bb ah) = false) (h3 : w.cell? (jB bb bh) = some v) (h4 : w.frozen? (jB bb bh) = false) (hx : ∀ x, ah = some x → x ≠ bb) (hy : ∀ y, bh = some y → y ≠ bb) :
    Calls Try.prog 32 #[.pointer (some ⟨bb, 0, none⟩), pt ah, pt bh] w fun e w' => e = .returned (.tuple #[]) ∧ w' = (w.setCell (jA bb ah) (pt bh)).setCell (jB bb bh) (pt ah) := by
  have h3' : (w.setCell (jA bb ah) (pt bh)).cell? (jB bb bh) = some v := by
    rw [World.cell?_setCell_other]
    · exact h3
    · cases ah with
      | none => cases bh with
        | none => simp [jA, jB]
        | some y => have := hy y rfl; simp [jA, jB]; try omega
      | some x => cases bh with
        | none => have := hx x rfl; simp [jA, jB]; try omega
        | some y => simp [jA, jB]
  clear hx hy
  cases ah with
  | none =>
    cases bh with
    | none =>
      simp only [jA, jB, pt, Option.map_none] at *
      go_enter Try.func32, Try.ntmps32
      go_wp2
      exact bodyPost_end (by simp [results, Try.results32]) rfl ⟨rfl, rfl⟩
    | some y =>
      simp only [jA, jB, pt, Option.map_none, Option.map_some] at *
      go_enter Try.func32, Try.ntmps32
      go_wp2
      exact bodyPost_end (by simp [results, Try.results32]) rfl ⟨rfl, rfl⟩
  | some x =>
    cases bh with
    | none =>
      simp only [jA, jB, pt, Option.map_none, Option.map_some] at *
      go_enter Try.func32, Try.ntmps32
      go_wp2
      exact bodyPost_end (by simp [results, Try.results32]) rfl ⟨rfl, rfl⟩
    | some y =>
      simp only [jA, jB, pt, Option.map_some] at *
      go_enter Try.func32, Try.ntmps32
      go_wp2
      exact bodyPost_end (by simp [results, Try.results32]) rfl ⟨rfl, rfl⟩

end Go.Proofs.Ytggpbfmdhenjdaa


/- A message more: the blocks. -/
namespace Go.Proofs.Ytggpbfmdhenjdaa
open Go.RowKit Go.Deep

theorem in_set1 {w : World} {t : Tr} {R : Nat → Prop} (h : t.In w 0) (ho : t.On R) {p : Addr} (hp : ¬ R p.block) (v : Value) : t.In (w.setCell p v) 0 :=
  in_on (S := R) (fun b hb => Below.heap_setCell w p v b (fun e => hp (e ▸ hb))) t h ho

theorem hd_snoc (ms : List Msg) (m : Msg) (h : ms ≠ []) : hd (ms ++ [m]) = hd ms := by
  unfold hd
  rw [List.getElem?_append_left (by cases ms with | nil => exact absurd rfl h | cons => simp)]
theorem nxt_snoc (ms : List Msg) (m : Msg) {i : Nat} (h : i + 1 < ms.length) : nxt (ms ++ [m]) i = nxt ms i := by
  unfold nxt
  rw [List.getElem?_append_left (by omega)]

variable {w : World} {bb place most puts : Nat} {ms : List Msg} {R : Nat → Prop}

theorem BX.bump (h : BX w bb ms place most puts R) : BX (w.setCell ⟨bb, 6, none⟩ (.int .i64 ((puts + 1 : Nat) : Int))) bb ms place most (puts + 1) R :=
  ⟨h.box.set (i := 6) (by simp) _, fun i m hm => (h.msg i m hm).other (fun e => h.nb m (List.mem_of_getElem? hm) e.symm) _, h.nd, h.nb,
    fun m hm => ⟨in_set1 (h.tr m hm).1 (h.tr m hm).2 (fun e => (h.far _ e).2.1 rfl) _, (h.tr m hm).2⟩, fun q hq => ⟨by simpa [World.setCell] using (h.far q hq).1, (h.far q hq).2⟩, h.pl⟩

/-- What add has done to the blocks: m behind all. -/
theorem BX.added {m : Msg} {R' : Nat → Prop} (h : BX w bb ms place most puts R) (hm : At w m.b (m.cells none none false)) (hmb : m.b ≠ bb) (hmn : ∀ x : Msg, x ∈ ms → x.b ≠ m.b) (htr : m.t.In w 0 ∧ m.t.On R') (hR : ∀ q, R q → R' q) (hR2 : ∀ q, R' q → q < w.heap.size ∧ q ≠ bb ∧ q ≠ m.b ∧ ∀ x : Msg, x ∈ ms → q ≠ x.b) :
    BX ((((((w.setCell (jA bb (prv ms ms.length)) (pt (some m.b))).setCell ⟨m.b, 0, none⟩ (pt (prv ms ms.length))).setCell ⟨m.b, 1, none⟩ (pt none)).setCell ⟨bb, 1, none⟩ (pt (some m.b))).setCell ⟨bb, 3, none⟩ (.int .i64 ((ms.length + 1 : Nat) : Int))).setCell ⟨bb, 4, none⟩ (.int .i64 ((wds ms + m.wd : Nat) : Int))) bb (ms ++ [m]) place most puts R' := by
  have hbm : bb ≠ m.b := fun e => hmb e.symm
  have hjA : ∀ q, R' q → (jA bb (prv ms ms.length)).block ≠ q := by
    intro q hq
    unfold prv
    split
    · exact fun e => (hR2 q hq).2.1 e.symm
    · cases hl : ms[ms.length - 1]? with
      | none => exact fun e => (hR2 q hq).2.1 e.symm
      | some x => exact fun e => (hR2 q hq).2.2.2 x (List.mem_of_getElem? hl) e.symm
  have tr : ∀ t : Tr, t.In w 0 → t.On R' → t.In ((((((w.setCell (jA bb (prv ms ms.length)) (pt (some m.b))).setCell ⟨m.b, 0, none⟩ (pt (prv ms ms.length))).setCell ⟨m.b, 1, none⟩ (pt none)).setCell ⟨bb, 1, none⟩ (pt (some m.b))).setCell ⟨bb, 3, none⟩ (.int .i64 ((ms.length + 1 : Nat) : Int))).setCell ⟨bb, 4, none⟩ (.int .i64 ((wds ms + m.wd : Nat) : Int))) 0 := by
    intro t h1 h2
    have n1 : ¬ R' m.b := fun e => (hR2 _ e).2.2.1 rfl
    have n2 : ¬ R' bb := fun e => (hR2 _ e).2.1 rfl
    exact in_set1 (in_set1 (in_set1 (in_set1 (in_set1 (in_set1 h1 h2 (fun e => hjA _ e rfl) _) h2 n1 _) h2 n1 _) h2 n2 _) h2 n2 _) h2 n2 _
  have hsz : ((((((w.setCell (jA bb (prv ms ms.length)) (pt (some m.b))).setCell ⟨m.b, 0, none⟩ (pt (prv ms ms.length))).setCell ⟨m.b, 1, none⟩ (pt none)).setCell ⟨bb, 1, none⟩ (pt (some m.b))).setCell ⟨bb, 3, none⟩ (.int .i64 ((ms.length + 1 : Nat) : Int))).setCell ⟨bb, 4, none⟩ (.int .i64 ((wds ms + m.wd : Nat) : Int))).heap.size = w.heap.size := by simp [World.setCell]
  refine ⟨?_, ?_, ?_, ?_, ?_, ?_, ?_⟩
  · rw [prv_snoc ms m h.pl, prv_last, wds_snoc, List.length_append]
    cases hms : ms with
    | nil =>
      have hb := h.box
      rw [hms] at hb
      exact (((((hb.set (i := 0) (by simp) (pt (some m.b))).other hmb _).other hmb _).set (i := 1) (by simp) (pt (some m.b))).set (i := 3) (by simp) (.int .i64 ((0 + 1 : Nat) : Int))).set (i := 4) (by simp) (.int .i64 ((wds [] + m.wd : Nat) : Int))
    | cons y r =>
      rw [← hms]
      have hne : ms ≠ [] := by rw [hms]; simp
      obtain ⟨x, hx⟩ : ∃ x, ms[ms.length - 1]? = some x := ⟨_, List.getElem?_eq_getElem (by rw [hms]; simp)⟩
      have hp : prv ms ms.length = some x.b := by
        unfold prv
        rw [if_neg (by rw [hms]; simp), hx]
        rfl
      have hxb : x.b ≠ bb := h.nb x (List.mem_of_getElem? hx)
      rw [hp, hd_snoc ms m hne]
      have hb := h.box
      rw [hp] at hb
      exact (((((hb.other (p := ⟨x.b, 1, none⟩) hxb _).other hmb _).other hmb _).set (i := 1) (by simp) (pt (some m.b))).set (i := 3) (by simp) (.int .i64 ((ms.length + 1 : Nat) : Int))).set (i := 4) (by simp) (.int .i64 ((wds ms + m.wd : Nat) : Int))
  · intro i y hy
    by_cases hi : i < ms.length
    · rw [List.getElem?_append_left hi] at hy
      have hyb := h.nb y (List.mem_of_getElem? hy)
      have hym := hmn y (List.mem_of_getElem? hy)
      have h0 := h.msg i y hy
      rw [prv_snoc ms m (by omega)]
      by_cases hl : i + 1 = ms.length
      · have hp : prv ms ms.length = some y.b := by
          unfold prv
          rw [if_neg (by omega), show ms.length - 1 = i by omega, hy]
          rfl
        have hn : nxt ms i = none := by unfold nxt; rw [hl]; simp
        have hn2 : nxt (ms ++ [m]) i = some m.b := by unfold nxt; rw [hl]; simp
        rw [hp, hn2]
        rw [hn] at h0
        exact (((((h0.set (i := 1) (by simp [Msg.cells]) (pt (some m.b))).other (fun e => hym e.symm) _).other (fun e => hym e.symm) _).other (fun e => hyb e.symm) _).other (fun e => hyb e.symm) _).other (fun e => hyb e.symm) _
      · rw [nxt_snoc ms m (by omega)]
        have hj : (jA bb (prv ms ms.length)).block ≠ y.b := by
          unfold prv
          rw [if_neg (by omega)]
          cases hx : ms[ms.length - 1]? with
          | none => exact fun e => hyb e.symm
          | some x =>
            intro e
            have e' : x.b = y.b := e
            have n1 : (ms.map Msg.b)[ms.length - 1]? = some x.b := by simp [hx]
            have n2 : (ms.map Msg.b)[i]? = some y.b := by simp [hy]
            have l1 := (List.getElem?_eq_some_iff.1 n1)
            have l2 := (List.getElem?_eq_some_iff.1 n2)
            have := (List.getElem_inj (h₀ := l1.1) (h₁ := l2.1) h.nd).1 (l1.2.trans (e'.trans l2.2.symm))
            omega
        exact (((((h0.other hj _).other (fun e => hym e.symm) _).other (fun e => hym e.symm) _).other (fun e => hyb e.symm) _).other (fun e => hyb e.symm) _).other (fun e => hyb e.symm) _
    · have hil : i = ms.length := by have := (List.getElem?_eq_some_iff.1 hy).1; simp at this; omega
      subst hil
      simp at hy
      subst hy
      rw [prv_snoc ms m (Nat.le_refl _)]
      have hj : (jA bb (prv ms ms.length)).block ≠ m.b := by
        unfold prv
        split
        · exact hbm
        · cases hx : ms[ms.length - 1]? with
          | none => exact hbm
          | some x => exact hmn x (List.mem_of_getElem? hx)
      have hn : nxt (ms ++ [m]) ms.length = none := by simp [nxt]
      rw [hn]
      exact (((((hm.other hj _).set (i := 0) (by simp [Msg.cells]) (pt (prv ms ms.length))).set (i := 1) (by simp [Msg.cells]) (pt none)).other hbm _).other hbm _).other hbm _
  · rw [List.map_append, List.nodup_append]
    refine ⟨h.nd, by simp, ?_⟩
    intro a ha b hb e
    obtain ⟨x, hx, rfl⟩ := List.mem_map.1 ha
    simp at hb
    exact hmn x hx (e.trans hb)
  · intro y hy
    rcases List.mem_append.1 hy with hy | hy
    · exact h.nb y hy
    · simp at hy; rw [hy]; exact hmb
  · intro y hy
    rcases List.mem_append.1 hy with hy | hy
    · have o := on_mono hR _ (h.tr y hy).2
      exact ⟨tr _ (h.tr y hy).1 o, o⟩
    · simp at hy; subst hy; exact ⟨tr _ htr.1 htr.2, htr.2⟩
  · intro q hq
    obtain ⟨a1, a2, a3, a4⟩ := hR2 q hq
    refine ⟨by rw [hsz]; exact a1, a2, fun y hy => ?_⟩
    rcases List.mem_append.1 hy with hy | hy
    · exact a4 y hy
    · simp at hy; rw [hy]; exact a3
  · have := h.pl; simp; omega
end Go.Proofs.Ytggpbfmdhenjdaa


