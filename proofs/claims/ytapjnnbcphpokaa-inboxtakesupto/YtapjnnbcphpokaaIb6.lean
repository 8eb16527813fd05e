/- A message less: the blocks. -/
import Derived.Test.YtapjnnbcphpokaaIb5
namespace Go.Proofs.Ytapjnnbcphpokaa
open Go.RowKit Go.Deep
variable {w : World} {bb place most puts : Nat} {ms : List Msg} {R : Nat → Prop}

theorem BX.apart (h : BX w bb ms place most puts R) {i j : Nat} {x y : Msg} (hi : ms[i]? = some x) (hj : ms[j]? = some y) (hne : i ≠ j) : x.b ≠ y.b := by
  intro e
  have n1 : (ms.map Msg.b)[i]? = some x.b := by simp [hi]
  have n2 : (ms.map Msg.b)[j]? = some y.b := by simp [hj]
  have l1 := (List.getElem?_eq_some_iff.1 n1)
  have l2 := (List.getElem?_eq_some_iff.1 n2)
  exact hne ((List.getElem_inj (h₀ := l1.1) (h₁ := l2.1) h.nd).1 (l1.2.trans (e.trans l2.2.symm)))

theorem wds_erase : ∀ (ms : List Msg) (i : Nat) (m : Msg), ms[i]? = some m → wds (ms.eraseIdx i) + m.wd = wds ms
  | [], i, m, h => by simp at h
  | x :: r, 0, m, h => by simp at h; subst h; simp [wds]; omega
  | x :: r, i + 1, m, h => by
    have := wds_erase r i m (by simpa using h)
    simp [wds]
    omega

/-- The neighbours: none, or messages. -/
theorem prv_cases (ms : List Msg) (i : Nat) : (prv ms i = none ∧ (i = 0 ∨ ms.length ≤ i - 1)) ∨ ∃ x, 0 < i ∧ ms[i - 1]? = some x ∧ prv ms i = some x.b := by
  unfold prv
  by_cases h : i = 0
  · exact .inl ⟨by rw [if_pos h], .inl h⟩
  · rw [if_neg h]
    cases hx : ms[i - 1]? with
    | none => exact .inl ⟨rfl, .inr (by simpa using hx)⟩
    | some x => exact .inr ⟨x, by omega, rfl, rfl⟩
theorem nxt_cases (ms : List Msg) (i : Nat) : (nxt ms i = none ∧ ms.length ≤ i + 1) ∨ ∃ x, ms[i + 1]? = some x ∧ nxt ms i = some x.b := by
  unfold nxt
  cases hx : ms[i + 1]? with
  | none => exact .inl ⟨rfl, by simpa using hx⟩
  | some x => exact .inr ⟨x, rfl, rfl⟩

theorem er_lt (ms : List Msg) {i j : Nat} (h : j < i) : (ms.eraseIdx i)[j]? = ms[j]? := by rw [List.getElem?_eraseIdx, if_pos h]
theorem er_ge (ms : List Msg) {i j : Nat} (h : i ≤ j) : (ms.eraseIdx i)[j]? = ms[j + 1]? := by rw [List.getElem?_eraseIdx, if_neg (by omega)]
theorem prv_er_le (ms : List Msg) {i j : Nat} (h : j ≤ i) : prv (ms.eraseIdx i) j = prv ms j := by
  unfold prv
  split
  · rfl
  · rw [er_lt _ (by omega)]
theorem prv_er_gt (ms : List Msg) {i j : Nat} (h : i < j) : prv (ms.eraseIdx i) j = prv ms (j + 1) := by
  unfold prv
  rw [if_neg (by omega), if_neg (by omega), er_ge _ (by omega), show j - 1 + 1 = j + 1 - 1 by omega]
theorem nxt_er_lt (ms : List Msg) {i j : Nat} (h : j + 1 < i) : nxt (ms.eraseIdx i) j = nxt ms j := by unfold nxt; rw [er_lt _ h]
theorem nxt_er_ge (ms : List Msg) {i j : Nat} (h : i ≤ j + 1) : nxt (ms.eraseIdx i) j = nxt ms (j + 1) := by unfold nxt; rw [er_ge _ h]

/-- What the blocks are behind remove. -/
def rmW (w : World) (bb : Nat) (ms : List Msg) (i : Nat) (m : Msg) : World :=
  ((((w.setCell (jA bb (prv ms i)) (pt (nxt ms i))).setCell (jB bb (nxt ms i)) (pt (prv ms i))).setCell ⟨bb, 3, none⟩ (.int .i64 ((ms.length - 1 : Nat) : Int))).setCell ⟨bb, 4, none⟩ (.int .i64 ((wds ms - m.wd : Nat) : Int))).setCell ⟨m.b, 9, none⟩ (.bool true)

set_option maxHeartbeats 1000000 in
theorem BX.erased (h : BX w bb ms place most puts R) {i : Nat} {m : Msg} (hm : ms[i]? = some m) (hpl : place ≤ i) : BX (rmW w bb ms i m) bb (ms.eraseIdx i) place most puts R := by
  have hil : i < ms.length := (List.getElem?_eq_some_iff.1 hm).1
  have hmb := h.nb m (List.mem_of_getElem? hm)
  have hmm := List.mem_of_getElem? hm
  have hsub : ∀ x, x ∈ ms.eraseIdx i → x ∈ ms := fun x hx => List.mem_of_mem_eraseIdx hx
  have hlen : (ms.eraseIdx i).length = ms.length - 1 := by rw [List.length_eraseIdx, if_pos hil]
  have hwd := wds_erase ms i m hm
  have hA : ∀ q, R q → (jA bb (prv ms i)).block ≠ q := by
    intro q hq e
    rcases prv_cases ms i with ⟨e1, _⟩ | ⟨x, _, hx, e1⟩
    · rw [e1] at e; exact (h.far q hq).2.1 e.symm
    · rw [e1] at e; exact (h.far q hq).2.2 x (List.mem_of_getElem? hx) e.symm
  have hB : ∀ q, R q → (jB bb (nxt ms i)).block ≠ q := by
    intro q hq e
    rcases nxt_cases ms i with ⟨e1, _⟩ | ⟨x, hx, e1⟩
    · rw [e1] at e; exact (h.far q hq).2.1 e.symm
    · rw [e1] at e; exact (h.far q hq).2.2 x (List.mem_of_getElem? hx) e.symm
  refine ⟨?_, ?_, ?_, fun x hx => h.nb x (hsub x hx), ?_, ?_, by omega⟩
  · unfold rmW
    refine At.other ?_ hmb _
    rw [hlen, prv_er_le ms hpl, show wds (ms.eraseIdx i) = wds ms - m.wd by omega]
    have e0 : hd (ms.eraseIdx i) = if i = 0 then nxt ms i else hd ms := by
      unfold hd nxt
      split
      · rename_i h0; subst h0; rw [er_ge _ (Nat.le_refl _)]
      · rw [er_lt _ (by omega)]
    have e1 : prv (ms.eraseIdx i) (ms.length - 1) = if i + 1 = ms.length then prv ms i else prv ms ms.length := by
      split
      · rename_i h1; rw [show ms.length - 1 = i by omega, prv_er_le ms (Nat.le_refl _)]
      · rw [prv_er_gt ms (by omega), show ms.length - 1 + 1 = ms.length by omega]
    rw [e0, e1]
    have hb := h.box
    have hb1 : At (w.setCell (jA bb (prv ms i)) (pt (nxt ms i))) bb [pt (if i = 0 then nxt ms i else hd ms), pt (prv ms ms.length), pt (prv ms place), .int .i64 (ms.length : Int), .int .i64 (wds ms : Int), .int .i64 (most : Int), .int .i64 (puts : Int)] := by
      rcases prv_cases ms i with ⟨q, h0⟩ | ⟨x, h0, hx, q⟩
      · have h0 : i = 0 := by omega
        rw [q, if_pos h0]
        exact hb.set (i := 0) (by simp) (pt (nxt ms i))
      · rw [q, if_neg (by omega)]
        exact hb.other (p := ⟨x.b, 1, none⟩) (h.nb x (List.mem_of_getElem? hx)) _
    have hb2 : At ((w.setCell (jA bb (prv ms i)) (pt (nxt ms i))).setCell (jB bb (nxt ms i)) (pt (prv ms i))) bb [pt (if i = 0 then nxt ms i else hd ms), pt (if i + 1 = ms.length then prv ms i else prv ms ms.length), pt (prv ms place), .int .i64 (ms.length : Int), .int .i64 (wds ms : Int), .int .i64 (most : Int), .int .i64 (puts : Int)] := by
      rcases nxt_cases ms i with ⟨q, h0⟩ | ⟨x, hx, q⟩
      · have h0 : i + 1 = ms.length := by omega
        rw [if_pos h0]
        have := hb1.set (i := 1) (by simp) (pt (prv ms i))
        rw [q] at this ⊢
        exact this
      · have hx' := (List.getElem?_eq_some_iff.1 hx).1
        rw [if_neg (show ¬ i + 1 = ms.length by omega)]
        have := hb1.other (p := ⟨x.b, 0, none⟩) (h.nb x (List.mem_of_getElem? hx)) (pt (prv ms i))
        rw [q] at this ⊢
        exact this
    exact (hb2.set (i := 3) (by simp) (.int .i64 ((ms.length - 1 : Nat) : Int))).set (i := 4) (by simp) (.int .i64 ((wds ms - m.wd : Nat) : Int))
  · intro j y hy
    unfold rmW
    by_cases hji : j < i
    · rw [er_lt _ hji] at hy
      have hyb := h.nb y (List.mem_of_getElem? hy)
      have hym := h.apart hy hm (by omega)
      rw [prv_er_le ms (by omega)]
      have h0 := h.msg j y hy
      refine At.other (At.other (At.other ?_ (fun e => hyb e.symm) _) (fun e => hyb e.symm) _) (fun e => hym e.symm) _
      have hjB : (jB bb (nxt ms i)).block ≠ y.b := by
        rcases nxt_cases ms i with ⟨q, _⟩ | ⟨x, hx, q⟩
        · rw [q]; exact fun e => hyb e.symm
        · rw [q]; exact h.apart hx hy (by omega)
      refine At.other ?_ hjB _
      by_cases hj1 : j + 1 = i
      · have hp : prv ms i = some y.b := by unfold prv; rw [if_neg (by omega), show i - 1 = j by omega, hy]; rfl
        rw [nxt_er_ge ms (by omega), hp, hj1]
        exact h0.set (i := 1) (by simp [Msg.cells]) (pt (nxt ms i))
      · rw [nxt_er_lt ms (by omega)]
        refine At.other h0 ?_ _
        rcases prv_cases ms i with ⟨q, _⟩ | ⟨x, h1, hx, q⟩
        · rw [q]; exact fun e => hyb e.symm
        · rw [q]; exact h.apart hx hy (by omega)
    · rw [er_ge _ (by omega)] at hy
      have hyb := h.nb y (List.mem_of_getElem? hy)
      have hym := h.apart hy hm (by omega)
      rw [nxt_er_ge ms (by omega)]
      have h0 := h.msg (j + 1) y hy
      refine At.other (At.other (At.other ?_ (fun e => hyb e.symm) _) (fun e => hyb e.symm) _) (fun e => hym e.symm) _
      have hjA : (jA bb (prv ms i)).block ≠ y.b := by
        rcases prv_cases ms i with ⟨q, _⟩ | ⟨x, h1, hx, q⟩
        · rw [q]; exact fun e => hyb e.symm
        · rw [q]; exact h.apart hx hy (by omega)
      by_cases hj1 : j = i
      · subst hj1
        have hn : nxt ms j = some y.b := by unfold nxt; rw [hy]; rfl
        rw [prv_er_le ms (Nat.le_refl _)]
        have := (h0.other hjA (pt (nxt ms j))).set (i := 0) (by simp [Msg.cells]) (pt (prv ms j))
        rw [hn] at this ⊢
        exact this
      · rw [prv_er_gt ms (by omega)]
        refine (h0.other hjA _).other ?_ _
        rcases nxt_cases ms i with ⟨q, _⟩ | ⟨x, hx, q⟩
        · rw [q]; exact fun e => hyb e.symm
        · rw [q]; exact h.apart hx hy (by omega)
  · exact ((List.eraseIdx_sublist ms i).map Msg.b).nodup h.nd
  · intro x hx
    have t := h.tr x (hsub x hx)
    have n1 : ¬ R m.b := fun e => (h.far _ e).2.2 m hmm rfl
    have n2 : ¬ R bb := fun e => (h.far _ e).2.1 rfl
    exact ⟨in_set1 (in_set1 (in_set1 (in_set1 (in_set1 t.1 t.2 (fun e => hA _ e rfl) _) t.2 (fun e => hB _ e rfl) _) t.2 n2 _) t.2 n2 _) t.2 n1 _, t.2⟩
  · intro q hq
    obtain ⟨a1, a2, a3⟩ := h.far q hq
    exact ⟨by simpa [rmW, World.setCell] using a1, a2, fun x hx => a3 x (hsub x hx)⟩
end Go.Proofs.Ytapjnnbcphpokaa
