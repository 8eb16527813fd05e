import Derived.Test.YtogahhbckfnllaaG33
import Derived.Test.YtogahhbckfnllaaG20
/- The document's Drop. -/
namespace Go.Proofs.Ytogahhbckfnllaa
open Go.RowKit Go.Lib Go.Deep
attribute [local go_sem] store_float f64bits
attribute [local go_sem ↓] Go.wp_at_zero Go.wp_at_succ
variable {w w' : World} {rb place words most : Nat} {lv : Value} {ds : List Tr} {T : Nat → Prop}

/-- A row of booleans. -/
def BRow (w : World) (q : Option Addr) (bs : List Bool) : Prop := ∀ (j : Nat) (b : Bool), bs[j]? = some b → ∃ g, q = some ⟨g, 0, none⟩ ∧ w.cell? ⟨g, j, none⟩ = some (.bool b)
theorem BRow.keep {q : Option Addr} {bs : List Bool} (h : BRow w q bs) (hb : Below w.heap.size w w') : BRow w' q bs := by
  intro j b hj
  obtain ⟨g, e, hc⟩ := h j b hj
  exact ⟨g, e, (hb.cell (World.block_lt_of_cell? _ _ hc)).trans hc⟩

set_option maxHeartbeats 1000000 in
set_option maxRecDepth 100000 in
theorem ry_drop_none {q : Option Addr} {c : Nat} {bs : List Bool} (h : RY w rb lv ds place words most T) (hbs : BRow w q bs) (hlen : bs.length = ds.length) (hno : ∀ b, b ∈ bs → b = false) (hl : ds.length ≤ 1000000) :
    Calls Try.prog 26 #[.pointer (some ⟨rb, 0, none⟩), .slice q bs.length c] w fun e w' => e = .returned (.tuple #[zV, .bool false]) ∧ Below w.heap.size w w' := by
  have HH := hidb h
  have HBS := hidb hbs
  have HNO := hidb hno
  have HLN := hidb hlen
  have HBN := hidb (below_new w zT)
  have HAZ := hidb (At.new w [.int .i64 0, .int .i64 0, .float .f64 0, .string ⟨#[]⟩, .slice none 0 0] 36)
  obtain ⟨ga, gc, rfl⟩ := own_sl h.row
  have hbl := h.box.2
  obtain ⟨c0, -⟩ := (h.keep (below_new w zT)).box.1 0 _ rfl
  obtain ⟨WZ, hWZ⟩ : ∃ WZ, w.alloc zT = WZ := ⟨_, rfl⟩
  rw [hWZ] at c0
  have HWZ := hidb hWZ
  have HBZ : Hid (BRow WZ q bs) := hidb (by rw [← hWZ]; exact hbs.keep (below_new w zT))
  clear h hbs hno hlen hWZ
  go_enter Try.func26, Try.ntmps26
  go_wp2_with fail
  rw [HWZ.out]
  go_loopw [6] (fun iv wr => ∃ (m : Nat), m ≤ ds.length ∧ iv = .int .i64 m ∧ wr = WZ) (fun iv _ => ds.length - (RowKit.intOf iv).toNat)
  case atStart => exact ⟨0, by omega, rfl, rfl⟩
  case round =>
  obtain ⟨m, hm, rfl, rfl⟩ := hrel
  have hmw : IntKind.i64.wrap ((m : Int) + 1) = (m : Int) + 1 := by rw [IntKind.wrap_i64]; omega
  have hll := HLN.out
  by_cases hml : m < ds.length
  · have hmb : (m : Int) < (ds.length : Int) := by omega
    have hmb2 : (m : Int) < (bs.length : Int) := by omega
    have hmz : (0 : Int) ≤ (m : Int) := by omega
    obtain ⟨b, hb⟩ : ∃ b, bs[m]? = some b := ⟨_, List.getElem?_eq_getElem (by omega)⟩
    obtain rfl := HNO.out b (List.mem_of_getElem? hb)
    obtain ⟨g, rfl, hc⟩ := HBZ.out m _ hb
    clear hll hb
    go_wp2_with fail
    go_roundw
    case rel => exact ⟨m + 1, by omega, by go_num, by first | rfl | trivial⟩
    case measure => simp [RowKit.intOf]; omega
  · obtain rfl : m = ds.length := by omega
    have hmn : ¬ (ds.length : Int) < (ds.length : Int) := by omega
    clear hll
    have HF := HAZ.out
    rw [HWZ.out] at HF
    have AF := at_five HF (.int .i64 0) (.int .i64 0) (.float .f64 0) (.string ⟨#[]⟩) (.slice none 0 0)
    have BF := (five_but wr w.heap.size (.int .i64 0) (.int .i64 0) (.float .f64 0) (.string ⟨#[]⟩) (.slice none 0 0))
    obtain ⟨t0, g0⟩ := HF.1 0 _ rfl
    obtain ⟨t1, g1⟩ := HF.1 1 _ rfl
    obtain ⟨t2, g2⟩ := HF.1 2 _ rfl
    obtain ⟨t3, g3⟩ := HF.1 3 _ rfl
    obtain ⟨t4, g4⟩ := HF.1 4 _ rfl
    have HAF := hidb AF
    have HBF := hidb BF
    clear AF BF HF
    go_wp2_with fail
    have AF := HAF.out
    have BF := HBF.out
    generalize ((((wr.setCell ⟨w.heap.size, 0, none⟩ (.int .i64 0)).setCell ⟨w.heap.size, 1, none⟩ (.int .i64 0)).setCell ⟨w.heap.size, 2, none⟩ (.float .f64 0)).setCell ⟨w.heap.size, 3, none⟩ (.string ⟨#[]⟩)).setCell ⟨w.heap.size, 4, none⟩ (.slice none 0 0) = WF at AF BF ⊢
    obtain ⟨q0, q1, q2, q3, q4⟩ := at_results AF
    exact bodyPost_ret (v := .tuple #[zV, .bool false]) (by simp [results, Try.results26, go_sem, q0, q1, q2, q3, q4]) rfl ⟨rfl, by rw [← HWZ.out] at BF; exact HBN.out.trans (BF.below (below_new w zT).size (fun k e => by omega))⟩
end Go.Proofs.Ytogahhbckfnllaa


/- A message less, wherever the place is: the blocks. -/
namespace Go.Proofs.Ytogahhbckfnllaa
open Go.RowKit Go.Deep
variable {w : World} {bb place most puts : Nat} {ms : List Msg} {R : Nat → Prop}

/-- Where the place is behind a removal. -/
def rmP (place i : Nat) : Nat := if i < place then place - 1 else place
theorem rmP_prv (ms : List Msg) {place i : Nat} (h : place ≠ i + 1) : prv (ms.eraseIdx i) (rmP place i) = prv ms place := by
  unfold rmP
  split
  · rw [prv_er_gt ms (by omega), show place - 1 + 1 = place by omega]
  · rw [prv_er_le ms (by omega)]

set_option maxHeartbeats 1000000 in
theorem BX.erased_to (h : BX w bb ms place most puts R) {i p2 : Nat} {m : Msg} (hm : ms[i]? = some m) (hp2 : prv (ms.eraseIdx i) p2 = prv ms place) (hpl : p2 ≤ ms.length - 1) : BX (rmW w bb ms i m) bb (ms.eraseIdx i) p2 most puts R := by
  have hil : i < ms.length := (List.getElem?_eq_some_iff.1 hm).1
  have hmb := h.nb m (List.mem_of_getElem? hm)
  have hmm := List.mem_of_getElem? hm
  have hsub : ∀ x, x ∈ ms.eraseIdx i → x ∈ ms := fun x hx => List.mem_of_mem_eraseIdx hx
  have hlen : (ms.eraseIdx i).length = ms.length - 1 := by rw [List.length_eraseIdx, if_pos hil]
  have hwd := wds_erase ms i m hm
  have hA : ∀ q, R q → (jA bb (prv ms i)).block ≠ q := by
    intro q hq e
    rcases prv_cases ms i with ⟨e1, _⟩ | ⟨x, _, hx, e1⟩
    · rw [e1] at e; exact (h.far q hq).2.1 e.symm
    · rw [e1] at e; exact (h.far q hq).2.2 x (List.mem_of_getElem? hx) e.symm
  have hB : ∀ q, R q → (jB bb (nxt ms i)).block ≠ q := by
    intro q hq e
    rcases nxt_cases ms i with ⟨e1, _⟩ | ⟨x, hx, e1⟩
    · rw [e1] at e; exact (h.far q hq).2.1 e.symm
    · rw [e1] at e; exact (h.far q hq).2.2 x (List.mem_of_getElem? hx) e.symm
  refine ⟨?_, ?_, ?_, fun x hx => h.nb x (hsub x hx), ?_, ?_, by omega⟩
  · unfold rmW
    refine At.other ?_ hmb _
    rw [hlen, hp2, show wds (ms.eraseIdx i) = wds ms - m.wd by omega]
    have e0 : hd (ms.eraseIdx i) = if i = 0 then nxt ms i else hd ms := by
      unfold hd nxt
      split
      · rename_i h0; subst h0; rw [er_ge _ (Nat.le_refl _)]
      · rw [er_lt _ (by omega)]
    have e1 : prv (ms.eraseIdx i) (ms.length - 1) = if i + 1 = ms.length then prv ms i else prv ms ms.length := by
      split
      · rename_i h1; rw [show ms.length - 1 = i by omega, prv_er_le ms (Nat.le_refl _)]
      · rw [prv_er_gt ms (by omega), show ms.length - 1 + 1 = ms.length by omega]
    rw [e0, e1]
    have hb := h.box
    have hb1 : At (w.setCell (jA bb (prv ms i)) (pt (nxt ms i))) bb [pt (if i = 0 then nxt ms i else hd ms), pt (prv ms ms.length), pt (prv ms place), .int .i64 (ms.length : Int), .int .i64 (wds ms : Int), .int .i64 (most : Int), .int .i64 (puts : Int)] := by
      rcases prv_cases ms i with ⟨q, h0⟩ | ⟨x, h0, hx, q⟩
      · have h0 : i = 0 := by omega
        rw [q, if_pos h0]
        exact hb.set (i := 0) (by simp) (pt (nxt ms i))
      · rw [q, if_neg (by omega)]
        exact hb.other (p := ⟨x.b, 1, none⟩) (h.nb x (List.mem_of_getElem? hx)) _
    have hb2 : At ((w.setCell (jA bb (prv ms i)) (pt (nxt ms i))).setCell (jB bb (nxt ms i)) (pt (prv ms i))) bb [pt (if i = 0 then nxt ms i else hd ms), pt (if i + 1 = ms.length then prv ms i else prv ms ms.length), pt (prv ms place), .int .i64 (ms.length : Int), .int .i64 (wds ms : Int), .int .i64 (most : Int), .int .i64 (puts : Int)] := by
      rcases nxt_cases ms i with ⟨q, h0⟩ | ⟨x, hx, q⟩
      · have h0 : i + 1 = ms.length := by omega
        rw [if_pos h0]
        have := hb1.set (i := 1) (by simp) (pt (prv ms i))
        rw [q] at this ⊢
        exact this
      · have hx' := (List.getElem?_eq_some_iff.1 hx).1
        rw [if_neg (show ¬ i + 1 = ms.length by omega)]
        have := hb1.other (p := ⟨x.b, 0, none⟩) (h.nb x (List.mem_of_getElem? hx)) (pt (prv ms i))
        rw [q] at this ⊢
        exact this
    exact (hb2.set (i := 3) (by simp) (.int .i64 ((ms.length - 1 : Nat) : Int))).set (i := 4) (by simp) (.int .i64 ((wds ms - m.wd : Nat) : Int))
  · intro j y hy
    unfold rmW
    by_cases hji : j < i
    · rw [er_lt _ hji] at hy
      have hyb := h.nb y (List.mem_of_getElem? hy)
      have hym := h.apart hy hm (by omega)
      rw [prv_er_le ms (by omega)]
      have h0 := h.msg j y hy
      refine At.other (At.other (At.other ?_ (fun e => hyb e.symm) _) (fun e => hyb e.symm) _) (fun e => hym e.symm) _
      have hjB : (jB bb (nxt ms i)).block ≠ y.b := by
        rcases nxt_cases ms i with ⟨q, _⟩ | ⟨x, hx, q⟩
        · rw [q]; exact fun e => hyb e.symm
        · rw [q]; exact h.apart hx hy (by omega)
      refine At.other ?_ hjB _
      by_cases hj1 : j + 1 = i
      · have hp : prv ms i = some y.b := by unfold prv; rw [if_neg (by omega), show i - 1 = j by omega, hy]; rfl
        rw [nxt_er_ge ms (by omega), hp, hj1]
        exact h0.set (i := 1) (by simp [Msg.cells]) (pt (nxt ms i))
      · rw [nxt_er_lt ms (by omega)]
        refine At.other h0 ?_ _
        rcases prv_cases ms i with ⟨q, _⟩ | ⟨x, h1, hx, q⟩
        · rw [q]; exact fun e => hyb e.symm
        · rw [q]; exact h.apart hx hy (by omega)
    · rw [er_ge _ (by omega)] at hy
      have hyb := h.nb y (List.mem_of_getElem? hy)
      have hym := h.apart hy hm (by omega)
      rw [nxt_er_ge ms (by omega)]
      have h0 := h.msg (j + 1) y hy
      refine At.other (At.other (At.other ?_ (fun e => hyb e.symm) _) (fun e => hyb e.symm) _) (fun e => hym e.symm) _
      have hjA : (jA bb (prv ms i)).block ≠ y.b := by
        rcases prv_cases ms i with ⟨q, _⟩ | ⟨x, h1, hx, q⟩
        · rw [q]; exact fun e => hyb e.symm
        · rw [q]; exact h.apart hx hy (by omega)
      by_cases hj1 : j = i
      · subst hj1
        have hn : nxt ms j = some y.b := by unfold nxt; rw [hy]; rfl
        rw [prv_er_le ms (Nat.le_refl _)]
        have := (h0.other hjA (pt (nxt ms j))).set (i := 0) (by simp [Msg.cells]) (pt (prv ms j))
        rw [hn] at this ⊢
        exact this
      · rw [prv_er_gt ms (by omega)]
        refine (h0.other hjA _).other ?_ _
        rcases nxt_cases ms i with ⟨q, _⟩ | ⟨x, hx, q⟩
        · rw [q]; exact fun e => hyb e.symm
        · rw [q]; exact h.apart hx hy (by omega)
  · exact ((List.eraseIdx_sublist ms i).map Msg.b).nodup h.nd
  · intro x hx
    have t := h.tr x (hsub x hx)
    have n1 : ¬ R m.b := fun e => (h.far _ e).2.2 m hmm rfl
    have n2 : ¬ R bb := fun e => (h.far _ e).2.1 rfl
    exact ⟨in_set1 (in_set1 (in_set1 (in_set1 (in_set1 t.1 t.2 (fun e => hA _ e rfl) _) t.2 (fun e => hB _ e rfl) _) t.2 n2 _) t.2 n2 _) t.2 n1 _, t.2⟩
  · intro q hq
    obtain ⟨a1, a2, a3⟩ := h.far q hq
    exact ⟨by simpa [rmW, World.setCell] using a1, a2, fun x hx => a3 x (hsub x hx)⟩
end Go.Proofs.Ytogahhbckfnllaa


