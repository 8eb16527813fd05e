import Derived.Test.YtogahhbckfnllaaG41
/- The play: its acts, boxes that are not made. -/
namespace Go.Proofs.Ytogahhbckfnllaa
open Go.RowKit Go.Lib Go.Deep
attribute [local go_sem] store_float f64bits
attribute [local go_sem ↓] Go.wp_at_zero Go.wp_at_succ

/-- A row of acts that is handed in. -/
def AR (w : World) (q : Option Addr) (l : List (Int × Tr)) : Prop := ∀ (j : Nat) (x : Int × Tr), l[j]? = some x → ∃ b o, q = some ⟨b, o, none⟩ ∧ w.cell? ⟨b, o + j * 6, none⟩ = some (.int .i64 x.1) ∧ (∀ i, i < 5 → w.cell? ⟨b, o + j * 6 + 1 + i, none⟩ = x.2.cells[i]?) ∧ x.2.In w 0
theorem AR.keep {w w' : World} {q : Option Addr} {l : List (Int × Tr)} (h : AR w q l) (hb : Below w.heap.size w w') : AR w' q l := by
  intro j x hj
  obtain ⟨b, o, e, h0, hc, hin⟩ := h j x hj
  have hlt : b < w.heap.size := World.block_lt_of_cell? _ _ h0
  exact ⟨b, o, e, (hb.cell (p := ⟨b, o + j * 6, none⟩) hlt).trans h0, fun i hi => (hb.cell (p := ⟨b, o + j * 6 + 1 + i, none⟩) hlt).trans (hc i hi), in_below hb hin⟩
theorem AR.term {w : World} {q : Option Addr} {l : List (Int × Tr)} (h : AR w q l) {ts : List Tr} (hts : ts = l.map Prod.snd) (j : Nat) (t : Tr) (ht : ts[j]? = some t) : ∃ b o, q = some ⟨b, o, none⟩ ∧ (∃ op, w.cell? ⟨b, o + j * 6, none⟩ = some (.int .i64 op) ∧ l[j]? = some (op, t)) ∧ (∀ i, i < 5 → w.cell? ⟨b, o + j * 6 + 1 + i, none⟩ = t.cells[i]?) ∧ t.In w 0 := by
  subst hts
  rw [List.getElem?_map] at ht
  obtain ⟨x, hx, rfl⟩ := Option.map_eq_some_iff.1 ht
  obtain ⟨b, o, e, h0, hc, hin⟩ := h j x hx
  exact ⟨b, o, e, ⟨x.1, h0, hx⟩, hc, hin⟩

set_option maxHeartbeats 1000000 in
set_option maxRecDepth 100000 in
theorem fewA_any (q : Option Addr) (c : Nat) (al : List (Int × Tr)) (ts : List Tr) (hts : ts = al.map Prod.snd) (w : World) (h : AR w q al) (hl : ts.length ≤ 9223372036854775807) : Calls Try.prog 5 #[.slice q ts.length c] w fun e w' => e = .returned (.bool (decide (ts.length ≤ 400) && decide (0 ≤ fewAll ts 60000 1000))) ∧ Below w.heap.size w w' := by
  have HA := hidb h
  have HF := hidb (fun (t : Tr) (left : Int) W (hin : t.In W 0) h1 h2 => few_any t left 1000 W hin h1 h2 (by decide) (by decide))
  have HTS := hidb hts
  clear h hts
  go_enter Try.func5, Try.ntmps5
  go_wp2_with fail
  go_loopw [3, 4] (fun lv iv wr => ∃ (k : Nat) (left : Int), k ≤ ts.length ∧ iv = .int .i64 k ∧ lv = .int .i64 left ∧ -1 ≤ left ∧ left ≤ 60000 ∧ fewAll ts 60000 1000 = fewAll (ts.drop k) left 1000 ∧ Below w.heap.size w wr) (fun _ iv _ => ts.length - (RowKit.intOf iv).toNat)
  case atStart => exact ⟨0, 60000, by omega, rfl, rfl, by omega, by omega, rfl, Below.refl _ _⟩
  case round =>
  obtain ⟨k, left, hk, rfl, rfl, hl1, hl2, he, hb⟩ := hrel
  have HB := hidb hb
  have HE := hidb he
  clear he hb
  by_cases hlt : left < 0
  · have hln : ¬ (0 : Int) ≤ left := by omega
    have HFd : Hid (decide (0 ≤ fewAll ts 60000 1000) = false) := hidb (by rw [HE.out, fewAll_stop _ _ _ hlt]; simp; omega)
    by_cases hkl : k < ts.length
    · have hkb : (k : Int) < (ts.length : Int) := by omega
      go_wp2_with fail
      all_goals go_ret
      all_goals (refine ⟨?_, HB.out⟩; rw [HFd.out]; first | (simp; done) | (simp; omega))
    · have hkb : ¬ (k : Int) < (ts.length : Int) := by omega
      go_wp2_with fail
      all_goals go_ret
      all_goals (refine ⟨?_, HB.out⟩; rw [HFd.out]; first | (simp; done) | (simp; omega))
  have hl0 : (0 : Int) ≤ left := by omega
  by_cases hkl : k < ts.length
  · have hkb : (k : Int) < (ts.length : Int) := by omega
    have hkz : (0 : Int) ≤ (k : Int) := by omega
    have hkw : IntKind.i64.wrap ((k : Int) + 1) = (k : Int) + 1 := by rw [IntKind.wrap_i64]; omega
    obtain ⟨t, ht⟩ : ∃ t, ts[k]? = some t := ⟨_, List.getElem?_eq_getElem hkl⟩
    obtain ⟨g, o0, rfl, _, hc, hin⟩ := (HA.out.keep HB.out).term HTS.out k t ht
    obtain ⟨fb1, fb2⟩ := few_range t left 1000 hl0
    have HD := hidb (fewAll_drop ht hlt)
    have FC := hidb (HF.out t left wr hin (by omega) (by omega))
    have FC2 := hidb (HF.out t left wr.drew (in_below ((Below.refl _ _).drew) hin) (by omega) (by omega))
    generalize fewT t left 1000 = L2 at *
    obtain ⟨k', n', f', s', a', c', kids'⟩ := t
    have c0 : wr.cell? ⟨g, o0 + k * 6 + 1, none⟩ = some (.int .i64 k') := hc 0 (by omega)
    have c1 : wr.cell? ⟨g, o0 + k * 6 + 1 + 1, none⟩ = some (.int .i64 n') := hc 1 (by omega)
    have c2 : wr.cell? ⟨g, o0 + k * 6 + 1 + 2, none⟩ = some (.float .f64 f') := hc 2 (by omega)
    have c3 : wr.cell? ⟨g, o0 + k * 6 + 1 + 3, none⟩ = some (.string s') := hc 3 (by omega)
    have c4 : wr.cell? ⟨g, o0 + k * 6 + 1 + 4, none⟩ = some (.slice a' kids'.length c') := hc 4 (by omega)
    simp only [Tr.val, Tr.cells] at FC FC2
    clear hc hin ht hlt
    go_wp2_with (first
      | (go_at_call 17; refine FC.out.mono ?_; rintro e w2 ⟨rfl, hb2⟩; have HB2 := hidb (HB.out.trans (hb2.mono HB.out.size)); clear hb2))
    go_roundw
    case rel => exact ⟨k + 1, L2, by omega, by go_num, rfl, fb1, by omega, by rw [HE.out, HD.out], HB2.out⟩
    case measure => simp [RowKit.intOf]; omega
  · have hkb : ¬ (k : Int) < (ts.length : Int) := by omega
    have HFd : Hid (decide (0 ≤ fewAll ts 60000 1000) = true) := hidb (by
      have e : fewAll ts 60000 1000 = left := by rw [HE.out, List.drop_of_length_le (by omega)]; rfl
      rw [e]
      exact decide_eq_true hl0)
    go_wp2_with fail
    all_goals go_ret
    all_goals (refine ⟨?_, HB.out⟩; rw [HFd.out]; first | (simp; done) | (simp; omega))

set_option maxRecDepth 100000 in
theorem newB_bad (n : Int) (hn : n < 1 ∨ 16777216 < n) (w : World) : Calls Try.prog 6 #[.int .i64 n] w fun e w' => e = .returned (.tuple #[.pointer none, .int .i64 1]) ∧ w' = w := by
  by_cases h1 : n < 1
  · go_enter Try.func6, Try.ntmps6
    go_wp2
    exact bodyPost_ret (v := .tuple #[.pointer none, .int .i64 1]) (by simp [results, Try.results6, go_sem]) rfl ⟨rfl, rfl⟩
  · have h2 : 16777216 < n := by omega
    go_enter Try.func6, Try.ntmps6
    go_wp2
    exact bodyPost_ret (v := .tuple #[.pointer none, .int .i64 1]) (by simp [results, Try.results6, go_sem]) rfl ⟨rfl, rfl⟩
set_option maxRecDepth 100000 in
theorem rnew_bad (n : Int) (hn : n < 1 ∨ 16777216 < n) (w : World) : Calls Try.prog 7 #[.int .i64 n] w fun e w' => e = .returned (.tuple #[.pointer none, .int .i64 1]) ∧ w' = w := by
  by_cases h1 : n < 1
  · go_enter Try.func7, Try.ntmps7
    go_wp2
    exact bodyPost_ret (v := .tuple #[.pointer none, .int .i64 1]) (by simp [results, Try.results7, go_sem]) rfl ⟨rfl, rfl⟩
  · have h2 : 16777216 < n := by omega
    go_enter Try.func7, Try.ntmps7
    go_wp2
    exact bodyPost_ret (v := .tuple #[.pointer none, .int .i64 1]) (by simp [results, Try.results7, go_sem]) rfl ⟨rfl, rfl⟩
end Go.Proofs.Ytogahhbckfnllaa


/- Any act; both boxes at the start. -/
namespace Go.Proofs.Ytogahhbckfnllaa
open Go.RowKit Go.Lib Go.Deep
variable {w : World} {bb rb place most puts : Nat} {lv : Value} {ms : List Msg} {ds : List Tr} {R T O : Nat → Prop} {k n : Int} {f : Nat} {s : ByteArray} {a : Option Addr} {c : Nat} {kids : List Tr}

theorem step_any (op : Int) (h : SA w bb rb lv ms ds place most puts R T O (.mk k n f s a c kids)) : Calls Try.prog 8 #[.pointer (some ⟨bb, 0, none⟩), .pointer (some ⟨rb, 0, none⟩), .agg #[.int .i64 op, .int .i64 k, .int .i64 n, .float .f64 f, .string s, .slice a kids.length c]] w fun e w' => e = .returned (.bool true) ∧ Nxt w bb rb lv ms most puts w' := by
  by_cases h1 : op = 1
  · subst h1; exact step_1 h
  by_cases h2 : op = 2
  · subst h2; exact step_2 h
  by_cases h3 : op = 3
  · subst h3; exact step_3 h
  by_cases h4 : op = 4
  · subst h4; exact step_4 h
  by_cases h5 : op = 5
  · subst h5; exact step_5 h
  exact step_0 h (by simpa using h1) (by simpa using h2) (by simpa using h3) (by simpa using h4) (by simpa using h5)

theorem bx_new1 (w : World) (n : Nat) (bb : Nat) (hbb : bb = w.heap.size) : BX (w.alloc (.cells #[.pointer none, .pointer none, .pointer none, .int .i64 0, .int .i64 0, .int .i64 (n : Int), .int .i64 0] BT)) bb [] 0 n 0 (fun _ => False) := by
  subst hbb
  exact ⟨At.new w [.pointer none, .pointer none, .pointer none, .int .i64 0, .int .i64 0, .int .i64 (n : Int), .int .i64 0] BT, fun i m h => by simp at h, by simp, fun m h => by simp at h, fun m h => by simp at h, fun q h => h.elim, Nat.le_refl _⟩
theorem pb_new (w : World) (n : Nat) (hn : n ≤ 16777216) (bb rb : Nat) (hbb : bb = w.heap.size) (hrb : rb = w.heap.size + 1) : PB ((w.alloc (.cells #[.pointer none, .pointer none, .pointer none, .int .i64 0, .int .i64 0, .int .i64 (n : Int), .int .i64 0] BT)).alloc (.cells #[.slice none 0 0, .int .i64 0, .int .i64 0, .int .i64 (n : Int)] 41)) bb rb (.slice none 0 0) [] [] 0 n 0 (fun _ => False) (fun _ => False) := by
  have hs : ∀ q, BS bb [] q → q = bb := by
    rintro q (e | ⟨x, hx, e⟩)
    · exact e
    · simp at hx
  have hr : ∀ q, RS rb (.slice none 0 0) q → q = rb := by
    rintro q (e | e)
    · exact e
    · simp [Value.ownBlock] at e
  refine ⟨(bx_new1 w n bb hbb).keep (below_new _ _), ry_new _ n rb (by simp [hrb]), rfl, fun i m t h => by simp at h, fun m h => by simp at h, fun m h => by simp at h, ?_, ?_, by simp [wds]; omega⟩
  · rintro q (h | h) hb
    · have := hs q hb; have := hr q h; omega
    · exact h
  · rintro q (h | h) hb
    · have := hs q h; have := hr q hb; omega
    · exact h.elim
end Go.Proofs.Ytogahhbckfnllaa


