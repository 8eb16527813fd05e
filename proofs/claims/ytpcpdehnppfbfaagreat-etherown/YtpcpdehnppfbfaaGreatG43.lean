import Derived.Test.YtpcpdehnppfbfaaGreatG16
import Derived.Test.YtpcpdehnppfbfaaGreatG18
import Derived.Test.YtpcpdehnppfbfaaGreatG21
import Derived.Test.YtpcpdehnppfbfaaGreatG42
import Derived.Deep.AppendLies
/- Are acts few? -/
namespace Go.Proofs.YtpcpdehnppfbfaaGreat
open Go.RowKit Go.Deep
attribute [local go_sem] store_float f64bits
attribute [local go_sem ↓] Go.wp_at_zero Go.wp_at_succ

theorem few_cn : ∀ (t : Tr) (left deep : Int), 0 ≤ fewT t left deep → fewT t left deep = left - cnT t := by
  refine Tr.ind fun k n f s a c kids hk => ?_
  have hall : ∀ left deep, 0 ≤ fewAll kids left deep → fewAll kids left deep = left - cnA kids := by
    induction kids with
    | nil => intro left deep h0; simp [fewAll, cnA]
    | cons t r ih =>
      intro left deep h0
      simp only [fewAll] at h0 ⊢
      by_cases hl : left < 0
      · rw [if_pos hl] at h0; omega
      · rw [if_neg hl] at h0 ⊢
        have hn : 0 ≤ fewT t left deep := by
          by_cases hz : fewT t left deep < 0
          · rw [fewAll_stop _ _ _ hz] at h0; omega
          · omega
        have g := hk t (List.mem_cons_self ..) left deep hn
        have q := ih (fun u hu => hk u (List.mem_cons_of_mem _ hu)) (fewT t left deep) deep h0
        rw [q, g]
        simp only [cnA]
        omega
  intro left deep h0
  simp only [fewT] at h0 ⊢
  by_cases hc : left < 0 ∨ deep < 0
  · rw [if_pos hc] at h0; omega
  · rw [if_neg hc] at h0 ⊢
    rw [hall (left - 1) (deep - 1) h0]
    simp only [cnT]
    omega

theorem few_range : ∀ (t : Tr) (left deep : Int), 0 ≤ left → -1 ≤ fewT t left deep ∧ fewT t left deep ≤ left := by
  refine Tr.ind fun k n f s a c kids hk => ?_
  have hall : ∀ left deep, -1 ≤ left → -1 ≤ fewAll kids left deep ∧ fewAll kids left deep ≤ left := by
    induction kids with
    | nil => intro left deep h; simp [fewAll]; omega
    | cons t r ih =>
      intro left deep h
      simp only [fewAll]
      by_cases hl : left < 0
      · rw [if_pos hl]; omega
      · rw [if_neg hl]
        have g := hk t (List.mem_cons_self ..) left deep (by omega)
        have q := ih (fun u hu => hk u (List.mem_cons_of_mem _ hu)) (fewT t left deep) deep g.1
        omega
  intro left deep h
  simp only [fewT]
  by_cases hc : left < 0 ∨ deep < 0
  · rw [if_pos hc]; omega
  · rw [if_neg hc]
    have := hall (left - 1) (deep - 1) (by omega)
    omega

/-- What few says of each. -/
theorem few_each {ts : List Tr} (h : 0 ≤ fewAll ts 60000 1000) {t : Tr} (ht : t ∈ ts) : Small t ∧ cnT t ≤ 60001 := by
  have e : fewT (.mk 0 0 0 ⟨#[]⟩ none 0 ts) 60001 1001 = fewAll ts 60000 1000 := by simp [fewT]
  have h1 := (few_small (.mk 0 0 0 ⟨#[]⟩ none 0 ts) 60001 1001 (by omega) (by rw [e]; exact h)).1
  have h2 := few_cn (.mk 0 0 0 ⟨#[]⟩ none 0 ts) 60001 1001 (by rw [e]; exact h)
  rw [e] at h2
  simp only [Small] at h1
  refine ⟨smallAll_get h1.2 ht, ?_⟩
  have h3 : ∀ l : List Tr, t ∈ l → cnT t ≤ cnA l := by
    intro l
    induction l with
    | nil => intro h; simp at h
    | cons u r ih =>
      intro h
      simp only [cnA]
      rcases List.mem_cons.1 h with rfl | h
      · omega
      · have := ih h; omega
  have := h3 ts ht
  simp only [cnT] at h2
  omega

/-- A row of acts that only put. -/
def ActRow (w : World) (q : Option Addr) (ts : List Tr) : Prop := ∀ (k : Nat) (t : Tr), ts[k]? = some t → ∃ g, q = some ⟨g, 0, none⟩ ∧ (∀ j, j < 5 → w.cell? ⟨g, k * 15 + 8 + j, none⟩ = t.cells[j]?) ∧ t.In w 0

theorem ActRow.keep {w w' : World} {q : Option Addr} {ts : List Tr} (h : ActRow w q ts) (hb : Below w.heap.size w w') : ActRow w' q ts := by
  intro k t ht
  obtain ⟨g, e, hc, hin⟩ := h k t ht
  refine ⟨g, e, fun j hj => ?_, in_below hb hin⟩
  obtain ⟨k', n', f', s', a', c', kids'⟩ := t
  have hc0 := hc 0 (by omega)
  have hlt : g < w.heap.size := World.block_lt_of_cell? w ⟨g, k * 15 + 8 + 0, none⟩ (hc0.trans rfl)
  exact (hb.cell (p := ⟨g, k * 15 + 8 + j, none⟩) hlt).trans (hc j hj)

theorem fewAll_drop {ts : List Tr} {k : Nat} {t : Tr} (h : ts[k]? = some t) {left : Int} (hl : ¬ left < 0) : fewAll (ts.drop k) left 1000 = fewAll (ts.drop (k + 1)) (fewT t left 1000) 1000 := by
  rw [drop_one h]
  simp only [fewAll]
  rw [if_neg hl]

set_option maxHeartbeats 1000000 in
set_option maxRecDepth 100000 in
theorem few11_any (q : Option Addr) (c : Nat) (ts : List Tr) (w : World) (h : ActRow w q ts) (hl : ts.length ≤ 1100000000000) : Calls Tryz.prog 5 #[.slice q ts.length c] w fun e w' => e = .returned (.bool (decide (ts.length ≤ 400) && decide (0 ≤ fewAll ts 60000 1000))) ∧ Below w.heap.size w w' := by
  have HA := hidb h
  have HF := hidb (fun (t : Tr) (left : Int) W (hin : t.In W 0) h1 h2 => few_any t left 1000 W hin h1 h2 (by decide) (by decide))
  clear h
  go_enter Tryz.func5, Tryz.ntmps5
  go_wp2_with fail
  go_loopw [3, 4] (fun lv iv wr => ∃ (k : Nat) (left : Int), k ≤ ts.length ∧ iv = .int .i64 k ∧ lv = .int .i64 left ∧ -1 ≤ left ∧ left ≤ 60000 ∧ fewAll ts 60000 1000 = fewAll (ts.drop k) left 1000 ∧ Below w.heap.size w wr) (fun _ iv _ => ts.length - (RowKit.intOf iv).toNat)
  case atStart => exact ⟨0, 60000, by omega, rfl, rfl, by omega, by omega, rfl, Below.refl _ _⟩
  case round =>
  obtain ⟨k, left, hk, rfl, rfl, hl1, hl2, he, hb⟩ := hrel
  have HB := hidb hb
  have HE := hidb he
  clear he hb
  have hkw : IntKind.i64.wrap ((k : Int) + 1) = (k : Int) + 1 := by rw [IntKind.wrap_i64]; omega
  by_cases hlt : left < 0
  · have hln : ¬ (0 : Int) ≤ left := by omega
    have HFd : Hid (decide (0 ≤ fewAll ts 60000 1000) = false) := hidb (by rw [HE.out, fewAll_stop _ _ _ hlt]; simp; omega)
    by_cases hkl : k < ts.length
    · have hkb : (k : Int) < (ts.length : Int) := by omega
      go_wp2_with fail
      all_goals go_ret
      all_goals (refine ⟨?_, HB.out⟩; rw [HFd.out]; first | (simp; done) | (simp; omega))
    · have hkb : ¬ (k : Int) < (ts.length : Int) := by omega
      go_wp2_with fail
      all_goals go_ret
      all_goals (refine ⟨?_, HB.out⟩; rw [HFd.out]; first | (simp; done) | (simp; omega))
  have hl0 : (0 : Int) ≤ left := by omega
  by_cases hkl : k < ts.length
  · have hkb : (k : Int) < (ts.length : Int) := by omega
    have hkz : (0 : Int) ≤ (k : Int) := by omega
    obtain ⟨t, ht⟩ : ∃ t, ts[k]? = some t := ⟨_, List.getElem?_eq_getElem hkl⟩
    obtain ⟨g, rfl, hc, hin⟩ := HA.out.keep HB.out k t ht
    obtain ⟨fb1, fb2⟩ := few_range t left 1000 hl0
    have HD := hidb (fewAll_drop ht hlt)
    have FC := hidb (HF.out t left wr hin (by omega) (by omega))
    have FC2 := hidb (HF.out t left wr.drew (in_below ((Below.refl _ _).drew) hin) (by omega) (by omega))
    generalize fewT t left 1000 = L2 at *
    obtain ⟨k', n', f', s', a', c', kids'⟩ := t
    have c0 : wr.cell? ⟨g, k * 15 + 8, none⟩ = some (.int .i64 k') := hc 0 (by omega)
    have c1 : wr.cell? ⟨g, k * 15 + 9, none⟩ = some (.int .i64 n') := hc 1 (by omega)
    have c2 : wr.cell? ⟨g, k * 15 + 10, none⟩ = some (.float .f64 f') := hc 2 (by omega)
    have c3 : wr.cell? ⟨g, k * 15 + 11, none⟩ = some (.string s') := hc 3 (by omega)
    have c4 : wr.cell? ⟨g, k * 15 + 12, none⟩ = some (.slice a' kids'.length c') := hc 4 (by omega)
    simp only [Tr.val, Tr.cells] at FC FC2
    clear hc hin ht hlt
    go_wp2_with (first
      | (go_at_call 16; refine FC.out.mono ?_; rintro e w2 ⟨rfl, hb2⟩; have HB2 := hidb (HB.out.trans (hb2.mono HB.out.size)); clear hb2))
    go_roundw
    case rel => exact ⟨k + 1, L2, by omega, by go_num, rfl, fb1, by omega, by rw [HE.out, HD.out], HB2.out⟩
    case measure => simp [RowKit.intOf]; omega
  · have hkb : ¬ (k : Int) < (ts.length : Int) := by omega
    have HFd : Hid (decide (0 ≤ fewAll ts 60000 1000) = true) := hidb (by
      have e : fewAll ts 60000 1000 = left := by rw [HE.out, List.drop_of_length_le (by omega)]; rfl
      rw [e]
      exact decide_eq_true hl0)
    go_wp2_with fail
    all_goals go_ret
    all_goals (refine ⟨?_, HB.out⟩; rw [HFd.out]; first | (simp; done) | (simp; omega))
end Go.Proofs.YtpcpdehnppfbfaaGreat


/- EtherOwn: its acts as cells. -/
namespace Go.Proofs.YtpcpdehnppfbfaaGreat
open Go.RowKit Go.Lib Go.Maps
attribute [local go_sem] store_float f64bits
attribute [local go_sem ↓] Go.wp_at_zero Go.wp_at_succ

theorem sm_refl : ∀ t : Tr, Sm t t := by
  refine Tr.ind fun k n f s a c kids hk => ?_
  have hall : ∀ l : List Tr, (∀ t, t ∈ l → t ∈ kids) → SmA l l := by
    intro l
    induction l with
    | nil => intro _; unfold SmA; trivial
    | cons t r ih =>
      intro hm
      unfold SmA
      exact ⟨hk t (hm t (by simp)), ih (fun u hu => hm u (by simp [hu]))⟩
  unfold Sm
  exact ⟨rfl, rfl, rfl, rfl, hall kids (fun t h => h)⟩
abbrev AT : Nat := 32
theorem infoA : ∃ i0, Tryz.prog.info? AT = some i0 ∧ i0.zero = some (.agg #[.int .i64 0, .int .i64 0, .int .i64 0, .int .i64 0, .int .i64 0, .int .i64 0, .bool false, .string ⟨#[]⟩, .int .i64 0, .int .i64 0, .float .f64 0, .string ⟨#[]⟩, .slice none 0 0, .int .i64 0, .int .i64 0]) ∧ i0.size = 15 ∧ i0.bytes = 152 := info_parts (show (Tryz.prog.info? AT).map (fun i => (i.zero, i.size, i.bytes)) = some (some (.agg #[.int .i64 0, .int .i64 0, .int .i64 0, .int .i64 0, .int .i64 0, .int .i64 0, .bool false, .string ⟨#[]⟩, .int .i64 0, .int .i64 0, .float .f64 0, .string ⟨#[]⟩, .slice none 0 0, .int .i64 0, .int .i64 0]), 15, 152) by kernel_rfl)

/-- Acts as cells. -/
def acs (ss : List SG) : List Value := ss.flatMap fun s => ([Value.int .i64 1] ++ s.cells ++ [Value.int .i64 0, Value.int .i64 0] : List Value)
theorem acs_append (a b : List SG) : acs (a ++ b) = acs a ++ acs b := by simp [acs]
theorem acs_one (s : SG) : ([Value.int .i64 1] ++ s.cells ++ [Value.int .i64 0, Value.int .i64 0]).length = 15 := by rw [List.length_append, List.length_append, SG.len]; rfl
theorem acs_len (l : List SG) : (acs l).length = l.length * 15 := by
  induction l with
  | nil => rfl
  | cons s l ih => unfold acs at ih ⊢; rw [List.flatMap_cons, List.length_append, ih, acs_one, List.length_cons]; omega
theorem acs_at {l : List SG} {m q : Nat} {s : SG} (h : l[m]? = some s) (hq : q < 12) : (acs l)[m * 15 + 1 + q]? = s.cells[q]? := by
  obtain ⟨hl, he⟩ := List.getElem?_eq_some_iff.1 h
  have e : l = l.take m ++ (s :: l.drop (m + 1)) := by rw [← he, ← List.drop_eq_getElem_cons hl, List.take_append_drop]
  have hm : (l.take m).length = m := by simp; omega
  rw [e, acs_append, List.getElem?_append_right (by rw [acs_len, hm]; omega), acs_len, hm, show m * 15 + 1 + q - m * 15 = 1 + q by omega]
  show (([Value.int .i64 1] ++ s.cells ++ [Value.int .i64 0, Value.int .i64 0]) ++ acs (l.drop (m + 1)))[1 + q]? = _
  rw [List.getElem?_append_left (by rw [acs_one]; omega), List.getElem?_append_left (by rw [List.length_append, SG.len]; show _ < 1 + 12; omega), List.getElem?_append_right (by show 1 ≤ _; omega)]
  congr 1
  show 1 + q - 1 = q
  omega
theorem sg_term (s : SG) {j : Nat} (hj : j < 5) : s.cells[7 + j]? = s.t.cells[j]? := by
  obtain ⟨x0, x1, x2, x3, x4, lk, nm, ⟨k, n, f, t, a, c, ks⟩⟩ := s
  have : j = 0 ∨ j = 1 ∨ j = 2 ∨ j = 3 ∨ j = 4 := by omega
  rcases this with rfl | rfl | rfl | rfl | rfl <;> rfl
theorem actRow_of {w : World} {C n : Nat} {q : Option Addr} {c : Nat} {ss : List SG} (h : w.ownsRow C AT 15 (.slice q n c) n (acs ss)) (hin : ∀ s ∈ ss, s.t.In w 0) : ActRow w q (ss.map SG.t) := by
  intro k t ht
  rw [List.getElem?_map, Option.map_eq_some_iff] at ht
  obtain ⟨s, hs, rfl⟩ := ht
  have hl := (List.getElem?_eq_some_iff.1 hs).1
  have hn := h.1
  rw [acs_len] at hn
  rcases h.2 with ⟨e, h0⟩ | ⟨g, cap, cur, hv, _⟩
  · omega
  · have hq : q = some ⟨g, 0, none⟩ := by simpa using (Value.slice.inj hv).1
    subst hq
    refine ⟨g, rfl, fun j hj => ?_, hin s (List.mem_of_getElem? hs)⟩
    have := acs_at hs (q := 7 + j) (by omega)
    rw [sg_term s hj] at this
    rw [← this, show k * 15 + 1 + (7 + j) = k * 15 + 8 + j by omega]
    exact h.cellAt _ (by omega)

/-- A row of signals that is handed in. -/
def SRow (w : World) (q : Option Addr) (ss : List SG) : Prop := ∀ (j : Nat) (s : SG), ss[j]? = some s → ∃ b o, q = some ⟨b, o, none⟩ ∧ b < w.heap.size ∧ ∀ i, i < 12 → w.cell? ⟨b, o + j * 12 + i, none⟩ = s.cells[i]?
theorem SRow.keep {w w' : World} {q : Option Addr} {ss : List SG} (h : SRow w q ss) (hb : Below w.heap.size w w') : SRow w' q ss := by
  intro j s hj
  obtain ⟨b, o, rfl, hlt, hc⟩ := h j s hj
  exact ⟨b, o, rfl, Nat.lt_of_lt_of_le hlt hb.size, fun i hi => (hb.cell (p := ⟨b, o + j * 12 + i, none⟩) hlt).trans (hc i hi)⟩
/-- The twelve cells of a signal, from a place on. -/
structure T12 (w : World) (g o : Nat) (x0 x1 x2 x3 x4 : Int) (lk : Bool) (nm : ByteArray) (tk tn : Int) (tf : Nat) (ts : ByteArray) (ta : Option Addr) (L tc : Nat) : Prop where
  c0 : w.cell? ⟨g, o, none⟩ = some (.int .i64 x0)
  c1 : w.cell? ⟨g, o + 1, none⟩ = some (.int .i64 x1)
  c2 : w.cell? ⟨g, o + 2, none⟩ = some (.int .i64 x2)
  c3 : w.cell? ⟨g, o + 3, none⟩ = some (.int .i64 x3)
  c4 : w.cell? ⟨g, o + 4, none⟩ = some (.int .i64 x4)
  c5 : w.cell? ⟨g, o + 5, none⟩ = some (.bool lk)
  c6 : w.cell? ⟨g, o + 6, none⟩ = some (.string nm)
  c7 : w.cell? ⟨g, o + 7, none⟩ = some (.int .i64 tk)
  c8 : w.cell? ⟨g, o + 8, none⟩ = some (.int .i64 tn)
  c9 : w.cell? ⟨g, o + 9, none⟩ = some (.float .f64 tf)
  c10 : w.cell? ⟨g, o + 10, none⟩ = some (.string ts)
  c11 : w.cell? ⟨g, o + 11, none⟩ = some (.slice ta L tc)
theorem T12.lt {w : World} {g o : Nat} {x0 x1 x2 x3 x4 : Int} {lk : Bool} {nm : ByteArray} {tk tn : Int} {tf : Nat} {ts : ByteArray} {ta : Option Addr} {L tc : Nat} (h : T12 w g o x0 x1 x2 x3 x4 lk nm tk tn tf ts ta L tc) : g < w.heap.size := World.block_lt_of_cell? _ _ h.c0
theorem T12.but {S : Nat → Prop} {w w' : World} {g o : Nat} {x0 x1 x2 x3 x4 : Int} {lk : Bool} {nm : ByteArray} {tk tn : Int} {tf : Nat} {ts : ByteArray} {ta : Option Addr} {L tc : Nat} (h : T12 w g o x0 x1 x2 x3 x4 lk nm tk tn tf ts ta L tc) (hb : But S w w') (hs : ¬ S g) : T12 w' g o x0 x1 x2 x3 x4 lk nm tk tn tf ts ta L tc :=
  ⟨(hb.cell h.lt hs).trans h.c0, (hb.cell h.lt hs).trans h.c1, (hb.cell h.lt hs).trans h.c2, (hb.cell h.lt hs).trans h.c3, (hb.cell h.lt hs).trans h.c4, (hb.cell h.lt hs).trans h.c5, (hb.cell h.lt hs).trans h.c6, (hb.cell h.lt hs).trans h.c7, (hb.cell h.lt hs).trans h.c8, (hb.cell h.lt hs).trans h.c9, (hb.cell h.lt hs).trans h.c10, (hb.cell h.lt hs).trans h.c11⟩
theorem T12.keep {w w' : World} {g o B : Nat} {x0 x1 x2 x3 x4 : Int} {lk : Bool} {nm : ByteArray} {tk tn : Int} {tf : Nat} {ts : ByteArray} {ta : Option Addr} {L tc : Nat} (h : T12 w g o x0 x1 x2 x3 x4 lk nm tk tn tf ts ta L tc) (hb : Below B w w') (hs : g < B) : T12 w' g o x0 x1 x2 x3 x4 lk nm tk tn tf ts ta L tc :=
  ⟨(hb.cell hs).trans h.c0, (hb.cell hs).trans h.c1, (hb.cell hs).trans h.c2, (hb.cell hs).trans h.c3, (hb.cell hs).trans h.c4, (hb.cell hs).trans h.c5, (hb.cell hs).trans h.c6, (hb.cell hs).trans h.c7, (hb.cell hs).trans h.c8, (hb.cell hs).trans h.c9, (hb.cell hs).trans h.c10, (hb.cell hs).trans h.c11⟩
theorem t12_new (w : World) {x0 x1 x2 x3 x4 : Int} {lk : Bool} {nm : ByteArray} {tk tn : Int} {tf : Nat} {ts : ByteArray} {ta : Option Addr} {L tc : Nat} : T12 (w.alloc (.cells #[.int .i64 x0, .int .i64 x1, .int .i64 x2, .int .i64 x3, .int .i64 x4, .bool lk, .string nm, .int .i64 tk, .int .i64 tn, .float .f64 tf, .string ts, .slice ta L tc] ST)) w.heap.size 0 x0 x1 x2 x3 x4 lk nm tk tn tf ts ta L tc := by
  obtain ⟨r0, r1, r2, r3, r4, r5, r6, r7, r8, r9, r10, r11⟩ := box12 (at_new w (.cells #[.int .i64 x0, .int .i64 x1, .int .i64 x2, .int .i64 x3, .int .i64 x4, .bool lk, .string nm, .int .i64 tk, .int .i64 tn, .float .f64 tf, .string ts, .slice ta L tc] ST))
  exact ⟨r0, r1, r2, r3, r4, r5, r6, r7, r8, r9, r10, r11⟩
theorem cell9_far {w : World} {b o n m : Nat} {u : Value} (h : b ≠ n) : (w.setCell ⟨n, m, none⟩ u).cell? ⟨b, o, none⟩ = w.cell? ⟨b, o, none⟩ :=
  World.cell?_setCell_other _ _ _ _ (fun e => h (congrArg Addr.block e).symm)
theorem cell9_old {w : World} {b o : Nat} {x : Obj} (h : b < w.heap.size) : (w.alloc x).cell? ⟨b, o, none⟩ = w.cell? ⟨b, o, none⟩ := (below_new w x).cell (p := ⟨b, o, none⟩) h
theorem SRow.twelve {w : World} {q : Option Addr} {ss : List SG} (h : SRow w q ss) {m : Nat} {x0 x1 x2 x3 x4 : Int} {lk : Bool} {nm : ByteArray} {tk tn : Int} {tf : Nat} {ts : ByteArray} {ta : Option Addr} {tc : Nat} {ks : List Tr} (hs : ss[m]? = some ⟨x0, x1, x2, x3, x4, lk, nm, .mk tk tn tf ts ta tc ks⟩) :
    ∃ b o, q = some ⟨b, o, none⟩ ∧ T12 w b (o + m * 12) x0 x1 x2 x3 x4 lk nm tk tn tf ts ta ks.length tc := by
  obtain ⟨b, o, rfl, hlt, hc⟩ := h m _ hs
  exact ⟨b, o, rfl, hc 0 (by omega), hc 1 (by omega), hc 2 (by omega), hc 3 (by omega), hc 4 (by omega), hc 5 (by omega), hc 6 (by omega), hc 7 (by omega), hc 8 (by omega), hc 9 (by omega), hc 10 (by omega), hc 11 (by omega)⟩
end Go.Proofs.YtpcpdehnppfbfaaGreat


