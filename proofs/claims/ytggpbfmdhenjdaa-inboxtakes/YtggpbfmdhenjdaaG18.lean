import Derived.Test.YtggpbfmdhenjdaaG05
import Derived.Test.YtggpbfmdhenjdaaG10
import Derived.Test.YtggpbfmdhenjdaaG17
/- The document's measure of a term, walked: by induction on the tree. -/
namespace Go.Proofs.Ytggpbfmdhenjdaa
open Go.RowKit Go.Deep
attribute [local go_sem ↓] Go.wp_at_zero Go.wp_at_succ

/-- The box of a parameter of five cells reads as it was laid. -/
theorem box_at {w wr : World} {v0 v1 v2 v3 v4 : Value} {T : TypeId} (h : Below (w.heap.size + 1) (w.alloc (.cells #[v0, v1, v2, v3, v4] T)) wr) :
    wr.cell? ⟨w.heap.size, 0, none⟩ = some v0 ∧ wr.cell? ⟨w.heap.size, 1, none⟩ = some v1 ∧ wr.cell? ⟨w.heap.size, 2, none⟩ = some v2 ∧ wr.cell? ⟨w.heap.size, 3, none⟩ = some v3 ∧ wr.cell? ⟨w.heap.size, 4, none⟩ = some v4 := by
  refine ⟨?_, ?_, ?_, ?_, ?_⟩ <;> (rw [h.cell (by simp), World.cell?_alloc_new]; rfl)

theorem box_below {w wr : World} {o : Obj} (h : Below (w.heap.size + 1) (w.alloc o) wr) : Below w.heap.size w wr := ((Below.refl _ _).alloc (Nat.le_refl _) _).trans (h.mono (Nat.le_succ _))

theorem box_then {w wr wz : World} {o : Obj} (h : Below (w.heap.size + 1) (w.alloc o) wr) (hz : Below wr.heap.size wr wz) : Below (w.heap.size + 1) (w.alloc o) wz := h.trans (hz.mono (by have := h.size; simpa using this))

theorem measAll_bounds (kids : List Tr) (hk : ∀ t, t ∈ kids → ∀ depth most, -1 ≤ meas t depth most ∧ (0 ≤ meas t depth most → meas t depth most ≤ most)) : ∀ depth most n, 0 ≤ n → n ≤ most → -1 ≤ measAll kids depth most n ∧ measAll kids depth most n ≤ most := by
  induction kids with
  | nil => intro depth most n h0 h; simp only [measAll]; omega
  | cons t r ih =>
    intro depth most n h0 h
    simp only [measAll]
    split
    · omega
    · have g := hk t (List.mem_cons_self ..) depth (most - n)
      exact ih (fun u hu => hk u (List.mem_cons_of_mem _ hu)) depth most _ (by omega) (by omega)

theorem meas_bounds : ∀ (t : Tr) (depth most : Int), -1 ≤ meas t depth most ∧ (0 ≤ meas t depth most → meas t depth most ≤ most) := by
  refine Tr.ind fun k n f s a c kids hk => ?_
  intro depth most
  simp only [meas]
  have ho := own_nonneg k kids.length
  split
  · omega
  · have := measAll_bounds kids hk (depth - 1) most (own k kids.length) ho (by omega)
    omega

set_option maxHeartbeats 1600000 in
set_option maxRecDepth 100000 in
theorem rmeasure_any : ∀ (t : Tr) (depth most : Int) (w : World), t.In w 0 → Small t → 0 ≤ depth → depth ≤ 200 → 0 ≤ most → most ≤ 65536 →
    Calls Try.prog 29 #[t.val, .int .i64 depth, .int .i64 most] w fun e w' => e = .returned (.int .i64 (meas t depth most)) ∧ Below w.heap.size w w' := by
  refine Tr.ind fun k n f s a c kids hk => ?_
  intro depth most w hin hsm h1 h2 h3 h4
  show Calls Try.prog 29 #[.agg #[.int .i64 k, .int .i64 n, .float .f64 f, .string s, .slice a kids.length c], .int .i64 depth, .int .i64 most] w _
  simp only [meas]
  have HK : Hid (∀ t, t ∈ kids → ∀ (depth most : Int) (w : World), t.In w 0 → Small t → 0 ≤ depth → depth ≤ 200 → 0 ≤ most → most ≤ 65536 →
    Calls Try.prog 29 #[t.val, .int .i64 depth, .int .i64 most] w fun e w' => e = .returned (.int .i64 (meas t depth most)) ∧ Below w.heap.size w w') := hk
  have HIN : Hid ((Tr.mk k n f s a c kids).In w 0) := hin
  unfold Small at hsm
  have hlen := hsm.1
  have HSM : Hid (SmallAll kids) := hsm.2
  clear hk hin hsm
  have hown := own_nonneg k kids.length
  obtain ⟨O, hO⟩ : ∃ O, own k kids.length = O := ⟨_, rfl⟩
  have OW := own_any k n f s a kids.length c hlen
  rw [hO] at OW hown ⊢
  have HOW : Hid _ := OW
  clear OW hO
  by_cases hd : depth < 1
  · rw [if_pos (Or.inl hd)]
    go_enter Try.func29, Try.ntmps29
    go_wp2
    go_ret
    exact ⟨rfl, (Below.refl _ _).alloc (Nat.le_refl _) _⟩
  have hdw : wrap64 (depth - 1) = depth - 1 := by unfold wrap64; omega
  by_cases ho : O > most
  · rw [if_pos (Or.inr ho)]
    go_enter Try.func29, Try.ntmps29
    go_wp2_with fail
    refine (HOW.out _).mono ?_
    rintro e w2 ⟨rfl, hb2⟩
    have B2 := box_then (Below.refl _ _) hb2
    have HB2 : Hid _ := B2
    obtain ⟨d0, d1, d2, d3, d4⟩ := box_at B2
    clear B2 hb2
    go_wp2
    go_ret
    exact ⟨rfl, box_below HB2.out⟩
  rw [if_neg (by omega)]
  go_enter Try.func29, Try.ntmps29
  go_wp2_with fail
  refine (HOW.out _).mono ?_
  rintro e w2 ⟨rfl, hb2⟩
  have B2 := box_then (Below.refl _ _) hb2
  have HB2 : Hid _ := B2
  obtain ⟨d0, d1, d2, d3, d4⟩ := box_at B2
  clear B2 hb2
  go_wp2_with fail
  refine (HOW.out _).mono ?_
  rintro e w3 ⟨rfl, hb3⟩
  have B3 := box_then HB2.out hb3
  have HB3 : Hid _ := B3
  clear d0 d1 d2 d3 d4
  obtain ⟨d0, d1, d2, d3, d4⟩ := box_at B3
  clear B3 hb3
  go_wp2_with fail
  go_loopw [7, 8] (fun nv iv wr => ∃ (m : Nat) (x : Int), m ≤ kids.length ∧ iv = .int .i64 m ∧ nv = .int .i64 x ∧ 0 ≤ x ∧ x ≤ most ∧ measAll (kids.drop m) (depth - 1) most x = measAll kids (depth - 1) most O ∧ Below (w.heap.size + 1) (w.alloc (.cells #[.int .i64 k, .int .i64 n, .float .f64 f, .string s, .slice a kids.length c] 27)) wr) (fun _ iv _ => kids.length - (intOf iv).toNat)
  case atStart => exact ⟨0, O, by omega, rfl, rfl, hown, by omega, by simp, HB3.out⟩
  case round =>
    clear d0 d1 d2 d3 d4
    obtain ⟨m, x, hm, rfl, rfl, hx1, hx2, hrest, hbel⟩ := hrel
    have HR : Hid (measAll (kids.drop m) (depth - 1) most x = measAll kids (depth - 1) most O) := hrest
    have HB1 : Hid _ := hbel
    have d4 := (box_at hbel).2.2.2.2
    have HB : Hid (Below w.heap.size w wr) := box_below hbel
    clear hrest hbel
    by_cases hml : m < kids.length
    · have hmb : (m : Int) < (kids.length : Int) := by omega
      obtain ⟨b, o, rfl, hat⟩ := kid_at (in_below HB.out HIN.out) (by omega)
      obtain ⟨k', n', f', s', a', c', kids', hu, hin', c0, c1, c2, c3, c4⟩ := hat m hml
      have IH := HK.out _ (List.mem_of_getElem? hu) (depth - 1) (most - x) wr hin' (smallAll_get HSM.out (List.mem_of_getElem? hu)) (by omega) (by omega) (by omega) (by omega)
      have hmz : (0 : Int) ≤ (m : Int) := by omega
      have hxw : wrap64 (most - x) = most - x := by unfold wrap64; omega
      have hstep := HR.out
      rw [drop_one hu] at hstep
      simp only [measAll] at hstep
      have hbd := meas_bounds (.mk k' n' f' s' a' c' kids') (depth - 1) (most - x)
      generalize meas (.mk k' n' f' s' a' c' kids') (depth - 1) (most - x) = q at IH hstep hbd
      have HS : Hid _ := hstep
      clear hstep hu hin' hat
      go_wp2_with fail
      refine IH.mono ?_
      rintro e wz ⟨rfl, hbz⟩
      have HZ := box_then HB1.out hbz
      have HZH : Hid _ := HZ
      clear hbz IH HZ
      by_cases hq : q < 0
      · go_wp2
        go_ret
        refine ⟨?_, box_below HZH.out⟩
        have e := HS.out
        rw [if_pos hq] at e
        rw [← e]
        rfl
      · have hqw : wrap64 (x + q) = x + q := by unfold wrap64; omega
        go_wp2
        go_roundw
        case rel =>
          have e := HS.out
          rw [if_neg (by omega)] at e
          exact ⟨m + 1, x + q, by omega, by go_num, by go_num, by omega, by omega, e, HZH.out⟩
        case measure => simp [intOf]; omega
    · have hmn : ¬ (m : Int) < (kids.length : Int) := by omega
      go_wp2
      go_ret
      refine ⟨?_, HB.out⟩
      have e := HR.out
      rw [List.drop_of_length_le (by omega)] at e
      simp only [measAll] at e
      rw [← e]
      rfl
end Go.Proofs.Ytggpbfmdhenjdaa


/- Put, walked. -/
namespace Go.Proofs.Ytggpbfmdhenjdaa
open Go.RowKit Go.Deep
attribute [local go_sem] store_float f64bits
attribute [local go_sem ↓] Go.wp_at_zero Go.wp_at_succ
variable {w : World} {bb place most puts : Nat} {ms : List Msg} {R : Nat → Prop}

theorem At.new (w : World) (vs : List Value) (t : TypeId) : At (w.alloc (.cells vs.toArray t)) w.heap.size vs := by
  refine ⟨fun i v hv => ?_, by simp, ⟨_, _, (MapKept.heap_alloc w _).1⟩⟩
  have hb : (w.alloc (.cells vs.toArray t)).heap[w.heap.size]? = some (.cells vs.toArray t) := (MapKept.heap_alloc w _).1
  constructor
  · simp
    exact hv
  · unfold World.frozen?
    simp only [hb]
    simp

/-- A message that has just been laid. -/
theorem put_facts {w w4 : World} {t : Tr} {k' n' : Int} {f' : Nat} {s' : ByteArray} {a' : Option Addr} {c' : Nat} {kids' : List Tr} {C wd num : Nat} {ty : TypeId} (h : BX w bb ms place most puts R) (hb : Below w.heap.size w w4) (hC : w.heap.size = C) (hin : (Tr.mk k' n' f' s' a' c' kids').In w4 C) (hst : Sm t (.mk k' n' f' s' a' c' kids')) :
    ∃ (m : Msg) (R' : Nat → Prop), m = ⟨w4.heap.size, k', n', f', s', a', c', kids', wd, num⟩ ∧ BX (w4.alloc (.cells (m.cells none none false).toArray ty)) bb ms place most puts R ∧ At (w4.alloc (.cells (m.cells none none false).toArray ty)) m.b (m.cells none none false) ∧ m.b ≠ bb ∧ (∀ x : Msg, x ∈ ms → x.b ≠ m.b) ∧ (m.t.In (w4.alloc (.cells (m.cells none none false).toArray ty)) 0 ∧ m.t.On R') ∧ (∀ q, R q → R' q) ∧
      (∀ q, R' q → q < (w4.alloc (.cells (m.cells none none false).toArray ty)).heap.size ∧ q ≠ bb ∧ q ≠ m.b ∧ ∀ x : Msg, x ∈ ms → q ≠ x.b) ∧ Sm t m.t ∧ (∀ q, R' q → R q ∨ w.heap.size ≤ q) := by
  subst hC
  have hsz := hb.size
  have hlt : ∀ x : Msg, x ∈ ms → x.b < w.heap.size := fun x hx => by
    obtain ⟨i, hi⟩ := List.getElem?_of_mem hx
    exact (h.msg i x hi).2
  have hbl := h.box.2
  refine ⟨_, fun q => R q ∨ (w.heap.size ≤ q ∧ q < w4.heap.size), rfl, (h.keep hb).keep (below_new w4 _), At.new w4 _ ty, by simp; omega, fun x hx => by have := hlt x hx; simp; omega, ⟨in_below (below_new w4 _) (in_base (Nat.zero_le _) _ hin), on_mono (fun q hq => .inr hq) _ (on_and _ (on_from _ hin) (on_all _ hin))⟩, fun q hq => .inl hq, ?_, hst, fun q hq => hq.imp id And.left⟩
  rintro q (hq | ⟨h1, h2⟩)
  · obtain ⟨a1, a2, a3⟩ := h.far q hq
    exact ⟨by simp; omega, a2, by simp; omega, a3⟩
  · exact ⟨by simp; omega, by omega, by simp; omega, fun x hx => by have := hlt x hx; omega⟩

/-- add of a message that has just been laid. -/
theorem add_put {w w4 : World} {t : Tr} {k' n' : Int} {f' : Nat} {s' : ByteArray} {a' : Option Addr} {c' : Nat} {kids' : List Tr} {wd num : Nat} (h : BX w bb ms place most puts R) (hb : Below w.heap.size w w4) (hin : (Tr.mk k' n' f' s' a' c' kids').In w4 w.heap.size) (hst : Sm t (.mk k' n' f' s' a' c' kids')) (hl : ms.length ≤ 1000000) (hwd : wds ms + wd ≤ 1000000000000) :
    Calls Try.prog 22 #[.pointer (some ⟨bb, 0, none⟩), .pointer (some ⟨w4.heap.size, 0, none⟩)] (w4.alloc (.cells #[.pointer none, .pointer none, .int .i64 k', .int .i64 n', .float .f64 f', .string s', .slice a' kids'.length c', .int .i64 (wd : Int), .int .i64 (num : Int), .bool false] GT)) fun e w' => e = .returned (.tuple #[]) ∧
      ∃ (m : Msg) (R' : Nat → Prop), BX w' bb (ms ++ [m]) place most puts R' ∧ Sm t m.t ∧ m.wd = wd ∧ w.heap.size ≤ m.b ∧ (∀ q, R' q → R q ∨ w.heap.size ≤ q) ∧ But (BS bb ms) w w' := by
  obtain ⟨m, R', hm, h1, h2, h3, h4, h5, h6, h7, h8, h9⟩ := put_facts (wd := wd) (num := num) (ty := GT) h hb rfl hin hst
  have A := addB h1 h2 h3 h4 h5 h6 h7 hl (by rw [hm]; exact hwd)
  subst hm
  refine A.mono ?_
  rintro e w' ⟨rfl, hx, hbt⟩
  refine ⟨rfl, _, R', hx, h8, rfl, hb.size, h9, ?_⟩
  refine ⟨hbt.os.trans hb.os, hbt.tape.trans hb.tape, hbt.output.trans hb.output, Nat.le_trans hb.size (Nat.le_trans (below_new w4 _).size hbt.size), fun q hq hS => ?_⟩
  refine (hbt.block q (Nat.lt_of_lt_of_le hq (Nat.le_trans hb.size (below_new w4 _).size)) ?_).trans (((below_new w4 _).block q (Nat.lt_of_lt_of_le hq hb.size)).trans (hb.block q hq))
  rintro (e | ⟨x, hx, e⟩)
  · exact hS (.inl e)
  · rcases List.mem_append.1 hx with hx | hx
    · exact hS (.inr ⟨x, hx, e⟩)
    · simp at hx
      subst hx
      have h10 : q = w4.heap.size := e
      have := hb.size
      omega

set_option maxHeartbeats 1000000 in
set_option maxRecDepth 100000 in
theorem putB (t : Tr) (W2 : Nat) {T : Nat → Prop} (h : BX w bb ms place most puts R) (hin : t.In w 0) (hon : t.On T) (hT : ∀ q, T q → ¬ BS bb ms q) (hs : Small t) (hcn : cnT t ≤ 1000000000) (he : errT t = 0) (hw2 : wordsT t = (W2 : Int)) (hfit : wds ms + (W2 + 2) ≤ most) (hmost : most ≤ 16777216) (hp : puts ≤ 1000000) (hl : ms.length ≤ 1000000) :
    Calls Try.prog 9 #[.pointer (some ⟨bb, 0, none⟩), t.val] w fun e w' => e = .returned (.int .i64 0) ∧ ∃ (m : Msg) (R' : Nat → Prop), BX w' bb (ms ++ [m]) place most (puts + 1) R' ∧ Sm t m.t ∧ m.wd = W2 + 2 ∧ w.heap.size ≤ m.b ∧ (∀ q, R' q → R q ∨ w.heap.size ≤ q) ∧ But (BS bb ms) w w' := by
  have WD := hidb (fun w' hb => words_t t w' (in_below (w := w) hb hin) hs)
  have CP := hidb (fun w' h => copy_any t w' h hs hcn)
  rw [he, hw2] at WD
  have HB := hidb h
  have HIN := hidb hin
  have HON := hidb hon
  have HTB : Hid (¬ T bb) := hidb (fun e => hT bb e (.inl rfl))
  have hbl : bb < w.heap.size := h.box.2
  have HML : Hid (¬ BS bb ms w.heap.size) := hidb (by
    rintro (e | ⟨x, hx, e⟩)
    · omega
    · obtain ⟨i, hi⟩ := List.getElem?_of_mem hx
      have := (h.msg i x hi).2
      omega)
  have hbb : ¬ bb = w.heap.size := by omega
  have hbb' : ¬ w.heap.size = bb := by omega
  obtain ⟨k, n, f, s, a, c, kids⟩ := t
  clear hin hs hcn he hw2 h hon hT
  show Calls Try.prog 9 #[.pointer (some ⟨bb, 0, none⟩), .agg #[.int .i64 k, .int .i64 n, .float .f64 f, .string s, .slice a kids.length c]] w _
  go_enter Try.func9, Try.ntmps9
  have hW : IntKind.i64.wrap ((W2 : Int) + 2) = (W2 : Int) + 2 := by rw [IntKind.wrap_i64]; omega
  have hsub : IntKind.i64.wrap ((most : Int) - (wds ms : Int)) = (most : Int) - (wds ms : Int) := by rw [IntKind.wrap_i64]; omega
  have hcmp : ¬ (most : Int) - (wds ms : Int) < (W2 : Int) + 2 := by omega
  go_wp2_with (first
    | (go_at_call 21; refine (WD.out _ (below_new w _)).mono ?_; rintro e w1 ⟨rfl, hb1⟩; have B2 := box_then (Below.refl _ _) hb1; have HB2 : Hid _ := B2; obtain ⟨d0, d1, d2, d3, d4⟩ := box_at B2; clear B2 hb1 WD))
  have HX1 := hidb (HB.out.keep (box_below HB2.out))
  obtain ⟨c4, -⟩ := HX1.out.box.1 4 _ rfl
  obtain ⟨c5, -⟩ := HX1.out.box.1 5 _ rfl
  go_region_held3 (fun w' => w'.cell? ⟨bb, 4, none⟩ = some (.int .i64 (wds ms : Int)) ∧ w'.cell? ⟨bb, 5, none⟩ = some (.int .i64 (most : Int))) (first | go_keep) (first | fail)
  have HX2 := hidb (HX1.out.keep ((Below.refl _ _).drew))
  have HB3 := hidb (box_then HB2.out ((Below.refl _ _).drew))
  clear d0 d1 d2 d3 d4 c4 c5 HX1 HB2 HB
  generalize w1.drew = W1 at *
  obtain ⟨c6, f6⟩ := HX2.out.box.1 6 _ rfl
  have hpw : IntKind.i64.wrap ((puts : Int) + 1) = (puts : Int) + 1 := by rw [IntKind.wrap_i64]; omega
  have HX3 := HX2.out.bump
  rw [show ((puts + 1 : Nat) : Int) = (puts : Int) + 1 from rfl] at HX3
  have HX3 := hidb (HX3.keep ((Below.refl _ _).drew))
  have HT3 := hidb (in_below ((Below.refl _ _).drew) (in_set1 (in_below (box_below HB3.out) HIN.out) HON.out (p := ⟨bb, 6, none⟩) HTB.out (.int .i64 ((puts : Int) + 1))))
  obtain ⟨d0, d1, d2, d3, d4⟩ := box_at HB3.out
  have HBT3 : Hid (But (BS bb ms) w (W1.setCell ⟨bb, 6, none⟩ (.int .i64 ((puts : Int) + 1))).drew) := hidb (((But.of_below (S := BS bb ms) (box_below HB3.out)).setCell (p := ⟨bb, 6, none⟩) (fun _ => .inl rfl) _).drew)
  go_wp2_with fail
  have x0 : (W1.setCell ⟨bb, 6, none⟩ (.int .i64 ((puts : Int) + 1))).cell? ⟨w.heap.size, 0, none⟩ = some (.int .i64 k) := by rw [World.cell?_setCell_other _ _ _ _ (fun q => hbb (congrArg Addr.block q))]; exact d0
  have x1 : (W1.setCell ⟨bb, 6, none⟩ (.int .i64 ((puts : Int) + 1))).cell? ⟨w.heap.size, 1, none⟩ = some (.int .i64 n) := by rw [World.cell?_setCell_other _ _ _ _ (fun q => hbb (congrArg Addr.block q))]; exact d1
  have x2 : (W1.setCell ⟨bb, 6, none⟩ (.int .i64 ((puts : Int) + 1))).cell? ⟨w.heap.size, 2, none⟩ = some (.float .f64 f) := by rw [World.cell?_setCell_other _ _ _ _ (fun q => hbb (congrArg Addr.block q))]; exact d2
  have x3 : (W1.setCell ⟨bb, 6, none⟩ (.int .i64 ((puts : Int) + 1))).cell? ⟨w.heap.size, 3, none⟩ = some (.string s) := by rw [World.cell?_setCell_other _ _ _ _ (fun q => hbb (congrArg Addr.block q))]; exact d3
  have x4 : (W1.setCell ⟨bb, 6, none⟩ (.int .i64 ((puts : Int) + 1))).cell? ⟨w.heap.size, 4, none⟩ = some (.slice a kids.length c) := by rw [World.cell?_setCell_other _ _ _ _ (fun q => hbb (congrArg Addr.block q))]; exact d4
  have x6 : (W1.setCell ⟨bb, 6, none⟩ (.int .i64 ((puts : Int) + 1))).cell? ⟨bb, 6, none⟩ = some (.int .i64 ((puts : Int) + 1)) := World.cell?_setCell_same _ _ _ c6
  have hxl : w.heap.size < (W1.setCell ⟨bb, 6, none⟩ (.int .i64 ((puts : Int) + 1))).heap.size := World.block_lt_of_cell? _ _ x0
  clear d0 d1 d2 d3 d4 c6 f6
  generalize W1.setCell ⟨bb, 6, none⟩ (.int .i64 ((puts : Int) + 1)) = W3 at *
  have HS : Hid (W3.drew.cell? ⟨w.heap.size, 0, none⟩ = some (.int .i64 k) ∧ W3.drew.cell? ⟨w.heap.size, 1, none⟩ = some (.int .i64 n) ∧ W3.drew.cell? ⟨w.heap.size, 2, none⟩ = some (.float .f64 f) ∧ W3.drew.cell? ⟨w.heap.size, 3, none⟩ = some (.string s) ∧ W3.drew.cell? ⟨w.heap.size, 4, none⟩ = some (.slice a kids.length c) ∧ W3.drew.cell? ⟨bb, 6, none⟩ = some (.int .i64 ((puts : Int) + 1))) := hidb ⟨x0, x1, x2, x3, x4, x6⟩
  have CP3 : Hid (Calls Try.prog 23 #[.agg #[.int .i64 k, .int .i64 n, .float .f64 f, .string s, .slice a kids.length c]] W3.drew fun e w' => ∃ (k' n' : Int) (f' : Nat) (s' : ByteArray) (a' : Option Addr) (c' : Nat) (kids' : List Tr), e = .returned (.agg #[.int .i64 k', .int .i64 n', .float .f64 f', .string s', .slice a' kids'.length c']) ∧ Sm (.mk k n f s a c kids) (.mk k' n' f' s' a' c' kids') ∧ (Tr.mk k' n' f' s' a' c' kids').In w' W3.drew.heap.size ∧ Below W3.drew.heap.size W3.drew w') := hidb ((CP.out _ HT3.out).mono (by rintro e w' ⟨⟨k', n', f', s', a', c', kids'⟩, rfl, h⟩; exact ⟨k', n', f', s', a', c', kids', rfl, h⟩))
  clear x0 x1 x2 x3 x4 x6 CP HT3
  go_region_held3 (fun w' => w'.cell? ⟨w.heap.size, 0, none⟩ = some (.int .i64 k) ∧ w'.cell? ⟨w.heap.size, 1, none⟩ = some (.int .i64 n) ∧ w'.cell? ⟨w.heap.size, 2, none⟩ = some (.float .f64 f) ∧ w'.cell? ⟨w.heap.size, 3, none⟩ = some (.string s) ∧ w'.cell? ⟨w.heap.size, 4, none⟩ = some (.slice a kids.length c) ∧ w'.cell? ⟨bb, 6, none⟩ = some (.int .i64 ((puts : Int) + 1)))
    (first | with_reducible exact HS.out | with_reducible exact HS4.out | with_reducible exact HS5.out | with_reducible exact HS6.out) (first
    | (go_at_call 23; refine CP3.out.mono ?_; rintro e w4 ⟨k', n', f', s', a', c', kids', rfl, hst, hti, hb4⟩; have HS4 : Hid (w4.cell? ⟨w.heap.size, 0, none⟩ = some (.int .i64 k) ∧ w4.cell? ⟨w.heap.size, 1, none⟩ = some (.int .i64 n) ∧ w4.cell? ⟨w.heap.size, 2, none⟩ = some (.float .f64 f) ∧ w4.cell? ⟨w.heap.size, 3, none⟩ = some (.string s) ∧ w4.cell? ⟨w.heap.size, 4, none⟩ = some (.slice a kids.length c) ∧ w4.cell? ⟨bb, 6, none⟩ = some (.int .i64 ((puts : Int) + 1))) := hidb ⟨(hb4.cell (p := ⟨w.heap.size, 0, none⟩) hxl).trans HS.out.1, (hb4.cell (p := ⟨w.heap.size, 1, none⟩) hxl).trans HS.out.2.1, (hb4.cell (p := ⟨w.heap.size, 2, none⟩) hxl).trans HS.out.2.2.1, (hb4.cell (p := ⟨w.heap.size, 3, none⟩) hxl).trans HS.out.2.2.2.1, (hb4.cell (p := ⟨w.heap.size, 4, none⟩) hxl).trans HS.out.2.2.2.2.1, (hb4.cell (p := ⟨bb, 6, none⟩) (Nat.lt_trans hbl hxl)).trans HS.out.2.2.2.2.2⟩; have hx4 : w.heap.size < w4.heap.size := Nat.lt_of_lt_of_le hxl hb4.size; have HA := hidb (below_new w4 (.cells #[.pointer none, .pointer none, .int .i64 k', .int .i64 n', .float .f64 f', .string s', .slice a' kids'.length c', .int .i64 ((W2 : Int) + 2), .int .i64 ((puts : Int) + 1), .bool false] GT)); have HS5 : Hid ((w4.alloc (.cells #[.pointer none, .pointer none, .int .i64 k', .int .i64 n', .float .f64 f', .string s', .slice a' kids'.length c', .int .i64 ((W2 : Int) + 2), .int .i64 ((puts : Int) + 1), .bool false] GT)).cell? ⟨w.heap.size, 0, none⟩ = some (.int .i64 k) ∧ (w4.alloc (.cells #[.pointer none, .pointer none, .int .i64 k', .int .i64 n', .float .f64 f', .string s', .slice a' kids'.length c', .int .i64 ((W2 : Int) + 2), .int .i64 ((puts : Int) + 1), .bool false] GT)).cell? ⟨w.heap.size, 1, none⟩ = some (.int .i64 n) ∧ (w4.alloc (.cells #[.pointer none, .pointer none, .int .i64 k', .int .i64 n', .float .f64 f', .string s', .slice a' kids'.length c', .int .i64 ((W2 : Int) + 2), .int .i64 ((puts : Int) + 1), .bool false] GT)).cell? ⟨w.heap.size, 2, none⟩ = some (.float .f64 f) ∧ (w4.alloc (.cells #[.pointer none, .pointer none, .int .i64 k', .int .i64 n', .float .f64 f', .string s', .slice a' kids'.length c', .int .i64 ((W2 : Int) + 2), .int .i64 ((puts : Int) + 1), .bool false] GT)).cell? ⟨w.heap.size, 3, none⟩ = some (.string s) ∧ (w4.alloc (.cells #[.pointer none, .pointer none, .int .i64 k', .int .i64 n', .float .f64 f', .string s', .slice a' kids'.length c', .int .i64 ((W2 : Int) + 2), .int .i64 ((puts : Int) + 1), .bool false] GT)).cell? ⟨w.heap.size, 4, none⟩ = some (.slice a kids.length c) ∧ (w4.alloc (.cells #[.pointer none, .pointer none, .int .i64 k', .int .i64 n', .float .f64 f', .string s', .slice a' kids'.length c', .int .i64 ((W2 : Int) + 2), .int .i64 ((puts : Int) + 1), .bool false] GT)).cell? ⟨bb, 6, none⟩ = some (.int .i64 ((puts : Int) + 1))) := hidb ⟨(HA.out.cell (p := ⟨w.heap.size, 0, none⟩) hx4).trans HS4.out.1, (HA.out.cell (p := ⟨w.heap.size, 1, none⟩) hx4).trans HS4.out.2.1, (HA.out.cell (p := ⟨w.heap.size, 2, none⟩) hx4).trans HS4.out.2.2.1, (HA.out.cell (p := ⟨w.heap.size, 3, none⟩) hx4).trans HS4.out.2.2.2.1, (HA.out.cell (p := ⟨w.heap.size, 4, none⟩) hx4).trans HS4.out.2.2.2.2.1, (HA.out.cell (p := ⟨bb, 6, none⟩) (Nat.lt_trans hbl hx4)).trans HS4.out.2.2.2.2.2⟩; have AD := hidb (add_put (wd := W2 + 2) (num := puts + 1) HX3.out hb4 hti hst hl (by omega)); clear CP3)
    | (go_at_call 22; refine AD.out.mono ?_; rintro e w6 ⟨rfl, m, R', hx6, hs6, hw6, hm6, hr6, hb6⟩; have HS6 : Hid (w6.cell? ⟨w.heap.size, 0, none⟩ = some (.int .i64 k) ∧ w6.cell? ⟨w.heap.size, 1, none⟩ = some (.int .i64 n) ∧ w6.cell? ⟨w.heap.size, 2, none⟩ = some (.float .f64 f) ∧ w6.cell? ⟨w.heap.size, 3, none⟩ = some (.string s) ∧ w6.cell? ⟨w.heap.size, 4, none⟩ = some (.slice a kids.length c) ∧ w6.cell? ⟨bb, 6, none⟩ = some (.int .i64 ((puts : Int) + 1))) := hidb ⟨(hb6.cell (p := ⟨w.heap.size, 0, none⟩) hxl HML.out).trans HS.out.1, (hb6.cell (p := ⟨w.heap.size, 1, none⟩) hxl HML.out).trans HS.out.2.1, (hb6.cell (p := ⟨w.heap.size, 2, none⟩) hxl HML.out).trans HS.out.2.2.1, (hb6.cell (p := ⟨w.heap.size, 3, none⟩) hxl HML.out).trans HS.out.2.2.2.1, (hb6.cell (p := ⟨w.heap.size, 4, none⟩) hxl HML.out).trans HS.out.2.2.2.2.1, (hx6.box.1 6 _ rfl).1⟩; have HR := hidb (show BX w6 bb (ms ++ [m]) place most (puts + 1) R' ∧ Sm (.mk k n f s a c kids) m.t ∧ m.wd = W2 + 2 ∧ w.heap.size ≤ m.b ∧ (∀ q, R' q → R q ∨ w.heap.size ≤ q) ∧ But (BS bb ms) w w6 from ⟨hx6, hs6, hw6, Nat.le_trans (Nat.le_of_lt hxl) hm6, fun q hq => (hr6 q hq).imp id (fun e => Nat.le_trans (Nat.le_of_lt hxl) e), HBT3.out.trans hb6⟩); clear hx6 hs6 hw6 hm6 hr6 hb6))
  go_wp2_with fail
  go_ret
  exact ⟨rfl, m, R', HR.out⟩
end Go.Proofs.Ytggpbfmdhenjdaa


