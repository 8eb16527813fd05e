import Derived.Test.YtpcpdehnppfbfaaGreatG16
import Derived.Test.YtpcpdehnppfbfaaGreatG01
import Derived.Deep.RegionWith
import Derived.Deep.Cut
/- A term's kind, asked by the program through an interface: which type it is, the words of a term itself, whether it is right by itself. -/
namespace Go.Proofs.YtpcpdehnppfbfaaGreat
open Go.RowKit Go.Deep
attribute [local go_sem ↓] Go.wp_at_zero Go.wp_at_succ

/-- The type that stands for a kind. -/
def kt (k : Int) : TypeId :=
  if k = 1 then 146 else if k = 2 then 147 else if k = 3 then 148 else if k = 4 then 151 else if k = 5 then 152 else if k = 6 then 153 else if k = 7 then 154 else if k = 8 then 155 else 157

/-- Its methods words and right. -/
def fwords (k : Int) : FuncId :=
  if k = 1 then 116 else if k = 2 then 117 else if k = 3 then 121 else if k = 4 then 127 else if k = 5 then 132 else if k = 6 then 135 else if k = 7 then 140 else if k = 8 then 145 else 140
def fright (k : Int) : FuncId :=
  if k = 1 then 105 else if k = 2 then 105 else if k = 3 then 120 else if k = 4 then 125 else if k = 5 then 131 else if k = 6 then 125 else if k = 7 then 139 else if k = 8 then 144 else 147

theorem by_kind {Q : Int → Prop} (k : Int) (h1 : Q 1) (h2 : Q 2) (h3 : Q 3) (h4 : Q 4) (h5 : Q 5) (h6 : Q 6) (h7 : Q 7) (h8 : Q 8) (h9 : ∀ k, k ≠ 1 → k ≠ 2 → k ≠ 3 → k ≠ 4 → k ≠ 5 → k ≠ 6 → k ≠ 7 → k ≠ 8 → Q k) : Q k := by
  by_cases e1 : k = 1
  · exact e1 ▸ h1
  by_cases e2 : k = 2
  · exact e2 ▸ h2
  by_cases e3 : k = 3
  · exact e3 ▸ h3
  by_cases e4 : k = 4
  · exact e4 ▸ h4
  by_cases e5 : k = 5
  · exact e5 ▸ h5
  by_cases e6 : k = 6
  · exact e6 ▸ h6
  by_cases e7 : k = 7
  · exact e7 ▸ h7
  by_cases e8 : k = 8
  · exact e8 ▸ h8
  exact h9 k e1 e2 e3 e4 e5 e6 e7 e8

set_option maxHeartbeats 800000 in
set_option maxRecDepth 100000 in
theorem kindOf_any (k n : Int) (f : Nat) (s : ByteArray) (a : Option Addr) (l c : Nat) (w : World) :
    Calls Tryz.prog 85 #[.agg #[.int .i64 k, .int .i64 n, .float .f64 f, .string s, .slice a l c]] w fun e w' => e = .returned (.iface (kt k) (.agg #[])) ∧ Below w.heap.size w w' := by
  refine by_kind (Q := fun k => Calls Tryz.prog 85 #[.agg #[.int .i64 k, .int .i64 n, .float .f64 f, .string s, .slice a l c]] w fun e w' => e = .returned (.iface (kt k) (.agg #[])) ∧ Below w.heap.size w w') k ?_ ?_ ?_ ?_ ?_ ?_ ?_ ?_ ?_
  iterate 8
    · go_enter Tryz.func85, Tryz.ntmps85; go_wp2; go_ret; exact ⟨rfl, (Below.refl _ _).alloc (Nat.le_refl _) _⟩
  · intro k h1 h2 h3 h4 h5 h6 h7 h8
    go_enter Tryz.func85, Tryz.ntmps85; go_wp2; go_ret
    refine ⟨?_, (Below.refl _ _).alloc (Nat.le_refl _) _⟩
    simp [kt, h1, h2, h3, h4, h5, h6, h7, h8]

theorem method_words (k : Int) (w : World) : (method 292 (kt k) (.agg #[]) "exitwave/term.words").run Tryz.prog w = .ok (fwords k, .agg #[]) w := by
  refine by_kind (Q := fun k => (method 292 (kt k) (.agg #[]) "exitwave/term.words").run Tryz.prog w = .ok (fwords k, .agg #[]) w) k ?_ ?_ ?_ ?_ ?_ ?_ ?_ ?_ ?_
  iterate 8
    · kernel_rfl
  · intro k h1 h2 h3 h4 h5 h6 h7 h8
    simp only [kt, fwords, h1, h2, h3, h4, h5, h6, h7, h8, if_false]
    kernel_rfl

theorem method_right (k : Int) (w : World) : (method 292 (kt k) (.agg #[]) "exitwave/term.right").run Tryz.prog w = .ok (fright k, .agg #[]) w := by
  refine by_kind (Q := fun k => (method 292 (kt k) (.agg #[]) "exitwave/term.right").run Tryz.prog w = .ok (fright k, .agg #[]) w) k ?_ ?_ ?_ ?_ ?_ ?_ ?_ ?_ ?_
  iterate 8
    · kernel_rfl
  · intro k h1 h2 h3 h4 h5 h6 h7 h8
    simp only [kt, fright, h1, h2, h3, h4, h5, h6, h7, h8, if_false]
    kernel_rfl

theorem call_words (k : Int) (args : Array Value) (w : World) : (callFunc (fwords k) args).run Tryz.prog w = .ok (.enter (fwords k) args) w := by
  refine by_kind (Q := fun k => (callFunc (fwords k) args).run Tryz.prog w = .ok (.enter (fwords k) args) w) k ?_ ?_ ?_ ?_ ?_ ?_ ?_ ?_ ?_
  · exact Tryz.call116 args w
  · exact Tryz.call117 args w
  · exact Tryz.call121 args w
  · exact Tryz.call127 args w
  · exact Tryz.call132 args w
  · exact Tryz.call135 args w
  · exact Tryz.call140 args w
  · exact Tryz.call145 args w
  · intro k h1 h2 h3 h4 h5 h6 h7 h8
    simp only [fwords, h1, h2, h3, h4, h5, h6, h7, h8, if_false]
    exact Tryz.call140 args w

theorem call_right (k : Int) (args : Array Value) (w : World) : (callFunc (fright k) args).run Tryz.prog w = .ok (.enter (fright k) args) w := by
  refine by_kind (Q := fun k => (callFunc (fright k) args).run Tryz.prog w = .ok (.enter (fright k) args) w) k ?_ ?_ ?_ ?_ ?_ ?_ ?_ ?_ ?_
  · exact Tryz.call105 args w
  · exact Tryz.call105 args w
  · exact Tryz.call120 args w
  · exact Tryz.call125 args w
  · exact Tryz.call131 args w
  · exact Tryz.call125 args w
  · exact Tryz.call139 args w
  · exact Tryz.call144 args w
  · intro k h1 h2 h3 h4 h5 h6 h7 h8
    simp only [fright, h1, h2, h3, h4, h5, h6, h7, h8, if_false]
    exact Tryz.call147 args w

set_option maxHeartbeats 800000 in
set_option maxRecDepth 100000 in
theorem words_any (k n : Int) (f : Nat) (s : ByteArray) (a : Option Addr) (l c : Nat) (hl : l ≤ 4611686018427387900) (w : World) :
    Calls Tryz.prog (fwords k) #[.agg #[], .agg #[.int .i64 k, .int .i64 n, .float .f64 f, .string s, .slice a l c]] w fun e w' => e = .returned (.int .i64 (own k l)) ∧ Below w.heap.size w w' := by
  have w2 : wrap64 (2 * (l : Int)) = 2 * l := by unfold wrap64; omega
  have w3 : wrap64 (2 + (l : Int)) = 2 + l := by unfold wrap64; omega
  have w4 : wrap64 (1 + (l : Int)) = 1 + l := by unfold wrap64; omega
  refine by_kind (Q := fun k => Calls Tryz.prog (fwords k) #[.agg #[], .agg #[.int .i64 k, .int .i64 n, .float .f64 f, .string s, .slice a l c]] w fun e w' => e = .returned (.int .i64 (own k l)) ∧ Below w.heap.size w w') k ?_ ?_ ?_ ?_ ?_ ?_ ?_ ?_ ?_
  · show Calls Tryz.prog 116 _ _ _
    go_enter Tryz.func116, Tryz.ntmps116; go_wp2; go_ret; exact ⟨rfl, by (repeat (first | exact Below.refl _ _ | assumption | refine Below.drew ?_ | refine below_drewN ?_ _ | refine Below.setCell ?_ (by simp) _ | refine Below.alloc ?_ (by (first | exact Nat.le_refl _ | (simp; done) | (simp; omega) | omega)) _ | refine Below.trans ?_ (Below.mono (by assumption) (by first | exact Nat.le_refl _ | (simp; done) | (simp; omega) | omega))))⟩
  · show Calls Tryz.prog 117 _ _ _
    go_enter Tryz.func117, Tryz.ntmps117; go_wp2; go_ret; exact ⟨rfl, by (repeat (first | exact Below.refl _ _ | assumption | refine Below.drew ?_ | refine below_drewN ?_ _ | refine Below.setCell ?_ (by simp) _ | refine Below.alloc ?_ (by (first | exact Nat.le_refl _ | (simp; done) | (simp; omega) | omega)) _ | refine Below.trans ?_ (Below.mono (by assumption) (by first | exact Nat.le_refl _ | (simp; done) | (simp; omega) | omega))))⟩
  · show Calls Tryz.prog 121 _ _ _
    go_enter Tryz.func121, Tryz.ntmps121; go_wp2; go_ret; exact ⟨rfl, by (repeat (first | exact Below.refl _ _ | assumption | refine Below.drew ?_ | refine below_drewN ?_ _ | refine Below.setCell ?_ (by simp) _ | refine Below.alloc ?_ (by (first | exact Nat.le_refl _ | (simp; done) | (simp; omega) | omega)) _ | refine Below.trans ?_ (Below.mono (by assumption) (by first | exact Nat.le_refl _ | (simp; done) | (simp; omega) | omega))))⟩
  · show Calls Tryz.prog 127 _ _ _
    go_enter Tryz.func127, Tryz.ntmps127; go_wp2; go_ret; exact ⟨rfl, by (repeat (first | exact Below.refl _ _ | assumption | refine Below.drew ?_ | refine below_drewN ?_ _ | refine Below.setCell ?_ (by simp) _ | refine Below.alloc ?_ (by (first | exact Nat.le_refl _ | (simp; done) | (simp; omega) | omega)) _ | refine Below.trans ?_ (Below.mono (by assumption) (by first | exact Nat.le_refl _ | (simp; done) | (simp; omega) | omega))))⟩
  · show Calls Tryz.prog 132 _ _ _
    go_enter Tryz.func132, Tryz.ntmps132; go_wp2; go_ret; exact ⟨by simp [own], by (repeat (first | exact Below.refl _ _ | assumption | refine Below.drew ?_ | refine below_drewN ?_ _ | refine Below.setCell ?_ (by simp) _ | refine Below.alloc ?_ (by (first | exact Nat.le_refl _ | (simp; done) | (simp; omega) | omega)) _ | refine Below.trans ?_ (Below.mono (by assumption) (by first | exact Nat.le_refl _ | (simp; done) | (simp; omega) | omega))))⟩
  · show Calls Tryz.prog 135 _ _ _
    go_enter Tryz.func135, Tryz.ntmps135; go_wp2; go_ret; exact ⟨rfl, by (repeat (first | exact Below.refl _ _ | assumption | refine Below.drew ?_ | refine below_drewN ?_ _ | refine Below.setCell ?_ (by simp) _ | refine Below.alloc ?_ (by (first | exact Nat.le_refl _ | (simp; done) | (simp; omega) | omega)) _ | refine Below.trans ?_ (Below.mono (by assumption) (by first | exact Nat.le_refl _ | (simp; done) | (simp; omega) | omega))))⟩
  · show Calls Tryz.prog 140 _ _ _
    go_enter Tryz.func140, Tryz.ntmps140; go_wp2; go_ret; exact ⟨by simp [own], by (repeat (first | exact Below.refl _ _ | assumption | refine Below.drew ?_ | refine below_drewN ?_ _ | refine Below.setCell ?_ (by simp) _ | refine Below.alloc ?_ (by (first | exact Nat.le_refl _ | (simp; done) | (simp; omega) | omega)) _ | refine Below.trans ?_ (Below.mono (by assumption) (by first | exact Nat.le_refl _ | (simp; done) | (simp; omega) | omega))))⟩
  · show Calls Tryz.prog 145 _ _ _
    go_enter Tryz.func145, Tryz.ntmps145; go_wp2; go_ret; exact ⟨by simp [own], by (repeat (first | exact Below.refl _ _ | assumption | refine Below.drew ?_ | refine below_drewN ?_ _ | refine Below.setCell ?_ (by simp) _ | refine Below.alloc ?_ (by (first | exact Nat.le_refl _ | (simp; done) | (simp; omega) | omega)) _ | refine Below.trans ?_ (Below.mono (by assumption) (by first | exact Nat.le_refl _ | (simp; done) | (simp; omega) | omega))))⟩
  · intro k h1 h2 h3 h4 h5 h6 h7 h8
    simp only [fwords, h1, h2, h3, h4, h5, h6, h7, h8, if_false]
    go_enter Tryz.func140, Tryz.ntmps140; go_wp2; go_ret; exact ⟨by simp [own, h1, h2, h3, h4, h5, h6, h8], by (repeat (first | exact Below.refl _ _ | assumption | refine Below.drew ?_ | refine below_drewN ?_ _ | refine Below.setCell ?_ (by simp) _ | refine Below.alloc ?_ (by (first | exact Nat.le_refl _ | (simp; done) | (simp; omega) | omega)) _ | refine Below.trans ?_ (Below.mono (by assumption) (by first | exact Nat.le_refl _ | (simp; done) | (simp; omega) | omega))))⟩
end Go.Proofs.YtpcpdehnppfbfaaGreat


/- The program's walk over a term, by induction on the tree. -/
namespace Go.Proofs.YtpcpdehnppfbfaaGreat
open Go.RowKit Go.Deep
attribute [local go_sem] store_float
attribute [local go_sem ↓] Go.wp_at_zero Go.wp_at_succ

theorem own_le (k : Int) {l : Nat} (h : l ≤ 400000) : own k l ≤ 800002 := by
  unfold own
  repeat' split
  all_goals omega

/-- What a walk has counted, when it goes on, is within the limits. -/
def Fits (st : St) : Prop := 0 ≤ st.1 ∧ st.1 ≤ 65536 ∧ 0 ≤ st.2.1 ∧ st.2.1 ≤ 200

theorem over_fits (good : Tr → Bool) : ∀ (t : Tr) (d : Int) (st : St), Fits st → 0 ≤ d → (over good t d st).1 = true → Fits (over good t d st).2 := by
  refine Tr.ind fun k n f s a c kids hk d st hst hd h => ?_
  have hall : ∀ (d : Int) (st : St), Fits st → 0 ≤ d → (overAll good kids d st).1 = true → Fits (overAll good kids d st).2 := by
    clear h hst hd d st
    induction kids with
    | nil => intro d st hst _ _; simpa only [overAll] using hst
    | cons t r ih =>
      intro d st hst hd h
      simp only [overAll] at h ⊢
      by_cases hc : (over good t d st).1 = true
      · rw [if_pos hc] at h ⊢
        exact ih (fun u hu => hk u (List.mem_cons_of_mem _ hu)) d _ (hk t (List.mem_cons_self ..) d st hst hd hc) hd h
      · rw [if_neg hc] at h; simp at h
  simp only [over] at h ⊢
  have ho := own_nonneg k kids.length
  obtain ⟨q1, q2, q3, q4⟩ := hst
  by_cases hbig : st.1 + own k kids.length > 65536 ∨ max st.2.1 d > 200
  · rw [if_pos hbig] at h; simp at h
  · rw [if_neg hbig] at h ⊢
    exact hall _ _ ⟨by simp only; omega, by simp only; omega, by simp only; omega, by simp only; omega⟩ (by omega) h

/-- Where a walk counts. -/
abbrev Cnt (w : World) (b : Nat) (st : St) : Prop := Tri w b (.int .i64 st.1) (.int .i64 st.2.1) (.bool st.2.2)

/-- The kinds' own look at a term tells 'good'. -/
def Looks (good : Tr → Bool) : Prop := ∀ (k n : Int) (f : Nat) (s : ByteArray) (a : Option Addr) (c : Nat) (kids : List Tr), (Tr.mk k n f s a c kids).fit → ∀ (w : World),
  Calls Tryz.prog (fright k) #[.agg #[], .agg #[.int .i64 k, .int .i64 n, .float .f64 f, .string s, .slice a kids.length c]] w fun e w' => e = .returned (.bool (good (.mk k n f s a c kids))) ∧ Below w.heap.size w w'

set_option maxHeartbeats 1600000 in
set_option maxRecDepth 100000 in
theorem over_any (good : Tr → Bool) (hg : Looks good) (w0 : World) : ∀ (t : Tr), t.In w0 0 → Small t → ∀ (d : Int) (st : St) (w : World) (b : Nat), w0.heap.size ≤ b → Below w0.heap.size w0 w → Cnt w b st → 1 ≤ d → d ≤ 201 → 0 ≤ st.1 → st.1 ≤ 65536 → 0 ≤ st.2.1 → st.2.1 ≤ 200 →
    Calls Tryz.prog 80 #[.pointer (some ⟨b, 0, none⟩), t.val, .int .i64 d] w fun e w' => e = .returned (.bool (over good t d st).1) ∧ Cnt w' b (over good t d st).2 ∧ But (· = b) w w' := by
  refine Tr.ind fun k n f s a c kids hk => ?_
  rintro hin hsm d ⟨W, D, bad⟩ w b hb hB hC h1 h2 h3 h4 h5 h6
  show Calls Tryz.prog 80 #[.pointer (some ⟨b, 0, none⟩), .agg #[.int .i64 k, .int .i64 n, .float .f64 f, .string s, .slice a kids.length c], .int .i64 d] w _
  generalize hR : over good (Tr.mk k n f s a c kids) d (W, D, bad) = R
  simp only [over] at hR
  have HR := hidb hR
  clear hR
  have HC := hidb hC
  clear hC
  have hml : kids.length ≤ 400000 := by unfold Small at hsm; exact hsm.1
  have hm := method_words k
  have hr := method_right k
  have hcw := call_words k
  have hcr := call_right k
  have ho := own_nonneg k kids.length
  have ho2 := own_le k hml
  have hww : wrap64 (W + own k kids.length) = W + own k kids.length := by unfold wrap64; omega
  have hwd : wrap64 (d + 1) = d + 1 := by unfold wrap64; omega
  have HK := hidb hk
  have HIN := hidb hin
  have HSM := hidb hsm
  have HB := hidb hB
  clear hk hin hsm hB
  have hlt := HC.out.lt
  go_enter Tryz.func80, Tryz.ntmps80
  go_wp2_with fail
  refine (kindOf_any _ _ _ _ _ _ _ _).mono ?_
  rintro e w1 ⟨rfl, hb1⟩
  have HT1 := hidb ((Box.new w 28 (.int .i64 k) (.int .i64 n) (.float .f64 f) (.string s) (.slice a kids.length c)).keep hb1)
  have HC1 := hidb ((HC.out.keep (below_new w _)).keep hb1)
  have HU1 := hidb ((But.refl (· = b) w).alloc (.cells #[.int .i64 k, .int .i64 n, .float .f64 f, .string s, .slice a kids.length c] 28) |>.trans (But.of_below hb1))
  clear hb1
  obtain ⟨c0, c1, c2, f0, f1, f2, hlt1⟩ := HC1.out
  obtain ⟨d0, d1, d2, d3, d4, g0, g1, g2, g3, g4, ltr⟩ := HT1.out
  go_wp2_with fail
  go_cut [] from 10 (fun wc => But (· = b) w wc ∧ Cnt wc b (W + own k kids.length, D, bad) ∧ Box wc w.heap.size (.int .i64 k) (.int .i64 n) (.float .f64 f) (.string s) (.slice a kids.length c))
  case first =>
    go_region_with (refine (words_any _ _ _ _ _ _ _ (by omega) _).mono ?_; rintro e w2 ⟨rfl, hb2⟩; have HU2 := hidb (HU1.out.trans (But.of_below (undrew hb2))); have HC2 := hidb (HC1.out.keep (undrew hb2)); have HT2 := hidb (HT1.out.keep (undrew hb2)); obtain ⟨e0, e1, e2, q0, q1, q2, hlt2⟩ := HC2.out; obtain ⟨z0, z1, z2, z3, z4, y0, y1, y2, y3, y4, ltr2⟩ := HT2.out; clear hb2)
    all_goals
      have hww' : IntKind.i64.wrap (W + own k kids.length) = W + own k kids.length := by rw [IntKind.wrap_i64]; omega
      rw [hww']
      go_wp2_with fail
      go_meet
      case rel =>
        exact ⟨HU2.out.setCell (fun _ => rfl) _, HC2.out.set0 _, HT2.out.other1 (by omega) _⟩
  case rest =>
  have HU := hidb hcut.1
  have HD := hidb hcut.2.1
  have HT := hidb hcut.2.2
  clear HC1 HT1 HU1 c0 c1 c2 f0 f1 f2 hlt1 d0 d1 d2 d3 d4 g0 g1 g2 g3 g4 ltr hcut hm hcw
  obtain ⟨c0, c1, c2, f0, f1, f2, hlt1⟩ := HD.out
  go_step
  go_step
  go_cut [] from 10 (fun wd => But (· = b) w wd ∧ Cnt wd b (W + own k kids.length, max D d, bad) ∧ Box wd w.heap.size (.int .i64 k) (.int .i64 n) (.float .f64 f) (.string s) (.slice a kids.length c))
  case first =>
    by_cases hDd : D < d
    · go_wp2
      go_meet
      case rel =>
        have e : max D d = d := by omega
        rw [e]
        exact ⟨HU.out.setCell (fun _ => rfl) _, HD.out.set1 _, HT.out.other1 (by omega) _⟩
    · go_wp2
      go_meet
      case rel =>
        have e : max D d = D := by omega
        rw [e]
        exact ⟨HU.out.setCell (fun _ => rfl) _, HD.out.set1 _, HT.out.other1 (by omega) _⟩
  case rest =>
  clear HU HD HT c0 c1 c2 f0 f1 f2 hlt1
  have HU := hidb hcut.1
  have HD := hidb hcut.2.1
  have HT := hidb hcut.2.2
  clear hcut
  generalize hW' : W + own k kids.length = W' at *
  generalize hM : max D d = M at *
  obtain ⟨c0, c1, c2, f0, f1, f2, hlt1⟩ := HD.out
  by_cases hbig : W' > 65536 ∨ M > 200
  · have hr0 : (false, (W', M, bad)) = R := by have := HR.out; rwa [if_pos hbig] at this
    subst hr0
    by_cases hb1 : 65536 < W'
    · clear hbig
      go_wp2
      go_ret
      exact ⟨rfl, HD.out, HU.out⟩
    · have hb2 : 200 < M := by omega
      clear hbig
      go_wp2
      go_ret
      exact ⟨rfl, HD.out, HU.out⟩
  have HR2 := hidb (HR.out.symm.trans (if_neg hbig))
  have hb1 : ¬ 65536 < W' := by omega
  have hb2 : ¬ 200 < M := by omega
  have hd2 : d ≤ 200 := by omega
  clear hbig HR
  go_step
  go_step
  go_cut [] from 10 (fun we => But (· = b) w we ∧ Cnt we b (W', M, bad) ∧ Box we w.heap.size (.int .i64 k) (.int .i64 n) (.float .f64 f) (.string s) (.slice a kids.length c))
  case first =>
    go_wp2
    go_meet
    case rel => exact ⟨HU.out, HD.out, HT.out⟩
  case rest =>
  clear HU HD HT c0 c1 c2 f0 f1 f2 hlt1
  have HU := hidb hcut.1
  have HD := hidb hcut.2.1
  have HT := hidb hcut.2.2
  clear hcut
  obtain ⟨c0, c1, c2, f0, f1, f2, hlt1⟩ := HD.out
  go_step
  go_step
  go_cut [] from 10 (fun wf => But (· = b) w wf ∧ Cnt wf b (W', M, bad || !good (Tr.mk k n f s a c kids)) ∧ Box wf w.heap.size (.int .i64 k) (.int .i64 n) (.float .f64 f) (.string s) (.slice a kids.length c))
  case first =>
    have hfit : (Tr.mk k n f s a c kids).fit := by have := HIN.out; unfold Tr.In at this; exact this.1
    have HG := hidb (hg k n f s a c kids hfit)
    clear hfit
    obtain ⟨z0, z1, z2, z3, z4, y0, y1, y2, y3, y4, ltr2⟩ := HT.out
    cases bad with
    | true =>
      go_wp2
      go_meet
      case rel => exact ⟨HU.out.setCell (fun _ => rfl) _, HD.out.set2 _, HT.out.other1 (by omega) _⟩
    | false =>
      go_wp2_with fail
      refine (HG.out _).mono ?_
      rintro e w2 ⟨rfl, hb2⟩
      have HU2 := hidb (HU.out.trans (But.of_below hb2))
      have HC2 := hidb (HD.out.keep hb2)
      have HT2 := hidb (HT.out.keep hb2)
      clear c0 c1 c2 f0 f1 f2 hlt1 z0 z1 z2 z3 z4 y0 y1 y2 y3 y4 ltr2 hb2
      obtain ⟨c0, c1, c2, f0, f1, f2, hlt1⟩ := HC2.out
      go_wp2
      go_meet
      case rel => exact ⟨HU2.out.setCell (fun _ => rfl) _, HC2.out.set2 _, HT2.out.other1 (by omega) _⟩
  case rest =>
  clear HU HD HT c0 c1 c2 f0 f1 f2 hlt1
  have HU := hidb hcut.1
  have HD := hidb hcut.2.1
  have HT := hidb hcut.2.2
  clear hcut
  obtain ⟨z0, z1, z2, z3, z4, y0, y1, y2, y3, y4, ltr2⟩ := HT.out
  go_wp2_with fail
  go_loopw [65] (fun iv wr => ∃ (m : Nat) (st' : St), m ≤ kids.length ∧ iv = .int .i64 m ∧ overAll good (kids.drop m) (d + 1) st' = R ∧ Fits st' ∧ Cnt wr b st' ∧ But (· = b) w wr) (fun iv _ => kids.length - (intOf iv).toNat)
  case atStart =>
    refine ⟨0, _, by omega, rfl, ?_, ⟨?_, ?_, ?_, ?_⟩, HD.out, HU.out⟩
    · simpa using HR2.out.symm
    all_goals (simp only; omega)
  case round =>
    obtain ⟨m, ⟨W1, D1, bad1⟩, hm, rfl, hrest, hfits, hcn, hbut⟩ := hrel
    have HS := hidb hrest
    have HF := hidb hfits
    have HCR := hidb hcn
    have HUR := hidb hbut
    have HBR := hidb (HB.out.trans (hbut.below (by have := HB.out.size; omega) (by rintro x rfl; exact hb)))
    clear hrest hfits hcn hbut
    by_cases hml' : m < kids.length
    · have hmb : (m : Int) < (kids.length : Int) := by omega
      obtain ⟨b', o, rfl, hat⟩ := kid_at HIN.out (by omega)
      obtain ⟨k', n', f', s', a', c', kids', hu', hin', x0, x1, x2, x3, x4⟩ := hat m hml'
      have hlb : b' < w0.heap.size := World.block_lt_of_cell? w0 _ x0
      have v0 := (HBR.out.cell hlb).trans x0
      have v1 := (HBR.out.cell hlb).trans x1
      have v2 := (HBR.out.cell hlb).trans x2
      have v3 := (HBR.out.cell hlb).trans x3
      have v4 := (HBR.out.cell hlb).trans x4
      have hsk : Small (.mk k' n' f' s' a' c' kids') := by have := HSM.out; unfold Small at this; exact smallAll_get this.2 (List.mem_of_getElem? hu')
      have IH := hidb (HK.out _ (List.mem_of_getElem? hu') hin' hsk (d + 1) (W1, D1, bad1))
      have HUU := hidb hu'
      clear hu' hin' hat hsk x0 x1 x2 x3 x4
      have hmz : (0 : Int) ≤ (m : Int) := by omega
      go_wp2_with fail
      obtain ⟨t1, t2, t3, t4⟩ := HF.out
      refine (IH.out _ b hb ((HBR.out.alloc HBR.out.size _)) (HCR.out.keep (below_new wr _)) (by omega) (by omega) t1 t2 t3 t4).mono ?_
      have hstep : (if (over good (.mk k' n' f' s' a' c' kids') (d + 1) (W1, D1, bad1)).1 then overAll good (kids.drop (m + 1)) (d + 1) (over good (.mk k' n' f' s' a' c' kids') (d + 1) (W1, D1, bad1)).2 else (false, (over good (.mk k' n' f' s' a' c' kids') (d + 1) (W1, D1, bad1)).2)) = R := by
        have e := HS.out
        rw [drop_one HUU.out] at e
        simpa only [overAll] using e
      have hfit2 := over_fits good (.mk k' n' f' s' a' c' kids') (d + 1) (W1, D1, bad1) HF.out (by omega)
      generalize over good (.mk k' n' f' s' a' c' kids') (d + 1) (W1, D1, bad1) = X at hstep hfit2 ⊢
      obtain ⟨ok, st2⟩ := X
      clear t1 t2 t3 t4
      rintro e wz ⟨rfl, hcz, hbz⟩
      have HZ := hidb (((HUR.out.alloc _)).trans hbz)
      have HCZ := hidb hcz
      clear hcz hbz IH v0 v1 v2 v3 v4
      cases ok with
      | false =>
        simp only [Bool.false_eq_true, if_false] at hstep
        subst hstep
        go_wp2
        go_ret
        exact ⟨rfl, HCZ.out, HZ.out⟩
      | true =>
        simp only [if_true] at hstep
        have HS2 := hidb hstep
        have HF2 := hidb (hfit2 rfl)
        clear hstep hfit2
        go_wp2
        go_roundw
        case rel => exact ⟨m + 1, st2, by omega, by go_num, HS2.out, HF2.out, HCZ.out, HZ.out⟩
        case measure => simp [intOf]; omega
    · have hmn : ¬ (m : Int) < (kids.length : Int) := by omega
      go_wp2
      go_ret
      have e := HS.out
      rw [List.drop_of_length_le (by omega)] at e
      simp only [overAll] at e
      subst e
      exact ⟨rfl, HCR.out, HUR.out⟩
end Go.Proofs.YtpcpdehnppfbfaaGreat


