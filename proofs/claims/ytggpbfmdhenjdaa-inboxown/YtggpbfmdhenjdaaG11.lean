import Derived.Test.YtggpbfmdhenjdaaG10
import Derived.Test.YtggpbfmdhenjdaaG01
import Derived.Deep.RegionWith
import Derived.Deep.Cut
import Derived.Test.YtggpbfmdhenjdaaG00
/- The program's walk over a term, by induction on the tree. -/
namespace Go.Proofs.Ytggpbfmdhenjdaa
open Go.RowKit Go.Deep
attribute [local go_sem] store_float
attribute [local go_sem ↓] Go.wp_at_zero Go.wp_at_succ

theorem own_le (k : Int) {l : Nat} (h : l ≤ 400000) : own k l ≤ 800002 := by
  unfold own
  repeat' split
  all_goals omega

/-- What a walk has counted, when it goes on, is within the limits. -/
def Fits (st : St) : Prop := 0 ≤ st.1 ∧ st.1 ≤ 65536 ∧ 0 ≤ st.2.1 ∧ st.2.1 ≤ 200

theorem over_fits (good : Tr → Bool) : ∀ (t : Tr) (d : Int) (st : St), Fits st → 0 ≤ d → (over good t d st).1 = true → Fits (over good t d st).2 := by
  refine Tr.ind fun k n f s a c kids hk d st hst hd h => ?_
  have hall : ∀ (d : Int) (st : St), Fits st → 0 ≤ d → (overAll good kids d st).1 = true → Fits (overAll good kids d st).2 := by
    clear h hst hd d st
    induction kids with
    | nil => intro d st hst _ _; simpa only [overAll] using hst
    | cons t r ih =>
      intro d st hst hd h
      simp only [overAll] at h ⊢
      by_cases hc : (over good t d st).1 = true
      · rw [if_pos hc] at h ⊢
        exact ih (fun u hu => hk u (List.mem_cons_of_mem _ hu)) d _ (hk t (List.mem_cons_self ..) d st hst hd hc) hd h
      · rw [if_neg hc] at h; simp at h
  simp only [over] at h ⊢
  have ho := own_nonneg k kids.length
  obtain ⟨q1, q2, q3, q4⟩ := hst
  by_cases hbig : st.1 + own k kids.length > 65536 ∨ max st.2.1 d > 200
  · rw [if_pos hbig] at h; simp at h
  · rw [if_neg hbig] at h ⊢
    exact hall _ _ ⟨by simp only; omega, by simp only; omega, by simp only; omega, by simp only; omega⟩ (by omega) h

/-- Where a walk counts. -/
abbrev Cnt (w : World) (b : Nat) (st : St) : Prop := Tri w b (.int .i64 st.1) (.int .i64 st.2.1) (.bool st.2.2)

/-- The kinds' own look at a term tells 'good'. -/
def Looks (good : Tr → Bool) : Prop := ∀ (k n : Int) (f : Nat) (s : ByteArray) (a : Option Addr) (c : Nat) (kids : List Tr), (Tr.mk k n f s a c kids).fit → ∀ (w : World),
  Calls Try.prog (fright k) #[.agg #[], .agg #[.int .i64 k, .int .i64 n, .float .f64 f, .string s, .slice a kids.length c]] w fun e w' => e = .returned (.bool (good (.mk k n f s a c kids))) ∧ Below w.heap.size w w'

set_option maxHeartbeats 1600000 in
set_option maxRecDepth 100000 in
theorem over_any (good : Tr → Bool) (hg : Looks good) (w0 : World) : ∀ (t : Tr), t.In w0 0 → Small t → ∀ (d : Int) (st : St) (w : World) (b : Nat), w0.heap.size ≤ b → Below w0.heap.size w0 w → Cnt w b st → 1 ≤ d → d ≤ 201 → 0 ≤ st.1 → st.1 ≤ 65536 → 0 ≤ st.2.1 → st.2.1 ≤ 200 →
    Calls Try.prog 37 #[.pointer (some ⟨b, 0, none⟩), t.val, .int .i64 d] w fun e w' => e = .returned (.bool (over good t d st).1) ∧ Cnt w' b (over good t d st).2 ∧ But (· = b) w w' := by
  refine Tr.ind fun k n f s a c kids hk => ?_
  rintro hin hsm d ⟨W, D, bad⟩ w b hb hB hC h1 h2 h3 h4 h5 h6
  show Calls Try.prog 37 #[.pointer (some ⟨b, 0, none⟩), .agg #[.int .i64 k, .int .i64 n, .float .f64 f, .string s, .slice a kids.length c], .int .i64 d] w _
  generalize hR : over good (Tr.mk k n f s a c kids) d (W, D, bad) = R
  simp only [over] at hR
  have HR := hidb hR
  clear hR
  have HC := hidb hC
  clear hC
  have hml : kids.length ≤ 400000 := by unfold Small at hsm; exact hsm.1
  have hm := method_words k
  have hr := method_right k
  have hcw := call_words k
  have hcr := call_right k
  have ho := own_nonneg k kids.length
  have ho2 := own_le k hml
  have hww : wrap64 (W + own k kids.length) = W + own k kids.length := by unfold wrap64; omega
  have hwd : wrap64 (d + 1) = d + 1 := by unfold wrap64; omega
  have HK := hidb hk
  have HIN := hidb hin
  have HSM := hidb hsm
  have HB := hidb hB
  clear hk hin hsm hB
  have hlt := HC.out.lt
  go_enter Try.func37, Try.ntmps37
  go_wp2_with fail
  refine (kindOf_any _ _ _ _ _ _ _ _).mono ?_
  rintro e w1 ⟨rfl, hb1⟩
  have HT1 := hidb ((Box.new w 27 (.int .i64 k) (.int .i64 n) (.float .f64 f) (.string s) (.slice a kids.length c)).keep hb1)
  have HC1 := hidb ((HC.out.keep (below_new w _)).keep hb1)
  have HU1 := hidb ((But.refl (· = b) w).alloc (.cells #[.int .i64 k, .int .i64 n, .float .f64 f, .string s, .slice a kids.length c] 27) |>.trans (But.of_below hb1))
  clear hb1
  obtain ⟨c0, c1, c2, f0, f1, f2, hlt1⟩ := HC1.out
  obtain ⟨d0, d1, d2, d3, d4, g0, g1, g2, g3, g4, ltr⟩ := HT1.out
  go_wp2_with fail
  go_cut [] from 10 (fun wc => But (· = b) w wc ∧ Cnt wc b (W + own k kids.length, D, bad) ∧ Box wc w.heap.size (.int .i64 k) (.int .i64 n) (.float .f64 f) (.string s) (.slice a kids.length c))
  case first =>
    go_region_with (refine (words_any _ _ _ _ _ _ _ (by omega) _).mono ?_; rintro e w2 ⟨rfl, hb2⟩; have HU2 := hidb (HU1.out.trans (But.of_below (undrew hb2))); have HC2 := hidb (HC1.out.keep (undrew hb2)); have HT2 := hidb (HT1.out.keep (undrew hb2)); obtain ⟨e0, e1, e2, q0, q1, q2, hlt2⟩ := HC2.out; obtain ⟨z0, z1, z2, z3, z4, y0, y1, y2, y3, y4, ltr2⟩ := HT2.out; clear hb2)
    all_goals
      have hww' : IntKind.i64.wrap (W + own k kids.length) = W + own k kids.length := by rw [IntKind.wrap_i64]; omega
      rw [hww']
      go_wp2_with fail
      go_meet
      case rel =>
        exact ⟨HU2.out.setCell (fun _ => rfl) _, HC2.out.set0 _, HT2.out.other1 (by omega) _⟩
  case rest =>
  have HU := hidb hcut.1
  have HD := hidb hcut.2.1
  have HT := hidb hcut.2.2
  clear HC1 HT1 HU1 c0 c1 c2 f0 f1 f2 hlt1 d0 d1 d2 d3 d4 g0 g1 g2 g3 g4 ltr hcut hm hcw
  obtain ⟨c0, c1, c2, f0, f1, f2, hlt1⟩ := HD.out
  go_step
  go_step
  go_cut [] from 10 (fun wd => But (· = b) w wd ∧ Cnt wd b (W + own k kids.length, max D d, bad) ∧ Box wd w.heap.size (.int .i64 k) (.int .i64 n) (.float .f64 f) (.string s) (.slice a kids.length c))
  case first =>
    by_cases hDd : D < d
    · go_wp2
      go_meet
      case rel =>
        have e : max D d = d := by omega
        rw [e]
        exact ⟨HU.out.setCell (fun _ => rfl) _, HD.out.set1 _, HT.out.other1 (by omega) _⟩
    · go_wp2
      go_meet
      case rel =>
        have e : max D d = D := by omega
        rw [e]
        exact ⟨HU.out.setCell (fun _ => rfl) _, HD.out.set1 _, HT.out.other1 (by omega) _⟩
  case rest =>
  clear HU HD HT c0 c1 c2 f0 f1 f2 hlt1
  have HU := hidb hcut.1
  have HD := hidb hcut.2.1
  have HT := hidb hcut.2.2
  clear hcut
  generalize hW' : W + own k kids.length = W' at *
  generalize hM : max D d = M at *
  obtain ⟨c0, c1, c2, f0, f1, f2, hlt1⟩ := HD.out
  by_cases hbig : W' > 65536 ∨ M > 200
  · have hr0 : (false, (W', M, bad)) = R := by have := HR.out; rwa [if_pos hbig] at this
    subst hr0
    by_cases hb1 : 65536 < W'
    · clear hbig
      go_wp2
      go_ret
      exact ⟨rfl, HD.out, HU.out⟩
    · have hb2 : 200 < M := by omega
      clear hbig
      go_wp2
      go_ret
      exact ⟨rfl, HD.out, HU.out⟩
  have HR2 := hidb (HR.out.symm.trans (if_neg hbig))
  have hb1 : ¬ 65536 < W' := by omega
  have hb2 : ¬ 200 < M := by omega
  have hd2 : d ≤ 200 := by omega
  clear hbig HR
  go_step
  go_step
  go_cut [] from 10 (fun we => But (· = b) w we ∧ Cnt we b (W', M, bad) ∧ Box we w.heap.size (.int .i64 k) (.int .i64 n) (.float .f64 f) (.string s) (.slice a kids.length c))
  case first =>
    go_wp2
    go_meet
    case rel => exact ⟨HU.out, HD.out, HT.out⟩
  case rest =>
  clear HU HD HT c0 c1 c2 f0 f1 f2 hlt1
  have HU := hidb hcut.1
  have HD := hidb hcut.2.1
  have HT := hidb hcut.2.2
  clear hcut
  obtain ⟨c0, c1, c2, f0, f1, f2, hlt1⟩ := HD.out
  go_step
  go_step
  go_cut [] from 10 (fun wf => But (· = b) w wf ∧ Cnt wf b (W', M, bad || !good (Tr.mk k n f s a c kids)) ∧ Box wf w.heap.size (.int .i64 k) (.int .i64 n) (.float .f64 f) (.string s) (.slice a kids.length c))
  case first =>
    have hfit : (Tr.mk k n f s a c kids).fit := by have := HIN.out; unfold Tr.In at this; exact this.1
    have HG := hidb (hg k n f s a c kids hfit)
    clear hfit
    obtain ⟨z0, z1, z2, z3, z4, y0, y1, y2, y3, y4, ltr2⟩ := HT.out
    cases bad with
    | true =>
      go_wp2
      go_meet
      case rel => exact ⟨HU.out.setCell (fun _ => rfl) _, HD.out.set2 _, HT.out.other1 (by omega) _⟩
    | false =>
      go_wp2_with fail
      refine (HG.out _).mono ?_
      rintro e w2 ⟨rfl, hb2⟩
      have HU2 := hidb (HU.out.trans (But.of_below hb2))
      have HC2 := hidb (HD.out.keep hb2)
      have HT2 := hidb (HT.out.keep hb2)
      clear c0 c1 c2 f0 f1 f2 hlt1 z0 z1 z2 z3 z4 y0 y1 y2 y3 y4 ltr2 hb2
      obtain ⟨c0, c1, c2, f0, f1, f2, hlt1⟩ := HC2.out
      go_wp2
      go_meet
      case rel => exact ⟨HU2.out.setCell (fun _ => rfl) _, HC2.out.set2 _, HT2.out.other1 (by omega) _⟩
  case rest =>
  clear HU HD HT c0 c1 c2 f0 f1 f2 hlt1
  have HU := hidb hcut.1
  have HD := hidb hcut.2.1
  have HT := hidb hcut.2.2
  clear hcut
  obtain ⟨z0, z1, z2, z3, z4, y0, y1, y2, y3, y4, ltr2⟩ := HT.out
  go_wp2_with fail
  go_loopw [65] (fun iv wr => ∃ (m : Nat) (st' : St), m ≤ kids.length ∧ iv = .int .i64 m ∧ overAll good (kids.drop m) (d + 1) st' = R ∧ Fits st' ∧ Cnt wr b st' ∧ But (· = b) w wr) (fun iv _ => kids.length - (intOf iv).toNat)
  case atStart =>
    refine ⟨0, _, by omega, rfl, ?_, ⟨?_, ?_, ?_, ?_⟩, HD.out, HU.out⟩
    · simpa using HR2.out.symm
    all_goals (simp only; omega)
  case round =>
    obtain ⟨m, ⟨W1, D1, bad1⟩, hm, rfl, hrest, hfits, hcn, hbut⟩ := hrel
    have HS := hidb hrest
    have HF := hidb hfits
    have HCR := hidb hcn
    have HUR := hidb hbut
    have HBR := hidb (HB.out.trans (hbut.below (by have := HB.out.size; omega) (by rintro x rfl; exact hb)))
    clear hrest hfits hcn hbut
    by_cases hml' : m < kids.length
    · have hmb : (m : Int) < (kids.length : Int) := by omega
      obtain ⟨b', o, rfl, hat⟩ := kid_at HIN.out (by omega)
      obtain ⟨k', n', f', s', a', c', kids', hu', hin', x0, x1, x2, x3, x4⟩ := hat m hml'
      have hlb : b' < w0.heap.size := World.block_lt_of_cell? w0 _ x0
      have v0 := (HBR.out.cell hlb).trans x0
      have v1 := (HBR.out.cell hlb).trans x1
      have v2 := (HBR.out.cell hlb).trans x2
      have v3 := (HBR.out.cell hlb).trans x3
      have v4 := (HBR.out.cell hlb).trans x4
      have hsk : Small (.mk k' n' f' s' a' c' kids') := by have := HSM.out; unfold Small at this; exact smallAll_get this.2 (List.mem_of_getElem? hu')
      have IH := hidb (HK.out _ (List.mem_of_getElem? hu') hin' hsk (d + 1) (W1, D1, bad1))
      have HUU := hidb hu'
      clear hu' hin' hat hsk x0 x1 x2 x3 x4
      have hmz : (0 : Int) ≤ (m : Int) := by omega
      go_wp2_with fail
      obtain ⟨t1, t2, t3, t4⟩ := HF.out
      refine (IH.out _ b hb ((HBR.out.alloc HBR.out.size _)) (HCR.out.keep (below_new wr _)) (by omega) (by omega) t1 t2 t3 t4).mono ?_
      have hstep : (if (over good (.mk k' n' f' s' a' c' kids') (d + 1) (W1, D1, bad1)).1 then overAll good (kids.drop (m + 1)) (d + 1) (over good (.mk k' n' f' s' a' c' kids') (d + 1) (W1, D1, bad1)).2 else (false, (over good (.mk k' n' f' s' a' c' kids') (d + 1) (W1, D1, bad1)).2)) = R := by
        have e := HS.out
        rw [drop_one HUU.out] at e
        simpa only [overAll] using e
      have hfit2 := over_fits good (.mk k' n' f' s' a' c' kids') (d + 1) (W1, D1, bad1) HF.out (by omega)
      generalize over good (.mk k' n' f' s' a' c' kids') (d + 1) (W1, D1, bad1) = X at hstep hfit2 ⊢
      obtain ⟨ok, st2⟩ := X
      clear t1 t2 t3 t4
      rintro e wz ⟨rfl, hcz, hbz⟩
      have HZ := hidb (((HUR.out.alloc _)).trans hbz)
      have HCZ := hidb hcz
      clear hcz hbz IH v0 v1 v2 v3 v4
      cases ok with
      | false =>
        simp only [Bool.false_eq_true, if_false] at hstep
        subst hstep
        go_wp2
        go_ret
        exact ⟨rfl, HCZ.out, HZ.out⟩
      | true =>
        simp only [if_true] at hstep
        have HS2 := hidb hstep
        have HF2 := hidb (hfit2 rfl)
        clear hstep hfit2
        go_wp2
        go_roundw
        case rel => exact ⟨m + 1, st2, by omega, by go_num, HS2.out, HF2.out, HCZ.out, HZ.out⟩
        case measure => simp [intOf]; omega
    · have hmn : ¬ (m : Int) < (kids.length : Int) := by omega
      go_wp2
      go_ret
      have e := HS.out
      rw [List.drop_of_length_le (by omega)] at e
      simp only [overAll] at e
      subst e
      exact ⟨rfl, HCR.out, HUR.out⟩
end Go.Proofs.Ytggpbfmdhenjdaa


/- Small contracts of the program: how numbers are made, or refused, by the program. -/
namespace Go.Proofs.Ytggpbfmdhenjdaa
open Go.RowKit
attribute [local go_sem] store_float

theorem isWhole_any (n : Int) (w : World) : Calls Try.prog 67 #[.int .i64 n] w fun e w' => e = .returned (.bool (whB n)) ∧ w' = w := by
  cases hb : whB n
  · rcases whB_no hb with h | h
    · clear hb
      go_enter Try.func67, Try.ntmps67
      go_wp2
      go_ret
      exact ⟨rfl, rfl⟩
    · have h2 : -576460752303423488 ≤ n := by omega
      clear hb
      go_enter Try.func67, Try.ntmps67
      go_wp2
      go_ret
      refine ⟨?_, rfl⟩
      simp
      omega
  · obtain ⟨h1, h2⟩ := whB_yes hb
    clear hb
    go_enter Try.func67, Try.ntmps67
    go_wp2
    go_ret
    refine ⟨?_, rfl⟩
    simp

theorem isFinite_any (u : Nat) (hu : u < 18446744073709551616) (w : World) : Calls Try.prog 68 #[.int .u64 u] w fun e w' => e = .returned (.bool (Flt.fin u)) ∧ w' = w := by
  have hx := Flt.and_exp u hu
  have hy := u64_and_nat u 9218868437227405312 hu (by decide)
  have hz : (bits .and .u64 (u : Int) 9218868437227405312 != 9218868437227405312) = Flt.fin u := by
    rw [show (9218868437227405312 : Int) = ((9218868437227405312 : Nat) : Int) from rfl, hy, Bool.eq_iff_iff]
    cases hf : Flt.fin u
    · have := hx.2 hf; rw [this]; simp
    · have : ¬ (u &&& 9218868437227405312 = 9218868437227405312) := fun h => by rw [hx.1 h] at hf; cases hf
      simp; omega
  clear hx hy
  go_enter Try.func68, Try.ntmps68
  go_wp2
  go_ret
  exact ⟨rfl, rfl⟩

theorem numBits_any (u : Nat) (hu : u < 18446744073709551616) (w : World) : Calls Try.prog 69 #[.int .u64 u] w fun e w' => e = .returned (.tuple #[.agg #[.int .i64 (numBits u).k, .int .i64 (numBits u).n, .float .f64 (numBits u).f, .string ⟨#[]⟩, .slice none 0 0], .int .i64 (numBits u).e]) ∧ Below w.heap.size w w' := by
  have hf := f64frombits
  cases hb : Flt.fin u
  · have e : numBits u = ⟨0, 0, 0, 11⟩ := by simp [numBits, hb]
    rw [e]; clear e
    go_enter Try.func69, Try.ntmps69
    go_wp2_with (go_at_call 68; refine (isFinite_any _ hu _).mono ?_; rintro e w' ⟨rfl, rfl⟩)
    exact bodyPost_ret (v := .tuple #[.agg #[.int .i64 0, .int .i64 0, .float .f64 0, .string ⟨#[]⟩, .slice none 0 0], .int .i64 11]) (by simp [results, Try.results69, go_sem]) rfl ⟨rfl, (Below.refl _ _).alloc (Nat.le_refl _) _⟩
  · have e : numBits u = ⟨2, 0, u, 0⟩ := by simp [numBits, hb]
    rw [e]; clear e
    go_enter Try.func69, Try.ntmps69
    go_wp2_with (go_at_call 68; refine (isFinite_any _ hu _).mono ?_; rintro e w' ⟨rfl, rfl⟩)
    exact bodyPost_ret (v := .tuple #[.agg #[.int .i64 2, .int .i64 0, .float .f64 u, .string ⟨#[]⟩, .slice none 0 0], .int .i64 0]) (by simp [results, Try.results69, go_sem]) rfl ⟨rfl, (Below.refl _ _).alloc (Nat.le_refl _) _⟩

theorem numFloat_any (x : Nat) (hu : x < 18446744073709551616) (w : World) : Calls Try.prog 65 #[.float .f64 x] w fun e w' => e = .returned (.tuple #[.agg #[.int .i64 (numBits x).k, .int .i64 (numBits x).n, .float .f64 (numBits x).f, .string ⟨#[]⟩, .slice none 0 0], .int .i64 (numBits x).e]) ∧ Below w.heap.size w w' := by
  have hf := f64bits
  go_enter Try.func65, Try.ntmps65
  go_wp2_with fail
  refine (numBits_any x hu _).mono ?_
  rintro e w1 ⟨rfl, hb⟩
  obtain ⟨hc, hfr⟩ := bcell hb
  have hz := hb.size
  go_wp2
  exact bodyPost_ret (v := .tuple #[.agg #[.int .i64 ((numBits x).k), .int .i64 ((numBits x).n), .float .f64 ((numBits x).f), .string ⟨#[]⟩, .slice none 0 0], .int .i64 (numBits x).e]) (by simp [results, Try.results65, go_sem, hc]) rfl ⟨rfl, below_ret hb _ _ _ _ _⟩

end Go.Proofs.Ytggpbfmdhenjdaa


