import Derived.Test.YtgljglindgbjaaaGreatDoorG27
import Derived.Test.YtgljglindgbjaaaGreatDoorG35
import Derived.Test.YtgljglindgbjaaaGreatDoorG36
/- What the document's operators tell: the small functions. -/
namespace Go.Proofs.YtgljglindgbjaaaGreatDoor
open Go.RowKit Go.Lib Go.Deep
attribute [local go_sem] store_float f64bits
attribute [local go_sem ↓] Go.wp_at_zero Go.wp_at_succ

/-- What is told: a term, or an error. -/
abbrev Out : Type := Tr ⊕ Int
def OutS (o : Out) (w : World) (e : Ending) (w' : World) : Prop :=
  Below w.heap.size w w' ∧ match o with
  | .inl T => ∃ t' : Tr, Sm T t' ∧ t'.In w' w.heap.size ∧ e = .returned (.tuple #[t'.val, .int .i64 0])
  | .inr k => e = .returned (.tuple #[zterm, .int .i64 k])
def outR (r : R) : Out := if r.e = 0 then .inl (numR r) else .inr r.e
theorem rbad_any (e : Int) (w : World) : Calls Tryz.prog 18 #[.int .i64 e] w fun x w' => x = .returned (.tuple #[zterm, .int .i64 e]) ∧ Below w.heap.size w w' := by
  go_enter Tryz.func18, Tryz.ntmps18
  go_wp2_with fail
  exact bodyPost_ret (v := .tuple #[zterm, .int .i64 e]) (by simp [results, Tryz.results18, go_sem]) rfl ⟨rfl, below_new _ _⟩
theorem ratom_any (s : ByteArray) (w : World) : Calls Tryz.prog 46 #[.string s] w fun e w' => e = .returned (.agg #[.int .i64 3, .int .i64 0, .float .f64 0, .string s, .slice none 0 0]) ∧ Below w.heap.size w w' := by
  go_enter Tryz.func46, Tryz.ntmps46
  go_wp2_with fail
  exact bodyPost_ret (v := .agg #[.int .i64 3, .int .i64 0, .float .f64 0, .string s, .slice none 0 0]) (by simp [results, Tryz.results46, go_sem]) rfl ⟨rfl, below_new _ _⟩
set_option maxHeartbeats 2000000 in
set_option maxRecDepth 100000 in
theorem rB_any (b : Bool) (w : World) : Calls Tryz.prog 19 #[.bool b] w fun e w' => e = .returned (bolT b).val ∧ Below w.heap.size w w' := by
  have HX0 := hidb (Box.new w 27 (.int .i64 0) (.int .i64 0) (.float .f64 0) (.string ⟨#[]⟩) (.slice none 0 0))
  cases b
  · go_enter Tryz.func19, Tryz.ntmps19
    go_wp2_with (go_at_call 46; refine (ratom_any _ _).mono ?_; rintro e w1 ⟨rfl, hb⟩; have HB := hidb hb; have HX1 := hidb (HX0.out.keep hb); obtain ⟨⟨x0, x1, x2, x3, x4⟩, ⟨y0, y1, y2, y3, y4⟩, xl⟩ := Box.six HX1.out; clear hb)
    have bx9 := HX1.out.set (.int .i64 3) (.int .i64 0) (.float .f64 0) (.string falseS) (.slice none 0 0)
    obtain ⟨⟨k0, k1, k2, k3, k4⟩, -, -⟩ := Box.six bx9
    simp only [set5] at k0 k1 k2 k3 k4
    have hbW : Below w.heap.size w w1 := (below_new w _).trans (HB.out.mono (by simp))
    exact bodyPost_ret (v := (bolT false).val) (by simp [bolT, Tr.val, Tr.cells, results, Tryz.results19, go_sem, k0, k1, k2, k3, k4]) rfl ⟨rfl, (((((hbW.setCell (by simp) _).setCell (by simp) _).setCell (by simp) _).setCell (by simp) _).setCell (by simp) _)⟩
  · go_enter Tryz.func19, Tryz.ntmps19
    go_wp2_with (go_at_call 46; refine (ratom_any _ _).mono ?_; rintro e w1 ⟨rfl, hb⟩; have HB := hidb hb; have HX1 := hidb (HX0.out.keep hb); obtain ⟨⟨x0, x1, x2, x3, x4⟩, ⟨y0, y1, y2, y3, y4⟩, xl⟩ := Box.six HX1.out; clear hb)
    have bx9 := HX1.out.set (.int .i64 3) (.int .i64 0) (.float .f64 0) (.string trueS) (.slice none 0 0)
    obtain ⟨⟨k0, k1, k2, k3, k4⟩, -, -⟩ := Box.six bx9
    simp only [set5] at k0 k1 k2 k3 k4
    have hbW : Below w.heap.size w w1 := (below_new w _).trans (HB.out.mono (by simp))
    exact bodyPost_ret (v := (bolT true).val) (by simp [bolT, Tr.val, Tr.cells, results, Tryz.results19, go_sem, k0, k1, k2, k3, k4]) rfl ⟨rfl, (((((hbW.setCell (by simp) _).setCell (by simp) _).setCell (by simp) _).setCell (by simp) _).setCell (by simp) _)⟩

set_option maxHeartbeats 4000000 in
set_option maxRecDepth 100000 in
theorem rIsBool_any (t : Tr) (w : World) : Calls Tryz.prog 17 #[t.val] w fun e w' => e = .returned (.bool (isBol t)) ∧ Below w.heap.size w w' := by
  obtain ⟨k, n, f, s, a, c, ks⟩ := t
  simp only [Tr.val, Tr.cells]
  by_cases hk : k = 3
  · subst hk
    by_cases h1 : s = trueS
    · subst h1
      have hv : isBol (.mk 3 n f trueS a c ks) = true := by simp [isBol]
      rw [hv]
      go_enter Tryz.func17, Tryz.ntmps17
      go_wp2_with fail
      go_ret
      exact ⟨rfl, below_new _ _⟩
    · by_cases h2 : s = falseS
      · subst h2
        have hv : isBol (.mk 3 n f falseS a c ks) = true := by simp [isBol]
        rw [hv]
        go_enter Tryz.func17, Tryz.ntmps17
        go_wp2_with fail
        go_ret
        exact ⟨rfl, below_new _ _⟩
      · have hv : isBol (.mk 3 n f s a c ks) = false := by simp [isBol, h1, h2]
        rw [hv]
        obtain ⟨g1, g2⟩ := lit_ne (t := trueS) rfl h1
        obtain ⟨g3, g4⟩ := lit_ne (t := falseS) rfl h2
        clear h1 h2 hv
        go_enter Tryz.func17, Tryz.ntmps17
        go_wp2_with fail
        go_ret
        exact ⟨rfl, below_new _ _⟩
  · have hv : isBol (.mk k n f s a c ks) = false := by simp [isBol, hk]
    rw [hv]
    have hk' : (k == 3) = false := by simpa using hk
    clear hk hv
    go_enter Tryz.func17, Tryz.ntmps17
    go_wp2_with fail
    go_ret
    exact ⟨rfl, below_new _ _⟩
theorem in_set5 {w : World} {t : Tr} {B C b : Nat} (h : t.In w B) (hb : b < B) (hC : C ≤ B) (u0 u1 u2 u3 u4 : Value) : t.In (set5 w b u0 u1 u2 u3 u4) C :=
  in_base hC _ (in_set (in_set (in_set (in_set (in_set h (p := ⟨b, 0, none⟩) hb _) (p := ⟨b, 1, none⟩) hb _) (p := ⟨b, 2, none⟩) hb _) (p := ⟨b, 3, none⟩) hb _) (p := ⟨b, 4, none⟩) hb _)
/-- A term that may be too great. -/
def outT (t : Tr) : Out := if errT t = 0 then .inl t else .inr 12
set_option maxHeartbeats 4000000 in
set_option maxRecDepth 100000 in
theorem rright9_any (k n : Int) (f : Nat) (s : ByteArray) (a : Option Addr) (c : Nat) (ks : List Tr) (w : World) (hin : (Tr.mk k n f s a c ks).In w 0) (hsm : Small (.mk k n f s a c ks)) (hsw : SmallW (.mk k n f s a c ks)) : Calls Tryz.prog 23 #[(Tr.mk k n f s a c ks).val] w (OutS (outT (.mk k n f s a c ks)) w) := by
  have HR := hidb (fun W (hb : Below w.heap.size w W) => rright_t _ W (in_below hb hin) hsw)
  have HCP := hidb (fun W (hb : Below w.heap.size w W) => rcopy_any _ W (in_below hb hin) hsm)
  obtain ⟨PP, hPP⟩ : ∃ PP, OutS (outT (.mk k n f s a c ks)) w = PP := ⟨_, rfl⟩
  have HPP := hidb hPP
  rw [hPP]
  simp only [Tr.val, Tr.cells] at HR HCP ⊢
  obtain ⟨V1, hV1⟩ : ∃ V1, ((w.alloc (.cells #[.int .i64 k, .int .i64 n, .float .f64 f, .string s, .slice a ks.length c] 27)).alloc (.cells #[.int .i64 0, .int .i64 0, .float .f64 0, .string ⟨#[]⟩, .slice none 0 0] 27)) = V1 := ⟨_, rfl⟩
  have HX0 : Hid (Box V1 (w.heap.size + 1) (.int .i64 0) (.int .i64 0) (.float .f64 0) (.string ⟨#[]⟩) (.slice none 0 0)) := hidb (by
    rw [← hV1]
    have := Box.new (w.alloc (.cells #[.int .i64 k, .int .i64 n, .float .f64 f, .string s, .slice a ks.length c] 27)) 27 (.int .i64 0) (.int .i64 0) (.float .f64 0) (.string ⟨#[]⟩) (.slice none 0 0)
    simpa using this)
  have HY0 : Hid (Box V1 w.heap.size (.int .i64 k) (.int .i64 n) (.float .f64 f) (.string s) (.slice a ks.length c)) := hidb (by rw [← hV1]; exact (Box.new w _ _ _ _ _ _).keep (below_new _ _))
  have HBW : Hid (Below w.heap.size w V1) := hidb (by rw [← hV1]; exact (below_new w _).alloc (by simp) _)
  have HV1 := hidb hV1
  clear hin hsm hsw hPP hV1
  cases hE : (errT (.mk k n f s a c ks) == 0)
  · have HE := hidb hE
    rw [hE] at HR
    clear hE
    go_enter Tryz.func23, Tryz.ntmps23
    go_wp2_with fail
    rw [HV1.out]
    refine (HR.out _ HBW.out).mono ?_
    rintro e w2 ⟨rfl, hb2⟩
    have HB2 := hidb (HBW.out.trans (hb2.mono HBW.out.size))
    have HX2 := hidb (HX0.out.keep hb2)
    have HY2 := hidb (HY0.out.keep hb2)
    clear hb2
    obtain ⟨⟨x0, x1, x2, x3, x4⟩, ⟨y0, y1, y2, y3, y4⟩, xl⟩ := Box.six HX2.out
    go_wp2_with fail
    refine (rbad_any _ _).mono ?_
    rintro e w3 ⟨rfl, hb3⟩
    have HB3 := hidb (HB2.out.trans (hb3.mono HB2.out.size))
    have HX3 := hidb (HX2.out.keep hb3)
    clear hb3 x0 x1 x2 x3 x4 y0 y1 y2 y3 y4 xl
    obtain ⟨⟨x0, x1, x2, x3, x4⟩, ⟨y0, y1, y2, y3, y4⟩, xl⟩ := Box.six HX3.out
    go_wp2_with fail
    have bx9 := HX3.out.set (.int .i64 0) (.int .i64 0) (.float .f64 0) (.string ⟨#[]⟩) (.slice none 0 0)
    obtain ⟨⟨k0, k1', k2, k3, k4⟩, -, -⟩ := Box.six bx9
    simp only [set5] at k0 k1' k2 k3 k4
    refine bodyPost_ret (v := .tuple #[zterm, .int .i64 12]) (by simp [results, Tryz.results23, go_sem, k0, k1', k2, k3, k4]) rfl ?_
    rw [← HPP.out]
    refine ⟨(((((HB3.out.setCell (by simp) _).setCell (by simp) _).setCell (by simp) _).setCell (by simp) _).setCell (by simp) _), ?_⟩
    have hne : ¬ errT (.mk k n f s a c ks) = 0 := by have := HE.out; simpa using this
    simp only [outT, if_neg hne]
  · have HE := hidb hE
    rw [hE] at HR
    clear hE
    go_enter Tryz.func23, Tryz.ntmps23
    go_wp2_with fail
    rw [HV1.out]
    refine (HR.out _ HBW.out).mono ?_
    rintro e w2 ⟨rfl, hb2⟩
    have HB2 := hidb (HBW.out.trans (hb2.mono HBW.out.size))
    have HX2 := hidb (HX0.out.keep hb2)
    have HY2 := hidb (HY0.out.keep hb2)
    clear hb2
    obtain ⟨u0, u1, u2, u3, u4, -, -, -, -, -, -⟩ := HY2.out
    go_wp2_with fail
    refine (HCP.out _ HB2.out).mono ?_
    rintro e w3 ⟨⟨k', n', f', s', a', c', ks'⟩, rfl, hsm', hin', hb3⟩
    have HB3 := hidb (HB2.out.trans (hb3.mono HB2.out.size))
    have HX3 := hidb (HX2.out.keep hb3)
    have HIN := hidb hin'
    have HSM' := hidb hsm'
    have HZ := hidb HB2.out.size
    have hlx := HX2.out.lt
    clear hb3 hin' hsm' u0 u1 u2 u3 u4
    obtain ⟨⟨x0, x1, x2, x3, x4⟩, ⟨y0, y1, y2, y3, y4⟩, xl⟩ := Box.six HX3.out
    go_wp2_with fail
    have bx9 := HX3.out.set (.int .i64 k') (.int .i64 n') (.float .f64 f') (.string s') (.slice a' ks'.length c')
    obtain ⟨⟨k0, k1', k2, k3, k4⟩, -, -⟩ := Box.six bx9
    simp only [set5] at k0 k1' k2 k3 k4
    refine bodyPost_ret (v := .tuple #[(Tr.mk k' n' f' s' a' c' ks').val, .int .i64 0]) (by simp [Tr.val, Tr.cells, results, Tryz.results23, go_sem, k0, k1', k2, k3, k4]) rfl ?_
    rw [← HPP.out]
    refine ⟨(((((HB3.out.setCell (by simp) _).setCell (by simp) _).setCell (by simp) _).setCell (by simp) _).setCell (by simp) _), ?_⟩
    have hne : errT (.mk k n f s a c ks) = 0 := by have := HE.out; simpa using this
    simp only [outT, if_pos hne]
    refine ⟨_, HSM'.out, ?_, rfl⟩
    exact in_set5 HIN.out hlx HB2.out.size _ _ _ _ _
end Go.Proofs.YtgljglindgbjaaaGreatDoor


/- The document's Op: numbers. -/
namespace Go.Proofs.YtgljglindgbjaaaGreatDoor
open Go.RowKit Go.Lib Go.Deep
attribute [local go_sem] store_float f64bits
attribute [local go_sem ↓] Go.wp_at_zero Go.wp_at_succ

theorem sm_self : ∀ t : Tr, Sm t t := by
  refine Tr.ind fun k n f s a c ks hk => ?_
  unfold Sm
  refine ⟨rfl, rfl, rfl, rfl, ?_⟩
  have : ∀ l : List Tr, (∀ t ∈ l, Sm t t) → SmA l l := by
    intro l
    induction l with
    | nil => intro _; unfold SmA; trivial
    | cons t r ih => intro h; unfold SmA; exact ⟨h t (by simp), ih (fun u hu => h u (by simp [hu]))⟩
  exact this ks hk
theorem outR_says {r : R} (ht : ToldN r) {w w' : World} (hb : Below w.heap.size w w') : OutS (outR r) w (.returned (.tuple #[.agg #[.int .i64 (r.k), .int .i64 (r.n), .float .f64 (r.f), .string ⟨#[]⟩, .slice none 0 0], .int .i64 r.e])) w' := by
  refine ⟨hb, ?_⟩
  by_cases h0 : r.e = 0
  · simp only [outR, if_pos h0]
    exact ⟨numR r, sm_self _, (by have h := (numR_in ht h0 w' (fun _ => True)).1; unfold Tr.In at h ⊢; exact ⟨h.1, fun ad h9 => by simp at h9⟩), by rw [h0]; rfl⟩
  · simp only [outR, if_neg h0]
    rcases ht with ⟨h, -⟩ | ⟨-, h1, h2, h3⟩
    · exact absurd h h0
    · rw [h1, h2, h3]
theorem outB_says (x : Bool) {w w' : World} (hb : Below w.heap.size w w') : OutS (.inl (bolT x)) w (.returned (.tuple #[(bolT x).val, .int .i64 0])) w' := ⟨hb, bolT x, sm_self _, bolT_in x w' _, rfl⟩
theorem outE_says (k : Int) {w w' : World} (hb : Below w.heap.size w w') : OutS (.inr k) w (.returned (.tuple #[zterm, .int .i64 k])) w' := ⟨hb, rfl⟩
set_option maxHeartbeats 4000000 in
set_option maxRecDepth 100000 in
theorem rop_neg {w : World} {a : Option Addr} {c : Nat} {t0 : Tr} (hin : ArgsIn w a c [t0]) {r : R} (ht : ToldN r) (hN : ∀ W, Calls Tryz.prog 16 #[t0.val] W fun e w' => e = .returned (.tuple #[.agg #[.int .i64 (r.k), .int .i64 (r.n), .float .f64 (r.f), .string ⟨#[]⟩, .slice none 0 0], .int .i64 r.e]) ∧ Below W.heap.size W w') :
    Calls Tryz.prog 7 #[.string ⟨#[45]⟩, .slice a 1 c] w (OutS (outR r) w) := by
  obtain ⟨k, n, f, s, a', c', ks⟩ := t0
  obtain ⟨b, o, rfl, hbW, v0, v1, v2, v3, v4, -⟩ := argi hin (Below.refl _ _) (i := 0) rfl
  simp only [Nat.zero_mul, Nat.add_zero] at v0 v1 v2 v3 v4
  have HN := hidb hN
  simp only [Tr.val, Tr.cells] at HN
  have HT := hidb ht
  clear hN ht
  generalize ks.length = l0 at *
  obtain ⟨PP, hPP⟩ : ∃ PP, OutS (outR r) w = PP := ⟨_, rfl⟩
  have HPP := hidb hPP
  rw [hPP]
  clear hin hPP
  have HX0 := hidb (Box.new w 27 (.int .i64 0) (.int .i64 0) (.float .f64 0) (.string ⟨#[]⟩) (.slice none 0 0))
  have HB0 := hidb (below_new w (.cells #[.int .i64 0, .int .i64 0, .float .f64 0, .string ⟨#[]⟩, .slice none 0 0] 27))
  obtain ⟨rk, rn, rf, re⟩ := r
  go_enter Tryz.func7, Tryz.ntmps7
  go_wp2_with fail
  refine (HN.out _).mono ?_
  rintro e w2 ⟨rfl, hb2⟩
  have HB3 := hidb (HB0.out.trans (hb2.mono HB0.out.size))
  have HX3 := hidb (HX0.out.keep hb2)
  clear hb2 v0 v1 v2 v3 v4
  obtain ⟨⟨x0, x1, x2, x3, x4⟩, ⟨y0, y1, y2, y3, y4⟩, xl⟩ := Box.six HX3.out
  go_wp2_with fail
  have bx9 := HX3.out.set (.int .i64 rk) (.int .i64 rn) (.float .f64 rf) (.string ⟨#[]⟩) (.slice none 0 0)
  have bx9 := bx9.keep (below_new _ (.cells #[.int .i64 rk, .int .i64 rn, .float .f64 rf, .string ⟨#[]⟩, .slice none 0 0] 27))
  obtain ⟨⟨k0, k1', k2, k3, k4⟩, -, -⟩ := Box.six bx9
  simp only [set5] at k0 k1' k2 k3 k4
  refine bodyPost_ret (v := .tuple #[.agg #[.int .i64 (rk), .int .i64 (rn), .float .f64 (rf), .string ⟨#[]⟩, .slice none 0 0], .int .i64 re]) (by simp [results, Tryz.results7, go_sem, k0, k1', k2, k3, k4]) rfl ?_
  rw [← HPP.out]
  exact outR_says HT.out ((((((HB3.out.setCell (by simp) _).setCell (by simp) _).setCell (by simp) _).setCell (by simp) _).setCell (by simp) _).alloc (by have := HB3.out.size; simp; omega) _)
set_option maxHeartbeats 4000000 in
set_option maxRecDepth 100000 in
theorem rop_add {w : World} {a : Option Addr} {c : Nat} {t0 t1 : Tr} (hin : ArgsIn w a c [t0, t1]) {r : R} (ht : ToldN r) (hN : ∀ W, Calls Tryz.prog 20 #[.string ⟨#[43]⟩, t0.val, t1.val] W fun e w' => e = .returned (.tuple #[.agg #[.int .i64 (r.k), .int .i64 (r.n), .float .f64 (r.f), .string ⟨#[]⟩, .slice none 0 0], .int .i64 r.e]) ∧ Below W.heap.size W w') :
    Calls Tryz.prog 7 #[.string ⟨#[43]⟩, .slice a 2 c] w (OutS (outR r) w) := by
  obtain ⟨k, n, f, s, a', c', ks⟩ := t0
  obtain ⟨k1, n1, f1, s1, a1, c1, ks1⟩ := t1
  obtain ⟨b, o, rfl, hbW, v0, v1, v2, v3, v4, -⟩ := argi hin (Below.refl _ _) (i := 0) rfl
  obtain ⟨b2, o2, e, -, u0, u1, u2, u3, u4, -⟩ := argi hin (Below.refl _ _) (i := 1) rfl
  obtain ⟨rfl, rfl⟩ : b = b2 ∧ o = o2 := by simpa using e
  simp only [Nat.zero_mul, Nat.add_zero, Nat.one_mul] at v0 v1 v2 v3 v4 u0 u1 u2 u3 u4
  have HN := hidb hN
  simp only [Tr.val, Tr.cells] at HN
  have HT := hidb ht
  clear hN ht
  generalize ks.length = l0 at *
  generalize ks1.length = l1 at *
  obtain ⟨PP, hPP⟩ : ∃ PP, OutS (outR r) w = PP := ⟨_, rfl⟩
  have HPP := hidb hPP
  rw [hPP]
  clear hin hPP
  obtain ⟨V3, hV3⟩ : ∃ V3, ((w.alloc (.cells #[.int .i64 0, .int .i64 0, .float .f64 0, .string ⟨#[]⟩, .slice none 0 0] 27)).alloc (.cells #[.int .i64 k, .int .i64 n, .float .f64 f, .string s, .slice a' l0 c'] 27)).alloc (.cells #[.int .i64 k1, .int .i64 n1, .float .f64 f1, .string s1, .slice a1 l1 c1] 27) = V3 := ⟨_, rfl⟩
  have hs1 : (w.alloc (.cells #[.int .i64 0, .int .i64 0, .float .f64 0, .string ⟨#[]⟩, .slice none 0 0] 27)).heap.size = w.heap.size + 1 := by simp
  have hs2 : ((w.alloc (.cells #[.int .i64 0, .int .i64 0, .float .f64 0, .string ⟨#[]⟩, .slice none 0 0] 27)).alloc (.cells #[.int .i64 k, .int .i64 n, .float .f64 f, .string s, .slice a' l0 c'] 27)).heap.size = w.heap.size + 1 + 1 := by simp
  have HX0 : Hid (Box V3 w.heap.size (.int .i64 0) (.int .i64 0) (.float .f64 0) (.string ⟨#[]⟩) (.slice none 0 0)) := hidb (by rw [← hV3]; exact ((Box.new w 27 (.int .i64 0) (.int .i64 0) (.float .f64 0) (.string ⟨#[]⟩) (.slice none 0 0)).keep (below_new _ _)).keep (below_new _ _))
  have HA0 : Hid (Box V3 (w.heap.size + 1) (.int .i64 k) (.int .i64 n) (.float .f64 f) (.string s) (.slice a' l0 c')) := hidb (by
    rw [← hV3, ← hs1]; exact (Box.new _ 27 _ _ _ _ _).keep (below_new _ _))
  have HA1 : Hid (Box V3 (w.heap.size + 1 + 1) (.int .i64 k1) (.int .i64 n1) (.float .f64 f1) (.string s1) (.slice a1 l1 c1)) := hidb (by
    rw [← hV3, ← hs2]; exact Box.new _ 27 _ _ _ _ _)
  have HB0 : Hid (Below w.heap.size w V3) := hidb (by rw [← hV3]; exact ((below_new w _).alloc (by simp) _).alloc (by simp; omega) _)
  have HV3 := hidb hV3
  clear hV3 hs1 hs2
  obtain ⟨rk, rn, rf, re⟩ := r
  go_enter Tryz.func7, Tryz.ntmps7
  go_wp2_with fail
  rw [HV3.out]
  refine (HN.out _).mono ?_
  rintro e w2 ⟨rfl, hb2⟩
  have HB3 := hidb (HB0.out.trans (hb2.mono HB0.out.size))
  have HX3 := hidb (HX0.out.keep hb2)
  clear hb2 v0 v1 v2 v3 v4 u0 u1 u2 u3 u4
  obtain ⟨⟨x0, x1, x2, x3, x4⟩, ⟨y0, y1, y2, y3, y4⟩, xl⟩ := Box.six HX3.out
  go_wp2_with fail
  have bx9 := HX3.out.set (.int .i64 rk) (.int .i64 rn) (.float .f64 rf) (.string ⟨#[]⟩) (.slice none 0 0)
  obtain ⟨⟨k0, k1', k2, k3, k4⟩, -, -⟩ := Box.six bx9
  simp only [set5] at k0 k1' k2 k3 k4
  refine bodyPost_ret (v := .tuple #[.agg #[.int .i64 (rk), .int .i64 (rn), .float .f64 (rf), .string ⟨#[]⟩, .slice none 0 0], .int .i64 re]) (by simp [results, Tryz.results7, go_sem, k0, k1', k2, k3, k4]) rfl ?_
  rw [← HPP.out]
  exact outR_says HT.out (((((HB3.out.setCell (by simp) _).setCell (by simp) _).setCell (by simp) _).setCell (by simp) _).setCell (by simp) _)
set_option maxHeartbeats 4000000 in
set_option maxRecDepth 100000 in
theorem rop_sub {w : World} {a : Option Addr} {c : Nat} {t0 t1 : Tr} (hin : ArgsIn w a c [t0, t1]) {r : R} (ht : ToldN r) (hN : ∀ W, Calls Tryz.prog 20 #[.string ⟨#[45]⟩, t0.val, t1.val] W fun e w' => e = .returned (.tuple #[.agg #[.int .i64 (r.k), .int .i64 (r.n), .float .f64 (r.f), .string ⟨#[]⟩, .slice none 0 0], .int .i64 r.e]) ∧ Below W.heap.size W w') :
    Calls Tryz.prog 7 #[.string ⟨#[45]⟩, .slice a 2 c] w (OutS (outR r) w) := by
  obtain ⟨k, n, f, s, a', c', ks⟩ := t0
  obtain ⟨k1, n1, f1, s1, a1, c1, ks1⟩ := t1
  obtain ⟨b, o, rfl, hbW, v0, v1, v2, v3, v4, -⟩ := argi hin (Below.refl _ _) (i := 0) rfl
  obtain ⟨b2, o2, e, -, u0, u1, u2, u3, u4, -⟩ := argi hin (Below.refl _ _) (i := 1) rfl
  obtain ⟨rfl, rfl⟩ : b = b2 ∧ o = o2 := by simpa using e
  simp only [Nat.zero_mul, Nat.add_zero, Nat.one_mul] at v0 v1 v2 v3 v4 u0 u1 u2 u3 u4
  have HN := hidb hN
  simp only [Tr.val, Tr.cells] at HN
  have HT := hidb ht
  clear hN ht
  generalize ks.length = l0 at *
  generalize ks1.length = l1 at *
  obtain ⟨PP, hPP⟩ : ∃ PP, OutS (outR r) w = PP := ⟨_, rfl⟩
  have HPP := hidb hPP
  rw [hPP]
  clear hin hPP
  obtain ⟨V3, hV3⟩ : ∃ V3, ((w.alloc (.cells #[.int .i64 0, .int .i64 0, .float .f64 0, .string ⟨#[]⟩, .slice none 0 0] 27)).alloc (.cells #[.int .i64 k, .int .i64 n, .float .f64 f, .string s, .slice a' l0 c'] 27)).alloc (.cells #[.int .i64 k1, .int .i64 n1, .float .f64 f1, .string s1, .slice a1 l1 c1] 27) = V3 := ⟨_, rfl⟩
  have hs1 : (w.alloc (.cells #[.int .i64 0, .int .i64 0, .float .f64 0, .string ⟨#[]⟩, .slice none 0 0] 27)).heap.size = w.heap.size + 1 := by simp
  have hs2 : ((w.alloc (.cells #[.int .i64 0, .int .i64 0, .float .f64 0, .string ⟨#[]⟩, .slice none 0 0] 27)).alloc (.cells #[.int .i64 k, .int .i64 n, .float .f64 f, .string s, .slice a' l0 c'] 27)).heap.size = w.heap.size + 1 + 1 := by simp
  have HX0 : Hid (Box V3 w.heap.size (.int .i64 0) (.int .i64 0) (.float .f64 0) (.string ⟨#[]⟩) (.slice none 0 0)) := hidb (by rw [← hV3]; exact ((Box.new w 27 (.int .i64 0) (.int .i64 0) (.float .f64 0) (.string ⟨#[]⟩) (.slice none 0 0)).keep (below_new _ _)).keep (below_new _ _))
  have HA0 : Hid (Box V3 (w.heap.size + 1) (.int .i64 k) (.int .i64 n) (.float .f64 f) (.string s) (.slice a' l0 c')) := hidb (by
    rw [← hV3, ← hs1]; exact (Box.new _ 27 _ _ _ _ _).keep (below_new _ _))
  have HA1 : Hid (Box V3 (w.heap.size + 1 + 1) (.int .i64 k1) (.int .i64 n1) (.float .f64 f1) (.string s1) (.slice a1 l1 c1)) := hidb (by
    rw [← hV3, ← hs2]; exact Box.new _ 27 _ _ _ _ _)
  have HB0 : Hid (Below w.heap.size w V3) := hidb (by rw [← hV3]; exact ((below_new w _).alloc (by simp) _).alloc (by simp; omega) _)
  have HV3 := hidb hV3
  clear hV3 hs1 hs2
  obtain ⟨rk, rn, rf, re⟩ := r
  go_enter Tryz.func7, Tryz.ntmps7
  go_wp2_with fail
  rw [HV3.out]
  refine (HN.out _).mono ?_
  rintro e w2 ⟨rfl, hb2⟩
  have HB3 := hidb (HB0.out.trans (hb2.mono HB0.out.size))
  have HX3 := hidb (HX0.out.keep hb2)
  clear hb2 v0 v1 v2 v3 v4 u0 u1 u2 u3 u4
  obtain ⟨⟨x0, x1, x2, x3, x4⟩, ⟨y0, y1, y2, y3, y4⟩, xl⟩ := Box.six HX3.out
  go_wp2_with fail
  have bx9 := HX3.out.set (.int .i64 rk) (.int .i64 rn) (.float .f64 rf) (.string ⟨#[]⟩) (.slice none 0 0)
  obtain ⟨⟨k0, k1', k2, k3, k4⟩, -, -⟩ := Box.six bx9
  simp only [set5] at k0 k1' k2 k3 k4
  refine bodyPost_ret (v := .tuple #[.agg #[.int .i64 (rk), .int .i64 (rn), .float .f64 (rf), .string ⟨#[]⟩, .slice none 0 0], .int .i64 re]) (by simp [results, Tryz.results7, go_sem, k0, k1', k2, k3, k4]) rfl ?_
  rw [← HPP.out]
  exact outR_says HT.out (((((HB3.out.setCell (by simp) _).setCell (by simp) _).setCell (by simp) _).setCell (by simp) _).setCell (by simp) _)
set_option maxHeartbeats 4000000 in
set_option maxRecDepth 100000 in
theorem rop_mul {w : World} {a : Option Addr} {c : Nat} {t0 t1 : Tr} (hin : ArgsIn w a c [t0, t1]) {r : R} (ht : ToldN r) (hN : ∀ W, Calls Tryz.prog 20 #[.string ⟨#[42]⟩, t0.val, t1.val] W fun e w' => e = .returned (.tuple #[.agg #[.int .i64 (r.k), .int .i64 (r.n), .float .f64 (r.f), .string ⟨#[]⟩, .slice none 0 0], .int .i64 r.e]) ∧ Below W.heap.size W w') :
    Calls Tryz.prog 7 #[.string ⟨#[42]⟩, .slice a 2 c] w (OutS (outR r) w) := by
  obtain ⟨k, n, f, s, a', c', ks⟩ := t0
  obtain ⟨k1, n1, f1, s1, a1, c1, ks1⟩ := t1
  obtain ⟨b, o, rfl, hbW, v0, v1, v2, v3, v4, -⟩ := argi hin (Below.refl _ _) (i := 0) rfl
  obtain ⟨b2, o2, e, -, u0, u1, u2, u3, u4, -⟩ := argi hin (Below.refl _ _) (i := 1) rfl
  obtain ⟨rfl, rfl⟩ : b = b2 ∧ o = o2 := by simpa using e
  simp only [Nat.zero_mul, Nat.add_zero, Nat.one_mul] at v0 v1 v2 v3 v4 u0 u1 u2 u3 u4
  have HN := hidb hN
  simp only [Tr.val, Tr.cells] at HN
  have HT := hidb ht
  clear hN ht
  generalize ks.length = l0 at *
  generalize ks1.length = l1 at *
  obtain ⟨PP, hPP⟩ : ∃ PP, OutS (outR r) w = PP := ⟨_, rfl⟩
  have HPP := hidb hPP
  rw [hPP]
  clear hin hPP
  obtain ⟨V3, hV3⟩ : ∃ V3, ((w.alloc (.cells #[.int .i64 0, .int .i64 0, .float .f64 0, .string ⟨#[]⟩, .slice none 0 0] 27)).alloc (.cells #[.int .i64 k, .int .i64 n, .float .f64 f, .string s, .slice a' l0 c'] 27)).alloc (.cells #[.int .i64 k1, .int .i64 n1, .float .f64 f1, .string s1, .slice a1 l1 c1] 27) = V3 := ⟨_, rfl⟩
  have hs1 : (w.alloc (.cells #[.int .i64 0, .int .i64 0, .float .f64 0, .string ⟨#[]⟩, .slice none 0 0] 27)).heap.size = w.heap.size + 1 := by simp
  have hs2 : ((w.alloc (.cells #[.int .i64 0, .int .i64 0, .float .f64 0, .string ⟨#[]⟩, .slice none 0 0] 27)).alloc (.cells #[.int .i64 k, .int .i64 n, .float .f64 f, .string s, .slice a' l0 c'] 27)).heap.size = w.heap.size + 1 + 1 := by simp
  have HX0 : Hid (Box V3 w.heap.size (.int .i64 0) (.int .i64 0) (.float .f64 0) (.string ⟨#[]⟩) (.slice none 0 0)) := hidb (by rw [← hV3]; exact ((Box.new w 27 (.int .i64 0) (.int .i64 0) (.float .f64 0) (.string ⟨#[]⟩) (.slice none 0 0)).keep (below_new _ _)).keep (below_new _ _))
  have HA0 : Hid (Box V3 (w.heap.size + 1) (.int .i64 k) (.int .i64 n) (.float .f64 f) (.string s) (.slice a' l0 c')) := hidb (by
    rw [← hV3, ← hs1]; exact (Box.new _ 27 _ _ _ _ _).keep (below_new _ _))
  have HA1 : Hid (Box V3 (w.heap.size + 1 + 1) (.int .i64 k1) (.int .i64 n1) (.float .f64 f1) (.string s1) (.slice a1 l1 c1)) := hidb (by
    rw [← hV3, ← hs2]; exact Box.new _ 27 _ _ _ _ _)
  have HB0 : Hid (Below w.heap.size w V3) := hidb (by rw [← hV3]; exact ((below_new w _).alloc (by simp) _).alloc (by simp; omega) _)
  have HV3 := hidb hV3
  clear hV3 hs1 hs2
  obtain ⟨rk, rn, rf, re⟩ := r
  go_enter Tryz.func7, Tryz.ntmps7
  go_wp2_with fail
  rw [HV3.out]
  refine (HN.out _).mono ?_
  rintro e w2 ⟨rfl, hb2⟩
  have HB3 := hidb (HB0.out.trans (hb2.mono HB0.out.size))
  have HX3 := hidb (HX0.out.keep hb2)
  clear hb2 v0 v1 v2 v3 v4 u0 u1 u2 u3 u4
  obtain ⟨⟨x0, x1, x2, x3, x4⟩, ⟨y0, y1, y2, y3, y4⟩, xl⟩ := Box.six HX3.out
  go_wp2_with fail
  have bx9 := HX3.out.set (.int .i64 rk) (.int .i64 rn) (.float .f64 rf) (.string ⟨#[]⟩) (.slice none 0 0)
  obtain ⟨⟨k0, k1', k2, k3, k4⟩, -, -⟩ := Box.six bx9
  simp only [set5] at k0 k1' k2 k3 k4
  refine bodyPost_ret (v := .tuple #[.agg #[.int .i64 (rk), .int .i64 (rn), .float .f64 (rf), .string ⟨#[]⟩, .slice none 0 0], .int .i64 re]) (by simp [results, Tryz.results7, go_sem, k0, k1', k2, k3, k4]) rfl ?_
  rw [← HPP.out]
  exact outR_says HT.out (((((HB3.out.setCell (by simp) _).setCell (by simp) _).setCell (by simp) _).setCell (by simp) _).setCell (by simp) _)
set_option maxHeartbeats 4000000 in
set_option maxRecDepth 100000 in
theorem rop_quo {w : World} {a : Option Addr} {c : Nat} {t0 t1 : Tr} (hin : ArgsIn w a c [t0, t1]) {r : R} (ht : ToldN r) (hN : ∀ W, Calls Tryz.prog 20 #[.string ⟨#[47]⟩, t0.val, t1.val] W fun e w' => e = .returned (.tuple #[.agg #[.int .i64 (r.k), .int .i64 (r.n), .float .f64 (r.f), .string ⟨#[]⟩, .slice none 0 0], .int .i64 r.e]) ∧ Below W.heap.size W w') :
    Calls Tryz.prog 7 #[.string ⟨#[47]⟩, .slice a 2 c] w (OutS (outR r) w) := by
  obtain ⟨k, n, f, s, a', c', ks⟩ := t0
  obtain ⟨k1, n1, f1, s1, a1, c1, ks1⟩ := t1
  obtain ⟨b, o, rfl, hbW, v0, v1, v2, v3, v4, -⟩ := argi hin (Below.refl _ _) (i := 0) rfl
  obtain ⟨b2, o2, e, -, u0, u1, u2, u3, u4, -⟩ := argi hin (Below.refl _ _) (i := 1) rfl
  obtain ⟨rfl, rfl⟩ : b = b2 ∧ o = o2 := by simpa using e
  simp only [Nat.zero_mul, Nat.add_zero, Nat.one_mul] at v0 v1 v2 v3 v4 u0 u1 u2 u3 u4
  have HN := hidb hN
  simp only [Tr.val, Tr.cells] at HN
  have HT := hidb ht
  clear hN ht
  generalize ks.length = l0 at *
  generalize ks1.length = l1 at *
  obtain ⟨PP, hPP⟩ : ∃ PP, OutS (outR r) w = PP := ⟨_, rfl⟩
  have HPP := hidb hPP
  rw [hPP]
  clear hin hPP
  obtain ⟨V3, hV3⟩ : ∃ V3, ((w.alloc (.cells #[.int .i64 0, .int .i64 0, .float .f64 0, .string ⟨#[]⟩, .slice none 0 0] 27)).alloc (.cells #[.int .i64 k, .int .i64 n, .float .f64 f, .string s, .slice a' l0 c'] 27)).alloc (.cells #[.int .i64 k1, .int .i64 n1, .float .f64 f1, .string s1, .slice a1 l1 c1] 27) = V3 := ⟨_, rfl⟩
  have hs1 : (w.alloc (.cells #[.int .i64 0, .int .i64 0, .float .f64 0, .string ⟨#[]⟩, .slice none 0 0] 27)).heap.size = w.heap.size + 1 := by simp
  have hs2 : ((w.alloc (.cells #[.int .i64 0, .int .i64 0, .float .f64 0, .string ⟨#[]⟩, .slice none 0 0] 27)).alloc (.cells #[.int .i64 k, .int .i64 n, .float .f64 f, .string s, .slice a' l0 c'] 27)).heap.size = w.heap.size + 1 + 1 := by simp
  have HX0 : Hid (Box V3 w.heap.size (.int .i64 0) (.int .i64 0) (.float .f64 0) (.string ⟨#[]⟩) (.slice none 0 0)) := hidb (by rw [← hV3]; exact ((Box.new w 27 (.int .i64 0) (.int .i64 0) (.float .f64 0) (.string ⟨#[]⟩) (.slice none 0 0)).keep (below_new _ _)).keep (below_new _ _))
  have HA0 : Hid (Box V3 (w.heap.size + 1) (.int .i64 k) (.int .i64 n) (.float .f64 f) (.string s) (.slice a' l0 c')) := hidb (by
    rw [← hV3, ← hs1]; exact (Box.new _ 27 _ _ _ _ _).keep (below_new _ _))
  have HA1 : Hid (Box V3 (w.heap.size + 1 + 1) (.int .i64 k1) (.int .i64 n1) (.float .f64 f1) (.string s1) (.slice a1 l1 c1)) := hidb (by
    rw [← hV3, ← hs2]; exact Box.new _ 27 _ _ _ _ _)
  have HB0 : Hid (Below w.heap.size w V3) := hidb (by rw [← hV3]; exact ((below_new w _).alloc (by simp) _).alloc (by simp; omega) _)
  have HV3 := hidb hV3
  clear hV3 hs1 hs2
  obtain ⟨rk, rn, rf, re⟩ := r
  go_enter Tryz.func7, Tryz.ntmps7
  go_wp2_with fail
  rw [HV3.out]
  refine (HN.out _).mono ?_
  rintro e w2 ⟨rfl, hb2⟩
  have HB3 := hidb (HB0.out.trans (hb2.mono HB0.out.size))
  have HX3 := hidb (HX0.out.keep hb2)
  clear hb2 v0 v1 v2 v3 v4 u0 u1 u2 u3 u4
  obtain ⟨⟨x0, x1, x2, x3, x4⟩, ⟨y0, y1, y2, y3, y4⟩, xl⟩ := Box.six HX3.out
  go_wp2_with fail
  have bx9 := HX3.out.set (.int .i64 rk) (.int .i64 rn) (.float .f64 rf) (.string ⟨#[]⟩) (.slice none 0 0)
  obtain ⟨⟨k0, k1', k2, k3, k4⟩, -, -⟩ := Box.six bx9
  simp only [set5] at k0 k1' k2 k3 k4
  refine bodyPost_ret (v := .tuple #[.agg #[.int .i64 (rk), .int .i64 (rn), .float .f64 (rf), .string ⟨#[]⟩, .slice none 0 0], .int .i64 re]) (by simp [results, Tryz.results7, go_sem, k0, k1', k2, k3, k4]) rfl ?_
  rw [← HPP.out]
  exact outR_says HT.out (((((HB3.out.setCell (by simp) _).setCell (by simp) _).setCell (by simp) _).setCell (by simp) _).setCell (by simp) _)
set_option maxHeartbeats 4000000 in
set_option maxRecDepth 100000 in
theorem rop_div {w : World} {a : Option Addr} {c : Nat} {t0 t1 : Tr} (hin : ArgsIn w a c [t0, t1]) {r : R} (ht : ToldN r) (hN : ∀ W, Calls Tryz.prog 20 #[.string ⟨#[100, 105, 118]⟩, t0.val, t1.val] W fun e w' => e = .returned (.tuple #[.agg #[.int .i64 (r.k), .int .i64 (r.n), .float .f64 (r.f), .string ⟨#[]⟩, .slice none 0 0], .int .i64 r.e]) ∧ Below W.heap.size W w') :
    Calls Tryz.prog 7 #[.string ⟨#[100, 105, 118]⟩, .slice a 2 c] w (OutS (outR r) w) := by
  obtain ⟨k, n, f, s, a', c', ks⟩ := t0
  obtain ⟨k1, n1, f1, s1, a1, c1, ks1⟩ := t1
  obtain ⟨b, o, rfl, hbW, v0, v1, v2, v3, v4, -⟩ := argi hin (Below.refl _ _) (i := 0) rfl
  obtain ⟨b2, o2, e, -, u0, u1, u2, u3, u4, -⟩ := argi hin (Below.refl _ _) (i := 1) rfl
  obtain ⟨rfl, rfl⟩ : b = b2 ∧ o = o2 := by simpa using e
  simp only [Nat.zero_mul, Nat.add_zero, Nat.one_mul] at v0 v1 v2 v3 v4 u0 u1 u2 u3 u4
  have HN := hidb hN
  simp only [Tr.val, Tr.cells] at HN
  have HT := hidb ht
  clear hN ht
  generalize ks.length = l0 at *
  generalize ks1.length = l1 at *
  obtain ⟨PP, hPP⟩ : ∃ PP, OutS (outR r) w = PP := ⟨_, rfl⟩
  have HPP := hidb hPP
  rw [hPP]
  clear hin hPP
  obtain ⟨V3, hV3⟩ : ∃ V3, ((w.alloc (.cells #[.int .i64 0, .int .i64 0, .float .f64 0, .string ⟨#[]⟩, .slice none 0 0] 27)).alloc (.cells #[.int .i64 k, .int .i64 n, .float .f64 f, .string s, .slice a' l0 c'] 27)).alloc (.cells #[.int .i64 k1, .int .i64 n1, .float .f64 f1, .string s1, .slice a1 l1 c1] 27) = V3 := ⟨_, rfl⟩
  have hs1 : (w.alloc (.cells #[.int .i64 0, .int .i64 0, .float .f64 0, .string ⟨#[]⟩, .slice none 0 0] 27)).heap.size = w.heap.size + 1 := by simp
  have hs2 : ((w.alloc (.cells #[.int .i64 0, .int .i64 0, .float .f64 0, .string ⟨#[]⟩, .slice none 0 0] 27)).alloc (.cells #[.int .i64 k, .int .i64 n, .float .f64 f, .string s, .slice a' l0 c'] 27)).heap.size = w.heap.size + 1 + 1 := by simp
  have HX0 : Hid (Box V3 w.heap.size (.int .i64 0) (.int .i64 0) (.float .f64 0) (.string ⟨#[]⟩) (.slice none 0 0)) := hidb (by rw [← hV3]; exact ((Box.new w 27 (.int .i64 0) (.int .i64 0) (.float .f64 0) (.string ⟨#[]⟩) (.slice none 0 0)).keep (below_new _ _)).keep (below_new _ _))
  have HA0 : Hid (Box V3 (w.heap.size + 1) (.int .i64 k) (.int .i64 n) (.float .f64 f) (.string s) (.slice a' l0 c')) := hidb (by
    rw [← hV3, ← hs1]; exact (Box.new _ 27 _ _ _ _ _).keep (below_new _ _))
  have HA1 : Hid (Box V3 (w.heap.size + 1 + 1) (.int .i64 k1) (.int .i64 n1) (.float .f64 f1) (.string s1) (.slice a1 l1 c1)) := hidb (by
    rw [← hV3, ← hs2]; exact Box.new _ 27 _ _ _ _ _)
  have HB0 : Hid (Below w.heap.size w V3) := hidb (by rw [← hV3]; exact ((below_new w _).alloc (by simp) _).alloc (by simp; omega) _)
  have HV3 := hidb hV3
  clear hV3 hs1 hs2
  obtain ⟨rk, rn, rf, re⟩ := r
  go_enter Tryz.func7, Tryz.ntmps7
  go_wp2_with fail
  rw [HV3.out]
  refine (HN.out _).mono ?_
  rintro e w2 ⟨rfl, hb2⟩
  have HB3 := hidb (HB0.out.trans (hb2.mono HB0.out.size))
  have HX3 := hidb (HX0.out.keep hb2)
  clear hb2 v0 v1 v2 v3 v4 u0 u1 u2 u3 u4
  obtain ⟨⟨x0, x1, x2, x3, x4⟩, ⟨y0, y1, y2, y3, y4⟩, xl⟩ := Box.six HX3.out
  go_wp2_with fail
  have bx9 := HX3.out.set (.int .i64 rk) (.int .i64 rn) (.float .f64 rf) (.string ⟨#[]⟩) (.slice none 0 0)
  obtain ⟨⟨k0, k1', k2, k3, k4⟩, -, -⟩ := Box.six bx9
  simp only [set5] at k0 k1' k2 k3 k4
  refine bodyPost_ret (v := .tuple #[.agg #[.int .i64 (rk), .int .i64 (rn), .float .f64 (rf), .string ⟨#[]⟩, .slice none 0 0], .int .i64 re]) (by simp [results, Tryz.results7, go_sem, k0, k1', k2, k3, k4]) rfl ?_
  rw [← HPP.out]
  exact outR_says HT.out (((((HB3.out.setCell (by simp) _).setCell (by simp) _).setCell (by simp) _).setCell (by simp) _).setCell (by simp) _)
set_option maxHeartbeats 4000000 in
set_option maxRecDepth 100000 in
theorem rop_rem {w : World} {a : Option Addr} {c : Nat} {t0 t1 : Tr} (hin : ArgsIn w a c [t0, t1]) {r : R} (ht : ToldN r) (hN : ∀ W, Calls Tryz.prog 20 #[.string ⟨#[114, 101, 109]⟩, t0.val, t1.val] W fun e w' => e = .returned (.tuple #[.agg #[.int .i64 (r.k), .int .i64 (r.n), .float .f64 (r.f), .string ⟨#[]⟩, .slice none 0 0], .int .i64 r.e]) ∧ Below W.heap.size W w') :
    Calls Tryz.prog 7 #[.string ⟨#[114, 101, 109]⟩, .slice a 2 c] w (OutS (outR r) w) := by
  obtain ⟨k, n, f, s, a', c', ks⟩ := t0
  obtain ⟨k1, n1, f1, s1, a1, c1, ks1⟩ := t1
  obtain ⟨b, o, rfl, hbW, v0, v1, v2, v3, v4, -⟩ := argi hin (Below.refl _ _) (i := 0) rfl
  obtain ⟨b2, o2, e, -, u0, u1, u2, u3, u4, -⟩ := argi hin (Below.refl _ _) (i := 1) rfl
  obtain ⟨rfl, rfl⟩ : b = b2 ∧ o = o2 := by simpa using e
  simp only [Nat.zero_mul, Nat.add_zero, Nat.one_mul] at v0 v1 v2 v3 v4 u0 u1 u2 u3 u4
  have HN := hidb hN
  simp only [Tr.val, Tr.cells] at HN
  have HT := hidb ht
  clear hN ht
  generalize ks.length = l0 at *
  generalize ks1.length = l1 at *
  obtain ⟨PP, hPP⟩ : ∃ PP, OutS (outR r) w = PP := ⟨_, rfl⟩
  have HPP := hidb hPP
  rw [hPP]
  clear hin hPP
  obtain ⟨V3, hV3⟩ : ∃ V3, ((w.alloc (.cells #[.int .i64 0, .int .i64 0, .float .f64 0, .string ⟨#[]⟩, .slice none 0 0] 27)).alloc (.cells #[.int .i64 k, .int .i64 n, .float .f64 f, .string s, .slice a' l0 c'] 27)).alloc (.cells #[.int .i64 k1, .int .i64 n1, .float .f64 f1, .string s1, .slice a1 l1 c1] 27) = V3 := ⟨_, rfl⟩
  have hs1 : (w.alloc (.cells #[.int .i64 0, .int .i64 0, .float .f64 0, .string ⟨#[]⟩, .slice none 0 0] 27)).heap.size = w.heap.size + 1 := by simp
  have hs2 : ((w.alloc (.cells #[.int .i64 0, .int .i64 0, .float .f64 0, .string ⟨#[]⟩, .slice none 0 0] 27)).alloc (.cells #[.int .i64 k, .int .i64 n, .float .f64 f, .string s, .slice a' l0 c'] 27)).heap.size = w.heap.size + 1 + 1 := by simp
  have HX0 : Hid (Box V3 w.heap.size (.int .i64 0) (.int .i64 0) (.float .f64 0) (.string ⟨#[]⟩) (.slice none 0 0)) := hidb (by rw [← hV3]; exact ((Box.new w 27 (.int .i64 0) (.int .i64 0) (.float .f64 0) (.string ⟨#[]⟩) (.slice none 0 0)).keep (below_new _ _)).keep (below_new _ _))
  have HA0 : Hid (Box V3 (w.heap.size + 1) (.int .i64 k) (.int .i64 n) (.float .f64 f) (.string s) (.slice a' l0 c')) := hidb (by
    rw [← hV3, ← hs1]; exact (Box.new _ 27 _ _ _ _ _).keep (below_new _ _))
  have HA1 : Hid (Box V3 (w.heap.size + 1 + 1) (.int .i64 k1) (.int .i64 n1) (.float .f64 f1) (.string s1) (.slice a1 l1 c1)) := hidb (by
    rw [← hV3, ← hs2]; exact Box.new _ 27 _ _ _ _ _)
  have HB0 : Hid (Below w.heap.size w V3) := hidb (by rw [← hV3]; exact ((below_new w _).alloc (by simp) _).alloc (by simp; omega) _)
  have HV3 := hidb hV3
  clear hV3 hs1 hs2
  obtain ⟨rk, rn, rf, re⟩ := r
  go_enter Tryz.func7, Tryz.ntmps7
  go_wp2_with fail
  rw [HV3.out]
  refine (HN.out _).mono ?_
  rintro e w2 ⟨rfl, hb2⟩
  have HB3 := hidb (HB0.out.trans (hb2.mono HB0.out.size))
  have HX3 := hidb (HX0.out.keep hb2)
  clear hb2 v0 v1 v2 v3 v4 u0 u1 u2 u3 u4
  obtain ⟨⟨x0, x1, x2, x3, x4⟩, ⟨y0, y1, y2, y3, y4⟩, xl⟩ := Box.six HX3.out
  go_wp2_with fail
  have bx9 := HX3.out.set (.int .i64 rk) (.int .i64 rn) (.float .f64 rf) (.string ⟨#[]⟩) (.slice none 0 0)
  obtain ⟨⟨k0, k1', k2, k3, k4⟩, -, -⟩ := Box.six bx9
  simp only [set5] at k0 k1' k2 k3 k4
  refine bodyPost_ret (v := .tuple #[.agg #[.int .i64 (rk), .int .i64 (rn), .float .f64 (rf), .string ⟨#[]⟩, .slice none 0 0], .int .i64 re]) (by simp [results, Tryz.results7, go_sem, k0, k1', k2, k3, k4]) rfl ?_
  rw [← HPP.out]
  exact outR_says HT.out (((((HB3.out.setCell (by simp) _).setCell (by simp) _).setCell (by simp) _).setCell (by simp) _).setCell (by simp) _)
end Go.Proofs.YtgljglindgbjaaaGreatDoor


