import Derived.Test.YtgljglindgbjaaaGreatDoorG43
import Derived.Test.YtgljglindgbjaaaGreatDoorG36
import Derived.Test.YtgljglindgbjaaaGreatDoorG01
import Derived.SizedLaws
import Derived.WalkLawsBesides
import Derived.LaidMore
import Derived.OpenShut
import Derived.Stop.Joined
import Derived.ChangeAt
import Derived.ChangeSame
import Derived.ProofKit
/- BifOps. -/
namespace Go.Proofs.YtgljglindgbjaaaGreatDoor
open Go.RowKit Go.Lib Go.Deep
attribute [local go_sem] store_float f64bits
attribute [local go_sem ↓] Go.wp_at_zero Go.wp_at_succ

theorem sm_symm : ∀ t t' : Tr, Sm t t' → Sm t' t := by
  refine Tr.ind fun k n f s a c kids hk => ?_
  rintro ⟨k', n', f', s', a', c', kids'⟩ h
  unfold Sm at h ⊢
  obtain ⟨rfl, rfl, rfl, rfl, h⟩ := h
  refine ⟨rfl, rfl, rfl, rfl, ?_⟩
  have hall : ∀ (l l' : List Tr), (∀ t, t ∈ l → t ∈ kids) → SmA l l' → SmA l' l := by
    intro l
    induction l with
    | nil =>
      intro l' _ h
      cases l' with
      | nil => exact h
      | cons => unfold SmA at h; exact h.elim
    | cons t r ih =>
      intro l' hm h
      cases l' with
      | nil => unfold SmA at h; exact h.elim
      | cons t' r' =>
        unfold SmA at h ⊢
        exact ⟨hk t (hm t (by simp)) t' h.1, ih r' (fun u hu => hm u (by simp [hu])) h.2⟩
  exact hall kids kids' (fun t h => h) h
theorem sm_trans : ∀ t t' t'' : Tr, Sm t t' → Sm t' t'' → Sm t t'' := by
  refine Tr.ind fun k n f s a c kids hk => ?_
  rintro ⟨k', n', f', s', a', c', kids'⟩ ⟨k2, n2, f2, s2, a2, c2, kids2⟩ h h2
  unfold Sm at h h2 ⊢
  obtain ⟨rfl, rfl, rfl, rfl, h⟩ := h
  obtain ⟨rfl, rfl, rfl, rfl, h2⟩ := h2
  refine ⟨rfl, rfl, rfl, rfl, ?_⟩
  have hall : ∀ (l l' l2 : List Tr), (∀ t, t ∈ l → t ∈ kids) → SmA l l' → SmA l' l2 → SmA l l2 := by
    intro l
    induction l with
    | nil =>
      intro l' l2 _ h h2
      cases l' with
      | nil => exact h2
      | cons => unfold SmA at h; exact h.elim
    | cons t r ih =>
      intro l' l2 hm h h2
      cases l' with
      | nil => unfold SmA at h; exact h.elim
      | cons t' r' =>
        cases l2 with
        | nil => unfold SmA at h2; exact h2.elim
        | cons t2 r2 =>
          unfold SmA at h h2 ⊢
          exact ⟨hk t (hm t (by simp)) t' t2 h.1 h2.1, ih r' r2 (fun u hu => hm u (by simp [hu])) h.2 h2.2⟩
  exact hall kids kids' kids2 (fun t h => h) h h2
abbrev zTr : Tr := .mk 0 0 0 ⟨#[]⟩ none 0 []
theorem zTr_in (w : World) (base : Nat) : zTr.In w base := by
  unfold Tr.In
  exact ⟨⟨by decide, by decide, by decide, by show 0 ≤ maxLen; omega, by simp, by simp, fun _ => rfl⟩, fun ad h => by simp at h⟩
/-- What was told is o. -/
def OV (o : Out) (t' : Tr) (x : Int) : Prop := (∃ T, o = .inl T ∧ Sm T t' ∧ x = 0) ∨ (o = .inr x ∧ t' = zTr)
theorem out_tup {o : Out} {w w' : World} {e : Ending} (h : OutS o w e w') : Below w.heap.size w w' ∧ ∃ (t' : Tr) (x : Int), e = .returned (.tuple #[t'.val, .int .i64 x]) ∧ t'.In w' 0 ∧ OV o t' x := by
  refine ⟨h.1, ?_⟩
  have h2 := h.2
  cases o with
  | inl T =>
    obtain ⟨t', hs, hin, he⟩ := h2
    exact ⟨t', 0, he, in_base (Nat.zero_le _) _ hin, .inl ⟨T, rfl, hs, rfl⟩⟩
  | inr k => exact ⟨zTr, k, h2, zTr_in _ _, .inr ⟨rfl, rfl⟩⟩
theorem ov_same {o : Out} {t t' : Tr} {x y : Int} (h : OV o t x) (h' : OV o t' y) : Sm t t' ∧ x = y := by
  rcases h with ⟨T, e1, h1, rfl⟩ | ⟨e1, rfl⟩
  · rcases h' with ⟨T', e2, h2, rfl⟩ | ⟨e2, -⟩
    · obtain rfl := Sum.inl.inj (e1.symm.trans e2)
      exact ⟨sm_trans _ _ _ (sm_symm _ _ h1) h2, rfl⟩
    · cases e1.symm.trans e2
  · rcases h' with ⟨T', e2, -, -⟩ | ⟨e2, rfl⟩
    · cases e1.symm.trans e2
    · exact ⟨sm_self _, Sum.inr.inj (e1.symm.trans e2)⟩
set_option maxHeartbeats 4000000 in
set_option maxRecDepth 100000 in
theorem right9_long {a : Option Addr} {c N : Nat} (h5 : 5 < N) (w : World) : Calls Tryz.prog 5 #[.slice a N c] w fun e w' => e = .returned (.bool false) ∧ Below w.heap.size w w' := by
  have h : (5 : Int) < (N : Int) := by omega
  go_enter Tryz.func5, Tryz.ntmps5
  go_wp2_with fail
  go_ret
  exact ⟨rfl, Below.refl _ _⟩
set_option maxHeartbeats 4000000 in
set_option maxRecDepth 100000 in
theorem BifOps_of (sg : ByteArray) (a : Option Addr) (c : Nat) (ks : List Tr) (w : World) (hin : ArgsIn w a c ks) (hsw : SmallW (.mk 7 0 0 ⟨#[]⟩ a c ks)) :
    Calls Tryz.prog 3 #[.string sg, .slice a ks.length c] w fun e w' => e = .returned (.bool true) ∧ Below w.heap.size w w' := by
  have hks := len_small hin
  have HSK : Hid (∀ t ∈ ks, SmallW t) := hidb (by unfold SmallW at hsw; exact fun t ht => smallWAll_get hsw.2 ht)
  have HIN := hidb hin
  have HLS := hidb hks
  obtain ⟨L, hL⟩ : ∃ L, ks.length = L := ⟨_, rfl⟩
  have HL := hidb hL
  rw [hL]
  clear hin hsw hks hL
  go_enter Tryz.func3, Tryz.ntmps3
  go_wp2_with fail
  refine (known9_any _).mono ?_
  rintro e w1 ⟨rfl, hb1⟩
  have HB1 := hidb hb1
  clear hb1
  by_cases h100 : (100 : Int) < (sg.size : Int)
  · go_wp2_with fail
    go_ret
    exact ⟨rfl, HB1.out⟩
  · by_cases h5 : 5 < L
    · go_wp2_with fail
      refine (right9_long h5 _).mono ?_
      rintro e w2 ⟨rfl, hb2⟩
      have HB2 := hidb (HB1.out.trans (hb2.mono HB1.out.size))
      clear hb2
      go_wp2_with fail
      go_ret
      exact ⟨rfl, HB2.out⟩
    · have RG : Hid (Calls Tryz.prog 5 #[.slice a L c] w1 fun e w' => e = .returned (.bool (rgt9 a c ks)) ∧ Below w1.heap.size w1 w') := hidb (by
        have := right9_any (in_below HB1.out HIN.out) HSK.out (by rw [HL.out]; omega)
        rwa [HL.out] at this)
      obtain ⟨R, hR⟩ : ∃ R, rgt9 a c ks = R := ⟨_, rfl⟩
      have HR := hidb hR
      rw [hR] at RG
      clear hR
      cases R
      · go_wp2_with fail
        refine RG.out.mono ?_
        rintro e w2 ⟨rfl, hb2⟩
        have HB2 := hidb (HB1.out.trans (hb2.mono HB1.out.size))
        clear hb2
        go_wp2_with fail
        go_ret
        exact ⟨rfl, HB2.out⟩
      · obtain ⟨o, ho⟩ := pair_any HIN.out (fun t ht => rgt9_ok HR.out t ht) sg
        rw [HL.out] at ho
        have HO := hidb ho
        clear ho
        go_wp2_with fail
        refine RG.out.mono ?_
        rintro e w2 ⟨rfl, hb2⟩
        have HB2 := hidb (HB1.out.trans (hb2.mono HB1.out.size))
        clear hb2
        go_wp2_with fail
        refine (HO.out w2 (in_below HB2.out HIN.out)).1.mono ?_
        rintro e w3 hO3
        obtain ⟨hb3, ⟨k1, n1, f1, s1, a1, c1, ks1⟩, x1, rfl, hin1, hov1⟩ := out_tup hO3
        have HI1 := hidb hin1
        have HV1 := hidb hov1
        have HB3 := hidb (HB2.out.trans (hb3.mono HB2.out.size))
        clear hO3 hb3 hin1 hov1
        simp only [Tr.val, Tr.cells]
        obtain ⟨L1, hL1⟩ : ∃ L1, ks1.length = L1 := ⟨_, rfl⟩
        have HL1 := hidb hL1
        rw [hL1]
        clear hL1
        go_wp2_with fail
        obtain ⟨WA, hWA⟩ : ∃ WA, w3.alloc (.cells #[.int .i64 k1, .int .i64 n1, .float .f64 f1, .string s1, .slice a1 L1 c1] 27) = WA := ⟨_, rfl⟩
        have HBA : Hid (Below w.heap.size w WA) := hidb (by rw [← hWA]; exact HB3.out.alloc HB3.out.size _)
        have HXA : Hid (Box WA w3.heap.size (.int .i64 k1) (.int .i64 n1) (.float .f64 f1) (.string s1) (.slice a1 L1 c1)) := hidb (by rw [← hWA]; exact Box.new _ _ _ _ _ _ _)
        have HIA : Hid ((Tr.mk k1 n1 f1 s1 a1 c1 ks1).In WA 0) := hidb (by rw [← hWA]; exact in_below (below_new _ _) HI1.out)
        rw [hWA]
        clear hWA
        refine (HO.out WA (in_below HBA.out HIN.out)).2.mono ?_
        rintro e w4 hO4
        obtain ⟨hb4, ⟨k2, n2, f2, s2, a2, c2, ks2⟩, x2, rfl, hin2, hov2⟩ := out_tup hO4
        obtain ⟨hsm, rfl⟩ := ov_same HV1.out hov2
        have TW := hidb (fun W (hb : Below w4.heap.size w4 W) => twin_same _ _ hsm W (in_below (hb4.trans (hb.mono hb4.size)) HIA.out) (in_below hb hin2))
        have HB4 := hidb (HBA.out.trans (hb4.mono HBA.out.size))
        have HX4 := hidb (HXA.out.keep hb4)
        clear hO4 hb4 hin2 hov2 hsm HV1 HI1 HIA HXA HO HIN HSK RG HR
        obtain ⟨L2, hL2⟩ : ∃ L2, ks2.length = L2 := ⟨_, rfl⟩
        simp only [Tr.val, Tr.cells, HL1.out, hL2] at TW ⊢
        clear hL2 HL1
        obtain ⟨⟨x0, x1', x2', x3, x4⟩, -, xl⟩ := Box.six HX4.out
        go_wp2_with fail
        refine (TW.out _ (below_new _ _)).mono ?_
        rintro e w5 ⟨rfl, hb5⟩
        have HB5 := hidb (HB4.out.trans (((below_new w4 _).trans (hb5.mono (by simp))).mono HB4.out.size))
        clear hb5 x0 x1' x2' x3 x4 xl
        go_wp2_with fail
        go_ret
        exact ⟨rfl, HB5.out⟩
end Go.Proofs.YtgljglindgbjaaaGreatDoor


/- A term that is handed in, opened: a tree whose rows are no longer than the reading's reach. -/
namespace Go.Proofs.YtgljglindgbjaaaGreatDoor
open Go.Deep Go.ChangeShapes Go.WideShapes

theorem smallWAll_of {kids : List Tr} (h : ∀ t, t ∈ kids → SmallW t) : SmallWAll kids := by
  induction kids with
  | nil => simp [SmallWAll]
  | cons u r ih => simp only [SmallWAll]; exact ⟨h u (by simp), ih (fun t ht => h t (by simp [ht]))⟩

section
variable {H : Type} {enc : TypeId × Value → H} {P : Program} {w : World} {base : Nat} {spare : Nat → Bool} {held : Bool}

theorem weightsAll_mem {e : TypeId} : ∀ {l : List (DataW H)} {d : DataW H}, d ∈ l → ∀ x, x ∈ d.weights P e → x ∈ DataW.weightsAll P e l
  | [], _, h, _, _ => by simp at h
  | u :: r, d, h, x, hx => by
    unfold DataW.weightsAll
    rcases List.mem_cons.1 h with rfl | h
    · exact List.mem_append_left _ hx
    · exact List.mem_append_right _ (weightsAll_mem h x hx)

theorem open_sized {e : TypeId} (T : TermType P e) (hby : 1 ≤ P.bytesOf e) : ∀ (fuel : Nat) (cs : List Value) (x : DataW H × List MemPlace), DataW.trod enc P w base spare held fuel e cs = some x →
    ∃ t : Tr, cs = t.cells ∧ t.In w base ∧ ((∀ q, q ∈ x.1.weights P e → q ≤ reachBytes) → SmallW t) := by
  intro fuel
  induction fuel using Nat.strongRecOn with
  | ind fuel ih =>
  intro cs x h
  obtain ⟨xs, n, hn, hx, hlen, hxl, hf⟩ := DataW.trod_struct T.under h
  rw [T.size] at hlen
  match xs, hxl, cs, hlen with
  | [y0, y1, y2, y3, y4], _, [v0, v1, v2, v3, v4], _ =>
    have g0 := hf 0 T.f0 rfl
    have g1 := hf 1 T.f1 rfl
    have g2 := hf 2 T.f2 rfl
    have g3 := hf 3 T.f3 rfl
    have g4 := hf 4 T.f4 rfl
    simp [T.o0, T.o1, T.o2, T.o3, T.o4, T.c0, T.c1, T.c2, T.c3, T.c4] at g0 g1 g2 g3 g4
    obtain ⟨k, e0, _, w0⟩ := DataW.trod_int T.u0 g0
    obtain ⟨m, e1, _, w1⟩ := DataW.trod_int T.u1 g1
    obtain ⟨f, e2, _, w2⟩ := trod_float T.u2 g2
    obtain ⟨s, e3, _, w3⟩ := DataW.trod_string T.u3 g3
    obtain rfl : v0 = .int .i64 k := by simpa using e0
    obtain rfl : v1 = .int .i64 m := by simpa using e1
    obtain rfl : v2 = .float .f64 f := by simpa using e2
    obtain rfl : v3 = .string s := by simpa using e3
    have hsub : ∀ q, q ∈ y4.1.weights P T.f4.type → q ∈ x.1.weights P e := by
      intro q hq
      rw [hx]
      simp only [DataW.weights, T.under, List.map_cons, List.map_nil, DataW.weightsEach, List.mem_append]
      simp [hq]
    rcases DataW.trod_slice T.u4 g4 with ⟨e4, _⟩ | ⟨a, len, cap, elems, rest, q, hq, e4, hy4, hb, hl, hm, hel, hx4, _, _⟩
    · obtain rfl : v4 = .slice none 0 0 := by simpa using e4
      refine ⟨.mk k m f s none 0 [], rfl, ?_, fun _ => by simp [SmallW, SmallWAll]⟩
      unfold Tr.In
      exact ⟨⟨w0, w1, w2, w3, Nat.le_refl _, Nat.zero_le _, fun _ => rfl⟩, fun ad h => by simp at h⟩
    · obtain rfl : v4 = .slice (some a) len cap := by simpa using e4
      have each : ∀ i, i < len → ∃ t : Tr, (∀ j, j < 5 → w.cell? ((a.add (i * 5)).add j) = t.cells[j]?) ∧ t.In w base ∧ ((∀ q, q ∈ x.1.weights P e → q ≤ reachBytes) → SmallW t) := by
        intro i hi
        have hb := hx4 i hi
        have hsome : elems[i]? = some (elems[i]'(by omega)) := List.getElem?_eq_getElem (by omega)
        rw [hsome, T.size, Option.bind_eq_some_iff] at hb
        obtain ⟨cs', hc, ht⟩ := hb
        obtain ⟨t, ht1, ht2, ht3⟩ := ih q (by omega) cs' _ ht
        refine ⟨t, fun j hj => ?_, ht2, fun hall => ht3 (fun z hz => hall z (hsub z ?_))⟩
        · have := (World.cells?_some hc).2.2 j hj
          rw [this, ht1]
        · rw [hy4]
          simp only [DataW.weights, T.u4, List.mem_cons, List.mem_append]
          exact .inr (.inl (weightsAll_mem (List.mem_map_of_mem (List.getElem_mem _)) z hz))
      obtain ⟨tf, htf⟩ : ∃ tf : Nat → Tr, ∀ i, i < len → (∀ j, j < 5 → w.cell? ((a.add (i * 5)).add j) = (tf i).cells[j]?) ∧ (tf i).In w base ∧ ((∀ q, q ∈ x.1.weights P e → q ≤ reachBytes) → SmallW (tf i)) := by
        refine ⟨fun i => if h : i < len then Classical.choose (each i h) else .mk 0 0 0 ⟨#[]⟩ none 0 [], fun i hi => ?_⟩
        simp only [hi, dif_pos]
        exact Classical.choose_spec (each i hi)
      refine ⟨.mk k m f s (some a) cap ((List.range len).map tf), by simp [Tr.cells], ?_, fun hall => ?_⟩
      · unfold Tr.In
        refine ⟨⟨w0, w1, w2, w3, by simpa using hl, hm, fun h => by simp at h⟩, fun ad had => ?_⟩
        obtain rfl : a = ad := by simpa using had
        refine ⟨hb, inAll_of fun j t hj => ?_⟩
        have hj' : j < len := by
          rcases Nat.lt_or_ge j len with h | h
          · exact h
          · rw [List.getElem?_eq_none (by simpa using h)] at hj; simp at hj
        rw [List.getElem?_map, List.getElem?_range hj'] at hj
        obtain rfl : tf j = t := by simpa using hj
        exact ⟨(htf j hj').1, (htf j hj').2.1⟩
      · simp only [SmallW]
        refine ⟨?_, smallWAll_of fun t ht => ?_⟩
        · have h9 := hall ((elems.length + rest.length) * P.bytesOf e) (hsub _ (by
            rw [hy4]
            simp only [DataW.weights, T.u4, List.mem_cons, List.length_map]
            exact .inl trivial))
          have h8 : elems.length + rest.length ≤ (elems.length + rest.length) * P.bytesOf e := Nat.le_mul_of_pos_right _ hby
          have h7 : reachBytes = 140737488351232 := rfl
          rw [List.length_map, List.length_range]
          omega
        · obtain ⟨i, hi, rfl⟩ := List.mem_map.1 ht
          exact (htf i (by simpa using hi)).2.2 hall
end
end Go.Proofs.YtgljglindgbjaaaGreatDoor
namespace Go.Proofs.YtgljglindgbjaaaGreatDoor
open Go.ChangeShapes Go.WideShapes Go.ChangeAt Go.WideMaps Go.WideElems Go.RowKit

set_option maxRecDepth 100000
theorem laidOut : laidOutB Tryz.prog = true := by kernel_rfl
theorem termCells : Tryz.prog.cellTypes Tryz.prog.depth 27 = some [3, 2, 25, 9, 22] := by kernel_rfl
theorem termSize : Tryz.prog.cellsOf 27 = 5 := by kernel_rfl

theorem value_of_cell {P : Program} {W : World} {r : Reach} {base : Nat} {t : TypeId} {d : TypeDesc} {v : Value} (hd : P.underlying t = some d) (h1 : ∀ fs, d ≠ .struct fs) (h2 : ∀ n e, d ≠ .array n e) (h : Cell.okWide P W r base t v) : Value.okWide P W r base t v := by
  unfold Value.okWide
  rw [hd]
  cases d <;> first | exact h | exact absurd rfl (h1 _) | exact absurd rfl (h2 _ _)

theorem float_lt {P : Program} {W : World} {r : Reach} {base : Nat} {t : TypeId} {f : Nat} (ht : P.underlying t = some (.float .f64)) (h : Value.okWide P W r base t (.float .f64 f)) : f < 2 ^ 64 := by
  simp only [Value.okWide, ht, Cell.okWide, Cell.ok] at h
  simpa [FloatKind.has] using h

theorem term_form {W : World} {base : Nat} {v : Value} (h : Value.okWide Tryz.prog W .any base 27 v) :
    ∃ (k n : Int) (f : Nat) (s : ByteArray) (a : Option Addr) (l c : Nat), v = .agg #[.int .i64 k, .int .i64 n, .float .f64 f, .string s, .slice a l c] ∧ f < 18446744073709551616 := by
  simp only [Value.okWide, Tryz.underlying27] at h
  obtain ⟨cs, rfl, hsz, ts, hts, _, hc⟩ := h
  obtain rfl := Option.some.inj (termCells.symm.trans hts)
  rw [termSize] at hsz
  obtain ⟨l⟩ := cs
  match l, hsz with
  | [c0, c1, c2, c3, c4], _ =>
    obtain ⟨u0, e0, g0⟩ := hc 0 c0 rfl
    obtain ⟨u1, e1, g1⟩ := hc 1 c1 rfl
    obtain ⟨u2, e2, g2⟩ := hc 2 c2 rfl
    obtain ⟨u3, e3, g3⟩ := hc 3 c3 rfl
    obtain ⟨u4, e4, g4⟩ := hc 4 c4 rfl
    obtain rfl : 3 = u0 := Option.some.inj e0
    obtain rfl : 2 = u1 := Option.some.inj e1
    obtain rfl : 25 = u2 := Option.some.inj e2
    obtain rfl : 9 = u3 := Option.some.inj e3
    obtain rfl : 22 = u4 := Option.some.inj e4
    have v0 : Value.okWide Tryz.prog W .any base 3 c0 := value_of_cell Tryz.underlying3 (by simp) (by simp) g0
    have v1 : Value.okWide Tryz.prog W .any base 2 c1 := value_of_cell Tryz.underlying2 (by simp) (by simp) g1
    have v2 : Value.okWide Tryz.prog W .any base 25 c2 := value_of_cell Tryz.underlying25 (by simp) (by simp) g2
    have v3 : Value.okWide Tryz.prog W .any base 9 c3 := value_of_cell Tryz.underlying9 (by simp) (by simp) g3
    have v4 : Value.okWide Tryz.prog W .any base 22 c4 := value_of_cell Tryz.underlying22 (by simp) (by simp) g4
    obtain ⟨k, rfl⟩ := okWide_int Tryz.underlying3 v0
    obtain ⟨n, rfl⟩ := okWide_int Tryz.underlying2 v1
    obtain ⟨f, rfl⟩ := okWide_float Tryz.underlying25 v2
    obtain ⟨s, rfl⟩ := okWide_string Tryz.underlying9 v3
    obtain ⟨a, l, c, rfl⟩ := okWide_slice Tryz.underlying22 v4
    exact ⟨k, n, f, s, a, l, c, rfl, float_lt Tryz.underlying25 v2⟩


theorem open_val {H : Type} {enc : TypeId × Value → H} {W : World} {base : Nat} {v : Value} {d : DataW H} {ps : List MemPlace} (hv : Value.okWide Tryz.prog W .any base 27 v) (h : DataW.Trod enc Tryz.prog W 0 (fun _ => true) true 27 v d ps) :
    ∃ t : Tr, v = t.val ∧ t.In W 0 ∧ ((∀ q, q ∈ d.weights Tryz.prog 27 → q ≤ reachBytes) → SmallW t) := by
  obtain ⟨k, n, f, s, a, l, c, rfl, _⟩ := term_form hv
  obtain ⟨fuel, hf⟩ := h
  obtain ⟨t, h1, h2, h3⟩ := open_sized termType (of_decide_eq_true (by kernel_rfl)) fuel _ _ hf
  refine ⟨t, ?_, h2, h3⟩
  unfold Tr.val
  rw [← h1]
  rfl
end Go.Proofs.YtgljglindgbjaaaGreatDoor


/- A row of terms that is handed in, opened: it fits. -/
namespace Go.Proofs.YtgljglindgbjaaaGreatDoor
open Go.ChangeShapes Go.WideShapes Go.ChangeAt Go.WideMaps Go.WideElems Go.RowKit Go.Deep

section
variable {H : Type} {enc : TypeId × Value → H} {P : Program} {w : World} {base : Nat} {spare : Nat → Bool} {held : Bool}

theorem open_row_sized {e u : TypeId} (T : TermType P e) (hby : 1 ≤ P.bytesOf e) (hu : P.underlying u = some (.slice e)) {fuel : Nat} {cs : List Value} {x : DataW H × List MemPlace} (h : DataW.trod enc P w base spare held fuel u cs = some x) :
    ∃ (a : Option Addr) (c : Nat) (kids : List Tr), cs = [.slice a kids.length c] ∧ (Tr.mk 0 0 0 ⟨#[]⟩ a c kids).In w base ∧ ((∀ q, q ∈ x.1.weights P u → q ≤ reachBytes) → SmallW (.mk 7 0 0 ⟨#[]⟩ a c kids)) := by
  rcases DataW.trod_slice hu h with ⟨e4, _⟩ | ⟨a, len, cap, elems, rest, q, hq, e4, hy4, hb, hl, hm, hel, hx4, _, _⟩
  · refine ⟨none, 0, [], e4, ?_, fun _ => by simp [SmallW, SmallWAll]⟩
    unfold Tr.In
    exact ⟨⟨by decide, by decide, by decide, by show (0 : Nat) ≤ maxLen; exact Nat.zero_le _, Nat.le_refl _, Nat.zero_le _, fun _ => rfl⟩, fun ad h => by simp at h⟩
  · have each : ∀ i, i < len → ∃ t : Tr, (∀ j, j < 5 → w.cell? ((a.add (i * 5)).add j) = t.cells[j]?) ∧ t.In w base ∧ ((∀ q, q ∈ x.1.weights P u → q ≤ reachBytes) → SmallW t) := by
      intro i hi
      have hb := hx4 i hi
      have hsome : elems[i]? = some (elems[i]'(by omega)) := List.getElem?_eq_getElem (by omega)
      rw [hsome, T.size, Option.bind_eq_some_iff] at hb
      obtain ⟨cs', hc, ht⟩ := hb
      obtain ⟨t, ht1, ht2, ht3⟩ := open_sized T hby q cs' _ ht
      refine ⟨t, fun j hj => ?_, ht2, fun hall => ht3 (fun z hz => hall z ?_)⟩
      · have := (World.cells?_some hc).2.2 j hj
        rw [this, ht1]
      · rw [hy4]
        simp only [DataW.weights, hu, List.mem_cons, List.mem_append]
        exact .inr (.inl (weightsAll_mem (List.mem_map_of_mem (List.getElem_mem _)) z hz))
    obtain ⟨tf, htf⟩ : ∃ tf : Nat → Tr, ∀ i, i < len → (∀ j, j < 5 → w.cell? ((a.add (i * 5)).add j) = (tf i).cells[j]?) ∧ (tf i).In w base ∧ ((∀ q, q ∈ x.1.weights P u → q ≤ reachBytes) → SmallW (tf i)) := by
      refine ⟨fun i => if h : i < len then Classical.choose (each i h) else .mk 0 0 0 ⟨#[]⟩ none 0 [], fun i hi => ?_⟩
      simp only [hi, dif_pos]
      exact Classical.choose_spec (each i hi)
    refine ⟨some a, cap, (List.range len).map tf, by rw [e4]; simp, ?_, fun hall => ?_⟩
    · unfold Tr.In
      refine ⟨⟨by decide, by decide, by decide, by show (0 : Nat) ≤ maxLen; exact Nat.zero_le _, by simpa using hl, hm, fun h => by simp at h⟩, fun ad had => ?_⟩
      obtain rfl : a = ad := by simpa using had
      refine ⟨hb, inAll_of fun j t hj => ?_⟩
      have hj' : j < len := by
        rcases Nat.lt_or_ge j len with h | h
        · exact h
        · rw [List.getElem?_eq_none (by simpa using h)] at hj; simp at hj
      rw [List.getElem?_map, List.getElem?_range hj'] at hj
      obtain rfl : tf j = t := by simpa using hj
      exact ⟨(htf j hj').1, (htf j hj').2.1⟩
    · simp only [SmallW]
      refine ⟨?_, smallWAll_of fun t ht => ?_⟩
      · have h9 := hall ((elems.length + rest.length) * P.bytesOf e) (by
          rw [hy4]
          simp only [DataW.weights, hu, List.mem_cons, List.length_map]
          exact .inl trivial)
        have h8 : elems.length + rest.length ≤ (elems.length + rest.length) * P.bytesOf e := Nat.le_mul_of_pos_right _ hby
        have h7 : reachBytes = 140737488351232 := rfl
        rw [List.length_map, List.length_range]
        omega
      · obtain ⟨i, hi, rfl⟩ := List.mem_map.1 ht
        exact (htf i (by simpa using hi)).2.2 hall
end
end Go.Proofs.YtgljglindgbjaaaGreatDoor


