import Derived.Test.YtecgddiohoeboaaDoorLwK
import Derived.Test.YtecgddiohoeboaaDoorLzH
/- How long a term's text is; which signs stand in it. -/
namespace Go.Proofs.YtecgddiohoeboaaDoor
open Go.RowKit Go.Lib Go.Deep
attribute [local go_sem] store_float f64bits
attribute [local go_sem ↓] Go.wp_at_zero Go.wp_at_succ

theorem res_len (r : List Tr) (ih : ∀ t, t ∈ r → Say t → ∀ d most : Int, 0 ≤ meas t d most → ((wrT t).length : Int) ≤ 302 * meas t d most + 300) (hs : SayAll r) : ∀ d most n : Int, 0 ≤ n → 0 ≤ measAll r d most n → ((resT r).length : Int) ≤ 302 * (measAll r d most n - n) + 301 * (r.length : Int) := by
  induction r with
  | nil => intro d most n _ _; simp [resT, measAll]
  | cons t r ihr =>
    intro d most n hn h
    have hs' : Say t ∧ SayAll r := by simpa [SayAll] using hs
    simp only [measAll] at h ⊢
    by_cases hm : meas t d (most - n) < 0
    · rw [if_pos hm] at h; omega
    · rw [if_neg hm] at h ⊢
      have h1 := ih t (by simp) hs'.1 d (most - n) (by omega)
      have h2 := ihr (fun u hu => ih u (by simp [hu])) hs'.2 d most (n + meas t d (most - n)) (by omega) h
      simp only [resT, List.length_cons, List.length_append]
      push_cast
      omega

theorem row_len (r : List Tr) : (rowT r).length ≤ (resT r).length := by
  cases r with
  | nil => simp [rowT]
  | cons t r => simp [rowT, resT]

theorem itoa_short (n : Int) (h1 : -576460752303423487 ≤ n) (h2 : n ≤ 576460752303423487) : (itoa n).length ≤ 20 := by
  unfold itoa
  split
  · have := dec_short 17 n.natAbs (by omega)
    rw [List.length_cons]; omega
  · have := dec_short 17 n.toNat (by omega)
    omega

theorem quo_short (s : List UInt8) (h : s.length ≤ 64) : (quoT s).length ≤ 300 := by
  unfold quoT
  split
  · omega
  · have := qz_le s
    rw [List.length_cons, List.length_append]
    simp
    omega

theorem wr_len : ∀ t, Say t → ∀ d most : Int, 0 ≤ meas t d most → ((wrT t).length : Int) ≤ 302 * meas t d most + 300 := by
  refine Tr.ind fun k n f s a c kids ih => ?_
  intro hs d most h
  unfold Say at hs
  simp only [meas] at h ⊢
  split at h
  · omega
  rename_i hc
  rw [if_neg hc]
  rcases hs with ⟨rfl, h1, h2, rfl⟩ | ⟨rfl, h1, h2, rfl⟩ | ⟨rfl, h1, rfl⟩ | ⟨hk, hall⟩
  · have := itoa_short n h1 h2
    simp [wrT, measAll, ownW]
    omega
  · have := hxL_len f 16
    simp [wrT, measAll, ownW, this]
  · have := quo_short (dl s) h1
    simp [wrT, measAll, ownW]
    omega
  · have hres := res_len kids ih hall (d - 1) most (ownW k kids.length) (own_nonneg k kids.length) h
    have hrow := row_len kids
    rcases hk with rfl | rfl
    · simp [wrT, ownW] at hres h ⊢
      omega
    · simp [wrT, ownW] at hres h ⊢
      omega

/-- A bracket, a comma, a minus. -/
def IsSg (x : ByteArray) : Prop := x = ⟨#[123]⟩ ∨ x = ⟨#[125]⟩ ∨ x = ⟨#[91]⟩ ∨ x = ⟨#[93]⟩ ∨ x = ⟨#[44]⟩ ∨ x = ⟨#[45]⟩

theorem signs_in : ∀ t, Say t → ∀ u, u ∈ tkT t → u.k = 6 → IsSg u.x := by
  refine Tr.ind fun k n f s a c kids ih => ?_
  intro hs u hu h6
  unfold Say at hs
  have hres : ∀ r : List Tr, (∀ t, t ∈ r → t ∈ kids) → SayAll r → ∀ u, u ∈ tkRes r → u.k = 6 → IsSg u.x := by
    intro r
    induction r with
    | nil => intro _ _ u hu; simp [tkRes] at hu
    | cons t r ihr =>
      intro hm hsr u hu h6
      have hs' : Say t ∧ SayAll r := by simpa [SayAll] using hsr
      simp only [tkRes, List.mem_cons, List.mem_append] at hu
      rcases hu with rfl | hu | hu
      · simp [sgT, IsSg]
      · exact ih t (hm t (by simp)) hs'.1 u hu h6
      · exact ihr (fun t ht => hm t (by simp [ht])) hs'.2 u hu h6
  have hrow : SayAll kids → ∀ u, u ∈ tkRow kids → u.k = 6 → IsSg u.x := by
    intro hsr u hu h6
    cases kids with
    | nil => simp [tkRow] at hu
    | cons t r =>
      have hs' : Say t ∧ SayAll r := by simpa [SayAll] using hsr
      simp only [tkRow, List.mem_append] at hu
      rcases hu with hu | hu
      · exact ih t (by simp) hs'.1 u hu h6
      · exact hres r (fun t ht => by simp [ht]) hs'.2 u hu h6
  rcases hs with ⟨rfl, h1, h2, rfl⟩ | ⟨rfl, h1, h2, rfl⟩ | ⟨rfl, h1, rfl⟩ | ⟨hk, hall⟩
  · by_cases hn : n < 0
    · simp [tkT, hn] at hu
      rcases hu with rfl | rfl
      · simp [sgT, IsSg]
      · simp at h6
    · simp [tkT, hn] at hu
      subst hu
      simp at h6
  · simp [tkT] at hu
    subst hu
    simp at h6
  · simp [tkT] at hu
    subst hu
    simp at h6
  · rcases hk with rfl | rfl
    · simp [tkT] at hu
      rcases hu with rfl | hu | rfl
      · simp [sgT, IsSg]
      · exact hrow hall u hu h6
      · simp [sgT, IsSg]
    · simp [tkT] at hu
      rcases hu with rfl | hu | rfl
      · simp [sgT, IsSg]
      · exact hrow hall u hu h6
      · simp [sgT, IsSg]

theorem same_zero (a b : Option Addr) (c d : Nat) (w : World) : Calls Tryd.prog 12 #[.slice a 0 c, .slice b 0 d, .bool true] w fun e w' => e = .returned (.bool true) ∧ Below w.heap.size w w' := by
  go_enter Tryd.func12, Tryd.ntmps12
  go_wp2_with fail
  go_loopg [7] 0 (fun gf s7 wx => s7 = .int .i64 0 ∧ gf = 0 ∧ wx = w)
  case atStart => exact ⟨rfl, rfl, rfl⟩
  case round =>
    obtain ⟨rfl, _, hwx⟩ := hrel
    obtain rfl := hwx.symm
    go_wp2_with fail
    go_ret
    exact ⟨rfl, Below.refl _ _⟩
end Go.Proofs.YtecgddiohoeboaaDoor


/- LexTerms. -/
namespace Go.Proofs.YtecgddiohoeboaaDoor
open Go.RowKit Go.Lib Go.Deep
attribute [local go_sem] store_float f64bits
attribute [local go_sem ↓] Go.wp_at_zero Go.wp_at_succ

theorem keep_take (ds : List Tk) (m : Nat) (t : Tk) (h : ds[m]? = some t) : ((ds.take (m + 1)).map bare).filter keepT = ((ds.take m).map bare).filter keepT ++ (if keepT (bare t) = true then [bare t] else []) := by
  rw [List.take_add_one, h]
  show ((ds.take m ++ [t]).map bare).filter keepT = _
  rw [List.map_append, List.filter_append]
  congr 1
  show [bare t].filter keepT = _
  rw [List.filter_cons, List.filter_nil]

set_option maxHeartbeats 8000000 in
set_option maxRecDepth 100000 in
theorem LexTerms_walk (t : Tr) (w : World) (hin : t.In w 0) (hsm : Small t) (hT : LexTab w) : Calls Tryd.prog 8 #[t.val] w fun e w' => e = .returned (.bool true) ∧ Below w.heap.size w w' := by
  have cK := fun W h => known_any W h
  have cR := fun W h => rright_any t W h hsm
  have cS := fun W h => sayable_any t W h
  have hsay := fun h1 h2 => say_of t w hin h1 h2
  have cW := fun hs hl W h => write_any t hs hl W h
  have cA := fun hs => atoms_any w t hs hin
  have hwl := wr_len t
  have hlx := lex_text t
  have hkp := keep_term t
  have hsg := signs_in t
  have HIN := hidb hin
  have hin2 : ∀ W, Below w.heap.size w W → t.In W 0 := fun W h => in_below h hin
  have HIN2 := hidb hin2
  obtain ⟨k, n, f, s, a, c, kids, rfl⟩ : ∃ k n f s a c kids, t = .mk k n f s a c kids := by cases t; exact ⟨_, _, _, _, _, _, _, rfl⟩
  have HF := hidb (And.intro hsay (And.intro hwl (And.intro hlx (And.intro hkp hsg))))
  clear hsay hwl hlx hkp hsg hin hsm hin2
  replace cR : ∀ (W : World), (Tr.mk k n f s a c kids).In W 0 → Calls Tryd.prog 17 #[.agg #[.int .i64 k, .int .i64 n, .float .f64 f, .string s, .slice a kids.length c]] W fun e w' => Tells e (RT (.mk k n f s a c kids)) ∧ Below W.heap.size W w' := cR
  replace cS : ∀ (W : World), (Tr.mk k n f s a c kids).In W 0 → Calls Tryd.prog 18 #[.agg #[.int .i64 k, .int .i64 n, .float .f64 f, .string s, .slice a kids.length c]] W fun e w' => Tells e (SB (.mk k n f s a c kids)) ∧ Below W.heap.size W w' := cS
  show Calls Tryd.prog 8 #[.agg #[.int .i64 k, .int .i64 n, .float .f64 f, .string s, .slice a kids.length c]] w _
  go_enter Tryd.func8, Tryd.ntmps8
  go_wp2_with fail
  refine (cK _ (hT.but (But.of_below (S := fun _ => False) (below_new w _)) (fun _ e => e.elim))).mono ?_
  rintro e w1 ⟨rfl, hb1⟩
  have B1 := box_then (Below.refl _ _) hb1
  have HB1 : Hid _ := B1
  obtain ⟨d0, d1, d2, d3, d4⟩ := box_at B1
  clear B1 hb1
  go_wp2_with fail
  refine (cR _ (HIN2.out _ (box_below HB1.out))).mono ?_
  rintro e w2 ⟨⟨b2, rfl, hR⟩, hb2⟩
  have B2 := box_then HB1.out hb2
  have HB2 : Hid _ := B2
  clear d0 d1 d2 d3 d4
  obtain ⟨d0, d1, d2, d3, d4⟩ := box_at B2
  clear B2 hb2 cR
  cases b2 with
  | false =>
    go_wp2_with fail
    go_ret
    exact ⟨rfl, box_below HB2.out⟩
  | true =>
    have HR := hidb (hR rfl)
    clear hR
    go_wp2_with fail
    refine (cS _ (HIN2.out _ (box_below HB2.out))).mono ?_
    rintro e w3 ⟨⟨b3, rfl, hS⟩, hb3⟩
    have B3 := box_then HB2.out hb3
    have HB3 : Hid _ := B3
    clear d0 d1 d2 d3 d4
    obtain ⟨d0, d1, d2, d3, d4⟩ := box_at B3
    clear B3 hb3 cS
    cases b3 with
    | false =>
      go_wp2_with fail
      go_ret
      exact ⟨rfl, box_below HB3.out⟩
    | true =>
      have hSay : Say (.mk k n f s a c kids) := HF.out.1 HR.out.2 (hS rfl)
      have hwl : ((wrT (.mk k n f s a c kids)).length : Int) ≤ 302 * meas (.mk k n f s a c kids) 200 65536 + 300 := HF.out.2.1 hSay 200 65536 HR.out.1
      have hmb := (meas_bounds (.mk k n f s a c kids) 200 65536).2 HR.out.1
      have cW2 := cW hSay (by omega)
      have cA2 := cA hSay
      have hlx := HF.out.2.2.1 hSay
      have hkp := HF.out.2.2.2.1 hSay
      have hsg := HF.out.2.2.2.2 hSay
      replace cW2 : ∀ W : World, (Tr.mk k n f s a c kids).In W 0 → Calls Tryd.prog 19 #[.agg #[.int .i64 k, .int .i64 n, .float .f64 f, .string s, .slice a kids.length c]] W fun e w' => e = .returned (.string ⟨(wrT (.mk k n f s a c kids)).toArray⟩) ∧ Below W.heap.size W w' := cW2
      obtain ⟨X, hX⟩ : ∃ X, (⟨(wrT (.mk k n f s a c kids)).toArray⟩ : ByteArray) = X := ⟨_, rfl⟩
      have hXd : dl X = wrT (.mk k n f s a c kids) := by rw [← hX]; rfl
      rw [hX] at cW2
      replace hlx := hlx X hXd
      have HLX := hidb hlx
      have HKP := hidb hkp
      have HSG := hidb hsg
      have HCA := hidb cA2
      clear hSay hwl hmb cW cA hlx hkp hsg hS hX hXd HF cA2
      go_wp2_with fail
      refine (cW2 _ (HIN2.out _ (box_below HB3.out))).mono ?_
      rintro e w4 ⟨rfl, hb4⟩
      have B4 := box_then HB3.out hb4
      have HB4 : Hid _ := B4
      clear d0 d1 d2 d3 d4
      obtain ⟨d0, d1, d2, d3, d4⟩ := box_at B4
      clear B4 hb4 cW2
      by_cases hl : 16384 < X.size
      · have h1 : (16384 : Int) < (X.size : Int) := by omega
        go_wp2_with fail
        go_ret
        exact ⟨rfl, box_below HB4.out⟩
      · have h1 : ¬ (16384 : Int) < (X.size : Int) := by omega
        obtain ⟨ds, hds, hdm⟩ := HLX.out (by omega)
        have cT := fun W h => Tokens_any X W h
        rw [hds] at cT
        have hlen := toks_len X (X.size + 1) 0 [] (ds ++ [⟨8, ⟨#[]⟩, 0, 0, X.size⟩]) (Nat.zero_le _) (Nat.le_refl _) (by rw [← hds]; unfold allT; rw [if_neg (by omega)])
        obtain ⟨L, hL⟩ : ∃ L, ds ++ [(⟨8, ⟨#[]⟩, 0, 0, X.size⟩ : Tk)] = L := ⟨_, rfl⟩
        rw [hL] at cT hlen
        have HL := hidb hL
        have HDM := hidb hdm
        have HLEN : Hid (L.length = ds.length + 1) := hidb (by rw [← hL, List.length_append]; rfl)
        have hdl : ds.length ≤ 16400 := by have := HLEN.out; omega
        clear hL hdm hds HLX
        go_wp2_with fail
        refine (cT _ (hT.but (But.of_below (S := fun _ => False) (box_below HB4.out)) (fun _ e => e.elim))).mono ?_
        rintro e w5 ⟨hTP, hb5⟩
        have B5 := box_then HB4.out hb5
        have HB5 : Hid _ := B5
        clear d0 d1 d2 d3 d4
        obtain ⟨d0, d1, d2, d3, d4⟩ := box_at B5
        rcases hTP with ⟨l5, V5, hl5, rfl, how⟩ | ⟨er, p, hl5, _⟩
        case inr => cases hl5
        obtain rfl : L = l5 := Sum.inl.inj hl5
        obtain ⟨g, cap, rfl, hg, hcap, hce⟩ := own_cell how (by omega)
        have hgl : g < w5.heap.size := cell_lt (hce 0 _ (tk_at L 0 (L[0]'(by omega)) (by simp) 0 _ rfl))
        have HCE := hidb hce
        clear B5 hb5 hl5 hce how hg hcap cT hlen
        go_wp2_with fail
        have hB6 : Below (w.heap.size + 1) (w.alloc (.cells #[.int .i64 k, .int .i64 n, .float .f64 f, .string s, .slice a kids.length c] 44)) (w5.alloc (Obj.cells #[Value.int IntKind.i64 0, Value.int IntKind.i64 0] 26)) := HB5.out.alloc (by have := HB5.out.size; simpa using this) _
        have hgl6 : g < (w5.alloc (Obj.cells #[Value.int IntKind.i64 0, Value.int IntKind.i64 0] 26)).heap.size := by simp; omega
        have hce6 : ∀ q u, (tkCells L)[q]? = some u → (w5.alloc (Obj.cells #[Value.int IntKind.i64 0, Value.int IntKind.i64 0] 26)).cell? ⟨g, q, none⟩ = some u := fun q u h => ((below_new w5 _).cell (p := ⟨g, q, none⟩) hgl).trans (HCE.out q u h)
        generalize w5.alloc (Obj.cells #[Value.int IntKind.i64 0, Value.int IntKind.i64 0] 26) = W6 at hB6 hgl6 hce6 ⊢
        have HB6 := hidb hB6
        have HC6 := hidb hce6
        clear hB6 hce6 HCE d0 d1 d2 d3 d4
        obtain ⟨i0, hi', hz0, hz1, hz2⟩ := info_parts (P := Tryd.prog) (e := TT) (z := .agg #[.int .i64 0, .string ⟨#[]⟩, .int .i64 0, .float .f64 0, .int .i64 0]) (size := 5) (bytes := 48) (by kernel_rfl)
        have hi : Tryd.prog.info? TT = some i0 := hi'
        clear hi'
        go_loopg [6, 7] ds.length (fun gf s6 s7 wx => ∃ (m : Nat) (o2 : Option Addr) (n2 c2 : Nat) (lx : List Tk), s7 = .int .i64 (m : Int) ∧ s6 = .slice o2 n2 c2 ∧ m ≤ ds.length ∧ ds.length - m ≤ gf ∧ lx = ((ds.take m).map bare).filter keepT ∧ lx.length ≤ m ∧ wx.ownsRow W6.heap.size TT 5 (.slice o2 n2 c2) lx.length (tkCells lx) ∧ Below W6.heap.size W6 wx)
        case atStart => exact ⟨0, none, 0, 0, [], by simp, rfl, Nat.zero_le _, by omega, by simp, Nat.zero_le _, ⟨rfl, .inl ⟨rfl, rfl⟩⟩, Below.refl _ _⟩
        case round =>
          obtain ⟨m, o2, n2, c2, lx, rfl, rfl, hm, hgf, hlx, hll, how, hbw⟩ := hrel
          have HLX := hidb hlx
          have HBW := hidb hbw
          have HLn := HLEN
          by_cases hml : m < ds.length
          · obtain ⟨g', rfl⟩ : ∃ g', gk = g' + 1 := ⟨gk - 1, by omega⟩
            obtain ⟨t, ht⟩ : ∃ t, ds[m]? = some t := ⟨_, List.getElem?_eq_getElem hml⟩
            have htl : L[m]? = some t := by rw [← HL.out, List.getElem?_append_left hml]; exact ht
            have htk := keep_take ds m t ht
            have htm : bare t ∈ tkT (.mk k n f s a c kids) := by rw [← HDM.out]; exact List.mem_map_of_mem (List.mem_of_getElem? ht)
            have hsgt := HSG.out (bare t) htm
            have hta := tk_at L m t htl
            obtain ⟨tk, tx, tn, tf, tp⟩ := t
            have a0 : wr.cell? ⟨g, m * 5, none⟩ = some (.int .i64 tk) := (hbw.cell (p := ⟨g, m * 5, none⟩) hgl6).trans (HC6.out _ _ (hta 0 _ rfl))
            have a1 : wr.cell? ⟨g, m * 5 + 1, none⟩ = some (.string tx) := (hbw.cell (p := ⟨g, m * 5 + 1, none⟩) hgl6).trans (HC6.out _ _ (hta 1 _ rfl))
            have a2 : wr.cell? ⟨g, m * 5 + 2, none⟩ = some (.int .i64 tn) := (hbw.cell (p := ⟨g, m * 5 + 2, none⟩) hgl6).trans (HC6.out _ _ (hta 2 _ rfl))
            have a3 : wr.cell? ⟨g, m * 5 + 3, none⟩ = some (.float .f64 tf) := (hbw.cell (p := ⟨g, m * 5 + 3, none⟩) hgl6).trans (HC6.out _ _ (hta 3 _ rfl))
            have a4 : wr.cell? ⟨g, m * 5 + 4, none⟩ = some (.int .i64 (tp : Int)) := (hbw.cell (p := ⟨g, m * 5 + 4, none⟩) hgl6).trans (HC6.out _ _ (hta 4 _ rfl))
            have hz := hbw.size
            have hg3 : g < wr.heap.size := by omega
            have m0 : (0 : Int) ≤ (m : Int) := by omega
            have m1 : (m : Int) + 1 < (L.length : Int) := by have := HLEN.out; omega
            have m2 : (m : Int) < (L.length : Int) := by omega
            clear hta htl htm ht hbw hlx
            by_cases h6 : tk = 6
            · subst h6
              have hsx : IsSg tx := hsgt rfl
              by_cases h45 : tx = ⟨#[45]⟩
              · subst h45
                have HK : Hid (((ds.take (m + 1)).map bare).filter keepT = ((ds.take m).map bare).filter keepT ++ [⟨6, ⟨#[45]⟩, tn, tf, 0⟩]) := hidb (by rw [htk]; rfl)
                clear htk hsgt hsx
                go_wp2_with (at_builtin; refine wpList_append_own _ rfl _ _ 23 rfl W6.heap.size TT i0 (.agg #[.int .i64 0, .string ⟨#[]⟩, .int .i64 0, .float .f64 0, .int .i64 0]) 5 48 Tryd.underlying23 hi hz0 hz1 hz2 rfl (by decide) _ _ _ rfl ((how.alloc _).alloc _) ⟨wr.heap.size + 1, 0, none⟩ 1 1 [.int .i64 6, .string ⟨#[45]⟩, .int .i64 tn, .float .f64 tf, .int .i64 0] rfl rfl ?p1 ?p2 ?p3 ?p4 ?p5 ?_)
                try (case p1 => intro q u hq; exact app_five _ _ _ _ _ _ _ _ (by first | rfl | simp) q u hq)
                try (case p2 => first | exact ⟨rfl, rfl, rfl, rfl, rfl⟩ | (intro u hu; simp only [List.mem_cons, List.not_mem_nil, or_false] at hu; rcases hu with rfl | rfl | rfl | rfl | rfl <;> rfl))
                case p3 => unfold maxLen; omega
                case p4 => omega
                case p5 => first | (simp; omega) | omega
                intro v' w7 hown' hgrow hnil
                have hb7 : Below W6.heap.size W6 w7 := (HBW.out.alloc hz _).trans (grow_below (how.alloc _) hgrow (by simp; omega))
                obtain ⟨o3, n3, c3, rfl⟩ : ∃ ao n' cap, v' = .slice ao n' cap := hown'.2.elim (fun h => ⟨_, _, _, h.1⟩) fun ⟨_, _, _, hv, _⟩ => ⟨_, _, _, hv⟩
                have HO7 := hidb hown'
                have HB7 := hidb hb7
                clear hown' hgrow hnil hb7 a0 a1 a2 a3 a4 how
                go_wp2_with fail
                go_roundg g'
                case measure => omega
                case rel => exact ⟨m + 1, _, _, _, lx ++ [⟨6, ⟨#[45]⟩, tn, tf, 0⟩], by simp, rfl, by omega, by omega, by rw [HK.out, HLX.out], by rw [List.length_append]; simp; omega, by rw [List.length_append, tkCells_snoc]; exact HO7.out, HB7.out⟩
              · have HK : Hid (((ds.take (m + 1)).map bare).filter keepT = ((ds.take m).map bare).filter keepT) := hidb (by
                  rw [htk]
                  rcases hsx with rfl | rfl | rfl | rfl | rfl | rfl
                  all_goals first | exact absurd rfl h45 | exact List.append_nil _)
                clear htk hsgt
                rcases hsx with rfl | rfl | rfl | rfl | rfl | rfl
                case inr.inr.inr.inr.inr => exact absurd rfl h45
                all_goals (
                  clear h45
                  go_wp2_with fail
                  go_roundg g'
                  case measure => omega
                  case rel => exact ⟨m + 1, _, _, _, lx, by simp, rfl, by omega, by omega, by rw [HK.out, HLX.out], by omega, how.alloc _, HBW.out.alloc hz _⟩)
            · have e6 : (tk == 6) = false := by simpa using h6
              have HK : Hid (((ds.take (m + 1)).map bare).filter keepT = ((ds.take m).map bare).filter keepT ++ [⟨tk, tx, tn, tf, 0⟩]) := hidb (by rw [htk]; simp [keepT, bare, h6])
              clear htk hsgt
              go_wp2_with (at_builtin; refine wpList_append_own _ rfl _ _ 23 rfl W6.heap.size TT i0 (.agg #[.int .i64 0, .string ⟨#[]⟩, .int .i64 0, .float .f64 0, .int .i64 0]) 5 48 Tryd.underlying23 hi hz0 hz1 hz2 rfl (by decide) _ _ _ rfl ((how.alloc _).alloc _) ⟨wr.heap.size + 1, 0, none⟩ 1 1 [.int .i64 tk, .string tx, .int .i64 tn, .float .f64 tf, .int .i64 0] rfl rfl ?q1 ?q2 ?q3 ?q4 ?q5 ?_)
              try (case q1 => intro q u hq; exact app_five _ _ _ _ _ _ _ _ (by first | rfl | simp) q u hq)
              try (case q2 => first | exact ⟨rfl, rfl, rfl, rfl, rfl⟩ | (intro u hu; simp only [List.mem_cons, List.not_mem_nil, or_false] at hu; rcases hu with rfl | rfl | rfl | rfl | rfl <;> rfl))
              case q3 => unfold maxLen; omega
              case q4 => omega
              case q5 => first | (simp; omega) | omega
              intro v' w7 hown' hgrow hnil
              have hb7 : Below W6.heap.size W6 w7 := (HBW.out.alloc hz _).trans (grow_below (how.alloc _) hgrow (by simp; omega))
              obtain ⟨o3, n3, c3, rfl⟩ : ∃ ao n' cap, v' = .slice ao n' cap := hown'.2.elim (fun h => ⟨_, _, _, h.1⟩) fun ⟨_, _, _, hv, _⟩ => ⟨_, _, _, hv⟩
              have HO7 := hidb hown'
              have HB7 := hidb hb7
              clear hown' hgrow hnil hb7 a0 a1 a2 a3 a4 how
              go_wp2_with fail
              go_roundg g'
              case measure => omega
              case rel => exact ⟨m + 1, _, _, _, lx ++ [⟨tk, tx, tn, tf, 0⟩], by simp, rfl, by omega, by omega, by rw [HK.out, HLX.out], by rw [List.length_append]; simp; omega, by rw [List.length_append, tkCells_snoc]; exact HO7.out, HB7.out⟩
          · have m1 : ¬ (m : Int) + 1 < (L.length : Int) := by have := HLEN.out; omega
            have hlx2 : lx = atT (.mk k n f s a c kids) := by rw [HLX.out, List.take_of_length_le (by omega), HDM.out, HKP.out]
            have HBt : Hid (Below (w.heap.size + 1) (w.alloc (.cells #[.int .i64 k, .int .i64 n, .float .f64 f, .string s, .slice a kids.length c] 44)) wr) := hidb (HB6.out.trans (hbw.mono (by have := HB6.out.size; simpa using this)))
            obtain ⟨d0, d1, d2, d3, d4⟩ := box_at HBt.out
            have hwz := (box_below HBt.out).size
            have cA3 := HCA.out wr [] (.slice none 0 0) (box_below HBt.out) ⟨rfl, .inl ⟨rfl, rfl⟩⟩ (by rw [← hlx2]; simp; omega)
            replace cA3 : Calls Tryd.prog 20 #[.agg #[.int .i64 k, .int .i64 n, .float .f64 f, .string s, .slice a kids.length c], .slice none 0 0] wr fun e W' => AtR w.heap.size wr (.slice none 0 0) ([] ++ atT (.mk k n f s a c kids)) e W' := cA3
            rw [← hlx2, List.nil_append] at cA3
            have HOW := hidb how
            clear hlx hlx2 hbw how
            go_wp2_with fail
            refine cA3.mono ?_
            rintro e w8 ⟨V', rfl, ho', hbut', _⟩
            have hb8 : Below wr.heap.size wr w8 := hbut'.below (Nat.le_refl _) (fun k hk => by simp [Value.ownBlock] at hk)
            have OA := own_but (own_base HOW.out (Nat.zero_le _)) (But.of_below (S := fun _ => False) hb8) (fun _ _ h => h)
            have OB := own_base ho' (Nat.zero_le _)
            have HB8 := hidb ((box_below HBt.out).trans (hb8.mono hwz))
            have cSame : Calls Tryd.prog 12 #[.slice o2 n2 c2, V', .bool true] w8 fun e w' => e = .returned (.bool true) ∧ Below w8.heap.size w8 w' := by
              rcases Nat.eq_zero_or_pos lx.length with h0 | h0
              · have f1 : n2 = 0 := by
                  rcases OA.2 with ⟨hv, _⟩ | ⟨_, _, _, hv, _⟩
                  · cases hv; rfl
                  · cases hv; exact h0
                obtain ⟨o4, c4, rfl⟩ : ∃ o4 c4, V' = .slice o4 0 c4 := by
                  rcases OB.2 with ⟨hv, _⟩ | ⟨g4, c4, _, hv, _⟩
                  · exact ⟨_, _, hv⟩
                  · rw [h0] at hv; exact ⟨_, _, hv⟩
                subst f1
                exact same_zero _ _ _ _ w8
              · exact same_rows _ _ lx 0 h0 (by omega) w8 OA OB
            obtain ⟨o4, n4, c4, rfl⟩ : ∃ ao n' cap, V' = .slice ao n' cap := ho'.2.elim (fun h => ⟨_, _, _, h.1⟩) fun ⟨_, _, _, hv, _⟩ => ⟨_, _, _, hv⟩
            clear ho' hbut' OA OB hb8 cA3
            go_wp2_with fail
            refine cSame.mono ?_
            rintro e w9 ⟨rfl, hb9⟩
            have HB9 := hidb (HB8.out.trans (hb9.mono HB8.out.size))
            clear hb9 cSame
            go_wp2_with fail
            go_ret
            exact ⟨rfl, HB9.out⟩
end Go.Proofs.YtecgddiohoeboaaDoor


