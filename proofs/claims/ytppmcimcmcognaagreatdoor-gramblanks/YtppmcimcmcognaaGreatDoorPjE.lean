import Derived.Test.YtppmcimcmcognaaGreatDoorG39
import Derived.Test.YtppmcimcmcognaaGreatDoorG40
import Derived.Deep.LoopGhost
import Derived.BigQuiet
/- GramBlanks, walked. -/
namespace Go.Proofs.YtppmcimcmcognaaGreatDoor
open Go.RowKit Go.Lib
attribute [local go_sem] store_float f64bits
attribute [local go_sem ↓] Go.wp_at_zero Go.wp_at_succ

set_option maxHeartbeats 8000000 in
set_option maxRecDepth 100000 in
theorem GramBlanks_walk (s B : ByteArray) (w : World) (hT : LexTab w) : Calls Tryz.prog 6 #[.string s, .string B] w fun e w' => e = .returned (.bool true) ∧ Below w.heap.size w w' := by
  have cK := known6_any w hT
  by_cases hl : 4000 < s.size
  · have h1 : (4000 : Int) < (s.size : Int) := by omega
    go_enter Tryz.func6, Tryz.ntmps6
    go_wp2_with (first
      | (go_at_call 9; refine cK.mono ?_; rintro e w1 ⟨rfl, hb1⟩))
    go_ret
    exact ⟨rfl, hb1⟩
  have h1 : ¬ (4000 : Int) < (s.size : Int) := by omega
  by_cases hl2 : 12 < B.size
  · have h2 : (12 : Int) < (B.size : Int) := by omega
    go_enter Tryz.func6, Tryz.ntmps6
    go_wp2_with (first
      | (go_at_call 9; refine cK.mono ?_; rintro e w1 ⟨rfl, hb1⟩))
    go_ret
    exact ⟨rfl, hb1⟩
  have h2 : ¬ (12 : Int) < (B.size : Int) := by omega
  have GT : ∀ {wx : World}, Below w.heap.size w wx → LexTab wx := fun hb => hT.but (But.of_below (S := fun _ => False) hb) (fun _ e => e.elim)
  have hch := chain_of s (s.size + 1) 0 [] (toks s (s.size + 1) 0 []) (Nat.zero_le _) (by omega) rfl
  have hall : allT s = toks s (s.size + 1) 0 [] := by unfold allT; rw [if_neg (by omega)]
  rw [← hall] at hch
  have HCH := hidb hch
  clear hch hall
  go_enter Tryz.func6, Tryz.ntmps6
  go_wp2_with (first
    | (go_at_call 9; refine cK.mono ?_; rintro e w1 ⟨rfl, hb1⟩; have HB1 := hidb hb1; clear hb1))
  refine (Tokens_any s w1 (GT HB1.out)).mono ?_
  rintro e w2 ⟨hTP, hb2⟩
  have HB2 := hidb (HB1.out.trans (hb2.mono HB1.out.size))
  rcases hTP with ⟨l, V, hal, rfl, how⟩ | ⟨er, p, hal, rfl⟩
  case inr =>
    have her := (HCH.out.2 er p hal).1
    have k3 : (er == 0) = false := by simpa using her
    have k4 : (er != 0) = true := by simpa using her
    clear her hal HCH hb2
    go_wp2_with fail
    go_ret
    exact ⟨rfl, HB2.out.alloc HB2.out.size _⟩
  obtain ⟨ts, hchain, hlts⟩ := HCH.out.1 l hal
  rw [List.nil_append] at hlts
  clear HCH
  have hl1 : 0 < l.length := by rw [hlts, List.length_append]; simp
  obtain ⟨g, cap, rfl, hg, hcap, hce⟩ := own_cell how hl1
  have HLL : Hid (l.length = ts.length + 1) := hidb (by rw [hlts, List.length_append]; rfl)
  have HLT := hidb hlts
  have HAL := hidb hal
  clear hlts hal
  have hgl : g < w2.heap.size := cell_lt (hce 0 _ (tk_at l 0 (l[0]'(by omega)) (by simp) 0 _ rfl))
  have hB3 : Below w.heap.size w (w2.alloc (Obj.cells #[Value.int IntKind.i64 0, Value.int IntKind.i64 0] 28)) := HB2.out.alloc HB2.out.size _
  have hD3 := Duo.new w2 28 (.int .i64 0) (.int .i64 0)
  have hce3 : ∀ k u, (tkCells l)[k]? = some u → (w2.alloc (Obj.cells #[Value.int IntKind.i64 0, Value.int IntKind.i64 0] 28)).cell? ⟨g, k, none⟩ = some u := fun k u h => ((below_new w2 _).cell (p := ⟨g, k, none⟩) hgl).trans (hce k u h)
  have how3 := own_but (own_base how (Nat.zero_le _)) (But.of_below (S := fun _ => False) (below_new w2 (Obj.cells #[Value.int IntKind.i64 0, Value.int IntKind.i64 0] 28))) (fun _ _ h => h)
  have cT := Tokens_any B (w2.alloc (Obj.cells #[Value.int IntKind.i64 0, Value.int IntKind.i64 0] 28)) (GT hB3)
  go_wp2_with fail
  have hfb : g < w2.heap.size := hgl
  have hz3 : w2.heap.size < (w2.alloc (Obj.cells #[Value.int IntKind.i64 0, Value.int IntKind.i64 0] 28)).heap.size := by simp
  have HB3 := hidb hB3
  have HD3 := hidb hD3
  have HCE := hidb hce3
  have HOW := hidb how3
  clear hce how hg hcap hb2 hB3 hD3 hce3 how3
  generalize w2.alloc (Obj.cells #[Value.int IntKind.i64 0, Value.int IntKind.i64 0] 28) = W3 at cT HB3 HD3 HCE HOW hz3 ⊢
  have hwf : w.heap.size ≤ w2.heap.size := HB2.out.size
  generalize w2.heap.size = fb at HD3 hz3 hfb hgl hwf ⊢
  refine cT.mono ?_
  clear cT
  rintro e w4 ⟨hTP, hb4⟩
  obtain ⟨y0, y1, z0, z1, yl⟩ := HD3.out.keep hb4
  have HB4 := hidb hb4
  have hZ34 := hb4.size
  clear hb4
  rcases hTP with ⟨l1, V1, hal1, rfl, how1⟩ | ⟨er, p, hal1, rfl⟩
  case inr =>
    have her := allT_err B hal1
    have k3 : (er == 0) = false := by simpa using her
    have k4 : (er != 0) = true := by simpa using her
    clear her hal1
    go_wp2_with fail
    go_ret
    exact ⟨rfl, ((HB3.out.trans (HB4.out.mono HB3.out.size)).setCell hwf _).setCell hwf _⟩
  have hn1 : 0 < l1.length := by
    obtain ⟨⟨a, t, h1, _⟩, _⟩ := allT_ends B hal1
    simp only at h1
    rw [h1]; simp
  obtain ⟨g1, cap1, rfl, _, _, _⟩ := own_cell how1 hn1
  by_cases hone : l1.length = 1
  case neg =>
    have k3 : ((l1.length : Int) != 1) = true := by simp; omega
    clear how1 hal1
    go_wp2_with fail
    go_ret
    exact ⟨rfl, ((HB3.out.trans (HB4.out.mono HB3.out.size)).setCell hwf _).setCell hwf _⟩
  have hrun := blank_run B hal1 hone
  rw [hone]
  have HRUN := hidb hrun
  clear hrun how1 hal1 hone hn1
  go_wp2_with fail
  have hD5 : Duo ((w4.setCell ⟨fb, 0, none⟩ (.int .i64 0)).setCell ⟨fb, 1, none⟩ (.int .i64 0)) fb (.int .i64 0) (.int .i64 0) := ((HD3.out.keep HB4.out).set0 _).set1 _
  have hb5 : But (· = fb) W3 ((w4.setCell ⟨fb, 0, none⟩ (.int .i64 0)).setCell ⟨fb, 1, none⟩ (.int .i64 0)) := ((But.of_below (S := (· = fb)) HB4.out).setCell (p := ⟨fb, 0, none⟩) (fun _ => rfl) _).setCell (p := ⟨fb, 1, none⟩) (fun _ => rfl) _
  clear y0 y1 z0 z1 yl
  generalize ((w4.setCell ⟨fb, 0, none⟩ (.int .i64 0)).setCell ⟨fb, 1, none⟩ (.int .i64 0)) = W5 at hD5 hb5 ⊢
  have hce5 : ∀ k u, (tkCells l)[k]? = some u → W5.cell? ⟨g, k, none⟩ = some u := fun k u h => (hb5.cell (p := ⟨g, k, none⟩) (by show g < _; omega) (by show ¬ g = fb; omega)).trans (HCE.out k u h)
  have hgl5 : g < W5.heap.size := by have := hb5.size; omega
  have HC5 := hidb hce5
  have HO5 := hidb (row_but HOW.out hb5 (fun k hk he => by have he2 : k = fb := he; simp [Value.ownBlock] at hk; omega))
  have HB5 := hidb (HB3.out.trans (hb5.below HB3.out.size (fun k hk => by have hk2 : k = fb := hk; omega)))
  have HD5 := hidb hD5
  have hfb5 : fb < W5.heap.size := hD5.lt
  clear hce5 hb5 hD5 HB3 HD3 HCE HOW HB4 hZ34 hz3
  go_loopg [8, 9] ts.length (fun gf s8 s9 wx => ∃ (j P : Nat) (Wd : ByteArray) (pre rest done : List Tk), s9 = .int .i64 (j : Int) ∧ s8 = .string Wd ∧ ts = pre ++ rest ∧ pre.length = j ∧ rest.length ≤ gf ∧ Chain s P rest ∧ done.length = j ∧ (∀ (i : Nat) (a b : Tk), pre[i]? = some a → done[i]? = some b → a.k = b.k ∧ a.x = b.x ∧ a.n = b.n ∧ a.f = b.f) ∧ Adv Wd done ∧ Wd.size ≤ nextP s rest + 14 * j ∧ j ≤ nextP s rest ∧ Below W5.heap.size W5 wx)
  case atStart => exact ⟨0, 0, ⟨#[]⟩, [], ts, [], rfl, rfl, rfl, rfl, Nat.le_refl _, hchain, rfl, fun i a b h => by simp at h, adv_nil, by simp [ByteArray.size], Nat.zero_le _, Below.refl _ _⟩
  case round =>
    obtain ⟨j, P, Wd, pre, rest, done, rfl, rfl, hts, hpre, hrg, hC, hdn, hdl, hAdv, hws, hjn, hbw⟩ := hrel
    have hlen : l.length = j + rest.length + 1 := by rw [HLL.out, hts, List.length_append, hpre]
    have HLEN := hidb hlen
    cases hC with
    | stop _ b hp hr =>
      have i1 : ¬ (j : Int) + 1 < (l.length : Int) := by simp at hlen; omega
      have hj2 : j ≤ 4000 := by simp only [nextP] at hjn; omega
      have hwz : Wd.size ≤ 65536 := by simp only [nextP] at hws; omega
      have hen := adv_end Wd done hwz hAdv
      obtain ⟨L, hL⟩ : ∃ L, done ++ [(⟨8, ⟨#[]⟩, 0, 0, Wd.size⟩ : Tk)] = L := ⟨_, rfl⟩
      rw [hL] at hen
      have hLl : L.length = j + 1 := by rw [← hL, List.length_append, hdn]; rfl
      have hlj : l.length = j + 1 := by simpa using hlen
      have hlk : ∀ (i : Nat) (a b : Tk), l[i]? = some a → L[i]? = some b → a.k = b.k ∧ a.x = b.x ∧ a.n = b.n ∧ a.f = b.f := by
        intro i b a hb' ha
        rw [← hL] at ha
        rw [HLT.out, hts, List.append_nil] at hb'
        by_cases hij : i < j
        · rw [List.getElem?_append_left (by omega)] at ha
          rw [List.getElem?_append_left (by omega)] at hb'
          exact hdl i b a hb' ha
        · have hij2 : i = j := by
            have := (List.getElem?_eq_some_iff.1 ha).1
            rw [List.length_append, hdn] at this
            simp at this
            omega
          subst hij2
          rw [List.getElem?_append_right (by omega), hdn, Nat.sub_self] at ha
          rw [List.getElem?_append_right (by omega), hpre, Nat.sub_self] at hb'
          cases ha
          cases hb'
          exact ⟨rfl, rfl, rfl, rfl⟩
      have hpa : parseP s = treeP l := by unfold parseP; rw [HAL.out]
      have hpb : parseP Wd = treeP L := by unfold parseP; rw [hen]
      obtain ⟨f1, f2, f3⟩ := blind_flat (like_bare (by omega) hlk)
      rw [← hpa, ← hpb] at f1 f2 f3
      have hsh : ∀ (i : Nat) (n : Nd), (flatP (parseP s)).2.2.2[i]? = some n → n.l.length ≤ 20000 ∨ 16384 < (flatP (parseP s)).2.2.2.length := fun i n h => flat_short s h
      have cP := fun W h => Parse_any s W h
      have cQ := fun W h => Parse_any Wd W h
      have cW := fun W h => Tokens_any Wd W h
      rw [hen] at cW
      generalize parseP s = Ra at f1 f2 f3 hsh cP
      generalize parseP Wd = Rb at f1 f2 f3 cQ
      obtain ⟨rr, ee, pb, nb, hfb'⟩ : ∃ rr ee pb nb, flatP Rb = (rr, ee, pb, nb) := ⟨_, _, _, _, rfl⟩
      obtain ⟨rr', ee', pa, na, hfa'⟩ : ∃ rr ee pb nb, flatP Ra = (rr, ee, pb, nb) := ⟨_, _, _, _, rfl⟩
      have hflA : ∀ {w w' : World} {e : Ending}, ParseR w Ra e w' → ∃ V, e = .returned (.tuple #[.agg #[V, iv rr'], .agg #[.int .i64 ee', .int .i64 ((pa : Nat) : Int)]]) ∧ Nodes w' w.heap.size V na ∧ Below w.heap.size w w' := fun h => by have := h.flat; rw [hfa'] at this; exact this
      have hflB : ∀ {w w' : World} {e : Ending}, ParseR w Rb e w' → ∃ V, e = .returned (.tuple #[.agg #[V, iv rr], .agg #[.int .i64 ee, .int .i64 ((pb : Nat) : Int)]]) ∧ Nodes w' w.heap.size V nb ∧ Below w.heap.size w w' := fun h => by have := h.flat; rw [hfb'] at this; exact this
      rw [hfa', hfb'] at f1 f2 f3
      rw [hfa'] at hsh
      simp only at f1 f2 f3 hsh
      subst f1 f2
      clear hfa' hfb'
      have HLk := hidb hlk
      have HLl := hidb hLl
      have HLj := hidb hlj
      have HBW := hidb hbw
      have HF3 := hidb f3
      have HSH := hidb hsh
      clear hlk hLl hlj hlen hen hL hbw hdl hdn hts hpre hrg hAdv hws hjn f3 hsh hpa hpb
      go_wp2_with fail
      refine (cP _ (GT (HB5.out.trans (HBW.out.mono HB5.out.size)))).mono ?_
      clear cP
      rintro e u1 hR1
      obtain ⟨Va, rfl, hNa, hb1⟩ := hflA hR1
      have hbu1 : Below W5.heap.size W5 u1 := HBW.out.trans (hb1.mono HBW.out.size)
      obtain ⟨va, vm, vc, rfl⟩ := nodes_sl hNa
      have hDf : Duo (u1.alloc (.cells #[.slice va vm vc, .int .i64 (rr' : Int)] 25)) fb (.int .i64 0) (.int .i64 0) := (HD5.out.keep hbu1).keep (below_new _ _)
      have hDa := Duo.new u1 25 (.slice va vm vc) (.int .i64 (rr' : Int))
      obtain ⟨y0, y1, z0, z1, yl⟩ := hDf
      have HNA0 := hidb hNa
      have HWR : Hid (fb < wr.heap.size) := hidb (by have := HBW.out.size; omega)
      have HNa := hidb (hNa.but (But.of_below (S := fun _ => False) (below_new u1 (.cells #[.slice va vm vc, .int .i64 (rr' : Int)] 25))) (fun _ h => h.elim))
      have HBU1 := hidb hbu1
      have HDa := hidb hDa
      clear hR1 hNa hb1 hbu1 hDa
      go_wp2_with fail
      have hDa2 : Duo (((u1.alloc (.cells #[.slice va vm vc, .int .i64 (rr' : Int)] 25)).setCell ⟨fb, 0, none⟩ (.int .i64 ee')).setCell ⟨fb, 1, none⟩ (.int .i64 (pa : Int))) u1.heap.size (.slice va vm vc) (.int .i64 (rr' : Int)) := HDa.out.but (((But.refl (· = fb) _).setCell (p := ⟨fb, 0, none⟩) (fun _ => rfl) _).setCell (p := ⟨fb, 1, none⟩) (fun _ => rfl) _) (by show ¬ u1.heap.size = fb; have := HBU1.out.size; omega)
      have hDf2 : Duo (((u1.alloc (.cells #[.slice va vm vc, .int .i64 (rr' : Int)] 25)).setCell ⟨fb, 0, none⟩ (.int .i64 ee')).setCell ⟨fb, 1, none⟩ (.int .i64 (pa : Int))) fb (.int .i64 ee') (.int .i64 (pa : Int)) := (((HD5.out.keep HBU1.out).keep (below_new _ _)).set0 _).set1 _
      have hBu2 : But (· = fb) u1 (((u1.alloc (.cells #[.slice va vm vc, .int .i64 (rr' : Int)] 25)).setCell ⟨fb, 0, none⟩ (.int .i64 ee')).setCell ⟨fb, 1, none⟩ (.int .i64 (pa : Int))) := ((But.of_below (S := (· = fb)) (below_new u1 _)).setCell (p := ⟨fb, 0, none⟩) (fun _ => rfl) _).setCell (p := ⟨fb, 1, none⟩) (fun _ => rfl) _
      have hNa2 := HNA0.out.but hBu2 (fun k hk => by have hk2 : k = fb := hk; have := HWR.out; omega)
      clear y0 y1 z0 z1 yl HDa HNa
      generalize (((u1.alloc (.cells #[.slice va vm vc, .int .i64 (rr' : Int)] 25)).setCell ⟨fb, 0, none⟩ (.int .i64 ee')).setCell ⟨fb, 1, none⟩ (.int .i64 (pa : Int))) = U2 at hDa2 hDf2 hBu2 hNa2 ⊢
      have hbU2 : But (· = fb) W5 U2 := (But.of_below HBU1.out).trans hBu2
      have hbUw : Below w.heap.size w U2 := HB5.out.trans (hbU2.below HB5.out.size (fun k hk => by have hk2 : k = fb := hk; omega))
      refine (cQ _ (GT hbUw)).mono ?_
      clear cQ
      rintro e u3 hR3
      obtain ⟨Vb, rfl, hNb, hb3⟩ := hflB hR3
      obtain ⟨vb, vn, vd, rfl⟩ := nodes_sl hNb
      have hX : Below u3.heap.size u3 ((u3.alloc (.cells #[.slice vb vn vd, .int .i64 (rr' : Int)] 25)).alloc (.cells #[.int .i64 ee', .int .i64 (pb : Int)] 28)) := ((Below.refl _ _).alloc (Nat.le_refl _) _).alloc (by simp) _
      have hbX : Below U2.heap.size U2 ((u3.alloc (.cells #[.slice vb vn vd, .int .i64 (rr' : Int)] 25)).alloc (.cells #[.int .i64 ee', .int .i64 (pb : Int)] 28)) := hb3.trans (hX.mono hb3.size)
      have hDb : Duo ((u3.alloc (.cells #[.slice vb vn vd, .int .i64 (rr' : Int)] 25)).alloc (.cells #[.int .i64 ee', .int .i64 (pb : Int)] 28)) u3.heap.size (.slice vb vn vd) (.int .i64 (rr' : Int)) := (Duo.new u3 _ _ _).keep (below_new _ _)
      have hDg : Duo ((u3.alloc (.cells #[.slice vb vn vd, .int .i64 (rr' : Int)] 25)).alloc (.cells #[.int .i64 ee', .int .i64 (pb : Int)] 28)) (u3.heap.size + 1) (.int .i64 ee') (.int .i64 (pb : Int)) := by
        have := Duo.new (u3.alloc (.cells #[.slice vb vn vd, .int .i64 (rr' : Int)] 25)) 28 (.int .i64 ee') (.int .i64 (pb : Int))
        simpa using this
      have cS := same_trees false HF3.out (fun h => by cases h) (fun i n hi => (HSH.out i n hi).elim (fun h => h) (fun h => by have := hNa2.few; omega)) rr' (hNa2.but (But.of_below (S := fun _ => False) hbX) (fun _ h => h.elim)) (hNb.but (But.of_below (S := fun _ => False) hX) (fun _ h => h.elim))
      have HDf := hidb (hDf2.keep hbX)
      have HDa := hidb (hDa2.keep hbX)
      have HDb := hidb hDb
      have HDg := hidb hDg
      have HbX := hidb (hbU2.trans (But.of_below (S := (· = fb)) hbX))
      have HBF := hidb (hbUw.trans (hbX.mono hbUw.size))
      have kE : (ee' != ee') = false := by simp
      clear hR3 hNb hb3 hX hNa2 hDa2 hDf2 hBu2 hbU2 hDb hDg hbUw hbX
      obtain ⟨m0, m1, _, _, ml⟩ := HDf.out
      obtain ⟨m2, m3, _, _, ml2⟩ := HDa.out
      obtain ⟨m4, m5, _, _, ml3⟩ := HDb.out
      obtain ⟨m6, m7, _, _, ml4⟩ := HDg.out
      go_wp2_with (first
        | (go_at_call 12; refine cS.mono ?_; rintro e u4 ⟨rfl, hb4⟩; have HB4 := hidb hb4; clear hb4))
      clear cS m0 m1 m2 m3 m4 m5 m6 m7
      have hX4 := HbX.out.trans (But.of_below (S := (· = fb)) HB4.out)
      have hBF4 := HBF.out.trans (HB4.out.mono HBF.out.size)
      refine (cW _ (GT hBF4)).mono ?_
      clear cW
      rintro e u5 ⟨hTP, hb5⟩
      rcases hTP with ⟨L2, V2, hl2, rfl, how2⟩ | ⟨er2, p2, hl2, _⟩
      case inr => cases hl2
      obtain rfl : L = L2 := Sum.inl.inj hl2
      have hDf5 := (HDf.out.keep HB4.out).keep hb5
      have hX5 := hX4.trans (But.of_below (S := (· = fb)) hb5)
      have hBF5 := hBF4.trans (hb5.mono hBF4.size)
      have hO5 := row_but HO5.out hX5 (fun k hk he => by have he2 : k = fb := he; simp [Value.ownBlock] at hk; omega)
      have hlow := how2.lt
      obtain ⟨g2, cap2, rfl, hg2, _, _⟩ := own_cell how2 (by have := HLl.out; omega)
      have hf4 : fb < u4.heap.size := by have := HB4.out.size; omega
      have hO6 := row_but hO5 (((But.refl (· = fb) u5).setCell (p := ⟨fb, 0, none⟩) (fun _ => rfl) (.int .i64 0)).setCell (p := ⟨fb, 1, none⟩) (fun _ => rfl) (.int .i64 0)) (fun k hk he => by have he2 : k = fb := he; simp [Value.ownBlock] at hk; omega)
      have hO7 := own_base (row_but how2 (((But.refl (· = fb) u5).setCell (p := ⟨fb, 0, none⟩) (fun _ => rfl) (.int .i64 0)).setCell (p := ⟨fb, 1, none⟩) (fun _ => rfl) (.int .i64 0)) (fun k hk he => by have he2 : k = fb := he; simp [Value.ownBlock] at hk; omega)) (Nat.zero_le _)
      rw [show L.length = l.length by rw [HLj.out, HLl.out]] at hO7 ⊢
      have cS2 := same_like _ _ l L (by rw [HLj.out, HLl.out]) HLk.out 0 (by have := HLj.out; omega) (by have := HLj.out; omega) _ hO6 hO7
      have hD6 := (hDf5.set0 (.int .i64 0)).set1 (.int .i64 0)
      have HBF6 := hidb ((hBF5.setCell (p := ⟨fb, 0, none⟩) hwf (.int .i64 0)).setCell (p := ⟨fb, 1, none⟩) hwf (.int .i64 0))
      obtain ⟨y0, y1, z0, z1, yl⟩ := hDf5
      clear hO6 hO7 hO5 hX4 hX5 hBF4 hBF5 hlow how2 hb5 hl2
      go_wp2_with (first
        | (go_at_call 14; refine cS2.mono ?_; rintro e u7 ⟨rfl, hb7⟩; have HB7 := hidb hb7; clear hb7))
      go_ret
      exact ⟨rfl, HBF6.out.trans (HB7.out.mono HBF6.out.size)⟩
    | tok _ q rest hpq hq hr hb h37 hok hc =>
      obtain ⟨g', rfl⟩ : ∃ g', gk = g' + 1 := ⟨gk - 1, by simp at hrg; omega⟩
      have i0 : (0 : Int) ≤ (j : Int) := by omega
      have i1 : (j : Int) + 1 < (l.length : Int) := by simp at hlen; omega
      have i2 : (j : Int) < (l.length : Int) := by omega
      obtain ⟨hn1, hn2, _⟩ := hc.next
      obtain ⟨hE1, hE2⟩ := tokE_in s q hq hok
      obtain ⟨q2, hq2⟩ : ∃ q2, nextP s rest = q2 := ⟨_, rfl⟩
      have a4 : wr.cell? ⟨g, j * 5 + 4, none⟩ = some (.int .i64 (q : Int)) := (hbw.cell (p := ⟨g, j * 5 + 4, none⟩) hgl5).trans (HC5.out _ _ (tk_at l j (tkOf (tokV s q) q) (by
        rw [HLT.out, hts, List.append_assoc, List.getElem?_append_right (by omega), hpre, Nat.sub_self]
        rfl) 4 _ (by
          have := tkOf_p s q
          simp only [Tk.cells, List.getElem?_cons_succ, List.getElem?_cons_zero, this])))
      have c4 : wr.cell? ⟨g, (j + 1) * 5 + 4, none⟩ = some (.int .i64 (q2 : Int)) := (hbw.cell (p := ⟨g, (j + 1) * 5 + 4, none⟩) hgl5).trans (by
        have hnx : ∃ t : Tk, (rest ++ [(⟨8, ⟨#[]⟩, 0, 0, s.size⟩ : Tk)])[0]? = some t ∧ t.p = q2 := by
          cases rest with
          | nil => exact ⟨_, rfl, hq2⟩
          | cons t r => exact ⟨_, rfl, hq2⟩
        obtain ⟨t, ht, htp⟩ := hnx
        refine HC5.out _ _ (tk_at l (j + 1) t ?_ 4 _ (by rw [← htp]; rfl))
        rw [HLT.out, hts, List.append_assoc, List.getElem?_append_right (by omega), hpre, show j + 1 - j = 1 by omega, List.cons_append, List.getElem?_cons_succ]
        exact ht)
      have hz := hbw.size
      have hg3 : g < wr.heap.size := by omega
      have i5 : (0 : Int) ≤ (q : Int) := by omega
      have i6 : (q : Int) ≤ (q2 : Int) := by omega
      have i7 : (q2 : Int) ≤ (s.size : Int) := by omega
      have hqs : q2 ≤ 4000 := by omega
      have hwz : Wd.size ≤ q + 14 * j := by rw [nextP, tkOf_p] at hws; exact hws
      have hjq : j ≤ q := by rw [nextP, tkOf_p] at hjn; exact hjn
      have hj2 : j ≤ 4000 := by omega
      have i4 : (0 : Int) ≤ (j : Int) + 1 := by omega
      have v1 : IntKind.i64.wrap ((j : Int) + 1) = (j : Int) + 1 := by rw [IntKind.wrap_i64]; omega
      have t1 : ((j : Int) + 1).toNat = j + 1 := by omega
      have hXs : (s.extract q q2).size = q2 - q := by rw [size_ext]; omega
      have hXs2 : (s.extract q q2).size ≤ 4000 := by omega
      have HH := hidb (And.intro hts (And.intro hpre (And.intro hdn (And.intro hdl (And.intro hq2 hXs)))))
      have HBW := hidb hbw
      clear hlen hts hpre hdn hdl hq2 hbw hXs
      go_wp2_with fail
      go_big_quiet (fail)
      go_wp2_with fail
      go_roundg g'
      case measure => omega
      case rel =>
        obtain ⟨hts, hpre, hdn, hdl, hq2, hXs⟩ := HH.out
        have hadv := adv_wide Wd (B ++ ⟨#[10]⟩) s done hAdv HRUN.out q rest hq hb h37 hok hc
        rw [hq2] at hadv
        refine ⟨j + 1, tokE s q, (((Wd ++ s.extract q q2) ++ ⟨#[10]⟩) ++ B) ++ ⟨#[10]⟩, pre ++ [tkOf (tokV s q) q], rest, done ++ [tkOf (tokV s q) Wd.size], by simp, rfl, by rw [hts, List.append_assoc]; rfl, by rw [List.length_append, hpre]; rfl, by simp at hrg; omega, hc, by rw [List.length_append, hdn]; rfl, fun i a b ha hb' => ?_, by rw [ByteArray.append_assoc]; exact hadv, ?_, by rw [hq2]; omega, below_drewN HBW.out _⟩
        · by_cases hij : i < j
          · rw [List.getElem?_append_left (by omega)] at ha
            rw [List.getElem?_append_left (by omega)] at hb'
            exact hdl i a b ha hb'
          · have hij2 : i = j := by
              have := (List.getElem?_eq_some_iff.1 ha).1
              rw [List.length_append, hpre] at this
              simp at this
              omega
            subst hij2
            rw [List.getElem?_append_right (by omega), hpre, Nat.sub_self] at ha
            rw [List.getElem?_append_right (by omega), hdn, Nat.sub_self] at hb'
            cases ha
            cases hb'
            rw [tkOf_move s q Wd.size]
            exact ⟨rfl, rfl, rfl, rfl⟩
        · rw [ByteArray.size_append, ByteArray.size_append, ByteArray.size_append, ByteArray.size_append, hXs, hq2]
          have : (⟨#[10]⟩ : ByteArray).size = 1 := rfl
          omega
end Go.Proofs.YtppmcimcmcognaaGreatDoor


