import Derived.Test.YtmijabhnbmmmfaaGreatG28
import Derived.RegionTactic
import Derived.Deep.Cut
/- The gauge over words. -/
namespace Go.Proofs.YtmijabhnbmmmfaaGreat
open Go.RowKit Go.Deep
attribute [local go_sem] store_float f64bits f64frombits
attribute [local go_sem ↓] Go.wp_at_zero Go.wp_at_succ

theorem HP.but {S : Nat → Prop} {w w' : World} {hb ab most : Nat} {ws : List Int} {L : List ByteArray} {F : List Nat} {a : Option Addr} {c : Nat} (h : HP w hb ab most ws L F a c) (k : But S w w') (h1 : ¬ S hb) (h2 : ∀ x, x ∈ F → ¬ S x) (h3 : ∀ g, a = some ⟨g, 0, none⟩ → ¬ S g) : HP w' hb ab most ws L F a c := by
  refine ⟨h.tri.at (k.block hb h.tri.lt h1) k.size, ?_, ?_, h.nh, h.ng, h.cap, h.fits, h.small, h.pos⟩
  · have hlt := h.tab.lt
    refine h.tab.kept (F := F) (G := (List.range w.heap.size).filter (fun x => decide (x ∉ F))) ⟨k.os, k.tape, k.output, k.size, fun i hi hn => k.block i hi ?_⟩ (fun x hx hx' => by simp at hx'; exact hx'.2 hx)
    intro hs
    apply hn
    simp only [List.mem_filter, List.mem_range, decide_eq_true_eq]
    exact ⟨hi, fun hF => h2 i hF hs⟩
  · rcases h.row with q | ⟨g, cs, e, q1, q2, q3, q4⟩
    · exact Or.inl q
    · exact Or.inr ⟨g, cs, e, q1.at (k.block g q4 (h3 g e)), q2, q3, Nat.lt_of_lt_of_le q4 k.size⟩

/-- What the gauge tells of a word at a depth: how deep it is, how many words it has. -/
def OverOk (hb ab most gb : Nat) (ws : List Int) (L : List ByteArray) (F : List Nat) (a : Option Addr) (c : Nat) (u : Int) (d D N : Nat) : Prop :=
  ∀ (W : Nat) (w : World), HP w hb ab most ws L F a c → Tri w gb (.pointer (some ⟨hb, 0, none⟩)) (.int .i64 W) (.slice none 0 0) → W + N ≤ 65536 →
    Calls Tryz.prog 50 #[.pointer (some ⟨gb, 0, none⟩), .int .u64 u, .int .i64 d] w fun e w' => e = .returned (.int .i64 D) ∧ Tri w' gb (.pointer (some ⟨hb, 0, none⟩)) (.int .i64 ((W + N : Nat) : Int)) (.slice none 0 0) ∧ But (· = gb) w w'
def IntoOk (hb ab most gb : Nat) (ws : List Int) (L : List ByteArray) (F : List Nat) (a : Option Addr) (c : Nat) (u : Int) (d D N : Nat) : Prop :=
  ∀ (W : Nat) (w : World), HP w hb ab most ws L F a c → Tri w gb (.pointer (some ⟨hb, 0, none⟩)) (.int .i64 W) (.slice none 0 0) → W + N ≤ 65536 →
    Calls Tryz.prog 80 #[.pointer (some ⟨gb, 0, none⟩), .int .u64 u, .int .i64 d] w fun e w' => e = .returned (.int .i64 D) ∧ Tri w' gb (.pointer (some ⟨hb, 0, none⟩)) (.int .i64 ((W + N : Nat) : Int)) (.slice none 0 0) ∧ But (· = gb) w w'

set_option maxHeartbeats 1600000 in
theorem over_alone {hb ab most gb : Nat} {ws : List Int} {L : List ByteArray} {F : List Nat} {a : Option Addr} {c : Nat} {u : Int} {d : Nat} (h0 : 0 ≤ u) (h1 : u ≤ 18446744073709551615) (hr : wRightB u = true) (ht : tagI u = 1 ∨ tagI u = 2 ∨ tagI u = 3 ∨ tagI u = 4) (hok : aloneB L u = true) (hd : d ≤ 200) : OverOk hb ab most gb ws L F a c u d 1 0 := by
  intro W w hp hg _
  have AL := hidb (alone_ok hp u h0 h1 hr ht)
  rw [hok] at AL
  have PT := hidb (points_any u h0 h1)
  have e : ptB u = false := by unfold ptB; rcases ht with h | h | h | h <;> rw [h] <;> rfl
  rw [e] at PT
  have HG := hidb hg
  obtain ⟨c0, c1, c2, f0, f1, f2, hlt⟩ := hg
  clear hp e
  generalize aloneK u = K at *
  generalize aloneN u = N at *
  generalize aloneS L u = S at *
  have hdd : ¬ (200 : Int) < (d : Int) := by omega
  go_enter Tryz.func50, Tryz.ntmps50
  go_wp2_with (first | (go_at_call 51; refine (PT.out _).mono ?_; rintro e w' ⟨rfl, rfl⟩) | (go_at_call 52; refine AL.out.mono ?_; rintro e w1 ⟨rfl, hb1⟩; have HB := hidb hb1; clear hb1))
  go_ret
  exact ⟨rfl, (HG.out.keep HB.out).keep (below_new _ _), But.of_below (below_a0 HB.out _)⟩

set_option maxHeartbeats 1600000 in
theorem over_into {hb ab most gb : Nat} {ws : List Int} {L : List ByteArray} {F : List Nat} {a : Option Addr} {c : Nat} {u : Int} {d D N : Nat} (h0 : 0 ≤ u) (h1 : u ≤ 18446744073709551615) (hb0 : 0 ≤ bodyI u) (ht : tagI u = 5 ∨ tagI u = 6) (hd : d ≤ 200) (h : IntoOk hb ab most gb ws L F a c u d D N) : OverOk hb ab most gb ws L F a c u d D N := by
  intro W w hp hg hN
  have IN := hidb (h W w hp hg hN)
  have PT := hidb (points_any u h0 h1)
  have e : ptB u = true := by unfold ptB; rcases ht with h | h <;> rw [h] <;> rfl
  rw [e] at PT
  have BD := hidb (body_any u h0 h1)
  obtain ⟨c0, c1, c2, f0, f1, f2, hlt⟩ := hg
  clear hp e h
  generalize bodyI u = B at *
  have hB : ¬ B < 0 := by omega
  have hdd : ¬ (200 : Int) < (d : Int) := by omega
  go_enter Tryz.func50, Tryz.ntmps50
  go_wp2_with (first | (go_at_call 51; refine (PT.out _).mono ?_; rintro e w' ⟨rfl, rfl⟩) | (go_at_call 78; refine (BD.out _).mono ?_; rintro e w' ⟨rfl, rfl⟩) | (go_at_call 80; refine IN.out.mono ?_; rintro e w1 ⟨rfl, hq⟩; have HQ := hidb hq; clear hq))
  go_ret
  exact ⟨rfl, HQ.out⟩

/-- The deepest, with what hangs one deeper. -/
def deepest : List Nat → Nat → Nat
  | [], m => m
  | x :: r, m => deepest r (max m (x + 1))

set_option maxHeartbeats 1600000 in
set_option maxRecDepth 100000 in
theorem into_ok {hb ab most gb : Nat} {ws : List Int} {L : List ByteArray} {F : List Nat} {a : Option Addr} {c : Nat} {u y : Int} {d n cc fl dR nR g q : Nat} {A : Addr} {k Nn : Int} (xs : List (Int × Nat × Nat)) (ha : a = some ⟨g, 0, none⟩) (hub : 0 ≤ bodyI u) (h0 : 0 ≤ u) (h1 : u ≤ 18446744073709551615)
    (hgh : gb ≠ hb) (hgF : gb ∉ F) (hgg : gb ≠ g)
    (BLK : ∀ w, HP w hb ab most ws L F a c → Calls Tryz.prog 53 #[.pointer (some ⟨hb, 0, none⟩), .int .u64 u] w fun e w' => e = .returned (.tuple #[.agg #[.slice (some A) n n, .int .i64 k, .int .i64 Nn, .float .f64 fl, .string ⟨#[]⟩, .slice none 0 0, .slice (some ⟨g, q, none⟩) xs.length cc, .int .u64 y], .bool true]) ∧ Below w.heap.size w w')
    (hdR : 0 < dR) (REST : OverOk hb ab most gb ws L F a c y d dR nR) (hel : ∀ (j : Nat) (x : Int × Nat × Nat), xs[j]? = some x → ws[q + j]? = some x.1 ∧ 0 < x.2.1 ∧ x.2.1 ≤ 1000 ∧ OverOk hb ab most gb ws L F a c x.1 (d + 1) x.2.1 x.2.2) (hd : d ≤ 200) (hdr : dR ≤ 1000) (hxl : xs.length ≤ 65536) :
    IntoOk hb ab most gb ws L F a c u d (deepest (xs.map (·.2.1)) dR) (n + nR + (xs.map (·.2.2)).sum) := by
  intro W w hp hg hN
  have BK := hidb (BLK w hp)
  have BD := hidb (body_any u h0 h1)
  have HR := hidb REST
  have HE := hidb hel
  have HG := hidb hg
  have HPP := hidb hp
  obtain ⟨c0, c1, c2, f0, f1, f2, hlt⟩ := hg
  clear hp BLK REST hel
  generalize bodyI u = B at *
  have hB : ¬ B < 0 := by omega
  go_enter Tryz.func80, Tryz.ntmps80
  go_wp2_with fail
  refine BK.out.mono ?_
  rintro e w1 ⟨rfl, hb1⟩
  have HB1 := hidb hb1
  have HG1 := hidb (HG.out.keep hb1)
  have HP1 := hidb (HPP.out.keep hb1)
  clear c0 c1 c2 f0 f1 f2 hlt hb1
  obtain ⟨c0, c1, c2, f0, f1, f2, hlt⟩ := HG1.out
  have hbig : ¬ (65536 : Int) < (W : Int) + (n : Int) := by omega
  go_wp2_with fail
  have HG2 := hidb (HG1.out.keep (below_new w1 (.cells #[.slice (some A) n n, .int .i64 k, .int .i64 Nn, .float .f64 fl, .string ⟨#[]⟩, .slice none 0 0, .slice (some ⟨g, q, none⟩) xs.length cc, .int .u64 y] 129)))
  have HO2 := hidb (Oct.new w1 129 (.slice (some A) n n) (.int .i64 k) (.int .i64 Nn) (.float .f64 fl) (.string ⟨#[]⟩) (.slice none 0 0) (.slice (some ⟨g, q, none⟩) xs.length cc) (.int .u64 y))
  clear c0 c1 c2 f0 f1 f2
  obtain ⟨c0, c1, c2, f0, f1, f2, hlt2⟩ := HG2.out
  obtain ⟨o0, o1, o2, o3, o4, o5, o6, o7, s0, s1, s2, s3, s4, s5, s6, s7, hlto⟩ := HO2.out
  have hwr : IntKind.i64.wrap ((W : Int) + (n : Int)) = (W : Int) + (n : Int) := by rw [IntKind.wrap_i64]; omega
  have hne1 : ¬ gb = w1.heap.size := by omega
  have hne2 : ¬ w1.heap.size = gb := by omega
  go_cut [] from 15 (fun wc => Tri wc gb (.pointer (some ⟨hb, 0, none⟩)) (.int .i64 ((W : Int) + (n : Int))) (.slice none 0 0) ∧ Oct wc w1.heap.size (.slice (some A) n n) (.int .i64 k) (.int .i64 Nn) (.float .f64 fl) (.string ⟨#[]⟩) (.slice none 0 0) (.slice (some ⟨g, q, none⟩) xs.length cc) (.int .u64 y) ∧ But (· = gb) w wc)
  case first =>
    go_region
    go_wp2_with fail
    go_meet
    case rel =>
      have es : (w1.setCell ⟨gb, 1, none⟩ (.int .i64 ((W : Int) + (n : Int)))).heap.size = w1.heap.size := by simp [World.setCell]
      have ho := Oct.new (w1.setCell ⟨gb, 1, none⟩ (.int .i64 ((W : Int) + (n : Int)))) 129 (.slice (some A) n n) (.int .i64 k) (.int .i64 Nn) (.float .f64 fl) (.string ⟨#[]⟩) (.slice none 0 0) (.slice (some ⟨g, q, none⟩) xs.length cc) (.int .u64 y)
      rw [es] at ho
      refine ⟨((HG1.out.set1 _).keep (below_new _ _)).at rfl (Nat.le_refl _), ho.at rfl (Nat.le_refl _), ?_⟩
      exact (((But.of_below (S := (· = gb)) HB1.out).setCell (fun _ => rfl) _).alloc _).drew
  case rest =>
  have ewn : (W : Int) + (n : Int) = ((W + n : Nat) : Int) := by omega
  have HG3 := hidb hcut.1
  rw [ewn] at HG3
  have HO3 := hidb hcut.2.1
  have HU3 := hidb hcut.2.2
  have hcc := HG3.out
  have hoo := HO3.out
  clear hcut c0 c1 c2 f0 f1 f2 o0 o1 o2 o3 o4 o5 o6 o7 s0 s1 s2 s3 s4 s5 s6 s7 HG2 HO2 HG1 BK hlt hlt2 hlto hwr hne1 hne2 ewn hbig
  have hSh : ¬ (fun x => x = gb) hb := fun e => hgh e.symm
  have hSF : ∀ x, x ∈ F → ¬ (fun x => x = gb) x := fun x hx e => hgF (e ▸ hx)
  have hSg : ∀ g', a = some ⟨g', 0, none⟩ → ¬ (fun x => x = gb) g' := fun g' e => by
    rw [ha] at e
    obtain rfl : g = g' := by simpa using e
    exact fun e => hgg e.symm
  have HP3 := hidb (HPP.out.but HU3.out hSh hSF hSg)
  have HSH := hidb hSh
  have HSF := hidb hSF
  have HSG := hidb hSg
  have RC := hidb (HR.out (W + n) wc HP3.out HG3.out (by omega))
  clear hSh hSF hSg
  obtain ⟨c0, c1, c2, f0, f1, f2, hlt⟩ := hcc
  obtain ⟨o0, o1, o2, o3, o4, o5, o6, o7, s0, s1, s2, s3, s4, s5, s6, s7, hlto⟩ := hoo
  have hbig : ¬ (65536 : Int) < (W : Int) + (n : Int) := by omega
  go_step
  go_step
  go_cut [] from 15 (fun wc2 => wc2 = wc)
  case first =>
    go_wp2
    go_meet
    case rel => rfl
  case rest =>
  subst hcut
  clear hbig
  go_wp2_with fail
  refine RC.out.mono ?_
  rintro e w3 ⟨rfl, hg4, hu4⟩
  have HG4 := hidb hg4
  have HU4 := hidb (HU3.out.trans hu4)
  have HO4 := hidb (HO3.out.at (hu4.block _ HO3.out.lt (fun e => by have e' : w1.heap.size = gb := e; have h5 := HG.out.lt; have h6 := HB1.out.size; omega)) hu4.size)
  clear c0 c1 c2 f0 f1 f2 hlt o0 o1 o2 o3 o4 o5 o6 o7 s0 s1 s2 s3 s4 s5 s6 s7 hlto hg4 hu4 RC HG3 HO3
  obtain ⟨c0, c1, c2, f0, f1, f2, hlt⟩ := HG4.out
  obtain ⟨o0, o1, o2, o3, o4, o5, o6, o7, s0, s1, s2, s3, s4, s5, s6, s7, hlto⟩ := HO4.out
  have hdr0 : ((dR : Int) == 0) = false := by simp; omega
  have HN := hidb hN
  clear hN
  go_wp2_with fail
  have HDR := hidb hdR
  clear hdr0 hdR
  go_loopw [10, 57] (fun dv iv wr => ∃ (m D0 W0 : Nat), m ≤ xs.length ∧ iv = .int .i64 m ∧ dv = .int .i64 D0 ∧ 0 < D0 ∧ D0 ≤ 1001 ∧ deepest ((xs.drop m).map (·.2.1)) D0 = deepest (xs.map (·.2.1)) dR ∧ W0 + ((xs.drop m).map (·.2.2)).sum = W + (n + nR + (xs.map (·.2.2)).sum) ∧ Tri wr gb (.pointer (some ⟨hb, 0, none⟩)) (.int .i64 W0) (.slice none 0 0) ∧ But (· = gb) w wr) (fun _ iv _ => xs.length - (intOf iv).toNat)
  case atStart => exact ⟨0, dR, W + n + nR, by omega, rfl, rfl, HDR.out, by omega, by simp, by simp; omega, HG4.out, HU4.out⟩
  case round =>
    obtain ⟨m, D0, W0, hm, rfl, rfl, hD1, hD2, hdeep, hsum, htri, hbut⟩ := hrel
    have HDP := hidb hdeep
    have HSM := hidb hsum
    have HTR := hidb htri
    have HBT := hidb hbut
    clear hdeep hsum htri hbut c0 c1 c2 f0 f1 f2 hlt o0 o1 o2 o3 o4 o5 o6 o7 s0 s1 s2 s3 s4 s5 s6 s7 hlto HG4 HU4 HO4
    have HPR := hidb (HPP.out.but HBT.out HSH.out HSF.out HSG.out)
    by_cases hml : m < xs.length
    · have hmb : (m : Int) < (xs.length : Int) := by omega
      obtain ⟨x, hx⟩ : ∃ x, xs[m]? = some x := ⟨_, List.getElem?_eq_getElem hml⟩
      obtain ⟨hw, hx1, hx2, hox⟩ := HE.out m x hx
      obtain ⟨g', e', _, _, hcell⟩ := hp_cell HPR.out (q + m) x.1 hw
      rw [ha] at e'
      obtain rfl : g = g' := by simpa using e'
      have v0 := hcell wr (Below.refl _ _)
      have hdrop : xs.drop m = x :: xs.drop (m + 1) := by
        obtain ⟨hm', rfl⟩ := List.getElem?_eq_some_iff.1 hx
        exact List.drop_eq_getElem_cons hm'
      have hsum := HSM.out
      rw [hdrop] at hsum
      simp only [List.map_cons, List.sum_cons] at hsum
      have hdeep := HDP.out
      rw [hdrop] at hdeep
      simp only [List.map_cons, deepest] at hdeep
      have OC := hidb (hox W0 wr HPR.out HTR.out (by have := HN.out; omega))
      have HS2 := hidb hsum
      have HD2 := hidb hdeep
      clear hw hcell hdrop hsum hdeep hox e'
      generalize x.2.1 = X1 at *
      generalize x.2.2 = X2 at *
      generalize x.1 = X0 at *
      have hmz : (0 : Int) ≤ (m : Int) := by omega
      have hx0 : ((X1 : Int) == 0) = false := by simp; omega
      have ed : ((d + 1 : Nat) : Int) = (d : Int) + 1 := by omega
      rw [ed] at OC
      clear ed
      go_wp2_with fail
      refine OC.out.mono ?_
      rintro e wz ⟨rfl, htz, hbz⟩
      have HTZ := hidb htz
      have HBZ := hidb (HBT.out.trans hbz)
      clear htz hbz OC v0
      go_wp2
      go_roundw
      case rel => exact ⟨m + 1, max D0 (X1 + 1), W0 + X2, by omega, by go_num, by go_num, by omega, by omega, HD2.out, by have := HS2.out; omega, HTZ.out, HBZ.out⟩
      case measure => simp [intOf]; omega
    · have hmn : ¬ (m : Int) < (xs.length : Int) := by omega
      obtain ⟨c0, c1, c2, f0, f1, f2, hlt⟩ := HTR.out
      go_wp2_with (go_at_call 78; refine (BD.out _).mono ?_; rintro e w' ⟨rfl, rfl⟩)
      go_ret
      have hd2 := HDP.out
      have hs2 := HSM.out
      rw [List.drop_of_length_le (by omega)] at hd2 hs2
      simp only [List.map_nil, deepest, List.sum_nil, Nat.add_zero] at hd2 hs2
      subst hd2
      rw [← hs2]
      exact ⟨rfl, HTR.out, HBT.out⟩
end Go.Proofs.YtmijabhnbmmmfaaGreat


/- The gauge over what says a term. -/
namespace Go.Proofs.YtmijabhnbmmmfaaGreat
open Go.RowKit Go.Deep
attribute [local go_sem] store_float f64bits f64frombits
attribute [local go_sem ↓] Go.wp_at_zero Go.wp_at_succ

set_option maxHeartbeats 1000000 in
theorem bare_n (k : Int) (hk : k = 4 ∨ k = 5) (g p n : Nat) (x : Int) (w : World) (hn : 1 < n) (x0 : 0 ≤ x) (x1 : x ≤ 1099511627776) (hx : w.cell? ⟨g, p + 1, none⟩ = some (.int .u64 x)) : Calls Tryz.prog 99 #[.int .i64 k, .slice (some ⟨g, p, none⟩) n n] w fun e w' => e = .returned (.agg #[.int .i64 (k), .int .i64 (x), .float .f64 (0), .string ⟨#[]⟩, .slice none 0 0]) ∧ Below w.heap.size w w' := by
  have q : (1 : Int) < (n : Int) := by omega
  have hg : g < w.heap.size := cell_lt hx
  have hx2 : ∀ o1 o2, ((w.alloc o1).alloc o2).cell? ⟨g, p + 1, none⟩ = some (.int .u64 x) := fun o1 o2 => by
    rw [World.cell?_alloc_lt _ _ _ (by simp; omega), World.cell?_alloc_lt _ _ _ hg]
    exact hx
  rcases hk with rfl | rfl
  all_goals
    go_enter Tryz.func99, Tryz.ntmps99
    go_wp2
  · exact bodyPost_ret (v := .agg #[.int .i64 4, .int .i64 x, .float .f64 0, .string ⟨#[]⟩, .slice none 0 0]) (by simp [results, Tryz.results99, go_sem]) rfl ⟨rfl, ((below_new w _).alloc (by simp) _)⟩
  · exact bodyPost_ret (v := .agg #[.int .i64 5, .int .i64 x, .float .f64 0, .string ⟨#[]⟩, .slice none 0 0]) (by simp [results, Tryz.results99, go_sem]) rfl ⟨rfl, ((below_new w _).alloc (by simp) _)⟩

mutual
/-- How deep a term is. -/
def deepN : Tr → Nat
  | .mk _ _ _ _ _ _ kids => deepNs kids 1
def deepNs : List Tr → Nat → Nat
  | [], m => m
  | t :: r, m => deepNs r (max m (deepN t + 1))
end

theorem deepNs_map (l : List Tr) : ∀ m, deepNs l m = deepest (l.map deepN) m := by
  induction l with
  | nil => intro m; rfl
  | cons t r ih => intro m; simp only [deepNs, List.map_cons, deepest, ih]

theorem deepNs_le (l : List Tr) : ∀ m, m ≤ deepNs l m ∧ ∀ t, t ∈ l → deepN t + 1 ≤ deepNs l m := by
  induction l with
  | nil => intro m; simp [deepNs]
  | cons u r ih =>
    intro m
    have g := ih (max m (deepN u + 1))
    simp only [deepNs]
    refine ⟨by omega, fun t ht => ?_⟩
    rcases List.mem_cons.1 ht with rfl | ht
    · omega
    · exact g.2 t ht

theorem deepN_pos (t : Tr) : 1 ≤ deepN t := by
  cases t with | mk k n f s a c kids => simp only [deepN]; exact (deepNs_le kids 1).1

/-- How deep a list is, pair by pair. -/
def deepL : List Tr → Nat
  | [] => 1
  | t :: r => max (deepL r) (deepN t + 1)

theorem deepNs_max (l : List Tr) : ∀ m, deepNs l m = max m (deepNs l 1) ∨ m = 0 := by
  induction l with
  | nil => intro m; simp only [deepNs]; omega
  | cons t r ih =>
    intro m
    simp only [deepNs]
    have p := deepN_pos t
    rcases ih (max m (deepN t + 1)) with h1 | h1
    · rcases ih (max 1 (deepN t + 1)) with h2 | h2
      · omega
      · omega
    · omega

theorem deepL_is (l : List Tr) : deepL l = deepNs l 1 := by
  induction l with
  | nil => rfl
  | cons t r ih =>
    simp only [deepL, deepNs, ih]
    have p := deepN_pos t
    rcases deepNs_max r (max 1 (deepN t + 1)) with h | h <;> omega

theorem sum_wAll (l : List Tr) : (l.map wN).sum = wAll l := by
  induction l with
  | nil => rfl
  | cons t r ih => simp only [List.map_cons, List.sum_cons, wAll, ih]

/-- The elements' words, one by one. -/
theorem repAll_words {ws : List Int} {L : List ByteArray} : ∀ (l : List Tr) (q : Nat), RepAll ws L l q → ∃ vs : List Int, vs.length = l.length ∧ ∀ (j : Nat) (t : Tr), l[j]? = some t → ∃ x, vs[j]? = some x ∧ ws[q + j]? = some x ∧ Rep ws L t x := by
  intro l
  induction l with
  | nil => intro q _; exact ⟨[], rfl, fun j t h => by simp at h⟩
  | cons t r ih =>
    intro q h
    unfold RepAll at h
    obtain ⟨⟨x, hx, hr⟩, h2⟩ := h
    obtain ⟨vs, hl, hv⟩ := ih (q + 1) h2
    refine ⟨x :: vs, by simp [hl], fun j u hj => ?_⟩
    rcases j with _ | j
    · obtain rfl : t = u := by simpa using hj
      exact ⟨x, rfl, hx, hr⟩
    · obtain ⟨y, y1, y2, y3⟩ := hv j u (by simpa using hj)
      refine ⟨y, by simpa using y1, ?_, y3⟩
      have e : q + (j + 1) = q + 1 + j := by omega
      rw [e]; exact y2

theorem hd_made {k s : Int} (hk : hdB k = true) (h0 : 0 ≤ s) (h1 : s ≤ 65536) : 0 ≤ hdW k s ∧ hdW k s ≤ 18446744073709551615 ∧ isB (hdW k s) = true ∧ hkI (hdW k s) = k ∧ hsI (hdW k s) = s := by
  have hs : szB s = true := by simp [szB]; omega
  have e : hdW k s = (s * 16 + k) * 16 + 7 := by simp [hdW, hk, hs]
  have hk' := hdB_cases hk
  have hb : isB (hdW k s) = true := by
    rw [e]
    unfold isB
    have e1 : ((s * 16 + k) * 16 + 7) % 16 = 7 := by omega
    have e2 : ((s * 16 + k) * 16 + 7) / 16 % 16 = k := by omega
    have e3 : ((s * 16 + k) * 16 + 7) / 256 = s := by omega
    rw [e1, e2, e3]
    simp [hk, hs]
  refine ⟨by rw [e]; omega, by rw [e]; omega, hb, ?_, ?_⟩
  · unfold hkI; rw [if_pos hb, e]; omega
  · unfold hsI; rw [if_pos hb, e]; omega
end Go.Proofs.YtmijabhnbmmmfaaGreat


