import Derived.Test.YtmijabhnbmmmfaaGreatG26
import Derived.RegionTactic
import Derived.Deep.Cut
/- Blocks read: pair, block. -/
namespace Go.Proofs.YtmijabhnbmmmfaaGreat
open Go.RowKit Go.Deep
attribute [local go_sem] store_float f64bits f64frombits
attribute [local go_sem ↓] Go.wp_at_zero Go.wp_at_succ

theorem hp_cell {w : World} {hb ab most : Nat} {ws : List Int} {L : List ByteArray} {F : List Nat} {a : Option Addr} {c : Nat} (h : HP w hb ab most ws L F a c) (p : Nat) (x : Int) (hw : ws[p]? = some x) : ∃ g, a = some ⟨g, 0, none⟩ ∧ g < w.heap.size ∧ p < ws.length ∧ ∀ w', Below w.heap.size w w' → w'.cell? ⟨g, p, none⟩ = some (.int .u64 x) := by
  have hp : p < ws.length := by
    rcases Nat.lt_or_ge p ws.length with h | h
    · exact h
    · rw [List.getElem?_eq_none h] at hw; simp at hw
  rcases h.row with ⟨_, _, e⟩ | ⟨g, cs, e, h1, h2, h3, h4⟩
  · rw [e] at hp; simp at hp
  · refine ⟨g, e, h4, hp, fun w' hb => ?_⟩
    rw [hb.cell h4]
    have := (h1 p (by omega)).1
    rwa [h3 p x hw] at this

/-- A pair as it is read. -/
def prV (g p : Nat) (y : Int) : Value :=
  .agg #[.slice (some ⟨g, p, none⟩) 2 2, .int .i64 8, .int .i64 0, .float .f64 0, .string ⟨#[]⟩, .slice none 0 0, .slice (some ⟨g, p, none⟩) 1 2, .int .u64 y]

set_option maxHeartbeats 1600000 in
set_option maxRecDepth 100000 in
theorem pair_ok {w : World} {hb ab most : Nat} {ws : List Int} {L : List ByteArray} {F : List Nat} {a : Option Addr} {c : Nat} (h : HP w hb ab most ws L F a c) (g p : Nat) (ha : a = some ⟨g, 0, none⟩) (y : Int) (hy : ws[p + 1]? = some y) (y0 : 0 ≤ y) (y1 : y ≤ 18446744073709551615) (ht : tagI y = 4 ∨ tagI y = 6) :
    Calls Tryz.prog 84 #[.pointer (some ⟨hb, 0, none⟩), .int .i64 p] w fun e w' => e = .returned (.tuple #[prV g p y, .bool true]) ∧ Below w.heap.size w w' := by
  obtain ⟨g1, e1, hgl, hl1, hc1⟩ := hp_cell h (p + 1) y hy
  rw [ha] at e1
  obtain rfl : g = g1 := by simpa using e1
  have C1 := hidb (fun w' (hb' : Below w.heap.size w w') => hcut_in (h.keep hb') g ha p 2 (by omega) (by omega))
  have TG := hidb (tag_any y y0 y1)
  have hcc : ∀ o, (w.alloc o).cell? ⟨g, p + 1, none⟩ = some (.int .u64 y) := fun o => hc1 _ (below_new w o)
  have hne1 : ¬ g = w.heap.size := by omega
  have hne2 : ¬ w.heap.size = g := by omega
  unfold prV
  generalize tagI y = T at *
  clear h hy hc1
  rcases ht with rfl | rfl
  all_goals
    go_enter Tryz.func84, Tryz.ntmps84
    go_wp2_with (first | (go_at_call 97; refine (C1.out _ (below_new w _)).mono ?_; rintro e w' ⟨rfl, rfl⟩) | (go_at_call 81; refine (TG.out _).mono ?_; rintro e w' ⟨rfl, rfl⟩))
    go_region_held3 (fun w' => w'.cell? ⟨g, p + 1, none⟩ = some (.int .u64 y)) (go_keep) (fail)
    go_wp2
    exact bodyPost_ret (v := .tuple #[.agg #[.slice (some ⟨g, p, none⟩) 2 2, .int .i64 8, .int .i64 0, .float .f64 0, .string ⟨#[]⟩, .slice none 0 0, .slice (some ⟨g, p, none⟩) 1 2, .int .u64 y], .bool true]) (by simp [results, Tryz.results84, go_sem]) rfl ⟨rfl, by first | exact (below_new w _).drew | exact below_new w _⟩

set_option maxHeartbeats 1600000 in
set_option maxRecDepth 100000 in
theorem block_of (hb : Nat) (u : Int) (p : Nat) (A B : Addr) (n m c f : Nat) (k N y : Int) (h0 : 0 ≤ u) (h1 : u ≤ 18446744073709551615) (hB : bodyI u = p) (w : World)
    (h : (tagI u = 6 ∧ ∀ w', Below w.heap.size w w' → Calls Tryz.prog 84 #[.pointer (some ⟨hb, 0, none⟩), .int .i64 p] w' fun e w'' => e = .returned (.tuple #[.agg #[.slice (some A) n n, .int .i64 k, .int .i64 N, .float .f64 f, .string ⟨#[]⟩, .slice none 0 0, .slice (some B) m c, .int .u64 y], .bool true]) ∧ Below w'.heap.size w' w'') ∨
      (tagI u = 5 ∧ ∀ w', Below w.heap.size w w' → Calls Tryz.prog 85 #[.pointer (some ⟨hb, 0, none⟩), .int .i64 p] w' fun e w'' => e = .returned (.tuple #[.agg #[.slice (some A) n n, .int .i64 k, .int .i64 N, .float .f64 f, .string ⟨#[]⟩, .slice none 0 0, .slice (some B) m c, .int .u64 y], .bool true]) ∧ Below w'.heap.size w' w'')) :
    Calls Tryz.prog 53 #[.pointer (some ⟨hb, 0, none⟩), .int .u64 u] w fun e w' => e = .returned (.tuple #[.agg #[.slice (some A) n n, .int .i64 k, .int .i64 N, .float .f64 f, .string ⟨#[]⟩, .slice none 0 0, .slice (some B) m c, .int .u64 y], .bool true]) ∧ Below w.heap.size w w' := by
  have TG := hidb (tag_any u h0 h1)
  have BD := hidb (body_any u h0 h1)
  rw [hB] at BD
  clear hB
  rcases h with ⟨ht, h⟩ | ⟨ht, h⟩
  · skip
    have H := hidb h
    rw [ht] at TG
    clear h ht
    go_enter Tryz.func53, Tryz.ntmps53
    go_wp2_with (first | (go_at_call 81; refine (TG.out _).mono ?_; rintro e w' ⟨rfl, rfl⟩) | (go_at_call 78; refine (BD.out _).mono ?_; rintro e w' ⟨rfl, rfl⟩) | (go_at_call 84; refine (H.out _ (below_new w _)).mono ?_; rintro e w1 ⟨rfl, hb1⟩; have HB := hidb (below_in hb1); obtain ⟨o0, o1, o2, o3, o4, o5, o6, o7, s0, s1, s2, s3, s4, s5, s6, s7, _⟩ := (Oct.new w 129 (.slice none 0 0) (.int .i64 0) (.int .i64 0) (.float .f64 0) (.string ⟨#[]⟩) (.slice none 0 0) (.slice none 0 0) (.int .u64 0)).keep hb1))
    exact bodyPost_ret (v := .tuple #[.agg #[.slice (some A) n n, .int .i64 k, .int .i64 N, .float .f64 f, .string ⟨#[]⟩, .slice none 0 0, .slice (some B) m c, .int .u64 y], .bool true]) (by simp [results, Tryz.results53, go_sem, o0, o1, o2, o3, o4, o5, o6, o7]) rfl
      ⟨rfl, (((((((HB.out.setCell (Nat.le_refl _) _).setCell (Nat.le_refl _) _).setCell (Nat.le_refl _) _).setCell (Nat.le_refl _) _).setCell (Nat.le_refl _) _).setCell (Nat.le_refl _) _).setCell (Nat.le_refl _) _).setCell (Nat.le_refl _) _⟩
  · skip
    have H := hidb h
    rw [ht] at TG
    clear h ht
    go_enter Tryz.func53, Tryz.ntmps53
    go_wp2_with (first | (go_at_call 81; refine (TG.out _).mono ?_; rintro e w' ⟨rfl, rfl⟩) | (go_at_call 78; refine (BD.out _).mono ?_; rintro e w' ⟨rfl, rfl⟩) | (go_at_call 85; refine (H.out _ (below_new w _)).mono ?_; rintro e w1 ⟨rfl, hb1⟩; have HB := hidb (below_in hb1); obtain ⟨o0, o1, o2, o3, o4, o5, o6, o7, s0, s1, s2, s3, s4, s5, s6, s7, _⟩ := (Oct.new w 129 (.slice none 0 0) (.int .i64 0) (.int .i64 0) (.float .f64 0) (.string ⟨#[]⟩) (.slice none 0 0) (.slice none 0 0) (.int .u64 0)).keep hb1))
    exact bodyPost_ret (v := .tuple #[.agg #[.slice (some A) n n, .int .i64 k, .int .i64 N, .float .f64 f, .string ⟨#[]⟩, .slice none 0 0, .slice (some B) m c, .int .u64 y], .bool true]) (by simp [results, Tryz.results53, go_sem, o0, o1, o2, o3, o4, o5, o6, o7]) rfl
      ⟨rfl, (((((((HB.out.setCell (Nat.le_refl _) _).setCell (Nat.le_refl _) _).setCell (Nat.le_refl _) _).setCell (Nat.le_refl _) _).setCell (Nat.le_refl _) _).setCell (Nat.le_refl _) _).setCell (Nat.le_refl _) _).setCell (Nat.le_refl _) _⟩
end Go.Proofs.YtmijabhnbmmmfaaGreat


/- The gauge over words. -/
namespace Go.Proofs.YtmijabhnbmmmfaaGreat
open Go.RowKit Go.Deep
attribute [local go_sem] store_float f64bits f64frombits
attribute [local go_sem ↓] Go.wp_at_zero Go.wp_at_succ

theorem HP.but {S : Nat → Prop} {w w' : World} {hb ab most : Nat} {ws : List Int} {L : List ByteArray} {F : List Nat} {a : Option Addr} {c : Nat} (h : HP w hb ab most ws L F a c) (k : But S w w') (h1 : ¬ S hb) (h2 : ∀ x, x ∈ F → ¬ S x) (h3 : ∀ g, a = some ⟨g, 0, none⟩ → ¬ S g) : HP w' hb ab most ws L F a c := by
  refine ⟨h.tri.at (k.block hb h.tri.lt h1) k.size, ?_, ?_, h.nh, h.ng, h.cap, h.fits, h.small, h.pos⟩
  · have hlt := h.tab.lt
    refine h.tab.kept (F := F) (G := (List.range w.heap.size).filter (fun x => decide (x ∉ F))) ⟨k.os, k.tape, k.output, k.size, fun i hi hn => k.block i hi ?_⟩ (fun x hx hx' => by simp at hx'; exact hx'.2 hx)
    intro hs
    apply hn
    simp only [List.mem_filter, List.mem_range, decide_eq_true_eq]
    exact ⟨hi, fun hF => h2 i hF hs⟩
  · rcases h.row with q | ⟨g, cs, e, q1, q2, q3, q4⟩
    · exact Or.inl q
    · exact Or.inr ⟨g, cs, e, q1.at (k.block g q4 (h3 g e)), q2, q3, Nat.lt_of_lt_of_le q4 k.size⟩

/-- What the gauge tells of a word at a depth: how deep it is, how many words it has. -/
def OverOk (hb ab most gb : Nat) (ws : List Int) (L : List ByteArray) (F : List Nat) (a : Option Addr) (c : Nat) (u : Int) (d D N : Nat) : Prop :=
  ∀ (W : Nat) (w : World), HP w hb ab most ws L F a c → Tri w gb (.pointer (some ⟨hb, 0, none⟩)) (.int .i64 W) (.slice none 0 0) → W + N ≤ 65536 →
    Calls Tryz.prog 50 #[.pointer (some ⟨gb, 0, none⟩), .int .u64 u, .int .i64 d] w fun e w' => e = .returned (.int .i64 D) ∧ Tri w' gb (.pointer (some ⟨hb, 0, none⟩)) (.int .i64 ((W + N : Nat) : Int)) (.slice none 0 0) ∧ But (· = gb) w w'
def IntoOk (hb ab most gb : Nat) (ws : List Int) (L : List ByteArray) (F : List Nat) (a : Option Addr) (c : Nat) (u : Int) (d D N : Nat) : Prop :=
  ∀ (W : Nat) (w : World), HP w hb ab most ws L F a c → Tri w gb (.pointer (some ⟨hb, 0, none⟩)) (.int .i64 W) (.slice none 0 0) → W + N ≤ 65536 →
    Calls Tryz.prog 80 #[.pointer (some ⟨gb, 0, none⟩), .int .u64 u, .int .i64 d] w fun e w' => e = .returned (.int .i64 D) ∧ Tri w' gb (.pointer (some ⟨hb, 0, none⟩)) (.int .i64 ((W + N : Nat) : Int)) (.slice none 0 0) ∧ But (· = gb) w w'

set_option maxHeartbeats 1600000 in
theorem over_alone {hb ab most gb : Nat} {ws : List Int} {L : List ByteArray} {F : List Nat} {a : Option Addr} {c : Nat} {u : Int} {d : Nat} (h0 : 0 ≤ u) (h1 : u ≤ 18446744073709551615) (hr : wRightB u = true) (ht : tagI u = 1 ∨ tagI u = 2 ∨ tagI u = 3 ∨ tagI u = 4) (hok : aloneB L u = true) (hd : d ≤ 200) : OverOk hb ab most gb ws L F a c u d 1 0 := by
  intro W w hp hg _
  have AL := hidb (alone_ok hp u h0 h1 hr ht)
  rw [hok] at AL
  have PT := hidb (points_any u h0 h1)
  have e : ptB u = false := by unfold ptB; rcases ht with h | h | h | h <;> rw [h] <;> rfl
  rw [e] at PT
  have HG := hidb hg
  obtain ⟨c0, c1, c2, f0, f1, f2, hlt⟩ := hg
  clear hp e
  generalize aloneK u = K at *
  generalize aloneN u = N at *
  generalize aloneS L u = S at *
  have hdd : ¬ (200 : Int) < (d : Int) := by omega
  go_enter Tryz.func50, Tryz.ntmps50
  go_wp2_with (first | (go_at_call 51; refine (PT.out _).mono ?_; rintro e w' ⟨rfl, rfl⟩) | (go_at_call 52; refine AL.out.mono ?_; rintro e w1 ⟨rfl, hb1⟩; have HB := hidb hb1; clear hb1))
  go_ret
  exact ⟨rfl, (HG.out.keep HB.out).keep (below_new _ _), But.of_below (below_a0 HB.out _)⟩

set_option maxHeartbeats 1600000 in
theorem over_into {hb ab most gb : Nat} {ws : List Int} {L : List ByteArray} {F : List Nat} {a : Option Addr} {c : Nat} {u : Int} {d D N : Nat} (h0 : 0 ≤ u) (h1 : u ≤ 18446744073709551615) (hb0 : 0 ≤ bodyI u) (ht : tagI u = 5 ∨ tagI u = 6) (hd : d ≤ 200) (h : IntoOk hb ab most gb ws L F a c u d D N) : OverOk hb ab most gb ws L F a c u d D N := by
  intro W w hp hg hN
  have IN := hidb (h W w hp hg hN)
  have PT := hidb (points_any u h0 h1)
  have e : ptB u = true := by unfold ptB; rcases ht with h | h <;> rw [h] <;> rfl
  rw [e] at PT
  have BD := hidb (body_any u h0 h1)
  obtain ⟨c0, c1, c2, f0, f1, f2, hlt⟩ := hg
  clear hp e h
  generalize bodyI u = B at *
  have hB : ¬ B < 0 := by omega
  have hdd : ¬ (200 : Int) < (d : Int) := by omega
  go_enter Tryz.func50, Tryz.ntmps50
  go_wp2_with (first | (go_at_call 51; refine (PT.out _).mono ?_; rintro e w' ⟨rfl, rfl⟩) | (go_at_call 78; refine (BD.out _).mono ?_; rintro e w' ⟨rfl, rfl⟩) | (go_at_call 80; refine IN.out.mono ?_; rintro e w1 ⟨rfl, hq⟩; have HQ := hidb hq; clear hq))
  go_ret
  exact ⟨rfl, HQ.out⟩

/-- The deepest, with what hangs one deeper. -/
def deepest : List Nat → Nat → Nat
  | [], m => m
  | x :: r, m => deepest r (max m (x + 1))

set_option maxHeartbeats 1600000 in
set_option maxRecDepth 100000 in
theorem into_ok {hb ab most gb : Nat} {ws : List Int} {L : List ByteArray} {F : List Nat} {a : Option Addr} {c : Nat} {u y : Int} {d n cc fl dR nR g q : Nat} {A : Addr} {k Nn : Int} (xs : List (Int × Nat × Nat)) (ha : a = some ⟨g, 0, none⟩) (hub : 0 ≤ bodyI u) (h0 : 0 ≤ u) (h1 : u ≤ 18446744073709551615)
    (hgh : gb ≠ hb) (hgF : gb ∉ F) (hgg : gb ≠ g)
    (BLK : ∀ w, HP w hb ab most ws L F a c → Calls Tryz.prog 53 #[.pointer (some ⟨hb, 0, none⟩), .int .u64 u] w fun e w' => e = .returned (.tuple #[.agg #[.slice (some A) n n, .int .i64 k, .int .i64 Nn, .float .f64 fl, .string ⟨#[]⟩, .slice none 0 0, .slice (some ⟨g, q, none⟩) xs.length cc, .int .u64 y], .bool true]) ∧ Below w.heap.size w w')
    (hdR : 0 < dR) (REST : OverOk hb ab most gb ws L F a c y d dR nR) (hel : ∀ (j : Nat) (x : Int × Nat × Nat), xs[j]? = some x → ws[q + j]? = some x.1 ∧ 0 < x.2.1 ∧ x.2.1 ≤ 1000 ∧ OverOk hb ab most gb ws L F a c x.1 (d + 1) x.2.1 x.2.2) (hd : d ≤ 200) (hdr : dR ≤ 1000) (hxl : xs.length ≤ 65536) :
    IntoOk hb ab most gb ws L F a c u d (deepest (xs.map (·.2.1)) dR) (n + nR + (xs.map (·.2.2)).sum) := by
  intro W w hp hg hN
  have BK := hidb (BLK w hp)
  have BD := hidb (body_any u h0 h1)
  have HR := hidb REST
  have HE := hidb hel
  have HG := hidb hg
  have HPP := hidb hp
  obtain ⟨c0, c1, c2, f0, f1, f2, hlt⟩ := hg
  clear hp BLK REST hel
  generalize bodyI u = B at *
  have hB : ¬ B < 0 := by omega
  go_enter Tryz.func80, Tryz.ntmps80
  go_wp2_with fail
  refine BK.out.mono ?_
  rintro e w1 ⟨rfl, hb1⟩
  have HB1 := hidb hb1
  have HG1 := hidb (HG.out.keep hb1)
  have HP1 := hidb (HPP.out.keep hb1)
  clear c0 c1 c2 f0 f1 f2 hlt hb1
  obtain ⟨c0, c1, c2, f0, f1, f2, hlt⟩ := HG1.out
  have hbig : ¬ (65536 : Int) < (W : Int) + (n : Int) := by omega
  go_wp2_with fail
  have HG2 := hidb (HG1.out.keep (below_new w1 (.cells #[.slice (some A) n n, .int .i64 k, .int .i64 Nn, .float .f64 fl, .string ⟨#[]⟩, .slice none 0 0, .slice (some ⟨g, q, none⟩) xs.length cc, .int .u64 y] 129)))
  have HO2 := hidb (Oct.new w1 129 (.slice (some A) n n) (.int .i64 k) (.int .i64 Nn) (.float .f64 fl) (.string ⟨#[]⟩) (.slice none 0 0) (.slice (some ⟨g, q, none⟩) xs.length cc) (.int .u64 y))
  clear c0 c1 c2 f0 f1 f2
  obtain ⟨c0, c1, c2, f0, f1, f2, hlt2⟩ := HG2.out
  obtain ⟨o0, o1, o2, o3, o4, o5, o6, o7, s0, s1, s2, s3, s4, s5, s6, s7, hlto⟩ := HO2.out
  have hwr : IntKind.i64.wrap ((W : Int) + (n : Int)) = (W : Int) + (n : Int) := by rw [IntKind.wrap_i64]; omega
  have hne1 : ¬ gb = w1.heap.size := by omega
  have hne2 : ¬ w1.heap.size = gb := by omega
  go_cut [] from 15 (fun wc => Tri wc gb (.pointer (some ⟨hb, 0, none⟩)) (.int .i64 ((W : Int) + (n : Int))) (.slice none 0 0) ∧ Oct wc w1.heap.size (.slice (some A) n n) (.int .i64 k) (.int .i64 Nn) (.float .f64 fl) (.string ⟨#[]⟩) (.slice none 0 0) (.slice (some ⟨g, q, none⟩) xs.length cc) (.int .u64 y) ∧ But (· = gb) w wc)
  case first =>
    go_region
    go_wp2_with fail
    go_meet
    case rel =>
      have es : (w1.setCell ⟨gb, 1, none⟩ (.int .i64 ((W : Int) + (n : Int)))).heap.size = w1.heap.size := by simp [World.setCell]
      have ho := Oct.new (w1.setCell ⟨gb, 1, none⟩ (.int .i64 ((W : Int) + (n : Int)))) 129 (.slice (some A) n n) (.int .i64 k) (.int .i64 Nn) (.float .f64 fl) (.string ⟨#[]⟩) (.slice none 0 0) (.slice (some ⟨g, q, none⟩) xs.length cc) (.int .u64 y)
      rw [es] at ho
      refine ⟨((HG1.out.set1 _).keep (below_new _ _)).at rfl (Nat.le_refl _), ho.at rfl (Nat.le_refl _), ?_⟩
      exact (((But.of_below (S := (· = gb)) HB1.out).setCell (fun _ => rfl) _).alloc _).drew
  case rest =>
  have ewn : (W : Int) + (n : Int) = ((W + n : Nat) : Int) := by omega
  have HG3 := hidb hcut.1
  rw [ewn] at HG3
  have HO3 := hidb hcut.2.1
  have HU3 := hidb hcut.2.2
  have hcc := HG3.out
  have hoo := HO3.out
  clear hcut c0 c1 c2 f0 f1 f2 o0 o1 o2 o3 o4 o5 o6 o7 s0 s1 s2 s3 s4 s5 s6 s7 HG2 HO2 HG1 BK hlt hlt2 hlto hwr hne1 hne2 ewn hbig
  have hSh : ¬ (fun x => x = gb) hb := fun e => hgh e.symm
  have hSF : ∀ x, x ∈ F → ¬ (fun x => x = gb) x := fun x hx e => hgF (e ▸ hx)
  have hSg : ∀ g', a = some ⟨g', 0, none⟩ → ¬ (fun x => x = gb) g' := fun g' e => by
    rw [ha] at e
    obtain rfl : g = g' := by simpa using e
    exact fun e => hgg e.symm
  have HP3 := hidb (HPP.out.but HU3.out hSh hSF hSg)
  have HSH := hidb hSh
  have HSF := hidb hSF
  have HSG := hidb hSg
  have RC := hidb (HR.out (W + n) wc HP3.out HG3.out (by omega))
  clear hSh hSF hSg
  obtain ⟨c0, c1, c2, f0, f1, f2, hlt⟩ := hcc
  obtain ⟨o0, o1, o2, o3, o4, o5, o6, o7, s0, s1, s2, s3, s4, s5, s6, s7, hlto⟩ := hoo
  have hbig : ¬ (65536 : Int) < (W : Int) + (n : Int) := by omega
  go_step
  go_step
  go_cut [] from 15 (fun wc2 => wc2 = wc)
  case first =>
    go_wp2
    go_meet
    case rel => rfl
  case rest =>
  subst hcut
  clear hbig
  go_wp2_with fail
  refine RC.out.mono ?_
  rintro e w3 ⟨rfl, hg4, hu4⟩
  have HG4 := hidb hg4
  have HU4 := hidb (HU3.out.trans hu4)
  have HO4 := hidb (HO3.out.at (hu4.block _ HO3.out.lt (fun e => by have e' : w1.heap.size = gb := e; have h5 := HG.out.lt; have h6 := HB1.out.size; omega)) hu4.size)
  clear c0 c1 c2 f0 f1 f2 hlt o0 o1 o2 o3 o4 o5 o6 o7 s0 s1 s2 s3 s4 s5 s6 s7 hlto hg4 hu4 RC HG3 HO3
  obtain ⟨c0, c1, c2, f0, f1, f2, hlt⟩ := HG4.out
  obtain ⟨o0, o1, o2, o3, o4, o5, o6, o7, s0, s1, s2, s3, s4, s5, s6, s7, hlto⟩ := HO4.out
  have hdr0 : ((dR : Int) == 0) = false := by simp; omega
  have HN := hidb hN
  clear hN
  go_wp2_with fail
  have HDR := hidb hdR
  clear hdr0 hdR
  go_loopw [10, 57] (fun dv iv wr => ∃ (m D0 W0 : Nat), m ≤ xs.length ∧ iv = .int .i64 m ∧ dv = .int .i64 D0 ∧ 0 < D0 ∧ D0 ≤ 1001 ∧ deepest ((xs.drop m).map (·.2.1)) D0 = deepest (xs.map (·.2.1)) dR ∧ W0 + ((xs.drop m).map (·.2.2)).sum = W + (n + nR + (xs.map (·.2.2)).sum) ∧ Tri wr gb (.pointer (some ⟨hb, 0, none⟩)) (.int .i64 W0) (.slice none 0 0) ∧ But (· = gb) w wr) (fun _ iv _ => xs.length - (intOf iv).toNat)
  case atStart => exact ⟨0, dR, W + n + nR, by omega, rfl, rfl, HDR.out, by omega, by simp, by simp; omega, HG4.out, HU4.out⟩
  case round =>
    obtain ⟨m, D0, W0, hm, rfl, rfl, hD1, hD2, hdeep, hsum, htri, hbut⟩ := hrel
    have HDP := hidb hdeep
    have HSM := hidb hsum
    have HTR := hidb htri
    have HBT := hidb hbut
    clear hdeep hsum htri hbut c0 c1 c2 f0 f1 f2 hlt o0 o1 o2 o3 o4 o5 o6 o7 s0 s1 s2 s3 s4 s5 s6 s7 hlto HG4 HU4 HO4
    have HPR := hidb (HPP.out.but HBT.out HSH.out HSF.out HSG.out)
    by_cases hml : m < xs.length
    · have hmb : (m : Int) < (xs.length : Int) := by omega
      obtain ⟨x, hx⟩ : ∃ x, xs[m]? = some x := ⟨_, List.getElem?_eq_getElem hml⟩
      obtain ⟨hw, hx1, hx2, hox⟩ := HE.out m x hx
      obtain ⟨g', e', _, _, hcell⟩ := hp_cell HPR.out (q + m) x.1 hw
      rw [ha] at e'
      obtain rfl : g = g' := by simpa using e'
      have v0 := hcell wr (Below.refl _ _)
      have hdrop : xs.drop m = x :: xs.drop (m + 1) := by
        obtain ⟨hm', rfl⟩ := List.getElem?_eq_some_iff.1 hx
        exact List.drop_eq_getElem_cons hm'
      have hsum := HSM.out
      rw [hdrop] at hsum
      simp only [List.map_cons, List.sum_cons] at hsum
      have hdeep := HDP.out
      rw [hdrop] at hdeep
      simp only [List.map_cons, deepest] at hdeep
      have OC := hidb (hox W0 wr HPR.out HTR.out (by have := HN.out; omega))
      have HS2 := hidb hsum
      have HD2 := hidb hdeep
      clear hw hcell hdrop hsum hdeep hox e'
      generalize x.2.1 = X1 at *
      generalize x.2.2 = X2 at *
      generalize x.1 = X0 at *
      have hmz : (0 : Int) ≤ (m : Int) := by omega
      have hx0 : ((X1 : Int) == 0) = false := by simp; omega
      have ed : ((d + 1 : Nat) : Int) = (d : Int) + 1 := by omega
      rw [ed] at OC
      clear ed
      go_wp2_with fail
      refine OC.out.mono ?_
      rintro e wz ⟨rfl, htz, hbz⟩
      have HTZ := hidb htz
      have HBZ := hidb (HBT.out.trans hbz)
      clear htz hbz OC v0
      go_wp2
      go_roundw
      case rel => exact ⟨m + 1, max D0 (X1 + 1), W0 + X2, by omega, by go_num, by go_num, by omega, by omega, HD2.out, by have := HS2.out; omega, HTZ.out, HBZ.out⟩
      case measure => simp [intOf]; omega
    · have hmn : ¬ (m : Int) < (xs.length : Int) := by omega
      obtain ⟨c0, c1, c2, f0, f1, f2, hlt⟩ := HTR.out
      go_wp2_with (go_at_call 78; refine (BD.out _).mono ?_; rintro e w' ⟨rfl, rfl⟩)
      go_ret
      have hd2 := HDP.out
      have hs2 := HSM.out
      rw [List.drop_of_length_le (by omega)] at hd2 hs2
      simp only [List.map_nil, deepest, List.sum_nil, Nat.add_zero] at hd2 hs2
      subst hd2
      rw [← hs2]
      exact ⟨rfl, HTR.out, HBT.out⟩
end Go.Proofs.YtmijabhnbmmmfaaGreat


