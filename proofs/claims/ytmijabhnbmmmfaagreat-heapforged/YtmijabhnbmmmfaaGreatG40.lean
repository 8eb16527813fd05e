import Derived.Test.YtmijabhnbmmmfaaGreatG39
import Derived.RegionTactic
import Derived.Deep.Cut
/- The gauge over any words: what it holds for a term is one. -/
namespace Go.Proofs.YtmijabhnbmmmfaaGreat
open Go.RowKit Go.Deep
attribute [local go_sem] store_float f64bits f64frombits
attribute [local go_sem ↓] Go.wp_at_zero Go.wp_at_succ

/-- What the gauge tells: nothing, or how deep a right term is. -/
def GOk (ws : List Int) (L : List ByteArray) (u : Int) (d D W W' : Nat) : Prop :=
  D = 0 ∨ ∃ t, Rep ws L t u ∧ allT goodT t = true ∧ allT smF t = true ∧ D = deepN t ∧ d + deepN t ≤ 201 ∧ W' = W + wN t ∧ W' ≤ 65536

/-- A gauge's call that tells something so. -/
def GPost (gb hb : Nat) (ws : List Int) (L : List ByteArray) (u : Int) (d W : Nat) (w : World) (e : Ending) (w' : World) : Prop :=
  ∃ D W' : Nat, e = .returned (.int .i64 D) ∧ Tri w' gb (.pointer (some ⟨hb, 0, none⟩)) (.int .i64 (W' : Int)) (.slice none 0 0) ∧ But (· = gb) w w' ∧ W' ≤ 140000 ∧ D ≤ 300 ∧ GOk ws L u d D W W'

def OvAny (hb ab most gb : Nat) (ws : List Int) (L : List ByteArray) (F : List Nat) (a : Option Addr) (c B : Nat) : Prop :=
  ∀ (W : Nat) (w : World) (u : Int) (d : Nat), 65536 < W + B → W ≤ 65536 → 0 ≤ u → u ≤ 18446744073709551615 → 1 ≤ d → d ≤ 201 → HP w hb ab most ws L F a c → Tri w gb (.pointer (some ⟨hb, 0, none⟩)) (.int .i64 (W : Int)) (.slice none 0 0) →
    Calls Tryz.prog 50 #[.pointer (some ⟨gb, 0, none⟩), .int .u64 u, .int .i64 d] w (GPost gb hb ws L u d W w)

section
variable {hb ab most gb : Nat} {ws : List Int} {L : List ByteArray} {F : List Nat} {a : Option Addr} {c : Nat}

set_option maxHeartbeats 1600000 in
theorem over_deep {w : World} {u : Int} {d W : Nat} (hd : 200 < d) (hW : W ≤ 65536) (hg : Tri w gb (.pointer (some ⟨hb, 0, none⟩)) (.int .i64 (W : Int)) (.slice none 0 0)) : Calls Tryz.prog 50 #[.pointer (some ⟨gb, 0, none⟩), .int .u64 u, .int .i64 d] w (GPost gb hb ws L u d W w) := by
  have HG := hidb hg
  clear hg
  have q : (200 : Int) < (d : Int) := by omega
  go_enter Tryz.func50, Tryz.ntmps50
  go_wp2
  exact bodyPost_ret (v := .int .i64 0) (by simp [results, Tryz.results50, go_sem]) rfl ⟨0, W, rfl, HG.out, But.refl _ _, by omega, by omega, .inl rfl⟩

set_option maxHeartbeats 1600000 in
theorem over_al {w : World} {u K N : Int} {S : ByteArray} {Bo : Bool} {d W : Nat} (h0 : 0 ≤ u) (h1 : u ≤ 18446744073709551615) (hpt : ptB u = false) (hd : d ≤ 200) (hW : W ≤ 65536) (hg : Tri w gb (.pointer (some ⟨hb, 0, none⟩)) (.int .i64 (W : Int)) (.slice none 0 0))
    (hal : Calls Tryz.prog 52 #[.pointer (some ⟨hb, 0, none⟩), .int .u64 u] w fun e w' => e = .returned (.tuple #[.agg #[.int .i64 K, .int .i64 N, .float .f64 0, .string S, .slice none 0 0], .bool Bo]) ∧ Below w.heap.size w w') (hok : Bo = true → GOk ws L u d 1 W W) :
    Calls Tryz.prog 50 #[.pointer (some ⟨gb, 0, none⟩), .int .u64 u, .int .i64 d] w (GPost gb hb ws L u d W w) := by
  have AL := hidb hal
  have PT := hidb (points_any u h0 h1)
  rw [hpt] at PT
  have HG := hidb hg
  have HOK := hidb hok
  obtain ⟨c0, c1, c2, f0, f1, f2, hlt⟩ := hg
  clear hal hok hpt
  have hdd : ¬ (200 : Int) < (d : Int) := by omega
  cases Bo with
  | false =>
    go_enter Tryz.func50, Tryz.ntmps50
    go_wp2_with (first | (go_at_call 51; refine (PT.out _).mono ?_; rintro e w' ⟨rfl, rfl⟩) | (go_at_call 52; refine AL.out.mono ?_; rintro e w1 ⟨rfl, hb1⟩; have HB := hidb hb1; clear hb1))
    exact bodyPost_ret (v := .int .i64 0) (by simp [results, Tryz.results50, go_sem]) rfl ⟨0, W, rfl, (HG.out.keep HB.out).keep (below_new _ _), But.of_below (below_a0 HB.out _), by omega, by omega, .inl rfl⟩
  | true =>
    go_enter Tryz.func50, Tryz.ntmps50
    go_wp2_with (first | (go_at_call 51; refine (PT.out _).mono ?_; rintro e w' ⟨rfl, rfl⟩) | (go_at_call 52; refine AL.out.mono ?_; rintro e w1 ⟨rfl, hb1⟩; have HB := hidb hb1; clear hb1))
    exact bodyPost_ret (v := .int .i64 1) (by simp [results, Tryz.results50, go_sem]) rfl ⟨1, W, rfl, (HG.out.keep HB.out).keep (below_new _ _), But.of_below (below_a0 HB.out _), by omega, by omega, by first | exact HOK.out rfl | exact HOK.out trivial⟩

set_option maxHeartbeats 1600000 in
theorem over_pt {w : World} {u : Int} {d W : Nat} (h0 : 0 ≤ u) (h1 : u ≤ 18446744073709551615) (ht : tagI u = 5 ∨ tagI u = 6) (hd : d ≤ 200) (hg : Tri w gb (.pointer (some ⟨hb, 0, none⟩)) (.int .i64 (W : Int)) (.slice none 0 0))
    (hin : Calls Tryz.prog 80 #[.pointer (some ⟨gb, 0, none⟩), .int .u64 u, .int .i64 d] w (GPost gb hb ws L u d W w)) :
    Calls Tryz.prog 50 #[.pointer (some ⟨gb, 0, none⟩), .int .u64 u, .int .i64 d] w (GPost gb hb ws L u d W w) := by
  have IN := hidb hin
  have PT := hidb (points_any u h0 h1)
  have e : ptB u = true := by unfold ptB; rcases ht with h | h <;> rw [h] <;> rfl
  rw [e] at PT
  have BD := hidb (body_any u h0 h1)
  have hB0 := (body_pos h0 h1 ht).1
  obtain ⟨c0, c1, c2, f0, f1, f2, hlt⟩ := hg
  clear hin e ht
  generalize bodyI u = B at *
  have hB : ¬ B < 0 := by omega
  have hdd : ¬ (200 : Int) < (d : Int) := by omega
  go_enter Tryz.func50, Tryz.ntmps50
  go_wp2_with (first | (go_at_call 51; refine (PT.out _).mono ?_; rintro e w' ⟨rfl, rfl⟩) | (go_at_call 78; refine (BD.out _).mono ?_; rintro e w' ⟨rfl, rfl⟩) | (go_at_call 80; refine IN.out.mono ?_; rintro e w1 ⟨D, W', rfl, hq⟩; have HQ := hidb hq; clear hq))
  exact bodyPost_ret (v := .int .i64 (D : Int)) (by simp [results, Tryz.results50, go_sem]) rfl ⟨D, W', rfl, HQ.out⟩

set_option maxHeartbeats 1600000 in
set_option maxRecDepth 100000 in
theorem into_no {w : World} {u y : Int} {d W n n' m cc fl : Nat} {A El : Option Addr} {k Nn : Int} (hn : n ≤ 70000) (hW : W ≤ 65536)
    (BLK : Calls Tryz.prog 53 #[.pointer (some ⟨hb, 0, none⟩), .int .u64 u] w fun e w' => e = .returned (.tuple #[.agg #[.slice A n n', .int .i64 k, .int .i64 Nn, .float .f64 fl, .string ⟨#[]⟩, .slice none 0 0, .slice El m cc, .int .u64 y], .bool false]) ∧ Below w.heap.size w w')
    (hg : Tri w gb (.pointer (some ⟨hb, 0, none⟩)) (.int .i64 (W : Int)) (.slice none 0 0)) :
    Calls Tryz.prog 80 #[.pointer (some ⟨gb, 0, none⟩), .int .u64 u, .int .i64 d] w (GPost gb hb ws L u d W w) := by
  have BK := hidb BLK
  have HG := hidb hg
  obtain ⟨c0, c1, c2, f0, f1, f2, hlt⟩ := hg
  clear BLK
  go_enter Tryz.func80, Tryz.ntmps80
  go_wp2_with fail
  refine BK.out.mono ?_
  rintro e w1 ⟨rfl, hb1⟩
  have HB1 := hidb hb1
  have HG1 := hidb (HG.out.keep hb1)
  clear c0 c1 c2 f0 f1 f2 hlt hb1
  obtain ⟨c0, c1, c2, f0, f1, f2, hlt⟩ := HG1.out
  go_wp2_with fail
  have HG2 := hidb (HG1.out.keep (below_new w1 (.cells #[.slice A n n', .int .i64 k, .int .i64 Nn, .float .f64 fl, .string ⟨#[]⟩, .slice none 0 0, .slice El m cc, .int .u64 y] 129)))
  have HO2 := hidb (Oct.new w1 129 (.slice A n n') (.int .i64 k) (.int .i64 Nn) (.float .f64 fl) (.string ⟨#[]⟩) (.slice none 0 0) (.slice El m cc) (.int .u64 y))
  clear c0 c1 c2 f0 f1 f2
  obtain ⟨c0, c1, c2, f0, f1, f2, hlt2⟩ := HG2.out
  obtain ⟨o0, o1, o2, o3, o4, o5, o6, o7, s0, s1, s2, s3, s4, s5, s6, s7, hlto⟩ := HO2.out
  have hwr : IntKind.i64.wrap ((W : Int) + (n : Int)) = (W : Int) + (n : Int) := by rw [IntKind.wrap_i64]; omega
  have hne1 : ¬ gb = w1.heap.size := by omega
  have hne2 : ¬ w1.heap.size = gb := by omega
  go_cut [] from 15 (fun wc => Tri wc gb (.pointer (some ⟨hb, 0, none⟩)) (.int .i64 ((W : Int) + (n : Int))) (.slice none 0 0) ∧ But (· = gb) w wc)
  case first =>
    go_region
    go_wp2_with fail
    go_meet
    case rel =>
      refine ⟨((HG1.out.set1 _).keep (below_new _ _)).at rfl (Nat.le_refl _), ?_⟩
      exact (((But.of_below (S := (· = gb)) HB1.out).setCell (fun _ => rfl) _).alloc _).drew
  case rest =>
  obtain ⟨ht3, hu3⟩ := hcut
  have HT3 := hidb ht3
  have HU3 := hidb hu3
  clear c0 c1 c2 f0 f1 f2 hlt hlt2 o0 o1 o2 o3 o4 o5 o6 o7 s0 s1 s2 s3 s4 s5 s6 s7 hlto hwr hne1 hne2 ht3 hu3
  go_wp2_with fail
  exact bodyPost_ret (v := .int .i64 0) (by simp [results, Tryz.results80, go_sem]) rfl ⟨0, W + n, rfl, by have := HT3.out; rwa [← Int.natCast_add] at this, HU3.out, by omega, by omega, .inl rfl⟩
end
end Go.Proofs.YtmijabhnbmmmfaaGreat


/- The gauge into a block of whatever words. -/
namespace Go.Proofs.YtmijabhnbmmmfaaGreat
open Go.RowKit Go.Deep
attribute [local go_sem] store_float f64bits f64frombits
attribute [local go_sem ↓] Go.wp_at_zero Go.wp_at_succ

theorem deepest_snoc (x : Nat) : ∀ (l : List Nat) (m : Nat), deepest (l ++ [x]) m = max (deepest l m) (x + 1) := by
  intro l
  induction l with
  | nil => intro m; simp [deepest]
  | cons y r ih => intro m; simp only [List.cons_append, deepest, ih]

theorem deepest_le {M : Nat} : ∀ (l : List Nat) (m : Nat), m ≤ M → (∀ x, x ∈ l → x + 1 ≤ M) → deepest l m ≤ M := by
  intro l
  induction l with
  | nil => intro m h _; exact h
  | cons y r ih => intro m h hx; simp only [deepest]; exact ih _ (by have := hx y (List.mem_cons_self ..); omega) (fun x hx' => hx x (List.mem_cons_of_mem _ hx'))

/-- What was read of the elements so far. -/
structure Els (ws : List Int) (L : List ByteArray) (q d m : Nat) (ts : List Tr) : Prop where
  len : ts.length = m
  rep : ∀ (j : Nat) (t : Tr), ts[j]? = some t → ∃ x, ws[q + j]? = some x ∧ Rep ws L t x
  good : allAll goodT ts = true
  sm : allAll smF ts = true
  deep : ∀ t, t ∈ ts → d + 1 + deepN t ≤ 201

theorem allAll_snoc {p : Tr → Bool} {t : Tr} (ht : allT p t = true) : ∀ l : List Tr, allAll p l = true → allAll p (l ++ [t]) = true := by
  intro l
  induction l with
  | nil => intro _; simp [allAll, ht]
  | cons u r ih =>
    intro h
    simp only [allAll, Bool.and_eq_true] at h
    simp only [List.cons_append, allAll, h.1, ih h.2, Bool.and_self]

theorem Els.snoc {ws : List Int} {L : List ByteArray} {q d m : Nat} {ts : List Tr} {t : Tr} {x : Int} (h : Els ws L q d m ts) (hx : ws[q + m]? = some x) (hr : Rep ws L t x) (hg : allT goodT t = true) (hs : allT smF t = true) (hd : d + 1 + deepN t ≤ 201) : Els ws L q d (m + 1) (ts ++ [t]) := by
  refine ⟨by simp [h.len], fun j u hj => ?_, allAll_snoc hg _ h.good, allAll_snoc hs _ h.sm, fun u hu => ?_⟩
  · rcases Nat.lt_or_ge j ts.length with hl | hl
    · rw [List.getElem?_append_left hl] at hj
      exact h.rep j u hj
    · have hjl := get_lt hj
      simp only [List.length_append, List.length_cons, List.length_nil] at hjl
      obtain rfl : j = ts.length := by omega
      rw [List.getElem?_append_right (Nat.le_refl _)] at hj
      obtain rfl : t = u := by simpa using hj
      rw [h.len]
      exact ⟨x, hx, hr⟩
  · rcases List.mem_append.1 hu with hu | hu
    · exact h.deep u hu
    · obtain rfl : u = t := by simpa using hu
      exact hd

section
variable {hb ab most gb : Nat} {ws : List Int} {L : List ByteArray} {F : List Nat} {a : Option Addr} {c : Nat}

set_option maxHeartbeats 3000000 in
set_option maxRecDepth 100000 in
theorem into_yes {B : Nat} (IH : OvAny hb ab most gb ws L F a c B) {w : World} {u y : Int} {d W n q m cc fl g : Nat} {A : Addr} {k Nn : Int} (ha : a = some ⟨g, 0, none⟩) (hd1 : 1 ≤ d) (hd : d ≤ 200) (hW : W ≤ 65536) (hB : 65536 < W + (B + 1)) (hn1 : 1 ≤ n) (hn : n ≤ 70000) (hm : m ≤ 65536) (y0 : 0 ≤ y) (y1 : y ≤ 18446744073709551615) (hwr : ∀ (i : Nat) (x : Int), ws[i]? = some x → 0 ≤ x ∧ x ≤ 18446744073709551615)
    (hel : ∀ j, j < m → ∃ x, ws[q + j]? = some x) (hub : 0 ≤ bodyI u) (h0 : 0 ≤ u) (h1 : u ≤ 18446744073709551615) (hgh : gb ≠ hb) (hgF : gb ∉ F) (hgg : gb ≠ g)
    (BLK : ∀ w, HP w hb ab most ws L F a c → Calls Tryz.prog 53 #[.pointer (some ⟨hb, 0, none⟩), .int .u64 u] w fun e w' => e = .returned (.tuple #[.agg #[.slice (some A) n n, .int .i64 k, .int .i64 Nn, .float .f64 fl, .string ⟨#[]⟩, .slice none 0 0, .slice (some ⟨g, q, none⟩) m cc, .int .u64 y], .bool true]) ∧ Below w.heap.size w w')
    (MK : ∀ (tr : Tr) (ts : List Tr), Rep ws L tr y → allT goodT tr = true → allT smF tr = true → ts.length = m → (∀ (j : Nat) (t : Tr), ts[j]? = some t → ∃ x, ws[q + j]? = some x ∧ Rep ws L t x) → allAll goodT ts = true → allAll smF ts = true → ∃ t, Rep ws L t u ∧ allT goodT t = true ∧ allT smF t = true ∧ deepN t = deepest (ts.map deepN) (deepN tr) ∧ wN t = n + wN tr + (ts.map wN).sum)
    (hp : HP w hb ab most ws L F a c) (hg : Tri w gb (.pointer (some ⟨hb, 0, none⟩)) (.int .i64 (W : Int)) (.slice none 0 0)) :
    Calls Tryz.prog 80 #[.pointer (some ⟨gb, 0, none⟩), .int .u64 u, .int .i64 d] w (GPost gb hb ws L u d W w) := by
  have BK := hidb (BLK w hp)
  have BD := hidb (body_any u h0 h1)
  have HIH := hidb IH
  have HE := hidb hel
  have HWR := hidb hwr
  have HMK := hidb MK
  have HG := hidb hg
  have HPP := hidb hp
  have HA := hidb ha
  have hSh : ¬ (fun x => x = gb) hb := fun e => hgh e.symm
  have hSF : ∀ x, x ∈ F → ¬ (fun x => x = gb) x := fun x hx e => hgF (e ▸ hx)
  have hSg : ∀ g', a = some ⟨g', 0, none⟩ → ¬ (fun x => x = gb) g' := fun g' e => by
    rw [ha] at e
    obtain rfl : g = g' := by simpa using e
    exact fun e => hgg e.symm
  have HPB := hidb (fun w' (hbt : But (· = gb) w w') => hp.but hbt hSh hSF hSg)
  obtain ⟨c0, c1, c2, f0, f1, f2, hlt⟩ := hg
  clear hp BLK IH hel hwr MK ha hSh hSF hSg hgh hgF hgg h0 h1
  generalize bodyI u = Bu at *
  have hBu : ¬ Bu < 0 := by omega
  go_enter Tryz.func80, Tryz.ntmps80
  go_wp2_with fail
  refine BK.out.mono ?_
  rintro e w1 ⟨rfl, hb1⟩
  have HB1 := hidb hb1
  have HG1 := hidb (HG.out.keep hb1)
  clear c0 c1 c2 f0 f1 f2 hlt hb1
  obtain ⟨c0, c1, c2, f0, f1, f2, hlt⟩ := HG1.out
  go_wp2_with fail
  have HG2 := hidb (HG1.out.keep (below_new w1 (.cells #[.slice (some A) n n, .int .i64 k, .int .i64 Nn, .float .f64 fl, .string ⟨#[]⟩, .slice none 0 0, .slice (some ⟨g, q, none⟩) m cc, .int .u64 y] 129)))
  have HO2 := hidb (Oct.new w1 129 (.slice (some A) n n) (.int .i64 k) (.int .i64 Nn) (.float .f64 fl) (.string ⟨#[]⟩) (.slice none 0 0) (.slice (some ⟨g, q, none⟩) m cc) (.int .u64 y))
  clear c0 c1 c2 f0 f1 f2
  obtain ⟨c0, c1, c2, f0, f1, f2, hlt2⟩ := HG2.out
  obtain ⟨o0, o1, o2, o3, o4, o5, o6, o7, s0, s1, s2, s3, s4, s5, s6, s7, hlto⟩ := HO2.out
  have hwr : IntKind.i64.wrap ((W : Int) + (n : Int)) = (W : Int) + (n : Int) := by rw [IntKind.wrap_i64]; omega
  have hne1 : ¬ gb = w1.heap.size := by omega
  have hne2 : ¬ w1.heap.size = gb := by omega
  go_cut [] from 15 (fun wc => Tri wc gb (.pointer (some ⟨hb, 0, none⟩)) (.int .i64 ((W : Int) + (n : Int))) (.slice none 0 0) ∧ Oct wc w1.heap.size (.slice (some A) n n) (.int .i64 k) (.int .i64 Nn) (.float .f64 fl) (.string ⟨#[]⟩) (.slice none 0 0) (.slice (some ⟨g, q, none⟩) m cc) (.int .u64 y) ∧ But (· = gb) w wc)
  case first =>
    go_region
    go_wp2_with fail
    go_meet
    case rel =>
      have es : (w1.setCell ⟨gb, 1, none⟩ (.int .i64 ((W : Int) + (n : Int)))).heap.size = w1.heap.size := by simp [World.setCell]
      have ho := Oct.new (w1.setCell ⟨gb, 1, none⟩ (.int .i64 ((W : Int) + (n : Int)))) 129 (.slice (some A) n n) (.int .i64 k) (.int .i64 Nn) (.float .f64 fl) (.string ⟨#[]⟩) (.slice none 0 0) (.slice (some ⟨g, q, none⟩) m cc) (.int .u64 y)
      rw [es] at ho
      refine ⟨((HG1.out.set1 _).keep (below_new _ _)).at rfl (Nat.le_refl _), ho.at rfl (Nat.le_refl _), ?_⟩
      exact (((But.of_below (S := (· = gb)) HB1.out).setCell (fun _ => rfl) _).alloc _).drew
  case rest =>
  have ewn : (W : Int) + (n : Int) = ((W + n : Nat) : Int) := by omega
  have HG3 := hidb hcut.1
  rw [ewn] at HG3
  have HO3 := hidb hcut.2.1
  have HU3 := hidb hcut.2.2
  have hgw : gb < w1.heap.size := by have h5 := HG.out.lt; have h6 := HB1.out.size; omega
  clear hcut c0 c1 c2 f0 f1 f2 o0 o1 o2 o3 o4 o5 o6 o7 s0 s1 s2 s3 s4 s5 s6 s7 HG2 HO2 HG1 BK hlt hlt2 hlto hwr hne1 hne2 ewn
  obtain ⟨c0, c1, c2, f0, f1, f2, hlt⟩ := HG3.out
  obtain ⟨o0, o1, o2, o3, o4, o5, o6, o7, s0, s1, s2, s3, s4, s5, s6, s7, hlto⟩ := HO3.out
  by_cases hbig : 65536 < W + n
  · have hbig2 : (65536 : Int) < (W : Int) + (n : Int) := by omega
    clear hbig
    go_wp2_with fail
    exact bodyPost_ret (v := .int .i64 0) (by simp [results, Tryz.results80, go_sem]) rfl ⟨0, W + n, rfl, HG3.out, HU3.out, by omega, by omega, .inl rfl⟩
  have hbig2 : ¬ (65536 : Int) < (W : Int) + (n : Int) := by omega
  have RC := hidb (HIH.out (W + n) wc y d (by omega) (by omega) y0 y1 hd1 (by omega) (HPB.out wc HU3.out) HG3.out)
  have HWn := hidb (show W + n ≤ 65536 by omega)
  go_step
  go_step
  go_cut [] from 15 (fun wc2 => wc2 = wc)
  case first =>
    go_wp2
    go_meet
    case rel => rfl
  case rest =>
  subst hcut
  clear hbig hbig2
  go_wp2_with fail
  refine RC.out.mono ?_
  rintro e w3 ⟨DR, WR, rfl, hg4, hu4, hwb, hD3, hok⟩
  have HG4 := hidb hg4
  have HU4 := hidb (HU3.out.trans hu4)
  have HO4 := hidb (HO3.out.at (hu4.block _ HO3.out.lt (fun e => by have e' : w1.heap.size = gb := e; omega)) hu4.size)
  have HOK := hidb hok
  clear c0 c1 c2 f0 f1 f2 hlt o0 o1 o2 o3 o4 o5 o6 o7 s0 s1 s2 s3 s4 s5 s6 s7 hlto hg4 hu4 RC HG3 HO3 hok
  obtain ⟨c0, c1, c2, f0, f1, f2, hlt⟩ := HG4.out
  obtain ⟨o0, o1, o2, o3, o4, o5, o6, o7, s0, s1, s2, s3, s4, s5, s6, s7, hlto⟩ := HO4.out
  by_cases hz : DR = 0
  · subst hz
    go_wp2_with fail
    exact bodyPost_ret (v := .int .i64 0) (by simp [results, Tryz.results80, go_sem]) rfl ⟨0, WR, rfl, HG4.out, HU4.out, hwb, by omega, .inl rfl⟩
  have hdr0 : ((DR : Int) == 0) = false := by simp; omega
  obtain ⟨tr, hrep, hgood, hsm, hDR, hdep, hWR, hWl⟩ : ∃ t, Rep ws L t y ∧ allT goodT t = true ∧ allT smF t = true ∧ DR = deepN t ∧ d + deepN t ≤ 201 ∧ WR = W + n + wN t ∧ WR ≤ 65536 := HOK.out.resolve_left hz
  have HTR := hidb (show Rep ws L tr y ∧ allT goodT tr = true ∧ allT smF tr = true ∧ DR = deepN tr ∧ d + deepN tr ≤ 201 ∧ WR = W + n + wN tr ∧ WR ≤ 65536 from ⟨hrep, hgood, hsm, hDR, hdep, hWR, hWl⟩)
  clear hrep hgood hsm hDR hdep hWR HOK hwb
  go_wp2_with fail
  have HDR := hidb (show 0 < DR by omega)
  clear hdr0 hz
  go_loopw [10, 57] (fun dv iv wr => ∃ (m' D0 W0 : Nat) (ts : List Tr), m' ≤ m ∧ iv = .int .i64 m' ∧ dv = .int .i64 D0 ∧ 0 < D0 ∧ D0 ≤ 301 ∧ W0 ≤ 65536 ∧ D0 = deepest (ts.map deepN) DR ∧ W0 = WR + (ts.map wN).sum ∧ Els ws L q d m' ts ∧ Tri wr gb (.pointer (some ⟨hb, 0, none⟩)) (.int .i64 W0) (.slice none 0 0) ∧ But (· = gb) w wr) (fun _ iv _ => m - (intOf iv).toNat)
  case atStart => exact ⟨0, DR, WR, [], by omega, rfl, rfl, HDR.out, by omega, hWl, rfl, by simp, ⟨rfl, fun j t h => by simp at h, rfl, rfl, fun t h => by simp at h⟩, HG4.out, HU4.out⟩
  case round =>
    obtain ⟨m', D0, W0, ts, hm', rfl, rfl, hD1, hD2, hW0, hdeep, hsum, hels, htri, hbut⟩ := hrel
    have HDP := hidb hdeep
    have HSM := hidb hsum
    have HEL := hidb hels
    have HT := hidb htri
    have HBT := hidb hbut
    clear hdeep hsum hels htri hbut c0 c1 c2 f0 f1 f2 hlt o0 o1 o2 o3 o4 o5 o6 o7 s0 s1 s2 s3 s4 s5 s6 s7 hlto HG4 HU4 HO4
    have HPR := hidb (HPB.out wr HBT.out)
    by_cases hml : m' < m
    · have hmb : (m' : Int) < (m : Int) := by omega
      obtain ⟨x, hw⟩ := HE.out m' hml
      obtain ⟨x0, x1⟩ := HWR.out _ _ hw
      obtain ⟨g', e', _, _, hcell⟩ := hp_cell HPR.out (q + m') x hw
      rw [HA.out] at e'
      obtain rfl : g = g' := by simpa using e'
      have v0 := hcell wr (Below.refl _ _)
      have OC := hidb (HIH.out W0 wr x (d + 1) (by have := HSM.out; have := HTR.out.2.2.2.2.2.1; omega) hW0 x0 x1 (by omega) (by omega) HPR.out HT.out)
      have HXW := hidb hw
      clear hw hcell e'
      have hmz : (0 : Int) ≤ (m' : Int) := by omega
      have ed : ((d + 1 : Nat) : Int) = (d : Int) + 1 := by omega
      rw [ed] at OC
      clear ed
      go_wp2_with fail
      refine OC.out.mono ?_
      rintro e wz ⟨Dx, Wx, rfl, htz, hbz, hwx, hDx, hokx⟩
      have HTZ := hidb htz
      have HBZ := hidb (HBT.out.trans hbz)
      have HOX := hidb hokx
      clear htz hbz OC v0 hokx
      by_cases hxz : Dx = 0
      · subst hxz
        go_wp2_with fail
        exact bodyPost_ret (v := .int .i64 0) (by simp [results, Tryz.results80, go_sem]) rfl ⟨0, Wx, rfl, HTZ.out, HBZ.out, hwx, by omega, .inl rfl⟩
      have hx0 : ((Dx : Int) == 0) = false := by simp; omega
      obtain ⟨tx, hrep, hgood, hsmx, hDX, hdep, hWX, hWxl⟩ : ∃ t, Rep ws L t x ∧ allT goodT t = true ∧ allT smF t = true ∧ Dx = deepN t ∧ d + 1 + deepN t ≤ 201 ∧ Wx = W0 + wN t ∧ Wx ≤ 65536 := HOX.out.resolve_left hxz
      have HE2 := hidb (HEL.out.snoc HXW.out hrep hgood hsmx hdep)
      have HD2 := hidb (show max D0 (Dx + 1) = deepest ((ts ++ [tx]).map deepN) DR by rw [List.map_append, List.map_cons, List.map_nil, deepest_snoc, ← HDP.out, hDX])
      have HS2 := hidb (show Wx = WR + ((ts ++ [tx]).map wN).sum by rw [List.map_append, List.sum_append]; simp; have := HSM.out; omega)
      clear hrep hgood hsmx hDX hdep hWX HOX hxz
      go_wp2
      go_roundw
      case rel => exact ⟨m' + 1, max D0 (Dx + 1), Wx, ts ++ [tx], by omega, by go_num, by go_num, by omega, by omega, hWxl, HD2.out, HS2.out, HE2.out, HTZ.out, HBZ.out⟩
      case measure => simp [intOf]; omega
    · have hmn : ¬ (m' : Int) < (m : Int) := by omega
      obtain rfl : m' = m := by omega
      obtain ⟨c0, c1, c2, f0, f1, f2, hlt⟩ := HT.out
      go_wp2_with (go_at_call 78; refine (BD.out _).mono ?_; rintro e w' ⟨rfl, rfl⟩)
      obtain ⟨r1, r2, r3, r4, r5, r6, r7⟩ := HTR.out
      obtain ⟨t, t1, t2, t3, t4, t5⟩ := HMK.out tr ts r1 r2 r3 HEL.out.len HEL.out.rep HEL.out.good HEL.out.sm
      have hDe := HDP.out
      have hSe := HSM.out
      rw [r4] at hDe
      have hle : deepest (ts.map deepN) (deepN tr) ≤ 201 - d := deepest_le _ _ (by omega) (fun x hx => by
        obtain ⟨v, hv, rfl⟩ := List.mem_map.1 hx
        have := HEL.out.deep v hv
        omega)
      exact bodyPost_ret (v := .int .i64 (D0 : Int)) (by simp [results, Tryz.results80, go_sem]) rfl ⟨D0, W0, rfl, HT.out, HBT.out, by omega, by omega, .inr ⟨t, t1, t2, t3, by omega, by omega, by omega, hW0⟩⟩
end
end Go.Proofs.YtmijabhnbmmmfaaGreat


