import Derived.Test.YtmijabhnbmmmfaaGreatG27
/- Words that are made, taken to pieces; what stands alone. -/
namespace Go.Proofs.YtmijabhnbmmmfaaGreat
open Go.RowKit Go.Deep
attribute [local go_sem] store_float f64bits f64frombits
attribute [local go_sem ↓] Go.wp_at_zero Go.wp_at_succ

/-- A word that may be: its pieces. -/
theorem of_made {t b : Int} (h1 : 1 ≤ t) (h2 : t ≤ 8) (hm : mayB t b = true) : tagI (ofW t b) = t ∧ bodyI (ofW t b) = b ∧ 0 ≤ ofW t b ∧ ofW t b ≤ 18446744073709551615 ∧ wRightB (ofW t b) = true := by
  have htb : tagB t = true := by simp [tagB]; omega
  have hlim : (t = 1 ∧ -576460752303423488 ≤ b ∧ b ≤ 576460752303423487) ∨ (t ≠ 1 ∧ 0 ≤ b ∧ b ≤ 1099511627776) := by
    unfold mayB at hm
    split at hm
    · left; simp at hm; exact ⟨by assumption, hm⟩
    · right
      split at hm
      · simp at hm; exact ⟨by assumption, by omega, by omega⟩
      · simp at hm; exact ⟨by assumption, hm⟩
  have e : ofW t b = joinI t b := by simp [ofW, htb, hm]
  have ht : tagI (joinI t b) = t := by unfold tagI joinI; omega
  have hb : bodyI (joinI t b) = b := by
    unfold bodyI joinI
    rcases hlim with ⟨rfl, q1, q2⟩ | ⟨q0, q1, q2⟩
    · split <;> omega
    · split
      · rename_i hc; omega
      · omega
  rw [e]
  refine ⟨ht, hb, ?_, ?_, ?_⟩
  · unfold joinI; omega
  · unfold joinI; omega
  · unfold wRightB
    rw [ht, hb]
    simp [ofE, htb, hm, e]

/-- What a word says by itself. -/
def aloneK (u : Int) : Int := if tagI u = 1 then 1 else if tagI u = 3 then 6 else if tagI u = 4 then 8 else 3
def aloneN (u : Int) : Int := if tagI u = 1 ∨ tagI u = 3 then bodyI u else 0
def aloneS (L : List ByteArray) (u : Int) : ByteArray := if tagI u = 2 then txOf L (bodyI u) else ⟨#[]⟩
def aloneB (L : List ByteArray) (u : Int) : Bool := if tagI u = 2 then txIs L (bodyI u) else true

set_option maxHeartbeats 1600000 in
set_option maxRecDepth 100000 in
theorem alone_ok {w : World} {hb ab most : Nat} {ws : List Int} {L : List ByteArray} {F : List Nat} {a : Option Addr} {c : Nat} (h : HP w hb ab most ws L F a c) (u : Int) (h0 : 0 ≤ u) (h1 : u ≤ 18446744073709551615) (hr : wRightB u = true) (ht : tagI u = 1 ∨ tagI u = 2 ∨ tagI u = 3 ∨ tagI u = 4) :
    Calls Tryz.prog 52 #[.pointer (some ⟨hb, 0, none⟩), .int .u64 u] w fun e w' => e = .returned (.tuple #[.agg #[.int .i64 (aloneK u), .int .i64 (aloneN u), .float .f64 0, .string (aloneS L u), .slice none 0 0], .bool (aloneB L u)]) ∧ Below w.heap.size w w' := by
  have RT := hidb (right_any u h0 h1)
  rw [hr] at RT
  have TG := hidb (tag_any u h0 h1)
  have BD := hidb (body_any u h0 h1)
  have TB := hidb (fun w' (hb' : Below w.heap.size w w') => table_any (h.keep hb').tri)
  have TX := hidb (fun w' (hb' : Below w.heap.size w w') => text_any (h.keep hb').tab (bodyI u))
  clear h hr
  unfold aloneK aloneN aloneS aloneB
  generalize tagI u = T at *
  generalize bodyI u = B at *
  rcases ht with rfl | rfl | rfl | rfl
  · go_enter Tryz.func52, Tryz.ntmps52
    go_wp2_with (first | (go_at_call 82; refine (RT.out _).mono ?_; rintro e w' ⟨rfl, rfl⟩) | (go_at_call 81; refine (TG.out _).mono ?_; rintro e w' ⟨rfl, rfl⟩) | (go_at_call 78; refine (BD.out _).mono ?_; rintro e w' ⟨rfl, rfl⟩))
    exact bodyPost_ret (v := .tuple #[.agg #[.int .i64 1, .int .i64 B, .float .f64 0, .string ⟨#[]⟩, .slice none 0 0], .bool true]) (by simp [results, Tryz.results52, go_sem]) rfl ⟨rfl, below_new w _⟩
  · generalize txOf L B = S at *
    generalize txIs L B = I at *
    go_enter Tryz.func52, Tryz.ntmps52
    go_wp2_with (first | (go_at_call 82; refine (RT.out _).mono ?_; rintro e w' ⟨rfl, rfl⟩) | (go_at_call 81; refine (TG.out _).mono ?_; rintro e w' ⟨rfl, rfl⟩) | (go_at_call 78; refine (BD.out _).mono ?_; rintro e w' ⟨rfl, rfl⟩) | (go_at_call 42; refine (TB.out _ (below_new w _)).mono ?_; rintro e w' ⟨rfl, rfl⟩) | (go_at_call 83; refine (TX.out _ (below_new w _)).mono ?_; rintro e w' ⟨rfl, rfl⟩))
    exact bodyPost_ret (v := .tuple #[.agg #[.int .i64 3, .int .i64 0, .float .f64 0, .string S, .slice none 0 0], .bool I]) (by simp [results, Tryz.results52, go_sem]) rfl ⟨rfl, below_new w _⟩
  · go_enter Tryz.func52, Tryz.ntmps52
    go_wp2_with (first | (go_at_call 82; refine (RT.out _).mono ?_; rintro e w' ⟨rfl, rfl⟩) | (go_at_call 81; refine (TG.out _).mono ?_; rintro e w' ⟨rfl, rfl⟩) | (go_at_call 78; refine (BD.out _).mono ?_; rintro e w' ⟨rfl, rfl⟩))
    exact bodyPost_ret (v := .tuple #[.agg #[.int .i64 6, .int .i64 B, .float .f64 0, .string ⟨#[]⟩, .slice none 0 0], .bool true]) (by simp [results, Tryz.results52, go_sem]) rfl ⟨rfl, below_new w _⟩
  · go_enter Tryz.func52, Tryz.ntmps52
    go_wp2_with (first | (go_at_call 82; refine (RT.out _).mono ?_; rintro e w' ⟨rfl, rfl⟩) | (go_at_call 81; refine (TG.out _).mono ?_; rintro e w' ⟨rfl, rfl⟩) | (go_at_call 78; refine (BD.out _).mono ?_; rintro e w' ⟨rfl, rfl⟩))
    exact bodyPost_ret (v := .tuple #[.agg #[.int .i64 8, .int .i64 0, .float .f64 0, .string ⟨#[]⟩, .slice none 0 0], .bool true]) (by simp [results, Tryz.results52, go_sem]) rfl ⟨rfl, below_new w _⟩
end Go.Proofs.YtmijabhnbmmmfaaGreat


/- Blocks read: pair, block. -/
namespace Go.Proofs.YtmijabhnbmmmfaaGreat
open Go.RowKit Go.Deep
attribute [local go_sem] store_float f64bits f64frombits
attribute [local go_sem ↓] Go.wp_at_zero Go.wp_at_succ

theorem hp_cell {w : World} {hb ab most : Nat} {ws : List Int} {L : List ByteArray} {F : List Nat} {a : Option Addr} {c : Nat} (h : HP w hb ab most ws L F a c) (p : Nat) (x : Int) (hw : ws[p]? = some x) : ∃ g, a = some ⟨g, 0, none⟩ ∧ g < w.heap.size ∧ p < ws.length ∧ ∀ w', Below w.heap.size w w' → w'.cell? ⟨g, p, none⟩ = some (.int .u64 x) := by
  have hp : p < ws.length := by
    rcases Nat.lt_or_ge p ws.length with h | h
    · exact h
    · rw [List.getElem?_eq_none h] at hw; simp at hw
  rcases h.row with ⟨_, _, e⟩ | ⟨g, cs, e, h1, h2, h3, h4⟩
  · rw [e] at hp; simp at hp
  · refine ⟨g, e, h4, hp, fun w' hb => ?_⟩
    rw [hb.cell h4]
    have := (h1 p (by omega)).1
    rwa [h3 p x hw] at this

/-- A pair as it is read. -/
def prV (g p : Nat) (y : Int) : Value :=
  .agg #[.slice (some ⟨g, p, none⟩) 2 2, .int .i64 8, .int .i64 0, .float .f64 0, .string ⟨#[]⟩, .slice none 0 0, .slice (some ⟨g, p, none⟩) 1 2, .int .u64 y]

set_option maxHeartbeats 1600000 in
set_option maxRecDepth 100000 in
theorem pair_ok {w : World} {hb ab most : Nat} {ws : List Int} {L : List ByteArray} {F : List Nat} {a : Option Addr} {c : Nat} (h : HP w hb ab most ws L F a c) (g p : Nat) (ha : a = some ⟨g, 0, none⟩) (y : Int) (hy : ws[p + 1]? = some y) (y0 : 0 ≤ y) (y1 : y ≤ 18446744073709551615) (ht : tagI y = 4 ∨ tagI y = 6) :
    Calls Tryz.prog 84 #[.pointer (some ⟨hb, 0, none⟩), .int .i64 p] w fun e w' => e = .returned (.tuple #[prV g p y, .bool true]) ∧ Below w.heap.size w w' := by
  obtain ⟨g1, e1, hgl, hl1, hc1⟩ := hp_cell h (p + 1) y hy
  rw [ha] at e1
  obtain rfl : g = g1 := by simpa using e1
  have C1 := hidb (fun w' (hb' : Below w.heap.size w w') => hcut_in (h.keep hb') g ha p 2 (by omega) (by omega))
  have TG := hidb (tag_any y y0 y1)
  have hcc : ∀ o, (w.alloc o).cell? ⟨g, p + 1, none⟩ = some (.int .u64 y) := fun o => hc1 _ (below_new w o)
  have hne1 : ¬ g = w.heap.size := by omega
  have hne2 : ¬ w.heap.size = g := by omega
  unfold prV
  generalize tagI y = T at *
  clear h hy hc1
  rcases ht with rfl | rfl
  all_goals
    go_enter Tryz.func84, Tryz.ntmps84
    go_wp2_with (first | (go_at_call 97; refine (C1.out _ (below_new w _)).mono ?_; rintro e w' ⟨rfl, rfl⟩) | (go_at_call 81; refine (TG.out _).mono ?_; rintro e w' ⟨rfl, rfl⟩))
    go_region_held3 (fun w' => w'.cell? ⟨g, p + 1, none⟩ = some (.int .u64 y)) (go_keep) (fail)
    go_wp2
    exact bodyPost_ret (v := .tuple #[.agg #[.slice (some ⟨g, p, none⟩) 2 2, .int .i64 8, .int .i64 0, .float .f64 0, .string ⟨#[]⟩, .slice none 0 0, .slice (some ⟨g, p, none⟩) 1 2, .int .u64 y], .bool true]) (by simp [results, Tryz.results84, go_sem]) rfl ⟨rfl, by first | exact (below_new w _).drew | exact below_new w _⟩

set_option maxHeartbeats 1600000 in
set_option maxRecDepth 100000 in
theorem block_of (hb : Nat) (u : Int) (p : Nat) (A B : Addr) (n m c f : Nat) (k N y : Int) (h0 : 0 ≤ u) (h1 : u ≤ 18446744073709551615) (hB : bodyI u = p) (w : World)
    (h : (tagI u = 6 ∧ ∀ w', Below w.heap.size w w' → Calls Tryz.prog 84 #[.pointer (some ⟨hb, 0, none⟩), .int .i64 p] w' fun e w'' => e = .returned (.tuple #[.agg #[.slice (some A) n n, .int .i64 k, .int .i64 N, .float .f64 f, .string ⟨#[]⟩, .slice none 0 0, .slice (some B) m c, .int .u64 y], .bool true]) ∧ Below w'.heap.size w' w'') ∨
      (tagI u = 5 ∧ ∀ w', Below w.heap.size w w' → Calls Tryz.prog 85 #[.pointer (some ⟨hb, 0, none⟩), .int .i64 p] w' fun e w'' => e = .returned (.tuple #[.agg #[.slice (some A) n n, .int .i64 k, .int .i64 N, .float .f64 f, .string ⟨#[]⟩, .slice none 0 0, .slice (some B) m c, .int .u64 y], .bool true]) ∧ Below w'.heap.size w' w'')) :
    Calls Tryz.prog 53 #[.pointer (some ⟨hb, 0, none⟩), .int .u64 u] w fun e w' => e = .returned (.tuple #[.agg #[.slice (some A) n n, .int .i64 k, .int .i64 N, .float .f64 f, .string ⟨#[]⟩, .slice none 0 0, .slice (some B) m c, .int .u64 y], .bool true]) ∧ Below w.heap.size w w' := by
  have TG := hidb (tag_any u h0 h1)
  have BD := hidb (body_any u h0 h1)
  rw [hB] at BD
  clear hB
  rcases h with ⟨ht, h⟩ | ⟨ht, h⟩
  · skip
    have H := hidb h
    rw [ht] at TG
    clear h ht
    go_enter Tryz.func53, Tryz.ntmps53
    go_wp2_with (first | (go_at_call 81; refine (TG.out _).mono ?_; rintro e w' ⟨rfl, rfl⟩) | (go_at_call 78; refine (BD.out _).mono ?_; rintro e w' ⟨rfl, rfl⟩) | (go_at_call 84; refine (H.out _ (below_new w _)).mono ?_; rintro e w1 ⟨rfl, hb1⟩; have HB := hidb (below_in hb1); obtain ⟨o0, o1, o2, o3, o4, o5, o6, o7, s0, s1, s2, s3, s4, s5, s6, s7, _⟩ := (Oct.new w 129 (.slice none 0 0) (.int .i64 0) (.int .i64 0) (.float .f64 0) (.string ⟨#[]⟩) (.slice none 0 0) (.slice none 0 0) (.int .u64 0)).keep hb1))
    exact bodyPost_ret (v := .tuple #[.agg #[.slice (some A) n n, .int .i64 k, .int .i64 N, .float .f64 f, .string ⟨#[]⟩, .slice none 0 0, .slice (some B) m c, .int .u64 y], .bool true]) (by simp [results, Tryz.results53, go_sem, o0, o1, o2, o3, o4, o5, o6, o7]) rfl
      ⟨rfl, (((((((HB.out.setCell (Nat.le_refl _) _).setCell (Nat.le_refl _) _).setCell (Nat.le_refl _) _).setCell (Nat.le_refl _) _).setCell (Nat.le_refl _) _).setCell (Nat.le_refl _) _).setCell (Nat.le_refl _) _).setCell (Nat.le_refl _) _⟩
  · skip
    have H := hidb h
    rw [ht] at TG
    clear h ht
    go_enter Tryz.func53, Tryz.ntmps53
    go_wp2_with (first | (go_at_call 81; refine (TG.out _).mono ?_; rintro e w' ⟨rfl, rfl⟩) | (go_at_call 78; refine (BD.out _).mono ?_; rintro e w' ⟨rfl, rfl⟩) | (go_at_call 85; refine (H.out _ (below_new w _)).mono ?_; rintro e w1 ⟨rfl, hb1⟩; have HB := hidb (below_in hb1); obtain ⟨o0, o1, o2, o3, o4, o5, o6, o7, s0, s1, s2, s3, s4, s5, s6, s7, _⟩ := (Oct.new w 129 (.slice none 0 0) (.int .i64 0) (.int .i64 0) (.float .f64 0) (.string ⟨#[]⟩) (.slice none 0 0) (.slice none 0 0) (.int .u64 0)).keep hb1))
    exact bodyPost_ret (v := .tuple #[.agg #[.slice (some A) n n, .int .i64 k, .int .i64 N, .float .f64 f, .string ⟨#[]⟩, .slice none 0 0, .slice (some B) m c, .int .u64 y], .bool true]) (by simp [results, Tryz.results53, go_sem, o0, o1, o2, o3, o4, o5, o6, o7]) rfl
      ⟨rfl, (((((((HB.out.setCell (Nat.le_refl _) _).setCell (Nat.le_refl _) _).setCell (Nat.le_refl _) _).setCell (Nat.le_refl _) _).setCell (Nat.le_refl _) _).setCell (Nat.le_refl _) _).setCell (Nat.le_refl _) _).setCell (Nat.le_refl _) _⟩
end Go.Proofs.YtmijabhnbmmmfaaGreat


