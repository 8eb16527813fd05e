/- A tree and the document's, side by side, where the tree's nodes keep off Z; a row of acts done on both. -/
import Derived.Test.YtejjffgolipdmaaAvP
namespace Go.Proofs.Ytejjffgolipdmaa
open Go.RowKit Go.Shelf
attribute [local go_sem] Oper.semAt_some
attribute [local go_sem ↓] Go.wp_at_zero Go.wp_at_succ

/-- As PR, and no node of the tree is one of Z. -/
def PZ (w : World) (B : Nat) (X Z : Nat → Prop) (tb rb : Nat) (L1 L2 : List KV) : Prop :=
  ∃ D E : Nat → Prop, TB w tb D L1 ∧ RB w rb E L2 ∧ (∀ k, D k → B ≤ k ∧ k < w.heap.size ∧ k ≠ rb ∧ ¬ E k) ∧ (∀ k, E k → B ≤ k ∧ k < w.heap.size ∧ k ≠ tb ∧ ¬ X k) ∧ tb ≠ rb ∧ B ≤ tb ∧ B ≤ rb ∧ ¬ X tb ∧ ¬ X rb ∧ (∀ k, X k → k < w.heap.size) ∧ (∀ k, D k → ¬ Z k) ∧ ∀ k, Z k → k < w.heap.size

section
variable {w w' : World} {B tb rb : Nat} {X Z : Nat → Prop} {L1 L2 : List KV}
theorem PZ.pr (h : PZ w B X Z tb rb L1 L2) : PR w B X tb rb L1 L2 := by
  obtain ⟨D, E, h1, h2, h3, h4, h5, h6, h7, h8, h9, h10, -, -⟩ := h
  exact ⟨D, E, h1, h2, h3, h4, h5, h6, h7, h8, h9, h10⟩
theorem PZ.rise1 (h : PZ w B X Z tb rb L1 L2) : Rise L1 := h.pr.rise1
theorem PZ.keep (h : PZ w B X Z tb rb L1 L2) (hb : Below w.heap.size w w') : PZ w' B X Z tb rb L1 L2 := by
  obtain ⟨D, E, h1, h2, h3, h4, h5, h6, h7, h8, h9, h10, h11, h12⟩ := h
  have hs := hb.size
  exact ⟨D, E, h1.keep hb, h2.keep hb, fun k hk => by obtain ⟨a, b, c⟩ := h3 k hk; exact ⟨a, by omega, c⟩, fun k hk => by obtain ⟨a, b, c⟩ := h4 k hk; exact ⟨a, by omega, c⟩, h5, h6, h7, h8, h9, fun k hk => by have := h10 k hk; omega, h11, fun k hk => by have := h12 k hk; omega⟩
theorem PZ.first {L1' : List KV} {D E : Nat → Prop} (h2 : RB w rb E L2) (h3 : ∀ k, D k → B ≤ k ∧ k < w.heap.size ∧ k ≠ rb ∧ ¬ E k) (h4 : ∀ k, E k → B ≤ k ∧ k < w.heap.size ∧ k ≠ tb ∧ ¬ X k) (h5 : tb ≠ rb) (h6 : B ≤ tb) (h7 : B ≤ rb) (h8 : ¬ X tb) (h9 : ¬ X rb) (h10 : ∀ k, X k → k < w.heap.size) (h11 : ∀ k, D k → ¬ Z k) (h12 : ∀ k, Z k → k < w.heap.size) (_ : B ≤ w.heap.size)
    (ht : TB w' tb (Nw D w w') L1') (hb : But (fun k => k = tb) w w') : PZ w' B X Z tb rb L1' L2 ∧ But (fun k => B ≤ k ∧ ¬ X k) w w' := by
  have hs := hb.size
  have hr := h2.lt
  refine ⟨⟨Nw D w w', E, ht, h2.but hb (by simpa using h5.symm) (fun k hk e => (h4 k hk).2.2.1 e), fun k hk => ?_, fun k hk => by obtain ⟨a, b, c⟩ := h4 k hk; exact ⟨a, by omega, c⟩, h5, h6, h7, h8, h9, fun k hk => by have := h10 k hk; omega, fun k hk => ?_, fun k hk => by have := h12 k hk; omega⟩, hb.mono (fun k _ e => by subst e; exact ⟨h6, h8⟩)⟩
  · rcases hk with hk | ⟨ha, hc⟩
    · obtain ⟨a, b, c⟩ := h3 k hk; exact ⟨a, by omega, c⟩
    · exact ⟨by omega, hc, by omega, fun e => by have := (h4 k e).2.1; omega⟩
  · rcases hk with hk | ⟨ha, hc⟩
    · exact h11 k hk
    · exact fun z => by have := h12 k z; omega

theorem PZ.second {L2' : List KV} {D E : Nat → Prop} (h1 : TB w tb D L1) (h3 : ∀ k, D k → B ≤ k ∧ k < w.heap.size ∧ k ≠ rb ∧ ¬ E k) (h4 : ∀ k, E k → B ≤ k ∧ k < w.heap.size ∧ k ≠ tb ∧ ¬ X k) (h5 : tb ≠ rb) (h6 : B ≤ tb) (h7 : B ≤ rb) (h8 : ¬ X tb) (h9 : ¬ X rb) (h10 : ∀ k, X k → k < w.heap.size) (h11 : ∀ k, D k → ¬ Z k) (h12 : ∀ k, Z k → k < w.heap.size) (_ : B ≤ w.heap.size)
    (ht : RB w' rb (Ne E w w') L2') (hb : But (fun k => k = rb ∨ E k) w w') : PZ w' B X Z tb rb L1 L2' ∧ But (fun k => B ≤ k ∧ ¬ X k) w w' := by
  have hs := hb.size
  have hr := h1.lt
  refine ⟨⟨D, Ne E w w', h1.but hb (fun k hk e => by obtain ⟨a, b, c, d⟩ := h3 k hk; rcases e with e | e; exact c e; exact d e) (fun e => by rcases e with e | e; exact h5 e; exact (h4 _ e).2.2.1 rfl), ht, fun k hk => ?_, fun k hk => ?_, h5, h6, h7, h8, h9, fun k hk => by have := h10 k hk; omega, h11, fun k hk => by have := h12 k hk; omega⟩, hb.mono (fun k _ e => by rcases e with rfl | e; exact ⟨h7, h9⟩; exact ⟨(h4 k e).1, (h4 k e).2.2.2⟩)⟩
  · obtain ⟨a, b, c, d⟩ := h3 k hk
    exact ⟨a, by omega, c, fun x => by rcases x with x | x; exact d x; omega⟩
  · rcases hk with hk | ⟨ha, hc⟩
    · obtain ⟨a, b, c⟩ := h4 k hk; exact ⟨a, by omega, c⟩
    · exact ⟨by omega, hc, by omega, fun e => by have := h10 k e; omega⟩

theorem PZ.put (h : PZ w B X Z tb rb L1 L2) (hN : L1.length < 10000000) (key v : Int) (hk : -9223372036854775808 ≤ key) :
    Calls Try.prog 10 #[.pointer (some ⟨tb, 0, none⟩), .int .i64 key, .int .i64 v] w fun e w' => e = .returned (.bool (!(getL key L1).isSome)) ∧ PZ w' B X Z tb rb (insL key v L1) L2 ∧ But (fun k => B ≤ k ∧ ¬ X k) w w' := by
  obtain ⟨D, E, h1, h2, h3, h4, h5, h6, h7, h8, h9, h10, h11, h12⟩ := h
  exact (put_any h1 hN key v hk).mono (fun e w' ⟨a, b, c⟩ => ⟨a, PZ.first h2 h3 h4 h5 h6 h7 h8 h9 h10 h11 h12 (by have := h1.lt; omega) b c⟩)
theorem PZ.drop (h : PZ w B X Z tb rb L1 L2) (hN : L1.length < 10000000) (key : Int) :
    Calls Try.prog 12 #[.pointer (some ⟨tb, 0, none⟩), .int .i64 key] w fun e w' => e = .returned (.bool (getL key L1).isSome) ∧ PZ w' B X Z tb rb (delL key L1) L2 ∧ But (fun k => B ≤ k ∧ ¬ X k) w w' := by
  obtain ⟨D, E, h1, h2, h3, h4, h5, h6, h7, h8, h9, h10, h11, h12⟩ := h
  exact (drop_any h1 hN key).mono (fun e w' ⟨a, b, c⟩ => ⟨a, PZ.first h2 h3 h4 h5 h6 h7 h8 h9 h10 h11 h12 (by have := h1.lt; omega) b c⟩)
theorem PZ.rput (h : PZ w B X Z tb rb L1 L2) (hr : Rise L2) (hN : L2.length ≤ 90000) (key v : Int) :
    Calls Try.prog 15 #[.pointer (some ⟨rb, 0, none⟩), .int .i64 key, .int .i64 v] w fun e w' => e = .returned (.bool (!(getL key L2).isSome)) ∧ PZ w' B X Z tb rb L1 (insL key v L2) ∧ But (fun k => B ≤ k ∧ ¬ X k) w w' := by
  obtain ⟨D, E, h1, h2, h3, h4, h5, h6, h7, h8, h9, h10, h11, h12⟩ := h
  exact (rput_any h2 hr key v hN).mono (fun e w' ⟨a, b, c⟩ => ⟨a, PZ.second h1 h3 h4 h5 h6 h7 h8 h9 h10 h11 h12 (by have := h1.lt; omega) b c⟩)
theorem PZ.rdrop (h : PZ w B X Z tb rb L1 L2) (hr : Rise L2) (hN : L2.length ≤ 90000) (key : Int) :
    Calls Try.prog 16 #[.pointer (some ⟨rb, 0, none⟩), .int .i64 key] w fun e w' => e = .returned (.bool (getL key L2).isSome) ∧ PZ w' B X Z tb rb L1 (delL key L2) ∧ But (fun k => B ≤ k ∧ ¬ X k) w w' := by
  obtain ⟨D, E, h1, h2, h3, h4, h5, h6, h7, h8, h9, h10, h11, h12⟩ := h
  exact (rdrop_any h2 hr key hN).mono (fun e w' ⟨a, b, c⟩ => ⟨a, PZ.second h1 h3 h4 h5 h6 h7 h8 h9 h10 h11 h12 (by have := h1.lt; omega) b c⟩)
end

set_option maxRecDepth 100000 in
set_option maxHeartbeats 8000000 in
theorem done_z {w0 w : World} {B tb rb : Nat} {X Z : Nat → Prop} {L : List KV} {v0 : Value} {l : List (Int × Int × Int)} (hl : AC w0 v0 l) (hwf : ∀ x ∈ l, (-9223372036854775808 : Int) ≤ x.2.1) (hb0 : Below w0.heap.size w0 w) (h0B : w0.heap.size ≤ B) (h : PZ w B X Z tb rb L L) (hN : L.length + l.length ≤ 3000) :
    Calls Try.prog 6 #[.pointer (some ⟨tb, 0, none⟩), .pointer (some ⟨rb, 0, none⟩), v0] w fun e w' => e = .returned (.tuple #[]) ∧ ∃ M, PZ w' B X Z tb rb M M ∧ M.length ≤ L.length + l.length ∧ But (fun k => B ≤ k ∧ ¬ X k) w w' := by
  obtain ⟨q, c, rfl, hcl⟩ := hl
  have HC := hidb hcl
  have HWF := hidb hwf
  have HB0 := hidb hb0
  have H0B := hidb h0B
  have HP0 := hidb h
  have HN := hidb hN
  clear hcl hwf hb0 h0B h hN
  go_enter Try.func6, Try.ntmps6
  go_wp2_with fail
  go_loopw [6] (fun iv wr => ∃ (i : Nat) (M : List KV), iv = .int .i64 (i : Int) ∧ i ≤ l.length ∧ PZ wr B X Z tb rb M M ∧ M.length ≤ L.length + i ∧ But (fun k => B ≤ k ∧ ¬ X k) w wr) (fun iv _ => l.length - (intOf iv).toNat)
  case atStart => exact ⟨0, L, rfl, by omega, HP0.out, by omega, But.refl _ _⟩
  case round =>
    obtain ⟨i, M, rfl, hi, hP, hLi, hB⟩ := hrel
    have HP := hidb hP
    have HI := hidb (⟨hi, hLi⟩ : i ≤ l.length ∧ M.length ≤ L.length + i)
    have HBW := hidb hB
    clear hi hP hLi hB
    by_cases hlt : i < l.length
    · have hlt' : (i : Int) < (l.length : Int) := by omega
      obtain ⟨x0, x1, x2, hx⟩ : ∃ x0 x1 x2 : Int, l[i]? = some (x0, x1, x2) := ⟨_, _, _, List.getElem?_eq_getElem hlt⟩
      obtain ⟨b, o, rfl, y0, y1, y2⟩ := HC.out i _ hx
      have hk : -9223372036854775808 ≤ x1 := HWF.out _ (List.mem_of_getElem? hx)
      have hbw : b < w0.heap.size := World.block_lt_of_cell? _ _ y0
      have hbB : ¬ B ≤ b := by have := H0B.out; omega
      have kp : ∀ w', But (fun k => B ≤ k ∧ ¬ X k) w w' → w'.cell? ⟨b, o + i * 3, none⟩ = some (.int .i64 x0) ∧ w'.cell? ⟨b, o + i * 3 + 1, none⟩ = some (.int .i64 x1) ∧ w'.cell? ⟨b, o + i * 3 + 2, none⟩ = some (.int .i64 x2) := fun w' hb => by
        have hbs : b < w.heap.size := Nat.lt_of_lt_of_le hbw HB0.out.size
        exact ⟨(hb.cell (p := ⟨b, o + i * 3, none⟩) hbs (fun z => hbB z.1)).trans ((HB0.out.cell (p := ⟨b, o + i * 3, none⟩) hbw).trans y0), (hb.cell (p := ⟨b, o + i * 3 + 1, none⟩) hbs (fun z => hbB z.1)).trans ((HB0.out.cell (p := ⟨b, o + i * 3 + 1, none⟩) hbw).trans y1), (hb.cell (p := ⟨b, o + i * 3 + 2, none⟩) hbs (fun z => hbB z.1)).trans ((HB0.out.cell (p := ⟨b, o + i * 3 + 2, none⟩) hbw).trans y2)⟩
      obtain ⟨m0, m1, m2⟩ := kp wr HBW.out
      have hlen : M.length ≤ 90000 := by have := HI.out; have := HN.out; omega
      have hr := HP.out.rise1
      have HS0 : Hid (wr.drew.cell? ⟨b, o + i * 3 + 1, none⟩ = some (.int .i64 x1) ∧ wr.drew.cell? ⟨b, o + i * 3 + 2, none⟩ = some (.int .i64 x2)) := hidb (kp _ HBW.out.drew).2
      have C1 := hidb (((HP.out.keep ((Below.refl _ _).drew)).put (by omega) x1 x2 hk).mono (R' := fun e w' => ∃ bb, e = .returned (.bool bb) ∧ Hid (w'.cell? ⟨b, o + i * 3 + 1, none⟩ = some (.int .i64 x1) ∧ w'.cell? ⟨b, o + i * 3 + 2, none⟩ = some (.int .i64 x2)) ∧ Hid (w'.drew.cell? ⟨b, o + i * 3 + 1, none⟩ = some (.int .i64 x1) ∧ w'.drew.cell? ⟨b, o + i * 3 + 2, none⟩ = some (.int .i64 x2)) ∧ Hid (Calls Try.prog 15 #[.pointer (some ⟨rb, 0, none⟩), .int .i64 x1, .int .i64 x2] w'.drew fun e w' => ∃ bb M', e = .returned (.bool bb) ∧ Hid (w'.cell? ⟨b, o + i * 3 + 1, none⟩ = some (.int .i64 x1) ∧ w'.cell? ⟨b, o + i * 3 + 2, none⟩ = some (.int .i64 x2)) ∧ Hid (PZ w' B X Z tb rb M' M' ∧ M'.length ≤ M.length + 1 ∧ But (fun k => B ≤ k ∧ ¬ X k) w w'))) (fun e w1 ⟨he, hP1, hB1⟩ => ⟨_, he, hidb (kp w1 (HBW.out.drew.trans hB1)).2, hidb (kp _ (HBW.out.drew.trans hB1).drew).2, hidb (((hP1.keep ((Below.refl _ _).drew)).rput hr hlen x1 x2).mono (fun e w2 ⟨he2, hP2, hB2⟩ => ⟨_, _, he2, hidb (kp w2 ((HBW.out.drew.trans hB1).drew.trans hB2)).2, hidb ⟨hP2, by rw [ins_len hr]; split <;> omega, (HBW.out.drew.trans hB1).drew.trans hB2⟩⟩))⟩))
      have C3 := hidb ((HP.out.drop (by omega) x1).mono (R' := fun e w' => ∃ bb, e = .returned (.bool bb) ∧ (w'.cell? ⟨b, o + i * 3, none⟩ = some (.int .i64 x0) ∧ w'.cell? ⟨b, o + i * 3 + 1, none⟩ = some (.int .i64 x1) ∧ w'.cell? ⟨b, o + i * 3 + 2, none⟩ = some (.int .i64 x2)) ∧ Hid (Calls Try.prog 16 #[.pointer (some ⟨rb, 0, none⟩), .int .i64 x1] w' fun e w' => ∃ bb M', e = .returned (.bool bb) ∧ Hid (PZ w' B X Z tb rb M' M' ∧ M'.length ≤ M.length + 1 ∧ But (fun k => B ≤ k ∧ ¬ X k) w w'))) (fun e w1 ⟨he, hP1, hB1⟩ => ⟨_, he, kp w1 (HBW.out.trans hB1), hidb ((hP1.rdrop hr hlen x1).mono (fun e w2 ⟨he2, hP2, hB2⟩ => ⟨_, _, he2, hidb ⟨hP2, Nat.le_succ_of_le (List.length_filter_le _ _), (HBW.out.trans hB1).trans hB2⟩⟩))⟩))
      have HLX : Hid (i < l.length ∧ M.length ≤ L.length + i ∧ i < 3000) := hidb (by have := HI.out; have := HN.out; omega)
      have hi8 : (l.length : Int) ≤ 3000 := by have := HN.out; omega
      clear y0 y1 y2 hbw hbB kp hx hk hlen hr HP HI HBW
      go_wp2_with (first
        | (go_at_call 12; refine C3.out.mono ?_; clear C1 C3; rintro e w3 ⟨bb, rfl, ⟨n0, n1, n2⟩, C2⟩)
        | (go_at_call 16; refine C2.out.mono ?_; clear C2; rintro e w4 ⟨bb2, M', rfl, HF⟩))
      · clear C3
        go_region_held3 (fun w' => w'.cell? ⟨b, o + i * 3 + 1, none⟩ = some (.int .i64 x1) ∧ w'.cell? ⟨b, o + i * 3 + 2, none⟩ = some (.int .i64 x2)) (first | with_reducible exact HS0.out | with_reducible exact HS1.out) (first
          | (go_at_call 10; refine C1.out.mono ?_; clear C1; rintro e w3 ⟨bb, rfl, HS1, HS2, C2⟩))
        go_wp2_with fail
        go_region_held3 (fun w' => w'.cell? ⟨b, o + i * 3 + 1, none⟩ = some (.int .i64 x1) ∧ w'.cell? ⟨b, o + i * 3 + 2, none⟩ = some (.int .i64 x2)) (first | with_reducible exact HS2.out | with_reducible exact HS3.out) (first
          | (go_at_call 15; refine C2.out.mono ?_; clear C2; rintro e w4 ⟨bb2, M', rfl, HS3, HF⟩))
        go_wp2_with fail
        go_roundw
        case rel =>
          obtain ⟨f1, f2, f3⟩ := HF.out
          have := HLX.out
          exact ⟨i + 1, M', by simp, by omega, f1, by omega, f3⟩
        case measure =>
          have := HLX.out
          simp only [RowKit.intOf]
          omega
      · go_roundw
        case rel =>
          obtain ⟨f1, f2, f3⟩ := HF.out
          have := HLX.out
          exact ⟨i + 1, M', by simp, by omega, f1, by omega, f3⟩
        case measure =>
          have := HLX.out
          simp only [RowKit.intOf]
          omega
    · have hlt' : ¬ (i : Int) < (l.length : Int) := by omega
      go_wp2_with fail
      go_end0
      have hi := HI.out
      exact ⟨rfl, M, HP.out, by omega, HBW.out⟩

end Go.Proofs.Ytejjffgolipdmaa
