/- Quotations as tokens. -/
import Derived.Test.YtecgddiohoeboaaDoorLxE
namespace Go.Proofs.YtecgddiohoeboaaDoor
open Go.RowKit Go.Lib
attribute [local go_sem] store_float f64bits
attribute [local go_sem ↓] Go.wp_at_zero Go.wp_at_succ

def atomV (x : ByteArray) : Value := if 64 < x.size then badV 23 else .tuple #[.agg #[.int .i64 (1), .string (x), .int .i64 (0), .float .f64 (0), .int .i64 (0)], .int .i64 0]
theorem atomV_tk (x : ByteArray) : IsTk (atomV x) := by
  unfold atomV
  split
  · exact badV_tk _
  · exact ⟨_, _, _, _, _, rfl⟩

def quoteV (s : ByteArray) (i : Nat) : Value :=
  match quotN s (bt s i) (s.size + 1) (i + 1) [] with
  | some (l, _) => if bt s i = 39 then atomV ⟨l.toArray⟩ else .tuple #[.agg #[.int .i64 (5), .string (⟨l.toArray⟩), .int .i64 (0), .float .f64 (0), .int .i64 (0)], .int .i64 0]
  | none => badV 23
def quoteE (s : ByteArray) (i : Nat) : Nat := ((quotN s (bt s i) (s.size + 1) (i + 1) []).map Prod.snd).getD i

theorem quotN_len (s : ByteArray) (m : Nat) : ∀ k p acc l e, p ≤ s.size → quotN s m k p acc = some (l, e) → l.length + p ≤ acc.length + e ∧ e ≤ s.size ∧ p < e := by
  intro k
  induction k with
  | zero => intro p acc l e _ h; cases h
  | succ k ih =>
    intro p acc l e hp h
    have h1 := goes_ge (pIn m) s p
    have h2 := goes_le (pIn m) s p hp
    have h3 : ((s.extract p (goes (pIn m) s p)).data.toList).length = goes (pIn m) s p - p := by
      have : (s.extract p (goes (pIn m) s p)).size = goes (pIn m) s p - p := by rw [size_ext]; omega
      exact this
    simp only [quotN] at h
    split at h
    · split at h
      · cases h
        rw [List.length_append, h3]
        omega
      · cases hx : escAt s (goes (pIn m) s p + 1) with
        | none => rw [hx] at h; cases h
        | some x =>
          rw [hx] at h
          obtain ⟨c, e'⟩ := x
          have h4 := esc_lt hx
          simp only [Option.bind_some] at h
          have h5 := ih _ _ _ _ (by omega) h
          rw [List.length_append, List.length_append, h3] at h5
          simp at h5
          omega
    · cases h

set_option maxHeartbeats 1000000 in
theorem quotation_any (s : ByteArray) (i b : Nat) (hi : i < s.size) (hm : bt s i = 39 ∨ bt s i = 34) (hs : s.size ≤ 65536) (w : World) (h : Sc w b s i) (hT : Lib.Utf8Tabs G1 G2 w) (hg : GB ≤ b) :
    Calls Tryd.prog 41 #[.pointer (some ⟨b, 0, none⟩)] w fun e w' => e = .returned (quoteV s i) ∧ But (· = b) w w' ∧ ∃ j, j ≤ s.size ∧ Sc w' b s j ∧ (okV (quoteV s i) = true → j = quoteE s i) := by
  have hlt := h.lt
  have GT1 : ∀ {w1 : World}, But (· = b) w w1 → Lib.Utf8Tabs G1 G2 w1 := fun hb => Utf8Tabs_but hT hb (fun e => by unfold GB at hg; unfold G1 at e; omega) (fun e => by unfold GB at hg; unfold G2 at e; omega)
  have cN := next_any s i b (by omega) hs (wbox w) (Duo.keep h (wbox_below w)) (GT1 (But.of_below (wbox_below w)))
  have hnx := nx_low hi (by omega)
  rw [hnx.1, hnx.2] at cN
  have cQ := fun W h1 h2 => quoted_any s (i + 1) b (bt s i) hm (by omega) hs W h1 h2 hg
  have hql := quotN_len s (bt s i) (s.size + 1) (i + 1) []
  unfold quoteV quoteE
  obtain ⟨o, ho⟩ : ∃ o, quotN s (bt s i) (s.size + 1) (i + 1) [] = o := ⟨_, rfl⟩
  rw [ho] at cQ ⊢
  have hql2 := fun l e hh => hql l e (by omega) (ho.trans hh)
  obtain ⟨m, hmm⟩ : ∃ m, bt s i = m := ⟨_, rfl⟩
  rw [hmm] at cN cQ hm ⊢
  clear hnx ho hmm hql hT
  cases o with
  | none =>
    simp only [quV, Option.map_none, Option.getD_none, Option.isSome_none] at cQ
    go_enter Tryd.func41, Tryd.ntmps41
    go_wp2_with (first
      | (go_at_call 55; refine cN.mono ?_; rintro e w1 ⟨rfl, hs1, hb1⟩; have HS1 := hidb hs1; have HB1 := hidb ((But.of_below (wbox_below w)).trans hb1); have HX1 := hidb ((wbox_box w).but hb1 (by omega)))
      | (go_at_call 63; refine (cQ _ HS1.out (GT1 HB1.out)).mono ?_; rintro e w2 ⟨rfl, hb2, j, hj1, hs2, hj2⟩; have HS2 := hidb hs2; have HB2 := hidb (HB1.out.trans hb2); have HJ := hidb hj1; have HX2 := hidb (HX1.out.but hb2 (by omega)); obtain ⟨d0, d1, d2, d3, d4, g0, g1, g2, g3, g4, _⟩ := HX2.out; clear hj1 hj2))
    exact bodyPost_ret (v := badV 23) (by simp [results, Tryd.results41, go_sem, d0, d1, d2, d3, d4]) rfl ⟨rfl, HB2.out.set5 (fun h => absurd h (Nat.lt_irrefl _)) _ _ _ _ _, j, HJ.out, Duo.set5 HS2.out (by omega) _ _ _ _ _, fun h => by cases h⟩
  | some le =>
    obtain ⟨l, en⟩ := le
    obtain ⟨hl1, hl2, hl3⟩ := hql2 l en rfl
    simp only [quV, Option.map_some, Option.getD_some, Option.isSome_some] at cQ ⊢
    obtain ⟨X, hX⟩ : ∃ X, (⟨l.toArray⟩ : ByteArray) = X := ⟨_, rfl⟩
    have hXs : X.size ≤ 65536 := by rw [← hX]; simp [ByteArray.size]; simp at hl1; omega
    rw [hX] at cQ ⊢
    clear hX hql2 hl1
    rcases hm with rfl | rfl
    · have cA := atom_any X hXs
      change ∀ w, Calls Tryd.prog 57 #[.string X] w fun e w' => e = .returned (atomV X) ∧ Below w.heap.size w w' at cA
      obtain ⟨k, x, n, f, er, hV⟩ := atomV_tk X
      simp only [hV, if_true] at cA ⊢
      clear hV
      go_enter Tryd.func41, Tryd.ntmps41
      go_wp2_with (first
        | (go_at_call 55; refine cN.mono ?_; rintro e w1 ⟨rfl, hs1, hb1⟩; have HS1 := hidb hs1; have HB1 := hidb ((But.of_below (wbox_below w)).trans hb1); have HX1 := hidb ((wbox_box w).but hb1 (by omega)))
        | (go_at_call 63; refine (cQ _ HS1.out (GT1 HB1.out)).mono ?_; rintro e w2 ⟨rfl, hb2, j, hj1, hs2, hj2⟩; obtain rfl := hj2 l en rfl; have HS2 := hidb hs2; have HB2 := hidb (HB1.out.trans hb2); have HX2 := hidb (HX1.out.but hb2 (by omega)); clear hj1 hj2)
        | (go_at_call 57; refine (cA _).mono ?_; rintro e w3 ⟨rfl, hb3⟩; have HB3 := hidb hb3; obtain ⟨z0, z1, z2, z3, z4, y0, y1, y2, y3, y4, _⟩ := HX2.out.keep hb3))
      exact bodyPost_ret (v := .tuple #[.agg #[.int .i64 (k), .string (x), .int .i64 (n), .float .f64 (f), .int .i64 (0)], .int .i64 er]) (by simp [results, Tryd.results41, go_sem, z0, z1, z2, z3, z4]) rfl ⟨rfl, (HB2.out.trans (But.of_below HB3.out)).set5 (fun h => absurd h (Nat.lt_irrefl _)) _ _ _ _ _, j, hl2, Duo.set5 (Duo.keep HS2.out HB3.out) (by omega) _ _ _ _ _, fun _ => rfl⟩
    · have h34 : ¬ ((34 : Nat) = 39) := by omega
      simp only [h34, if_false]
      go_enter Tryd.func41, Tryd.ntmps41
      go_wp2_with (first
        | (go_at_call 55; refine cN.mono ?_; rintro e w1 ⟨rfl, hs1, hb1⟩; have HS1 := hidb hs1; have HB1 := hidb ((But.of_below (wbox_below w)).trans hb1); have HX1 := hidb ((wbox_box w).but hb1 (by omega)))
        | (go_at_call 63; refine (cQ _ HS1.out (GT1 HB1.out)).mono ?_; rintro e w2 ⟨rfl, hb2, j, hj1, hs2, hj2⟩; obtain rfl := hj2 l en rfl; have HS2 := hidb hs2; have HB2 := hidb (HB1.out.trans hb2); have HX2 := hidb (HX1.out.but hb2 (by omega)); obtain ⟨d0, d1, d2, d3, d4, g0, g1, g2, g3, g4, _⟩ := HX2.out; clear hj1 hj2))
      exact bodyPost_ret (v := .tuple #[.agg #[.int .i64 (5), .string (X), .int .i64 (0), .float .f64 (0), .int .i64 (0)], .int .i64 0]) (by simp [results, Tryd.results41, go_sem, d0, d1, d2, d3, d4]) rfl ⟨rfl, HB2.out.set5 (fun h => absurd h (Nat.lt_irrefl _)) _ _ _ _ _, j, hl2, Duo.set5 HS2.out (by omega) _ _ _ _ _, fun _ => rfl⟩
end Go.Proofs.YtecgddiohoeboaaDoor
