import Derived.Test.YtdpfmmbfidknfaaGreatDoorG10
import Derived.Test.YtdpfmmbfidknfaaGreatDoorG04
import Derived.Deep.MidRow
/- Quotations as tokens. -/
namespace Go.Proofs.YtdpfmmbfidknfaaGreatDoor
open Go.RowKit Go.Lib
attribute [local go_sem] store_float f64bits
attribute [local go_sem ↓] Go.wp_at_zero Go.wp_at_succ

def atomV (x : ByteArray) : Value := if 64 < x.size then badV 23 else .tuple #[.agg #[.int .i64 (1), .string (x), .int .i64 (0), .float .f64 (0), .int .i64 (0)], .int .i64 0]
theorem atomV_tk (x : ByteArray) : IsTk (atomV x) := by
  unfold atomV
  split
  · exact badV_tk _
  · exact ⟨_, _, _, _, _, rfl⟩

def quoteV (s : ByteArray) (i : Nat) : Value :=
  match quotN s (bt s i) (s.size + 1) (i + 1) [] with
  | some (l, _) => if bt s i = 39 then atomV ⟨l.toArray⟩ else .tuple #[.agg #[.int .i64 (5), .string (⟨l.toArray⟩), .int .i64 (0), .float .f64 (0), .int .i64 (0)], .int .i64 0]
  | none => badV 23
def quoteE (s : ByteArray) (i : Nat) : Nat := ((quotN s (bt s i) (s.size + 1) (i + 1) []).map Prod.snd).getD i

theorem quotN_len (s : ByteArray) (m : Nat) : ∀ k p acc l e, p ≤ s.size → quotN s m k p acc = some (l, e) → l.length + p ≤ acc.length + e ∧ e ≤ s.size ∧ p < e := by
  intro k
  induction k with
  | zero => intro p acc l e _ h; cases h
  | succ k ih =>
    intro p acc l e hp h
    have h1 := goes_ge (pIn m) s p
    have h2 := goes_le (pIn m) s p hp
    have h3 : ((s.extract p (goes (pIn m) s p)).data.toList).length = goes (pIn m) s p - p := by
      have : (s.extract p (goes (pIn m) s p)).size = goes (pIn m) s p - p := by rw [size_ext]; omega
      exact this
    simp only [quotN] at h
    split at h
    · split at h
      · cases h
        rw [List.length_append, h3]
        omega
      · cases hx : escAt s (goes (pIn m) s p + 1) with
        | none => rw [hx] at h; cases h
        | some x =>
          rw [hx] at h
          obtain ⟨c, e'⟩ := x
          have h4 := esc_lt hx
          simp only [Option.bind_some] at h
          have h5 := ih _ _ _ _ (by omega) h
          rw [List.length_append, List.length_append, h3] at h5
          simp at h5
          omega
    · cases h

set_option maxHeartbeats 1000000 in
theorem quotation_any (s : ByteArray) (i b : Nat) (hi : i < s.size) (hm : bt s i = 39 ∨ bt s i = 34) (hs : s.size ≤ 65536) (w : World) (h : Sc w b s i) (hT : Lib.Utf8Tabs G1 G2 w) (hg : GB ≤ b) :
    Calls Tryz.prog 30 #[.pointer (some ⟨b, 0, none⟩)] w fun e w' => e = .returned (quoteV s i) ∧ But (· = b) w w' ∧ ∃ j, j ≤ s.size ∧ Sc w' b s j ∧ (okV (quoteV s i) = true → j = quoteE s i) := by
  have hlt := h.lt
  have GT1 : ∀ {w1 : World}, But (· = b) w w1 → Lib.Utf8Tabs G1 G2 w1 := fun hb => Utf8Tabs_but hT hb (fun e => by unfold GB at hg; unfold G1 at e; omega) (fun e => by unfold GB at hg; unfold G2 at e; omega)
  have cN := next_any s i b (by omega) hs (wbox w) (Duo.keep h (wbox_below w)) (GT1 (But.of_below (wbox_below w)))
  have hnx := nx_low hi (by omega)
  rw [hnx.1, hnx.2] at cN
  have cQ := fun W h1 h2 => quoted_any s (i + 1) b (bt s i) hm (by omega) hs W h1 h2 hg
  have hql := quotN_len s (bt s i) (s.size + 1) (i + 1) []
  unfold quoteV quoteE
  obtain ⟨o, ho⟩ : ∃ o, quotN s (bt s i) (s.size + 1) (i + 1) [] = o := ⟨_, rfl⟩
  rw [ho] at cQ ⊢
  have hql2 := fun l e hh => hql l e (by omega) (ho.trans hh)
  obtain ⟨m, hmm⟩ : ∃ m, bt s i = m := ⟨_, rfl⟩
  rw [hmm] at cN cQ hm ⊢
  clear hnx ho hmm hql hT
  cases o with
  | none =>
    simp only [quV, Option.map_none, Option.getD_none, Option.isSome_none] at cQ
    go_enter Tryz.func30, Tryz.ntmps30
    go_wp2_with (first
      | (go_at_call 40; refine cN.mono ?_; rintro e w1 ⟨rfl, hs1, hb1⟩; have HS1 := hidb hs1; have HB1 := hidb ((But.of_below (wbox_below w)).trans hb1); have HX1 := hidb ((wbox_box w).but hb1 (by omega)))
      | (go_at_call 49; refine (cQ _ HS1.out (GT1 HB1.out)).mono ?_; rintro e w2 ⟨rfl, hb2, j, hj1, hs2, hj2⟩; have HS2 := hidb hs2; have HB2 := hidb (HB1.out.trans hb2); have HJ := hidb hj1; have HX2 := hidb (HX1.out.but hb2 (by omega)); obtain ⟨d0, d1, d2, d3, d4, g0, g1, g2, g3, g4, _⟩ := HX2.out; clear hj1 hj2))
    exact bodyPost_ret (v := badV 23) (by simp [results, Tryz.results30, go_sem, d0, d1, d2, d3, d4]) rfl ⟨rfl, HB2.out.set5 (fun h => absurd h (Nat.lt_irrefl _)) _ _ _ _ _, j, HJ.out, Duo.set5 HS2.out (by omega) _ _ _ _ _, fun h => by cases h⟩
  | some le =>
    obtain ⟨l, en⟩ := le
    obtain ⟨hl1, hl2, hl3⟩ := hql2 l en rfl
    simp only [quV, Option.map_some, Option.getD_some, Option.isSome_some] at cQ ⊢
    obtain ⟨X, hX⟩ : ∃ X, (⟨l.toArray⟩ : ByteArray) = X := ⟨_, rfl⟩
    have hXs : X.size ≤ 65536 := by rw [← hX]; simp [ByteArray.size]; simp at hl1; omega
    rw [hX] at cQ ⊢
    clear hX hql2 hl1
    rcases hm with rfl | rfl
    · have cA := atom_any X hXs
      change ∀ w, Calls Tryz.prog 43 #[.string X] w fun e w' => e = .returned (atomV X) ∧ Below w.heap.size w w' at cA
      obtain ⟨k, x, n, f, er, hV⟩ := atomV_tk X
      simp only [hV, if_true] at cA ⊢
      clear hV
      go_enter Tryz.func30, Tryz.ntmps30
      go_wp2_with (first
        | (go_at_call 40; refine cN.mono ?_; rintro e w1 ⟨rfl, hs1, hb1⟩; have HS1 := hidb hs1; have HB1 := hidb ((But.of_below (wbox_below w)).trans hb1); have HX1 := hidb ((wbox_box w).but hb1 (by omega)))
        | (go_at_call 49; refine (cQ _ HS1.out (GT1 HB1.out)).mono ?_; rintro e w2 ⟨rfl, hb2, j, hj1, hs2, hj2⟩; obtain rfl := hj2 l en rfl; have HS2 := hidb hs2; have HB2 := hidb (HB1.out.trans hb2); have HX2 := hidb (HX1.out.but hb2 (by omega)); clear hj1 hj2)
        | (go_at_call 43; refine (cA _).mono ?_; rintro e w3 ⟨rfl, hb3⟩; have HB3 := hidb hb3; obtain ⟨z0, z1, z2, z3, z4, y0, y1, y2, y3, y4, _⟩ := HX2.out.keep hb3))
      exact bodyPost_ret (v := .tuple #[.agg #[.int .i64 (k), .string (x), .int .i64 (n), .float .f64 (f), .int .i64 (0)], .int .i64 er]) (by simp [results, Tryz.results30, go_sem, z0, z1, z2, z3, z4]) rfl ⟨rfl, (HB2.out.trans (But.of_below HB3.out)).set5 (fun h => absurd h (Nat.lt_irrefl _)) _ _ _ _ _, j, hl2, Duo.set5 (Duo.keep HS2.out HB3.out) (by omega) _ _ _ _ _, fun _ => rfl⟩
    · have h34 : ¬ ((34 : Nat) = 39) := by omega
      simp only [h34, if_false]
      go_enter Tryz.func30, Tryz.ntmps30
      go_wp2_with (first
        | (go_at_call 40; refine cN.mono ?_; rintro e w1 ⟨rfl, hs1, hb1⟩; have HS1 := hidb hs1; have HB1 := hidb ((But.of_below (wbox_below w)).trans hb1); have HX1 := hidb ((wbox_box w).but hb1 (by omega)))
        | (go_at_call 49; refine (cQ _ HS1.out (GT1 HB1.out)).mono ?_; rintro e w2 ⟨rfl, hb2, j, hj1, hs2, hj2⟩; obtain rfl := hj2 l en rfl; have HS2 := hidb hs2; have HB2 := hidb (HB1.out.trans hb2); have HX2 := hidb (HX1.out.but hb2 (by omega)); obtain ⟨d0, d1, d2, d3, d4, g0, g1, g2, g3, g4, _⟩ := HX2.out; clear hj1 hj2))
      exact bodyPost_ret (v := .tuple #[.agg #[.int .i64 (5), .string (X), .int .i64 (0), .float .f64 (0), .int .i64 (0)], .int .i64 0]) (by simp [results, Tryz.results30, go_sem, d0, d1, d2, d3, d4]) rfl ⟨rfl, HB2.out.set5 (fun h => absurd h (Nat.lt_irrefl _)) _ _ _ _ _, j, hl2, Duo.set5 HS2.out (by omega) _ _ _ _ _, fun _ => rfl⟩
end Go.Proofs.YtdpfmmbfidknfaaGreatDoor


/- Signs. -/
namespace Go.Proofs.YtdpfmmbfidknfaaGreatDoor
open Go.RowKit Go.Lib
attribute [local go_sem] store_float f64bits
attribute [local go_sem ↓] Go.wp_at_zero Go.wp_at_succ

abbrev GS : Nat := 1

def signL : List (List UInt8) := [[61, 58, 61], [61, 47, 61], [45, 62], [61, 61], [47, 61], [61, 60], [62, 61], [43, 43], [40], [41], [123], [125], [91], [93], [44], [59], [46], [124], [61], [60], [62], [43], [45], [42], [47], [33], [58]]

def signV : List Value := signL.map fun l => .string ⟨l.toArray⟩

/-- The table of signs lies where it must. -/
def SignTab (w : World) : Prop := w.rangeAt GS 0 signV

theorem sign_at (j : Nat) (l : List UInt8) (hl : signL[j]? = some l) : signV.toArray[j]? = some (.string ⟨l.toArray⟩) := by
  simp [signV, hl]

theorem index_sign (W : World) (j : Nat) (l : List UInt8) (hl : signL[j]? = some l) : (Instr.index 84 (.agg signV.toArray) (.int .i64 (j : Int))).run Tryz.prog W = .ok (.string ⟨l.toArray⟩) W := by
  have hj : j < 27 := by
    have := (List.getElem?_eq_some_iff.1 hl).1
    simpa [signL] using this
  have hv := sign_at j l hl
  have h1 : (0 : Int) ≤ (j : Int) := by omega
  have h2 : (j : Int) < 27 := by omega
  have hi : (Tryz.prog.info? 9).map (fun i => (i.size)) = some 1 := by kernel_rfl
  generalize signV.toArray = A at *
  cases hq : Tryz.prog.info? 9 with
  | none => simp [hq] at hi
  | some i =>
    have hs : i.size = 1 := by simpa [hq] using hi
    simp [Instr.index, asIntOf, run_underlying Tryz.underlying84, h1, sizeOf, typeInfo, hq, hs, part, hv]
    intro h; omega

/-- The sign that stands there. -/
def signAt (s : ByteArray) (i : Nat) : Option (List UInt8) := signL.find? fun l => Lib.hasPrefix (s.extract i s.size).data.toList l

theorem sign_len : ∀ l ∈ signL, l.length ≤ 3 := by decide
theorem sign_none (Pf : List UInt8 → Bool) : (signL.drop 27).find? Pf = none := rfl
theorem sign_has (j : Nat) (hj : j < 27) : ∃ l, signL[j]? = some l := ⟨signL[j]'(by simpa [signL] using hj), by simp⟩
theorem sign_drop (j : Nat) (l : List UInt8) (hl : signL[j]? = some l) : signL.drop j = l :: signL.drop (j + 1) := by
  obtain ⟨h1, h2⟩ := List.getElem?_eq_some_iff.1 hl
  rw [← h2]; exact List.drop_eq_getElem_cons h1

def sgV : Option (List UInt8) → Value
  | some l => .tuple #[.agg #[.int .i64 (6), .string (⟨l.toArray⟩), .int .i64 (0), .float .f64 (0), .int .i64 (0)], .int .i64 0]
  | none => .tuple #[.agg #[.int .i64 (0), .string (⟨#[]⟩), .int .i64 (0), .float .f64 (0), .int .i64 (0)], .int .i64 21]
def sgN : Option (List UInt8) → Nat
  | some l => l.length
  | none => 0

set_option maxHeartbeats 1000000 in
set_option maxRecDepth 1000000 in
theorem sign_core (A : List Value) (hsi : (Tryz.prog.info? 84).map (·.size) = some A.length) (hIX : ∀ (W : World) (j : Nat) (l : List UInt8), signL[j]? = some l → (Instr.index 84 (.agg A.toArray) (.int .i64 (j : Int))).run Tryz.prog W = .ok (.string ⟨l.toArray⟩) W) (s : ByteArray) (i b : Nat) (hi : i ≤ s.size) (hs : s.size ≤ 65536) (w : World) (h : Sc w b s i) (hS : w.rangeAt GS 0 A) :
    Calls Tryz.prog 31 #[.pointer (some ⟨b, 0, none⟩)] w fun e w' => e = .returned (sgV (signAt s i)) ∧ Sc w' b s (i + sgN (signAt s i)) ∧ But (· = b) w w' := by
  have hlt := h.lt
  have hS2 : (wbox w).rangeAt GS 0 A := fun j v hj => by
    have hc := hS j v hj
    have lt : GS < w.heap.size := by
      rcases Nat.lt_or_ge GS w.heap.size with h' | h'
      · exact h'
      · simp [World.cell?, Array.getElem?_eq_none h'] at hc
    exact ((wbox_below w).cell (p := ⟨GS, 0 + j, none⟩) lt).trans hc
  have h0 : (0 : Int) ≤ (i : Int) := by omega
  have h1 : (i : Int) ≤ (s.size : Int) := by omega
  have hlen := sign_len
  have hnil : ∀ l ∈ signL, (⟨l.toArray⟩ : ByteArray).size = l.length := fun l _ => by simp [ByteArray.size]
  have cP : ∀ l W, Calls Tryz.prog 50 #[.string (s.extract i s.size), .string ⟨l.toArray⟩] W fun e W' => e = .returned (.bool (Lib.hasPrefix (s.extract i s.size).data.toList l)) ∧ W' = W := fun l W => Tryz.strings_HasPrefix _ _ W
  unfold signAt
  obtain ⟨Pf, hPf⟩ : ∃ Pf : List UInt8 → Bool, (fun l => Lib.hasPrefix (s.extract i s.size).data.toList l) = Pf := ⟨_, rfl⟩
  have cQ : ∀ l W, Calls Tryz.prog 50 #[.string (s.extract i s.size), .string ⟨l.toArray⟩] W fun e W' => e = .returned (.bool (Pf l)) ∧ W' = W := by rw [← hPf]; exact cP
  rw [hPf]
  obtain ⟨o, ho⟩ : ∃ o, signL.find? Pf = o := ⟨_, rfl⟩
  rw [ho]
  have hfs : (signL.drop 0).find? Pf = o := ho
  clear cP hPf hS ho
  go_enter Tryz.func31, Tryz.ntmps31
  go_wp2_with (refine wpList_load_mid rfl 84 _ rfl GS 0 rfl A _ hS2 Tryz.underlying84 rfl hsi ?_)
  go_loopg [7] 27 (fun gf s7 wx => ∃ j : Nat, s7 = .int .i64 (j : Int) ∧ j + gf = 27 ∧ Below (wbox w).heap.size (wbox w) wx ∧ (signL.drop j).find? Pf = o)
  case atStart => exact ⟨0, rfl, rfl, Below.refl _ _, hfs⟩
  case round =>
    obtain ⟨j, rfl, hjg, hbw, hfi⟩ := hrel
    have hD : Duo wr b (.string s) (.int .i64 i) := Duo.keep (Duo.keep h (wbox_below w)) hbw
    have HBX := hidb ((wbox_box w).keep hbw)
    have HBW := hidb hbw
    obtain ⟨d0, d1, d2, d3, d4, g0, g1, g2, g3, g4, _⟩ := (wbox_box w).keep hbw
    have c0 := hD.c0; have c1 := hD.c1; have f1 := hD.f1
    by_cases hj : j < 27
    · obtain ⟨g', rfl⟩ : ∃ g', gk = g' + 1 := ⟨gk - 1, by omega⟩
      obtain ⟨l, hl⟩ := sign_has j hj
      have hmem : l ∈ signL := List.mem_of_getElem? hl
      have hix := fun W => hIX W j l hl
      have hd := sign_drop j l hl
      have hl3 := hlen l hmem
      have hsz := hnil l hmem
      rw [hd] at hfi
      have hj2 : (j : Int) < 27 := by omega
      have hw1 : wrap64 ((j : Int) + 1) = (j : Int) + 1 := by unfold wrap64; omega
      have hcl := cQ l
      obtain ⟨x, hx⟩ : ∃ x, (⟨l.toArray⟩ : ByteArray) = x := ⟨_, rfl⟩
      rw [hx] at hsz hcl
      simp only [hx] at hix
      have hw2 : wrap64 ((i : Int) + (x.size : Int)) = (i : Int) + (x.size : Int) := by unfold wrap64; omega
      clear hlen hnil cQ hl hmem hbw hd hIX hsi hS2
      have HSZ := hidb hsz
      have HX := hidb hx
      clear hsz hx
      cases hp : Pf l <;> rw [hp] at hcl <;> simp only [List.find?_cons, hp] at hfi
      · go_wp2_with fail
        go_region_held3 (fun w' => w'.cell? ⟨b, 0, none⟩ = some (.string s) ∧ w'.cell? ⟨b, 1, none⟩ = some (.int .i64 i))
          (go_keep)
          (first | (go_at_call 50; refine (hcl _).mono ?_; rintro e w' ⟨rfl, rfl⟩))
        go_wp2_with fail
        go_roundg g'
        case measure => omega
        case rel => exact ⟨j + 1, by simp, by omega, HBW.out.drew, hfi⟩
      · go_wp2_with fail
        go_region_held3 (fun w' => w'.cell? ⟨b, 0, none⟩ = some (.string s) ∧ w'.cell? ⟨b, 1, none⟩ = some (.int .i64 i))
          (go_keep)
          (first | (go_at_call 50; refine (hcl _).mono ?_; rintro e w' ⟨rfl, rfl⟩))
        go_wp2_with fail
        subst hfi
        refine bodyPost_ret (v := .tuple #[.agg #[.int .i64 (6), .string (x), .int .i64 (0), .float .f64 (0), .int .i64 (0)], .int .i64 0]) (by simp [results, Tryz.results31, go_sem, d0, d1, d2, d3, d4]) rfl ⟨by rw [← HX.out]; rfl, ?_, ?_⟩
        · have hD2 := (hD.set1 (.int .i64 ((i : Int) + (x.size : Int)))).set5 (c := w.heap.size) (by omega) (.int .i64 6) (.string x) (.int .i64 0) (.float .f64 0) (.int .i64 0)
          have e : ((i + l.length : Nat) : Int) = (i : Int) + (x.size : Int) := by have := HSZ.out; omega
          show Duo _ b (.string s) (.int .i64 ((i + l.length : Nat) : Int))
          rw [e]
          exact hD2.keep ((Below.refl _ _).drew)
        · exact ((((But.of_below (S := (· = b)) (wbox_below w)).trans (But.of_below HBW.out)).setCell (p := ⟨b, 1, none⟩) (fun _ => rfl) _).set5 (fun h => absurd h (Nat.lt_irrefl _)) _ _ _ _ _).drew
    · obtain rfl : j = 27 := by omega
      obtain rfl : none = o := (sign_none Pf).symm.trans hfi
      clear hlen hnil cQ hbw
      go_wp2_with fail
      refine bodyPost_ret (v := .tuple #[.agg #[.int .i64 (0), .string (⟨#[]⟩), .int .i64 (0), .float .f64 (0), .int .i64 (0)], .int .i64 21]) (by simp [results, Tryz.results31, go_sem, d0, d1, d2, d3, d4]) rfl ⟨rfl, ?_, ?_⟩
      · exact hD.set5 (by omega) _ _ _ _ _
      · exact (((But.of_below (wbox_below w)).trans (But.of_below HBW.out))).set5 (fun h => absurd h (Nat.lt_irrefl _)) _ _ _ _ _

theorem sign_any (s : ByteArray) (i b : Nat) (hi : i ≤ s.size) (hs : s.size ≤ 65536) (w : World) (h : Sc w b s i) (hS : SignTab w) :
    Calls Tryz.prog 31 #[.pointer (some ⟨b, 0, none⟩)] w fun e w' => e = .returned (sgV (signAt s i)) ∧ Sc w' b s (i + sgN (signAt s i)) ∧ But (· = b) w w' :=
  sign_core signV (by kernel_rfl) index_sign s i b hi hs w h hS
end Go.Proofs.YtdpfmmbfidknfaaGreatDoor


