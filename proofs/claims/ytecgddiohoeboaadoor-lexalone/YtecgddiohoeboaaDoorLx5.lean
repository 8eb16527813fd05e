/- Signs. -/
import Derived.Test.YtecgddiohoeboaaDoorLx4
import Derived.Deep.MidRow
namespace Go.Proofs.YtecgddiohoeboaaDoor
open Go.RowKit Go.Lib
attribute [local go_sem] store_float f64bits
attribute [local go_sem ↓] Go.wp_at_zero Go.wp_at_succ

abbrev GS : Nat := 1

def signL : List (List UInt8) := [[61, 58, 61], [61, 47, 61], [45, 62], [61, 61], [47, 61], [61, 60], [62, 61], [43, 43], [40], [41], [123], [125], [91], [93], [44], [59], [46], [124], [61], [60], [62], [43], [45], [42], [47], [33], [58]]

def signV : List Value := signL.map fun l => .string ⟨l.toArray⟩

/-- The table of signs lies where it must. -/
def SignTab (w : World) : Prop := w.rangeAt GS 0 signV

theorem sign_at (j : Nat) (l : List UInt8) (hl : signL[j]? = some l) : signV.toArray[j]? = some (.string ⟨l.toArray⟩) := by
  simp [signV, hl]

theorem index_sign (W : World) (j : Nat) (l : List UInt8) (hl : signL[j]? = some l) : (Instr.index 80 (.agg signV.toArray) (.int .i64 (j : Int))).run Tryd.prog W = .ok (.string ⟨l.toArray⟩) W := by
  have hj : j < 27 := by
    have := (List.getElem?_eq_some_iff.1 hl).1
    simpa [signL] using this
  have hv := sign_at j l hl
  have h1 : (0 : Int) ≤ (j : Int) := by omega
  have h2 : (j : Int) < 27 := by omega
  have hi : (Tryd.prog.info? 9).map (fun i => (i.size)) = some 1 := by kernel_rfl
  generalize signV.toArray = A at *
  cases hq : Tryd.prog.info? 9 with
  | none => simp [hq] at hi
  | some i =>
    have hs : i.size = 1 := by simpa [hq] using hi
    simp [Instr.index, asIntOf, run_underlying Tryd.underlying80, h1, sizeOf, typeInfo, hq, hs, part, hv]
    intro h; omega

/-- The sign that stands there. -/
def signAt (s : ByteArray) (i : Nat) : Option (List UInt8) := signL.find? fun l => Lib.hasPrefix (s.extract i s.size).data.toList l

theorem sign_len : ∀ l ∈ signL, l.length ≤ 3 := by decide
theorem sign_none (Pf : List UInt8 → Bool) : (signL.drop 27).find? Pf = none := rfl
theorem sign_has (j : Nat) (hj : j < 27) : ∃ l, signL[j]? = some l := ⟨signL[j]'(by simpa [signL] using hj), by simp⟩
theorem sign_drop (j : Nat) (l : List UInt8) (hl : signL[j]? = some l) : signL.drop j = l :: signL.drop (j + 1) := by
  obtain ⟨h1, h2⟩ := List.getElem?_eq_some_iff.1 hl
  rw [← h2]; exact List.drop_eq_getElem_cons h1

def sgV : Option (List UInt8) → Value
  | some l => .tuple #[.agg #[.int .i64 (6), .string (⟨l.toArray⟩), .int .i64 (0), .float .f64 (0), .int .i64 (0)], .int .i64 0]
  | none => .tuple #[.agg #[.int .i64 (0), .string (⟨#[]⟩), .int .i64 (0), .float .f64 (0), .int .i64 (0)], .int .i64 21]
def sgN : Option (List UInt8) → Nat
  | some l => l.length
  | none => 0

set_option maxHeartbeats 1000000 in
set_option maxRecDepth 1000000 in
theorem sign_core (A : List Value) (hsi : (Tryd.prog.info? 80).map (·.size) = some A.length) (hIX : ∀ (W : World) (j : Nat) (l : List UInt8), signL[j]? = some l → (Instr.index 80 (.agg A.toArray) (.int .i64 (j : Int))).run Tryd.prog W = .ok (.string ⟨l.toArray⟩) W) (s : ByteArray) (i b : Nat) (hi : i ≤ s.size) (hs : s.size ≤ 65536) (w : World) (h : Sc w b s i) (hS : w.rangeAt GS 0 A) :
    Calls Tryd.prog 42 #[.pointer (some ⟨b, 0, none⟩)] w fun e w' => e = .returned (sgV (signAt s i)) ∧ Sc w' b s (i + sgN (signAt s i)) ∧ But (· = b) w w' := by
  have hlt := h.lt
  have hS2 : (wbox w).rangeAt GS 0 A := fun j v hj => by
    have hc := hS j v hj
    have lt : GS < w.heap.size := by
      rcases Nat.lt_or_ge GS w.heap.size with h' | h'
      · exact h'
      · simp [World.cell?, Array.getElem?_eq_none h'] at hc
    exact ((wbox_below w).cell (p := ⟨GS, 0 + j, none⟩) lt).trans hc
  have h0 : (0 : Int) ≤ (i : Int) := by omega
  have h1 : (i : Int) ≤ (s.size : Int) := by omega
  have hlen := sign_len
  have hnil : ∀ l ∈ signL, (⟨l.toArray⟩ : ByteArray).size = l.length := fun l _ => by simp [ByteArray.size]
  have cP : ∀ l W, Calls Tryd.prog 64 #[.string (s.extract i s.size), .string ⟨l.toArray⟩] W fun e W' => e = .returned (.bool (Lib.hasPrefix (s.extract i s.size).data.toList l)) ∧ W' = W := fun l W => Tryd.strings_HasPrefix _ _ W
  unfold signAt
  obtain ⟨Pf, hPf⟩ : ∃ Pf : List UInt8 → Bool, (fun l => Lib.hasPrefix (s.extract i s.size).data.toList l) = Pf := ⟨_, rfl⟩
  have cQ : ∀ l W, Calls Tryd.prog 64 #[.string (s.extract i s.size), .string ⟨l.toArray⟩] W fun e W' => e = .returned (.bool (Pf l)) ∧ W' = W := by rw [← hPf]; exact cP
  rw [hPf]
  obtain ⟨o, ho⟩ : ∃ o, signL.find? Pf = o := ⟨_, rfl⟩
  rw [ho]
  have hfs : (signL.drop 0).find? Pf = o := ho
  clear cP hPf hS ho
  go_enter Tryd.func42, Tryd.ntmps42
  go_wp2_with (refine wpList_load_mid rfl 80 _ rfl GS 0 rfl A _ hS2 Tryd.underlying80 rfl hsi ?_)
  go_loopg [7] 27 (fun gf s7 wx => ∃ j : Nat, s7 = .int .i64 (j : Int) ∧ j + gf = 27 ∧ Below (wbox w).heap.size (wbox w) wx ∧ (signL.drop j).find? Pf = o)
  case atStart => exact ⟨0, rfl, rfl, Below.refl _ _, hfs⟩
  case round =>
    obtain ⟨j, rfl, hjg, hbw, hfi⟩ := hrel
    have hD : Duo wr b (.string s) (.int .i64 i) := Duo.keep (Duo.keep h (wbox_below w)) hbw
    have HBX := hidb ((wbox_box w).keep hbw)
    have HBW := hidb hbw
    obtain ⟨d0, d1, d2, d3, d4, g0, g1, g2, g3, g4, _⟩ := (wbox_box w).keep hbw
    have c0 := hD.c0; have c1 := hD.c1; have f1 := hD.f1
    by_cases hj : j < 27
    · obtain ⟨g', rfl⟩ : ∃ g', gk = g' + 1 := ⟨gk - 1, by omega⟩
      obtain ⟨l, hl⟩ := sign_has j hj
      have hmem : l ∈ signL := List.mem_of_getElem? hl
      have hix := fun W => hIX W j l hl
      have hd := sign_drop j l hl
      have hl3 := hlen l hmem
      have hsz := hnil l hmem
      rw [hd] at hfi
      have hj2 : (j : Int) < 27 := by omega
      have hw1 : wrap64 ((j : Int) + 1) = (j : Int) + 1 := by unfold wrap64; omega
      have hcl := cQ l
      obtain ⟨x, hx⟩ : ∃ x, (⟨l.toArray⟩ : ByteArray) = x := ⟨_, rfl⟩
      rw [hx] at hsz hcl
      simp only [hx] at hix
      have hw2 : wrap64 ((i : Int) + (x.size : Int)) = (i : Int) + (x.size : Int) := by unfold wrap64; omega
      clear hlen hnil cQ hl hmem hbw hd hIX hsi hS2
      have HSZ := hidb hsz
      have HX := hidb hx
      clear hsz hx
      cases hp : Pf l <;> rw [hp] at hcl <;> simp only [List.find?_cons, hp] at hfi
      · go_wp2_with fail
        go_region_held3 (fun w' => w'.cell? ⟨b, 0, none⟩ = some (.string s) ∧ w'.cell? ⟨b, 1, none⟩ = some (.int .i64 i))
          (go_keep)
          (first | (go_at_call 64; refine (hcl _).mono ?_; rintro e w' ⟨rfl, rfl⟩))
        go_wp2_with fail
        go_roundg g'
        case measure => omega
        case rel => exact ⟨j + 1, by simp, by omega, HBW.out.drew, hfi⟩
      · go_wp2_with fail
        go_region_held3 (fun w' => w'.cell? ⟨b, 0, none⟩ = some (.string s) ∧ w'.cell? ⟨b, 1, none⟩ = some (.int .i64 i))
          (go_keep)
          (first | (go_at_call 64; refine (hcl _).mono ?_; rintro e w' ⟨rfl, rfl⟩))
        go_wp2_with fail
        subst hfi
        refine bodyPost_ret (v := .tuple #[.agg #[.int .i64 (6), .string (x), .int .i64 (0), .float .f64 (0), .int .i64 (0)], .int .i64 0]) (by simp [results, Tryd.results42, go_sem, d0, d1, d2, d3, d4]) rfl ⟨by rw [← HX.out]; rfl, ?_, ?_⟩
        · have hD2 := (hD.set1 (.int .i64 ((i : Int) + (x.size : Int)))).set5 (c := w.heap.size) (by omega) (.int .i64 6) (.string x) (.int .i64 0) (.float .f64 0) (.int .i64 0)
          have e : ((i + l.length : Nat) : Int) = (i : Int) + (x.size : Int) := by have := HSZ.out; omega
          show Duo _ b (.string s) (.int .i64 ((i + l.length : Nat) : Int))
          rw [e]
          exact hD2.keep ((Below.refl _ _).drew)
        · exact ((((But.of_below (S := (· = b)) (wbox_below w)).trans (But.of_below HBW.out)).setCell (p := ⟨b, 1, none⟩) (fun _ => rfl) _).set5 (fun h => absurd h (Nat.lt_irrefl _)) _ _ _ _ _).drew
    · obtain rfl : j = 27 := by omega
      obtain rfl : none = o := (sign_none Pf).symm.trans hfi
      clear hlen hnil cQ hbw
      go_wp2_with fail
      refine bodyPost_ret (v := .tuple #[.agg #[.int .i64 (0), .string (⟨#[]⟩), .int .i64 (0), .float .f64 (0), .int .i64 (0)], .int .i64 21]) (by simp [results, Tryd.results42, go_sem, d0, d1, d2, d3, d4]) rfl ⟨rfl, ?_, ?_⟩
      · exact hD.set5 (by omega) _ _ _ _ _
      · exact (((But.of_below (wbox_below w)).trans (But.of_below HBW.out))).set5 (fun h => absurd h (Nat.lt_irrefl _)) _ _ _ _ _

theorem sign_any (s : ByteArray) (i b : Nat) (hi : i ≤ s.size) (hs : s.size ≤ 65536) (w : World) (h : Sc w b s i) (hS : SignTab w) :
    Calls Tryd.prog 42 #[.pointer (some ⟨b, 0, none⟩)] w fun e w' => e = .returned (sgV (signAt s i)) ∧ Sc w' b s (i + sgN (signAt s i)) ∧ But (· = b) w w' :=
  sign_core signV (by kernel_rfl) index_sign s i b hi hs w h hS
end Go.Proofs.YtecgddiohoeboaaDoor
