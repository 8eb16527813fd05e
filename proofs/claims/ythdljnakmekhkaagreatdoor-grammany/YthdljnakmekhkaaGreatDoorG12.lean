import Derived.Test.YthdljnakmekhkaaGreatDoorG09
import Derived.Test.YthdljnakmekhkaaGreatDoorG06
import Derived.BigQuiet
import Derived.Deep.RegionLaw
import Derived.Deep.RegionHeld2
import Derived.Test.YthdljnakmekhkaaGreatDoorG07
/- The reference's parser in memory, and its smallest steps. -/
namespace Go.Proofs.YthdljnakmekhkaaGreatDoor
theorem Six.set5 {w : World} {k : Nat} {v0 v1 v2 v3 v4 v5 : Value} (h : Six w k v0 v1 v2 v3 v4 v5) (u : Value) : Six (w.setCell ⟨k, 5, none⟩ u) k v0 v1 v2 v3 v4 u :=
  ⟨(World.cell?_setCell_other _ _ _ _ (ne_off3 _ _ _ (by decide))).trans h.c0, (World.cell?_setCell_other _ _ _ _ (ne_off3 _ _ _ (by decide))).trans h.c1, (World.cell?_setCell_other _ _ _ _ (ne_off3 _ _ _ (by decide))).trans h.c2, (World.cell?_setCell_other _ _ _ _ (ne_off3 _ _ _ (by decide))).trans h.c3, (World.cell?_setCell_other _ _ _ _ (ne_off3 _ _ _ (by decide))).trans h.c4, World.cell?_setCell_same _ _ _ h.c5, (by rw [World.frozen?_setCell]; exact h.f0), (by rw [World.frozen?_setCell]; exact h.f1), (by rw [World.frozen?_setCell]; exact h.f2), (by rw [World.frozen?_setCell]; exact h.f3), (by rw [World.frozen?_setCell]; exact h.f4), (by rw [World.frozen?_setCell]; exact h.f5), by simp [World.setCell]; exact h.lt⟩
theorem Six.set1 {w : World} {k : Nat} {v0 v1 v2 v3 v4 v5 : Value} (h : Six w k v0 v1 v2 v3 v4 v5) (u : Value) : Six (w.setCell ⟨k, 1, none⟩ u) k v0 u v2 v3 v4 v5 :=
  ⟨(World.cell?_setCell_other _ _ _ _ (ne_off3 _ _ _ (by decide))).trans h.c0, World.cell?_setCell_same _ _ _ h.c1, (World.cell?_setCell_other _ _ _ _ (ne_off3 _ _ _ (by decide))).trans h.c2, (World.cell?_setCell_other _ _ _ _ (ne_off3 _ _ _ (by decide))).trans h.c3, (World.cell?_setCell_other _ _ _ _ (ne_off3 _ _ _ (by decide))).trans h.c4, (World.cell?_setCell_other _ _ _ _ (ne_off3 _ _ _ (by decide))).trans h.c5, (by rw [World.frozen?_setCell]; exact h.f0), (by rw [World.frozen?_setCell]; exact h.f1), (by rw [World.frozen?_setCell]; exact h.f2), (by rw [World.frozen?_setCell]; exact h.f3), (by rw [World.frozen?_setCell]; exact h.f4), (by rw [World.frozen?_setCell]; exact h.f5), by simp [World.setCell]; exact h.lt⟩
theorem Six.set3 {w : World} {k : Nat} {v0 v1 v2 v3 v4 v5 : Value} (h : Six w k v0 v1 v2 v3 v4 v5) (u : Value) : Six (w.setCell ⟨k, 3, none⟩ u) k v0 v1 v2 u v4 v5 :=
  ⟨(World.cell?_setCell_other _ _ _ _ (ne_off3 _ _ _ (by decide))).trans h.c0, (World.cell?_setCell_other _ _ _ _ (ne_off3 _ _ _ (by decide))).trans h.c1, (World.cell?_setCell_other _ _ _ _ (ne_off3 _ _ _ (by decide))).trans h.c2, World.cell?_setCell_same _ _ _ h.c3, (World.cell?_setCell_other _ _ _ _ (ne_off3 _ _ _ (by decide))).trans h.c4, (World.cell?_setCell_other _ _ _ _ (ne_off3 _ _ _ (by decide))).trans h.c5, (by rw [World.frozen?_setCell]; exact h.f0), (by rw [World.frozen?_setCell]; exact h.f1), (by rw [World.frozen?_setCell]; exact h.f2), (by rw [World.frozen?_setCell]; exact h.f3), (by rw [World.frozen?_setCell]; exact h.f4), (by rw [World.frozen?_setCell]; exact h.f5), by simp [World.setCell]; exact h.lt⟩
namespace Rf
open Go.RowKit Go.Lib
attribute [local go_sem] store_float f64bits
attribute [local go_sem ↓] Go.wp_at_zero Go.wp_at_succ
attribute [local go_sem] tk_k tk_x tk_n tk_f tk_p

theorem tks_at {w : World} {b : Nat} : ∀ {l : List Tk} {i : Nat}, Tks w b i l → ∀ (j : Nat) (t : Tk), l[j]? = some t → w.cell? ⟨b, i + j * 5, none⟩ = some (.int .i64 t.k) ∧ w.cell? ⟨b, i + j * 5 + 1, none⟩ = some (.string t.x) ∧ w.cell? ⟨b, i + j * 5 + 2, none⟩ = some (.int .i64 t.n) ∧ w.cell? ⟨b, i + j * 5 + 3, none⟩ = some (.float .f64 t.f) ∧ w.cell? ⟨b, i + j * 5 + 4, none⟩ = some (.int .i64 (t.p : Int))
  | [], _, _, _, _, h => by simp at h
  | a :: r, i, ⟨h0, hr⟩, 0, t, h => by
    simp at h
    subst h
    simpa using h0
  | a :: r, i, ⟨h0, hr⟩, j + 1, t, h => by
    have := tks_at hr j t (by simpa using h)
    rw [show i + (j + 1) * 5 = i + 5 + j * 5 by omega]
    exact this

/-- The parser's box, the tokens, which one stands there, the fault. -/
structure QB (w : World) (g b : Nat) (TS : List Tk) (i : Nat) (V : Value) (o er p : Int) : Prop where
  six : ∃ cap, Six w g (.slice (some ⟨b, 0, none⟩) TS.length cap) (.int .i64 (i : Int)) V (.int .i64 o) (.int .i64 er) (.int .i64 p)
  toks : Tks w b 0 TS
  ilt : i < TS.length
  few : TS.length ≤ 100000
  ne : b ≠ g
  lt : b < w.heap.size
section
variable {w w' : World} {g b i : Nat} {TS : List Tk} {V : Value} {o er p : Int}
theorem QB.but {S : Nat → Prop} (h : QB w g b TS i V o er p) (hb : But S w w') (h1 : ¬ S g) (h2 : ¬ S b) : QB w' g b TS i V o er p := by
  obtain ⟨⟨cap, h6⟩, ht, hi, hf, hne, hl⟩ := h
  exact ⟨⟨cap, h6.but hb h1⟩, ht.but hb hl h2, hi, hf, hne, Nat.lt_of_lt_of_le hl hb.size⟩
theorem QB.keep (h : QB w g b TS i V o er p) (hb : Below w.heap.size w w') : QB w' g b TS i V o er p := h.but (But.of_below (S := fun _ => False) hb) (fun h => h) (fun h => h)
theorem QB.glt (h : QB w g b TS i V o er p) : g < w.heap.size := by obtain ⟨⟨_, h6⟩, _⟩ := h; exact h6.lt
theorem QB.tok (h : QB w g b TS i V o er p) : ∃ t, TS[i]? = some t := ⟨_, List.getElem?_eq_getElem h.ilt⟩

set_option maxHeartbeats 1000000 in
theorem qBad (h : QB w g b TS i V o er p) : Calls Tryz.prog 19 #[.pointer (some ⟨g, 0, none⟩)] w fun e w' => e = .returned (.bool (er != 0)) ∧ w' = w := by
  obtain ⟨⟨cap, h6⟩, -⟩ := h
  obtain ⟨c0, c1, c2, c3, c4, c5, -, -, -, -, -, -, hl⟩ := h6
  go_enter Tryz.func19, Tryz.ntmps19
  go_wp2_with fail
  exact bodyPost_ret (v := .bool (er != 0)) (by simp [results, Tryz.results19, go_sem]) rfl ⟨rfl, rfl⟩

set_option maxHeartbeats 1000000 in
theorem qNow {t : Tk} (h : QB w g b TS i V o er p) (ht : TS[i]? = some t) : Calls Tryz.prog 26 #[.pointer (some ⟨g, 0, none⟩)] w fun e w' => e = .returned t.val ∧ Below w.heap.size w w' := by
  obtain ⟨⟨cap, h6⟩, hts, hi, hf, hne, hl⟩ := h
  obtain ⟨k0, k1, k2, k3, k4⟩ := tks_at hts i t ht
  simp only [Nat.zero_add] at k0 k1 k2 k3 k4
  have hz : w.heap.size < (w.alloc (.cells #[.int .i64 0, .string ⟨#[]⟩, .int .i64 0, .float .f64 0, .int .i64 0] 41)).heap.size := by simp
  have hb1 := below_new w (.cells #[.int .i64 0, .string ⟨#[]⟩, .int .i64 0, .float .f64 0, .int .i64 0] 41)
  obtain ⟨c0, c1, -, -, -, -, -, -, -, -, -, -, hg⟩ := h6.keep hb1
  have k0' := (hb1.cell (p := ⟨b, i * 5, none⟩) hl).trans k0
  have k1' := (hb1.cell (p := ⟨b, i * 5 + 1, none⟩) hl).trans k1
  have k2' := (hb1.cell (p := ⟨b, i * 5 + 2, none⟩) hl).trans k2
  have k3' := (hb1.cell (p := ⟨b, i * 5 + 3, none⟩) hl).trans k3
  have k4' := (hb1.cell (p := ⟨b, i * 5 + 4, none⟩) hl).trans k4
  obtain ⟨tk, tx, tn, tf, tp⟩ := t
  generalize hN : TS.length = N at c0 hi
  have i0 : (0 : Int) ≤ (i : Int) := by omega
  have i1 : (i : Int) < (N : Int) := by omega
  have X := Box.new w 41 (.int .i64 0) (.string ⟨#[]⟩) (.int .i64 0) (.float .f64 0) (.int .i64 0)
  have HB1 := hidb hb1
  clear h6 hts ht hN k0 k1 k2 k3 k4 hf hb1 hz
  simp only [Tk.val] at *
  go_enter Tryz.func26, Tryz.ntmps26
  go_wp2_with fail
  generalize (w.alloc (.cells #[.int .i64 0, .string ⟨#[]⟩, .int .i64 0, .float .f64 0, .int .i64 0] 41)) = W1 at *
  obtain ⟨x0, x1, x2, x3, x4, y0, y1, y2, y3, y4, xl⟩ := X
  go_region_law (fail)
  all_goals (
    go_wp2_with fail
    exact bodyPost_ret (v := Tk.val ⟨tk, tx, tn, tf, tp⟩) (by simp [results, Tryz.results26, go_sem, x0, x1, x2, x3, x4, Tk.val]) rfl ⟨rfl, (((((HB1.out.setCell (Nat.le_refl _) _).setCell (Nat.le_refl _) _).setCell (Nat.le_refl _) _).setCell (Nat.le_refl _) _).setCell (Nat.le_refl _) _).drew⟩)

set_option maxHeartbeats 1000000 in
/-- The first fault stays. -/
theorem qFail (e at' : Int) (h : QB w g b TS i V o er p) : Calls Tryz.prog 28 #[.pointer (some ⟨g, 0, none⟩), .int .i64 e, .int .i64 at'] w fun r w' => r = .returned (.tuple #[]) ∧ QB w' g b TS i V o (if er = 0 then e else er) (if er = 0 then at' else p) ∧ But (· = g) w w' := by
  have cB := qBad h
  obtain ⟨⟨cap, h6⟩, hts, hi, hf, hne, hl⟩ := h
  have H6 := hidb h6
  have HTS := hidb hts
  obtain ⟨c0, c1, c2, c3, c4, c5, -, -, -, -, f4, f5, hg⟩ := h6
  by_cases he : er = 0
  · subst he
    clear hts
    go_enter Tryz.func28, Tryz.ntmps28
    go_wp2_with (go_at_call 19; refine cB.mono ?_; rintro r1 w1 ⟨rfl, rfl⟩)
    have hB : But (· = g) w1 ((w1.setCell ⟨g, 4, none⟩ (.int .i64 e)).setCell ⟨g, 5, none⟩ (.int .i64 at')) := ((But.refl (· = g) w1).setCell (p := ⟨g, 4, none⟩) (fun _ => rfl) _).setCell (p := ⟨g, 5, none⟩) (fun _ => rfl) _
    go_end0
    exact ⟨rfl, ⟨⟨cap, (H6.out.set4 _).set5 _⟩, HTS.out.but hB hl hne, hi, hf, hne, Nat.lt_of_lt_of_le hl hB.size⟩, hB⟩
  · have k3 : (er != 0) = true := by simpa using he
    rw [k3] at cB
    rw [if_neg he, if_neg he]
    clear hts he k3
    go_enter Tryz.func28, Tryz.ntmps28
    go_wp2_with (go_at_call 19; refine cB.mono ?_; rintro r1 w1 ⟨rfl, rfl⟩)
    go_end0
    exact ⟨rfl, ⟨⟨cap, H6.out⟩, HTS.out, hi, hf, hne, hl⟩, But.refl _ _⟩

set_option maxHeartbeats 1000000 in
theorem qIs {t : Tk} (k : Int) (x : ByteArray) (h : QB w g b TS i V o er p) (ht : TS[i]? = some t) : Calls Tryz.prog 61 #[.pointer (some ⟨g, 0, none⟩), .int .i64 k, .string x] w fun r w' => r = .returned (.bool (decide (er = 0) && decide (t.k = k) && decide (t.x = x))) ∧ Below w.heap.size w w' := by
  have cN := qNow h ht
  have cB : ∀ w', Below w.heap.size w w' → _ := fun w' hb => qBad (h.keep hb)
  have hs : ∀ a b : ByteArray, (a.toList == b.toList) = decide (a = b) := str_eq
  obtain ⟨tk, tx, tn, tf, tp⟩ := t
  simp only [Tk.val] at cN ⊢
  have d0 : decide (er = 0) = (er == 0) := by rw [Bool.eq_iff_iff]; simp
  have d1 : decide (tk = k) = (tk == k) := by rw [Bool.eq_iff_iff]; simp
  rw [d0, d1, ← hs]
  have hd : ∀ b1 b2 b3 : Bool, (b1 && b2 && b3) = if b1 then (if b2 then b3 else false) else false := by decide
  rw [hd]
  clear h ht hs d0 d1 hd
  by_cases he : er = 0
  · subst he
    by_cases hk : tk = k
    · subst hk
      go_enter Tryz.func61, Tryz.ntmps61
      go_wp2_with (first
        | (go_at_call 26; refine cN.mono ?_; rintro r1 w1 ⟨rfl, hb1⟩; have HB1 := hidb hb1; clear hb1)
        | (go_at_call 19; refine (cB _ (HB1.out.alloc HB1.out.size _)).mono ?_; rintro r1 w2 ⟨rfl, rfl⟩))
      exact bodyPost_ret (v := .bool (tx.toList == x.toList)) (by simp [results, Tryz.results61, go_sem]) rfl ⟨by simp, HB1.out.alloc HB1.out.size _⟩
    · have k1 : (tk == k) = false := by simpa using hk
      clear hk
      go_enter Tryz.func61, Tryz.ntmps61
      go_wp2_with (first
        | (go_at_call 26; refine cN.mono ?_; rintro r1 w1 ⟨rfl, hb1⟩; have HB1 := hidb hb1; clear hb1)
        | (go_at_call 19; refine (cB _ (HB1.out.alloc HB1.out.size _)).mono ?_; rintro r1 w2 ⟨rfl, rfl⟩))
      exact bodyPost_ret (v := .bool false) (by simp [results, Tryz.results61, go_sem]) rfl ⟨by simp, HB1.out.alloc HB1.out.size _⟩
  · have k3 : (er != 0) = true := by simpa using he
    have k4 : (er == 0) = false := by simpa using he
    rw [k3] at cB
    clear he k3
    go_enter Tryz.func61, Tryz.ntmps61
    go_wp2_with (first
      | (go_at_call 26; refine cN.mono ?_; rintro r1 w1 ⟨rfl, hb1⟩; have HB1 := hidb hb1; clear hb1)
      | (go_at_call 19; refine (cB _ (HB1.out.alloc HB1.out.size _)).mono ?_; rintro r1 w2 ⟨rfl, rfl⟩))
    exact bodyPost_ret (v := .bool false) (by simp [results, Tryz.results61, go_sem]) rfl ⟨by simp, HB1.out.alloc HB1.out.size _⟩
end
end Rf
end Go.Proofs.YthdljnakmekhkaaGreatDoor


/- The reference's parser: next, want, kind. -/
namespace Go.Proofs.YthdljnakmekhkaaGreatDoor
namespace Rf
open Go.RowKit Go.Lib
attribute [local go_sem] store_float f64bits
attribute [local go_sem ↓] Go.wp_at_zero Go.wp_at_succ
attribute [local go_sem] tk_k tk_x tk_n tk_f tk_p
theorem Box.but {S : Nat → Prop} {w w' : World} {c : Nat} {v0 v1 v2 v3 v4 : Value} (h : Box w c v0 v1 v2 v3 v4) (hb : But S w w') (hs : ¬ S c) : Box w' c v0 v1 v2 v3 v4 :=
  ⟨(hb.cell h.lt hs).trans h.c0, (hb.cell h.lt hs).trans h.c1, (hb.cell h.lt hs).trans h.c2, (hb.cell h.lt hs).trans h.c3, (hb.cell h.lt hs).trans h.c4, (hb.frozen h.lt hs).trans h.f0, (hb.frozen h.lt hs).trans h.f1, (hb.frozen h.lt hs).trans h.f2, (hb.frozen h.lt hs).trans h.f3, (hb.frozen h.lt hs).trans h.f4, Nat.lt_of_lt_of_le h.lt hb.size⟩
theorem QB.set5 {w : World} {g b i c : Nat} {TS : List Tk} {V : Value} {o er p : Int} (h : QB w g b TS i V o er p) (h1 : c ≠ g) (h2 : c ≠ b) (u0 u1 u2 u3 u4 : Value) : QB (((((w.setCell ⟨c, 0, none⟩ u0).setCell ⟨c, 1, none⟩ u1).setCell ⟨c, 2, none⟩ u2).setCell ⟨c, 3, none⟩ u3).setCell ⟨c, 4, none⟩ u4) g b TS i V o er p :=
  h.but (S := (· = c)) (((((((But.refl (· = c) w).setCell (p := ⟨c, 0, none⟩) (fun _ => rfl) _).setCell (p := ⟨c, 1, none⟩) (fun _ => rfl) _).setCell (p := ⟨c, 2, none⟩) (fun _ => rfl) _).setCell (p := ⟨c, 3, none⟩) (fun _ => rfl) _).setCell (p := ⟨c, 4, none⟩) (fun _ => rfl) _)) (fun e => h1 e.symm) (fun e => h2 e.symm)
section
variable {w w' : World} {g b i : Nat} {TS : List Tk} {V : Value} {o er p : Int}

set_option maxHeartbeats 2000000 in
theorem qNext_on (h : QB w g b TS i V o 0 p) (hi1 : i + 1 < TS.length) : Calls Tryz.prog 29 #[.pointer (some ⟨g, 0, none⟩)] w fun r w' => r = .returned (.tuple #[]) ∧ QB w' g b TS (i + 1) V o 0 p ∧ But (· = g) w w' := by
  have cB := qBad h
  obtain ⟨⟨cap, h6⟩, hts, hi, hf, hne, hl⟩ := h
  have H6 := hidb h6
  have HTS := hidb hts
  obtain ⟨c0, c1, c2, c3, c4, c5, -, f1, -, -, -, -, hg⟩ := h6
  generalize hN : TS.length = N at c0 hi hi1 hf
  have HN := hidb hN
  have v1 : IntKind.i64.wrap ((i : Int) + 1) = (i : Int) + 1 := by rw [IntKind.wrap_i64]; omega
  have i1 : (i : Int) + 1 < (N : Int) := by omega
  clear hts hN
  have cB2 : ∀ n, Calls Tryz.prog 19 #[.pointer (some ⟨g, 0, none⟩)] (w.drewN n) fun e w' => e = .returned (.bool false) ∧ w' = w.drewN n := fun n => by
    have hbd : Below w.heap.size w (w.drewN n) := below_drewN (Below.refl _ _) n
    exact qBad (TS := TS) (i := i) (b := b) (V := V) (o := o) (p := p) ⟨⟨cap, H6.out.keep hbd⟩, HTS.out.but (But.of_below (S := fun _ => False) hbd) hl (fun h => h), by rw [HN.out]; omega, by rw [HN.out]; omega, hne, Nat.lt_of_lt_of_le hl hbd.size⟩
  go_enter Tryz.func29, Tryz.ntmps29
  go_wp2_with fail
  go_big_quiet (first | (go_at_call 19; exact Calls.quiet_of_same (cB2 _)))
  have hbd : Below w.heap.size w (w.drewN nq) := below_drewN (Below.refl _ _) nq
  have h7 := H6.out.keep hbd
  have HT7 := hidb (HTS.out.but (But.of_below (S := fun _ => False) hbd) hl (fun h => h))
  have HBD := hidb hbd
  have H7 := hidb h7
  obtain ⟨d0, d1, -, -, -, -, -, e1, -, -, -, -, hg7⟩ := h7
  clear hbd c0 c1 c2 c3 c4 c5 f1
  generalize w.drewN nq = W1 at *
  go_wp2_with fail
  go_end0
  have hB : But (· = g) W1 (W1.setCell ⟨g, 1, none⟩ (.int .i64 ((i : Int) + 1))) := (But.refl (· = g) W1).setCell (p := ⟨g, 1, none⟩) (fun _ => rfl) _
  have h8 := H7.out.set1 (.int .i64 ((i : Int) + 1))
  exact ⟨rfl, ⟨⟨cap, by rw [show (((i + 1 : Nat)) : Int) = (i : Int) + 1 by omega]; exact h8⟩, HT7.out.but hB (Nat.lt_of_lt_of_le hl HBD.out.size) hne, by rw [HN.out]; exact hi1, by rw [HN.out]; exact hf, hne, Nat.lt_of_lt_of_le (Nat.lt_of_lt_of_le hl HBD.out.size) hB.size⟩, (But.of_below HBD.out).trans hB⟩

set_option maxHeartbeats 2000000 in
theorem qNext_bad (h : QB w g b TS i V o er p) (he : er ≠ 0) : Calls Tryz.prog 29 #[.pointer (some ⟨g, 0, none⟩)] w fun r w' => r = .returned (.tuple #[]) ∧ Below w.heap.size w w' := by
  have k3 : (er != 0) = true := by simpa using he
  have cB2 : ∀ n, Calls Tryz.prog 19 #[.pointer (some ⟨g, 0, none⟩)] (w.drewN n) fun e w' => e = .returned (.bool true) ∧ w' = w.drewN n := fun n => by
    have hbd : Below w.heap.size w (w.drewN n) := below_drewN (Below.refl _ _) n
    have := qBad (h.keep hbd)
    rw [k3] at this
    exact this
  clear h he k3
  go_enter Tryz.func29, Tryz.ntmps29
  go_wp2_with fail
  go_big_quiet (first | (go_at_call 19; exact Calls.quiet_of_same (cB2 _)))
  go_wp2_with fail
  go_end0
  exact ⟨rfl, below_drewN (Below.refl _ _) nq⟩

set_option maxHeartbeats 2000000 in
theorem qWant_on {t : Tk} {k : Int} {x : ByteArray} (h : QB w g b TS i V o 0 p) (ht : TS[i]? = some t) (hk : t.k = k) (hx : t.x = x) (hi1 : i + 1 < TS.length) : Calls Tryz.prog 27 #[.pointer (some ⟨g, 0, none⟩), .int .i64 k, .string x] w fun r w' => r = .returned (.tuple #[]) ∧ QB w' g b TS (i + 1) V o 0 p ∧ But (· = g) w w' := by
  have cI := qIs k x h ht
  simp only [hk, hx, decide_true, Bool.and_true] at cI
  have cN : ∀ w', Below w.heap.size w w' → _ := fun w' hb => qNext_on (h.keep hb) hi1
  clear h ht hk hx hi1
  go_enter Tryz.func27, Tryz.ntmps27
  go_wp2_with (first
    | (go_at_call 61; refine cI.mono ?_; rintro r1 w1 ⟨rfl, hb1⟩; have HB1 := hidb hb1; clear hb1)
    | (go_at_call 29; refine (cN _ HB1.out).mono ?_; rintro r1 w2 ⟨rfl, hq, hb2⟩))
  go_end0
  exact ⟨rfl, hq, (But.of_below HB1.out).trans hb2⟩

set_option maxHeartbeats 2000000 in
theorem qWant_no {t : Tk} {k : Int} {x : ByteArray} (h : QB w g b TS i V o er p) (ht : TS[i]? = some t) (hn : ¬ (er = 0 ∧ t.k = k ∧ t.x = x)) : Calls Tryz.prog 27 #[.pointer (some ⟨g, 0, none⟩), .int .i64 k, .string x] w fun r w' => r = .returned (.tuple #[]) ∧ QB w' g b TS i V o (if er = 0 then 24 else er) (if er = 0 then (t.p : Int) else p) ∧ But (· = g) w w' := by
  have cI := qIs k x h ht
  have hf : (decide (er = 0) && decide (t.k = k) && decide (t.x = x)) = false := by
    by_cases h1 : er = 0 <;> by_cases h2 : t.k = k <;> by_cases h3 : t.x = x <;> simp [h1, h2, h3]
    exact hn ⟨h1, h2, h3⟩
  rw [hf] at cI
  have cN : ∀ w', Below w.heap.size w w' → _ := fun w' hb => qNow (h.keep hb) ht
  have cF : ∀ w', Below w.heap.size w w' → _ := fun w' hb => qFail 24 (t.p : Int) (h.keep hb)
  obtain ⟨tk, tx, tn, tf, tp⟩ := t
  simp only [Tk.val] at *
  clear h ht hn hf
  generalize (if er = 0 then (24 : Int) else er) = E at cF ⊢
  generalize (if er = 0 then (tp : Int) else p) = Q at cF ⊢
  go_enter Tryz.func27, Tryz.ntmps27
  go_wp2_with (first
    | (go_at_call 61; refine cI.mono ?_; rintro r1 w1 ⟨rfl, hb1⟩; have HB1 := hidb hb1; clear hb1)
    | (go_at_call 26; refine (cN _ HB1.out).mono ?_; rintro r1 w2 ⟨rfl, hb2⟩; have HB2 := hidb (HB1.out.trans (hb2.mono HB1.out.size)); clear hb2)
    | (go_at_call 28; refine (cF _ HB2.out).mono ?_; rintro r1 w3 ⟨rfl, hq, hb3⟩))
  exact bodyPost_ret (v := .tuple #[]) (by simp [results, Tryz.results27, go_sem]) rfl ⟨rfl, hq, (But.of_below HB2.out).trans hb3⟩

set_option maxHeartbeats 2000000 in
theorem qKind_on {t : Tk} {k : Int} (h : QB w g b TS i V o 0 p) (ht : TS[i]? = some t) (hk : t.k = k) (hi1 : i + 1 < TS.length) : Calls Tryz.prog 30 #[.pointer (some ⟨g, 0, none⟩), .int .i64 k] w fun r w' => r = .returned t.val ∧ QB w' g b TS (i + 1) V o 0 p ∧ But (· = g) w w' := by
  have hz := h.glt
  have hbl0 := h.lt
  have hb1 := below_new w (.cells #[.int .i64 0, .string ⟨#[]⟩, .int .i64 0, .float .f64 0, .int .i64 0] 41)
  have cN := qNow (h.keep hb1) ht
  have cX : ∀ w', Below w.heap.size w w' → _ := fun w' hb => qNext_on (h.keep hb) hi1
  have X := Box.new w 41 (.int .i64 0) (.string ⟨#[]⟩) (.int .i64 0) (.float .f64 0) (.int .i64 0)
  have hsz : (w.alloc (.cells #[.int .i64 0, .string ⟨#[]⟩, .int .i64 0, .float .f64 0, .int .i64 0] 41)).heap.size = w.heap.size + 1 := by simp
  obtain ⟨tk, tx, tn, tf, tp⟩ := t
  simp only at hk
  subst hk
  have HB1 := hidb hb1
  have HX := hidb X
  clear h ht hi1 hb1 X
  simp only [Tk.val] at *
  go_enter Tryz.func30, Tryz.ntmps30
  go_wp2_with fail
  generalize (w.alloc (.cells #[.int .i64 0, .string ⟨#[]⟩, .int .i64 0, .float .f64 0, .int .i64 0] 41)) = W1 at cN HB1 HX hsz ⊢
  refine cN.mono ?_
  rintro r1 w2 ⟨rfl, hb2⟩
  have hb3 : Below w.heap.size w (w2.alloc (.cells #[.int .i64 tk, .string tx, .int .i64 tn, .float .f64 tf, .int .i64 (tp : Int)] 41)) := (HB1.out.trans (hb2.mono HB1.out.size)).alloc (Nat.le_trans HB1.out.size hb2.size) _
  have Y := Box.new w2 41 (.int .i64 tk) (.string tx) (.int .i64 tn) (.float .f64 tf) (.int .i64 (tp : Int))
  have X2 := (HX.out.keep hb2).keep (below_new w2 (.cells #[.int .i64 tk, .string tx, .int .i64 tn, .float .f64 tf, .int .i64 (tp : Int)] 41))
  have z2 := hb2.size
  have HB3 := hidb hb3
  have HY := hidb Y
  have HX2 := hidb X2
  have hblt : b < w.heap.size := hbl0
  clear hb2 hb3 Y X2 cN HX
  go_wp2_with (first
    | (go_at_call 29; refine (cX _ HB3.out).mono ?_; rintro r1 w3 ⟨rfl, hq, hbt⟩; obtain ⟨x0, x1, x2, x3, x4, y0, y1, y2, y3, y4, xl⟩ := Box.but HX2.out hbt (show ¬ w.heap.size = g by omega); obtain ⟨u0, u1, u2, u3, u4, -, -, -, -, -, ul⟩ := Box.but HY.out hbt (show ¬ w2.heap.size = g by omega); have HQ := hidb hq; have HBT := hidb hbt; clear hq hbt))
  exact bodyPost_ret (v := Tk.val ⟨tk, tx, tn, tf, tp⟩) (by simp [results, Tryz.results30, go_sem, x0, x1, x2, x3, x4, Tk.val]) rfl ⟨rfl, QB.set5 HQ.out (by omega) (by omega) _ _ _ _ _, ((((((But.of_below (S := (· = g)) HB3.out).trans HBT.out).setCell (p := ⟨w.heap.size, 0, none⟩) (fun h => absurd h (Nat.lt_irrefl _)) _).setCell (p := ⟨w.heap.size, 1, none⟩) (fun h => absurd h (Nat.lt_irrefl _)) _).setCell (p := ⟨w.heap.size, 2, none⟩) (fun h => absurd h (Nat.lt_irrefl _)) _).setCell (p := ⟨w.heap.size, 3, none⟩) (fun h => absurd h (Nat.lt_irrefl _)) _).setCell (p := ⟨w.heap.size, 4, none⟩) (fun h => absurd h (Nat.lt_irrefl _)) _⟩

set_option maxHeartbeats 2000000 in
/-- Another kind, or a fault ahead: the fault stays, or is this one; whatever token is told. -/
theorem qKind_no {t : Tk} {k : Int} (h : QB w g b TS i V o er p) (ht : TS[i]? = some t) (hn : ¬ (er = 0 ∧ t.k = k)) : Calls Tryz.prog 30 #[.pointer (some ⟨g, 0, none⟩), .int .i64 k] w fun r w' => ∃ u : Tk, r = .returned u.val ∧ QB w' g b TS i V o (if er = 0 then 24 else er) (if er = 0 then (t.p : Int) else p) ∧ But (· = g) w w' := by
  have hz := h.glt
  have hbl0 := h.lt
  have hb1 := below_new w (.cells #[.int .i64 0, .string ⟨#[]⟩, .int .i64 0, .float .f64 0, .int .i64 0] 41)
  have cN := qNow (h.keep hb1) ht
  have cX : er ≠ 0 → ∀ w', Below w.heap.size w w' → _ := fun he w' hb => qNext_bad (h.keep hb) he
  have cF : ∀ w', Below w.heap.size w w' → _ := fun w' hb => qFail 24 (t.p : Int) (h.keep hb)
  have X := Box.new w 41 (.int .i64 0) (.string ⟨#[]⟩) (.int .i64 0) (.float .f64 0) (.int .i64 0)
  have hsz : (w.alloc (.cells #[.int .i64 0, .string ⟨#[]⟩, .int .i64 0, .float .f64 0, .int .i64 0] 41)).heap.size = w.heap.size + 1 := by simp
  obtain ⟨tk, tx, tn, tf, tp⟩ := t
  have HB1 := hidb hb1
  have HX := hidb X
  have HH := hidb h
  clear h ht hb1 X
  simp only [Tk.val] at *
  by_cases hk : tk = k
  · have he : er ≠ 0 := fun h0 => hn ⟨h0, hk⟩
    have cX := cX he
    subst hk
    rw [if_neg he, if_neg he]
    clear cF hn
    have k3 : (tk != tk) = false := by simp
    go_enter Tryz.func30, Tryz.ntmps30
    go_wp2_with fail
    generalize (w.alloc (.cells #[.int .i64 0, .string ⟨#[]⟩, .int .i64 0, .float .f64 0, .int .i64 0] 41)) = W1 at cN HB1 HX hsz ⊢
    refine cN.mono ?_
    rintro r1 w2 ⟨rfl, hb2⟩
    have hb3 : Below w.heap.size w (w2.alloc (.cells #[.int .i64 tk, .string tx, .int .i64 tn, .float .f64 tf, .int .i64 (tp : Int)] 41)) := (HB1.out.trans (hb2.mono HB1.out.size)).alloc (Nat.le_trans HB1.out.size hb2.size) _
    have Y := Box.new w2 41 (.int .i64 tk) (.string tx) (.int .i64 tn) (.float .f64 tf) (.int .i64 (tp : Int))
    have X2 := (HX.out.keep hb2).keep (below_new w2 (.cells #[.int .i64 tk, .string tx, .int .i64 tn, .float .f64 tf, .int .i64 (tp : Int)] 41))
    have HB3 := hidb hb3
    have HY := hidb Y
    have HX2 := hidb X2
    clear hb2 hb3 Y X2 cN HX
    go_wp2_with (first
      | (go_at_call 29; refine (cX _ HB3.out).mono ?_; rintro r1 w3 ⟨rfl, hbt⟩; obtain ⟨x0, x1, x2, x3, x4, y0, y1, y2, y3, y4, xl⟩ := HX2.out.keep hbt; obtain ⟨u0, u1, u2, u3, u4, -, -, -, -, -, ul⟩ := HY.out.keep hbt; have HBT := hidb (HB3.out.trans (hbt.mono HB3.out.size)); clear hbt))
    exact bodyPost_ret (v := Tk.val ⟨tk, tx, tn, tf, tp⟩) (by simp [results, Tryz.results30, go_sem, x0, x1, x2, x3, x4, Tk.val]) rfl ⟨⟨tk, tx, tn, tf, tp⟩, rfl, QB.set5 (HH.out.keep HBT.out) (by omega) (by omega) _ _ _ _ _, But.of_below (((((HBT.out.setCell (p := ⟨w.heap.size, 0, none⟩) (Nat.le_refl _) _).setCell (p := ⟨w.heap.size, 1, none⟩) (Nat.le_refl _) _).setCell (p := ⟨w.heap.size, 2, none⟩) (Nat.le_refl _) _).setCell (p := ⟨w.heap.size, 3, none⟩) (Nat.le_refl _) _).setCell (p := ⟨w.heap.size, 4, none⟩) (Nat.le_refl _) _)⟩
  · have k3 : (tk != k) = true := by simpa using hk
    clear hk hn cX
    generalize (if er = 0 then (24 : Int) else er) = E at cF ⊢
    generalize (if er = 0 then (tp : Int) else p) = Q at cF ⊢
    go_enter Tryz.func30, Tryz.ntmps30
    go_wp2_with fail
    generalize (w.alloc (.cells #[.int .i64 0, .string ⟨#[]⟩, .int .i64 0, .float .f64 0, .int .i64 0] 41)) = W1 at cN HB1 HX hsz ⊢
    refine cN.mono ?_
    rintro r1 w2 ⟨rfl, hb2⟩
    have hb3 : Below w.heap.size w (w2.alloc (.cells #[.int .i64 tk, .string tx, .int .i64 tn, .float .f64 tf, .int .i64 (tp : Int)] 41)) := (HB1.out.trans (hb2.mono HB1.out.size)).alloc (Nat.le_trans HB1.out.size hb2.size) _
    have X2 := (HX.out.keep hb2).keep (below_new w2 (.cells #[.int .i64 tk, .string tx, .int .i64 tn, .float .f64 tf, .int .i64 (tp : Int)] 41))
    have HB3 := hidb hb3
    have HX2 := hidb X2
    clear hb2 hb3 X2 cN HX
    go_wp2_with (first
      | (go_at_call 28; refine (cF _ HB3.out).mono ?_; rintro r1 w3 ⟨rfl, hq, hbt⟩; obtain ⟨x0, x1, x2, x3, x4, y0, y1, y2, y3, y4, xl⟩ := Box.but HX2.out hbt (show ¬ w.heap.size = g by omega); have HQ := hidb hq; have HBT := hidb hbt; clear hq hbt))
    exact bodyPost_ret (v := Tk.val ⟨0, ⟨#[]⟩, 0, 0, 0⟩) (by simp [results, Tryz.results30, go_sem, x0, x1, x2, x3, x4, Tk.val]) rfl ⟨⟨0, ⟨#[]⟩, 0, 0, 0⟩, rfl, QB.set5 HQ.out (by omega) (by omega) _ _ _ _ _, ((((((But.of_below (S := (· = g)) HB3.out).trans HBT.out).setCell (p := ⟨w.heap.size, 0, none⟩) (fun h => absurd h (Nat.lt_irrefl _)) _).setCell (p := ⟨w.heap.size, 1, none⟩) (fun h => absurd h (Nat.lt_irrefl _)) _).setCell (p := ⟨w.heap.size, 2, none⟩) (fun h => absurd h (Nat.lt_irrefl _)) _).setCell (p := ⟨w.heap.size, 3, none⟩) (fun h => absurd h (Nat.lt_irrefl _)) _).setCell (p := ⟨w.heap.size, 4, none⟩) (fun h => absurd h (Nat.lt_irrefl _)) _⟩
end
end Rf
end Go.Proofs.YthdljnakmekhkaaGreatDoor


/- The reference's parser: where a step stands, and what it has kept. -/
namespace Go.Proofs.YthdljnakmekhkaaGreatDoor
namespace Rf
open Go.RowKit Go.Lib

/-- Does a text begin with a small letter? -/
def lowB (x : ByteArray) : Bool := match x.data[0]? with
  | some c => decide (97 ≤ c.toNat) && decide (c.toNat ≤ 122)
  | none => false
/-- What tokens of a source are like. -/
structure Tg (t : Tk) : Prop where
  sgn : t.k = 6 → lowB t.x = false
  wrd : t.k = 7 → lowB t.x = true
  txt : t.k = 1 ∨ t.k = 2 ∨ t.k = 5 → t.n = 0 ∧ t.f = 0
  int : t.k = 3 → t.x = ⟨#[]⟩ ∧ t.f = 0
  flt : t.k = 4 → t.x = ⟨#[]⟩ ∧ t.n = 0
theorem isM_sign {t : Tk} {x : ByteArray} (h : Tg t) (hx : lowB x = false) : Gm.isM t x = (decide (t.k = 6) && decide (t.x = x)) := by
  unfold Gm.isM
  by_cases h7 : t.k = 7
  · have h1 : ¬ t.x = x := fun e => by have := h.wrd h7; rw [e, hx] at this; cases this
    simp [h1]
  · simp [h7]
theorem isM_word {t : Tk} {x : ByteArray} (h : Tg t) (hx : lowB x = true) : Gm.isM t x = (decide (t.k = 7) && decide (t.x = x)) := by
  unfold Gm.isM
  by_cases h6 : t.k = 6
  · have h1 : ¬ t.x = x := fun e => by have := h.sgn h6; rw [e, hx] at this; cases this
    simp [h1]
  · simp [h6]

/-- Tokens end with the end. -/
def End (TS : List Tk) : Prop := ∃ a t, TS = a ++ [t] ∧ t.k = 8 ∧ ∀ u ∈ a, u.k ≠ 8

/-- The parser's box, no fault: the tokens that are left. -/
structure PB (w : World) (g b : Nat) (ts : List Tk) (V : Value) (o : Nat) : Prop where
  ex : ∃ TS i, QB w g b TS i V (o : Int) 0 0 ∧ ts = TS.drop i ∧ (∀ t ∈ TS, Tg t) ∧ End TS
section
variable {S : Nat → Prop} {w w' : World} {g b o : Nat} {ts : List Tk} {V : Value}
theorem PB.but (h : PB w g b ts V o) (hb : But S w w') (h1 : ¬ S g) (h2 : ¬ S b) : PB w' g b ts V o := by
  obtain ⟨TS, i, hq, ht, hg⟩ := h
  exact ⟨TS, i, hq.but hb h1 h2, ht, hg⟩
theorem PB.keep (h : PB w g b ts V o) (hb : Below w.heap.size w w') : PB w' g b ts V o := h.but (But.of_below (S := fun _ => False) hb) (fun h => h) (fun h => h)
theorem PB.glt (h : PB w g b ts V o) : g < w.heap.size := by obtain ⟨TS, i, hq, _⟩ := h; exact hq.glt
theorem PB.lt (h : PB w g b ts V o) : b < w.heap.size := by obtain ⟨TS, i, hq, _⟩ := h; exact hq.lt
theorem PB.ne (h : PB w g b ts V o) : b ≠ g := by obtain ⟨TS, i, hq, _⟩ := h; exact hq.ne
end

/-- A step that began in w0 with the nodes V0 stands in w with the nodes V, at the state s. -/
structure St (B g b o : Nat) (P : Nat → Prop) (w0 : World) (V0 : Value) (w : World) (V : Value) (s : PS) : Prop where
  pb : PB w g b s.ts V s.o
  ns : NS w B g b P V s.ns
  le : B ≤ w.heap.size
  ne : Ne s
  op : s.o = o
  but : But (fun k => k = g ∨ V0.ownBlock = some k) w0 w
  own : V.ownBlock = V0.ownBlock ∨ ∀ k, V.ownBlock = some k → w0.heap.size ≤ k
  plt : ∀ k, P k → k < w.heap.size
  npv : ∀ k, P k → V.ownBlock ≠ some k ∧ k ≠ g
  tl : s.ts.length ≤ 100000

abbrev At (B g b o : Nat) (P : Nat → Prop) (w : World) (V : Value) (s : PS) : Prop := St B g b o P w V w V s

section
variable {B g b o : Nat} {P : Nat → Prop} {w0 w w' w1 : World} {V0 V V' : Value} {s s' : PS}
theorem St.at (h : St B g b o P w0 V0 w V s) : At B g b o P w V s := ⟨h.pb, h.ns, h.le, h.ne, h.op, But.refl _ _, .inl rfl, h.plt, h.npv, h.tl⟩
theorem St.trans {Q : Nat → Prop} {o' : Nat} (h : St B g b o' Q w0 V0 w V s) (h' : St B g b o P w V w' V' s') : St B g b o P w0 V0 w' V' s' :=
  ⟨h'.pb, h'.ns, h'.le, h'.ne, h'.op, but_then h.but h.own h'.but, own_then h.but.size h.own h'.own, h'.plt, h'.npv, h'.tl⟩
theorem St.below (h : St B g b o P w0 V0 w V s) (hb : Below w.heap.size w w') : St B g b o P w0 V0 w' V s :=
  ⟨h.pb.keep hb, h.ns.but (But.of_below (S := fun _ => False) hb) (fun _ _ h => h) (fun _ h => h.elim), Nat.le_trans h.le hb.size, h.ne, h.op, h.but.trans (But.of_below hb), h.own, fun k hk => Nat.lt_of_lt_of_le (h.plt k hk) hb.size, h.npv, h.tl⟩
theorem St.glt (h : St B g b o P w0 V0 w V s) : g < w.heap.size := h.pb.glt
theorem St.blt (h : St B g b o P w0 V0 w V s) : b < w.heap.size := h.pb.lt
theorem St.vlt (h : St B g b o P w0 V0 w V s) : ∀ k, V.ownBlock = some k → k < w.heap.size := h.ns.vlt
/-- A step through tokens alone. -/
theorem St.cut (h : St B g b o P w0 V0 w V s) (hp : PB w' g b s'.ts V s'.o) (hn : s'.ns = s.ns) (he : Ne s') (ho : s'.o = s.o) (hl : s'.ts.length ≤ s.ts.length) (hb : But (· = g) w w') : St B g b o P w0 V0 w' V s' :=
  ⟨hp, hn ▸ h.ns.but hb (fun _ hk he => h.ns.ng (he ▸ hk)) (fun _ h => .inl h), Nat.le_trans h.le hb.size, he, ho.trans h.op, h.but.trans (hb.mono fun _ _ h => .inl h), h.own, fun k hk => Nat.lt_of_lt_of_le (h.plt k hk) hb.size, h.npv, Nat.le_trans hl h.tl⟩
/-- What stands beside the nodes stays beside them. -/
theorem St.beside (h : St B g b o P w V w' V' s') {k : Nat} (hk : k < w.heap.size) (hV : V.ownBlock ≠ some k) : V'.ownBlock ≠ some k := by
  intro he
  rcases h.own with e | e
  · exact hV (e ▸ he)
  · have := e k he; omega
theorem St.fresh (h : At B g b o P w V s) : V.ownBlock ≠ some w.heap.size := fun e => by have := h.vlt _ e; omega

end

section
variable {B g b o : Nat} {P : Nat → Prop} {w0 w w' w1 : World} {V0 V V' : Value} {s s' : PS}
/-- A row of places that lies in memory, neither the parser's nor its nodes'. -/
structure LR (w : World) (g : Nat) (P : Nat → Prop) (V v : Value) (l : List Nat) : Prop where
  row : LRow w v l
  ng : v.ownBlock ≠ some g
  nv : ∀ k, v.ownBlock = some k → V.ownBlock ≠ some k ∧ ¬ P k
theorem LR.none (w : World) (g : Nat) (P : Nat → Prop) (V : Value) : LR w g P V (.slice none 0 0) [] := ⟨.inl ⟨rfl, rfl⟩, by simp [Value.ownBlock], by simp [Value.ownBlock]⟩
theorem LR.step {v : Value} {l : List Nat} (h : LR w g P V v l) (h' : St B g b o P w V w' V' s') : LR w' g P V' v l := by
  refine ⟨h.row.but h'.but ?_, h.ng, fun k hk => ⟨h'.beside (h.row.lt k hk) (h.nv k hk).1, (h.nv k hk).2⟩⟩
  rintro k hk (rfl | hS)
  · exact h.ng hk
  · exact (h.nv k hk).1 hS
theorem LR.below {v : Value} {l : List Nat} (h : LR w g P V v l) (hb : Below w.heap.size w w') : LR w' g P V v l := ⟨h.row.but (But.of_below (S := fun _ => False) hb) (fun _ _ h => h), h.ng, h.nv⟩
theorem LR.sl {v : Value} {l : List Nat} (h : LR w g P V v l) : ∃ a m c, v = .slice a m c := by
  rcases h.row with ⟨rfl, _⟩ | ⟨_, _, rfl, _⟩
  · exact ⟨_, _, _, rfl⟩
  · exact ⟨_, _, _, rfl⟩

end
/-- A row of places of the call's own: it may grow. -/
structure IR (w : World) (C g b : Nat) (V v : Value) (l : List Nat) : Prop where
  own : w.ownsRow C IT 1 v l.length (l.map iv)
  ng : v.ownBlock ≠ some g
  nb : v.ownBlock ≠ some b
  nv : ∀ k, v.ownBlock = some k → V.ownBlock ≠ some k

/-- Blocks that are held, and a row's besides. -/
def PV (P : Nat → Prop) (v : Value) (k : Nat) : Prop := P k ∨ v.ownBlock = some k

section
variable {B g b o C : Nat} {P : Nat → Prop} {w0 w w' : World} {V0 V V' v : Value} {s s' : PS} {l : List Nat}
theorem IR.but (h : IR w C g b V v l) {S : Nat → Prop} (hb : But S w w') (hs : ∀ k, v.ownBlock = some k → ¬ S k) : IR w' C g b V v l := ⟨row_but h.own hb hs, h.ng, h.nb, h.nv⟩
theorem IR.step (h : IR w C g b V v l) (h' : St B g b o P w V w' V' s') : IR w' C g b V' v l := by
  refine ⟨row_but h.own h'.but ?_, h.ng, h.nb, fun k hk => h'.beside (row_lt h.own k hk) (h.nv k hk)⟩
  rintro k hk (rfl | hS)
  · exact h.ng hk
  · exact h.nv k hk hS
theorem IR.below (h : IR w C g b V v l) (hb : Below w.heap.size w w') : IR w' C g b V v l := h.but (But.of_below (S := fun _ => False) hb) (fun _ _ h => h)
theorem IR.none (w : World) (C g b : Nat) (V : Value) : IR w C g b V (.slice none 0 0) [] := ⟨⟨rfl, .inl ⟨rfl, rfl⟩⟩, by simp [Value.ownBlock], by simp [Value.ownBlock], by simp [Value.ownBlock]⟩
theorem IR.rebase {C' : Nat} (h : IR w C g b V v l) (hC : C' ≤ C) : IR w C' g b V v l := ⟨row_base h.own hC, h.ng, h.nb, h.nv⟩
theorem IR.sl (h : IR w C g b V v l) : ∃ a c, v = .slice a l.length c := by
  rcases h.own.2 with ⟨hv, hn⟩ | ⟨q, cap, cur, hv, _⟩
  · exact ⟨Option.none, 0, by rw [hv, hn]⟩
  · exact ⟨_, _, hv⟩
theorem IR.lr (h : IR w C g b V v l) (hP : ∀ k, P k → k < C) : LR w g P V v l := by
  refine ⟨?_, h.ng, fun k hk => ⟨h.nv k hk, fun hp => ?_⟩⟩
  · have hl := row_lt h.own
    rcases h.own.2 with ⟨hv, hn⟩ | ⟨q, cap, cur, hv, hB, hq, rest⟩
    · exact .inl ⟨hv, List.length_eq_zero_iff.1 hn⟩
    · subst hv
      refine .inr ⟨q, cap, rfl, hl q rfl, fun j n hj => ?_⟩
      have hc := h.own.cellAt j (by have := (List.getElem?_eq_some_iff.1 hj).1; omega)
      rw [hc]
      simp [hj]
  · have := (h.own.lt k hk).1
    have := hP k hp
    omega

theorem St.more (h : St B g b o P w0 V0 w V s) {v : Value} (hv : ∀ k, v.ownBlock = some k → k < w.heap.size ∧ k ≠ g ∧ V.ownBlock ≠ some k) (hn : NS w B g b (PV P v) V s.ns) : St B g b o (PV P v) w0 V0 w V s :=
  ⟨h.pb, hn, h.le, h.ne, h.op, h.but, h.own, fun k hk => hk.elim (h.plt k) fun hk => (hv k hk).1, fun k hk => hk.elim (h.npv k) fun hk => ⟨(hv k hk).2.2, (hv k hk).2.1⟩, h.tl⟩
theorem St.less (h : St B g b o P w0 V0 w V s) {Q : Nat → Prop} (hQ : ∀ k, Q k → P k) : St B g b o Q w0 V0 w V s :=
  ⟨h.pb, h.ns.less hQ, h.le, h.ne, h.op, h.but, h.own, fun k hk => h.plt k (hQ k hk), fun k hk => h.npv k (hQ k hk), h.tl⟩
theorem St.drop (h : St B g b o (PV P v) w0 V0 w V s) : St B g b o P w0 V0 w V s := h.less fun _ hk => .inl hk
/-- A row that is made new. -/
theorem IR.lit (h : St B g b o P w0 V0 w V s) (cs : Array Value) (l : List Nat) (hc : cs.toList = l.map iv) (hl : l.length ≤ 1000) :
    IR (w.alloc (.cells cs IT)) w0.heap.size g b V (.slice (some ⟨w.heap.size, 0, .none⟩) l.length l.length) l ∧ St B g b o (PV P (.slice (some ⟨w.heap.size, 0, .none⟩) l.length l.length)) w0 V0 (w.alloc (.cells cs IT)) V s := by
  have hs : cs.size = l.length := by have := congrArg List.length hc; simpa using this
  have hb : Below w.heap.size w (w.alloc (.cells cs IT)) := below_new _ _
  have ho := World.ownsRow_lit (e := IT) (size := 1) (base := w0.heap.size) w cs l.length h.but.size (by unfold maxLen; omega) (by omega)
  have hV : V.ownBlock ≠ some w.heap.size := h.at.fresh
  refine ⟨⟨by rw [← hc]; exact ho, ?_, ?_, ?_⟩, (h.below hb).more ?_ ?_⟩
  · have := h.glt; simp [Value.ownBlock]; omega
  · have := h.blt; simp [Value.ownBlock]; omega
  · intro k hk; simp [Value.ownBlock] at hk; subst hk; exact hV
  · intro k hk
    simp [Value.ownBlock] at hk
    subst hk
    exact ⟨by simp, by have := h.glt; omega, hV⟩
  · exact ((h.ns.newer (v := .slice (some ⟨w.heap.size, 0, .none⟩) l.length l.length) (fun k hk => by simp [Value.ownBlock] at hk; omega)).but (But.of_below (S := fun _ => False) hb) (fun _ _ h => h) (fun _ h => h.elim))

/-- A row that grows. -/
theorem IR.grown (h : St B g b o (PV P v) w0 V0 w V s) (hi : IR w w0.heap.size g b V v l) {X : World} (hX : Below w.heap.size w X) {v' : Value} {l' : List Nat} (hG : X.grownBy w' v.ownBlock) (hA : ∀ k, v'.ownBlock = some k → v.ownBlock = some k ∨ X.heap.size ≤ k)
    (ho : w'.ownsRow w0.heap.size IT 1 v' l'.length (l'.map iv)) : IR w' w0.heap.size g b V v' l' ∧ St B g b o (PV P v') w0 V0 w' V s := by
  have hXs := hX.size
  have hGs := hG.size
  have hw0 := h.but.size
  have hB3 : But (fun k => v.ownBlock = some k) w w' := (But.of_below hX).trans (grown_but hG)
  have hvg := hi.ng
  have hvb := hi.nb
  have hk' : ∀ k, v'.ownBlock = some k → k ≠ g ∧ k ≠ b ∧ V.ownBlock ≠ some k := by
    intro k hk
    rcases hA k hk with e | e
    · exact ⟨fun he => hi.ng (he ▸ e), fun he => hi.nb (he ▸ e), hi.nv k e⟩
    · exact ⟨by have := h.glt; omega, by have := h.blt; omega, fun he => by have := h.vlt k he; omega⟩
  refine ⟨⟨ho, fun he => (hk' g he).1 rfl, fun he => (hk' b he).2.1 rfl, fun k he => (hk' k he).2.2⟩, ?_⟩
  have hlo : ∀ k, v.ownBlock = some k → w0.heap.size ≤ k := fun k e => (hi.own.lt k e).1
  refine ⟨h.pb.but hB3 (fun e => hi.ng e) (fun e => hi.nb e), ?_, by have := h.le; omega, h.ne, h.op, ⟨hB3.os.trans h.but.os, hB3.tape.trans h.but.tape, hB3.output.trans h.but.output, by omega, fun k hk hs => ?_⟩, h.own, fun k hk => ?_, fun k hk => ?_, h.tl⟩
  · have h1 : NS X B g b (PV P v) V s.ns := h.ns.but (But.of_below (S := fun _ => False) hX) (fun _ _ h => h) (fun _ h => h.elim)
    obtain ⟨⟨vs, a1, a2, a3⟩, a4, a5, a6⟩ := h1
    refine ⟨⟨vs, a1, row_but a2 (grown_but hG) (fun k hV he => hi.nv k he hV), fun i n u hn hu => ?_⟩, a4, a5, a6⟩
    obtain ⟨c1, c2, c3⟩ := a3 i n u hn hu
    refine ⟨c1.but (grown_but hG) (fun k e he => (c3 k e).2 (.inr he)), c2, fun k e => ⟨(c3 k e).1, ?_⟩⟩
    rintro (hp | hp)
    · exact (c3 k e).2 (.inl hp)
    · rcases hA k hp with e2 | e2
      · exact (c3 k e).2 (.inr e2)
      · have := c1.lt k e; omega
  · refine (hB3.block k (by omega) (fun e => ?_)).trans (h.but.block k hk hs)
    have := hlo k e; omega
  · rcases hk with hp | hp
    · have := h.plt k (.inl hp); omega
    · exact row_lt ho k hp
  · rcases hk with hp | hp
    · exact h.npv k (.inl hp)
    · exact ⟨(hk' k hp).2.2, (hk' k hp).1⟩
end


/-- There is a fault: nothing is done any more. -/
structure Bd (g b : Nat) (w0 : World) (V0 : Value) (w : World) (er : Int) (p : Nat) : Prop where
  no : er ≠ 0
  ex : ∃ TS i V o, QB w g b TS i V o er (p : Int) ∧ (∀ t ∈ TS, Tg t) ∧ End TS
  but : But (fun k => k = g ∨ V0.ownBlock = some k) w0 w
theorem Bd.keep {g b : Nat} {w0 w w' : World} {V0 : Value} {er : Int} {p : Nat} (h : Bd g b w0 V0 w er p) (hb : Below w.heap.size w w') : Bd g b w0 V0 w' er p := by
  obtain ⟨h1, ⟨TS, i, V, o, h2, h3, h4⟩, h5⟩ := h
  exact ⟨h1, ⟨TS, i, V, o, h2.keep hb, h3, h4⟩, h5.trans (But.of_below hb)⟩
/-- What a step that tells a number has done. -/
def Rz (B g b o : Nat) (P : Nat → Prop) (w : World) (V : Value) (r : Except (Int × Nat) (Nat × PS)) (e : Ending) (w' : World) : Prop :=
  (∃ er p n, r = .error (er, p) ∧ e = .returned (iv n) ∧ Bd g b w V w' er p) ∨ (∃ x s' V', r = .ok (x, s') ∧ e = .returned (iv x) ∧ St B g b o P w V w' V' s')
/-- A row of numbers of a call's own, whatever they are. -/
def RB (w : World) (C : Nat) (v : Value) (l : List Nat) : Prop := w.ownsRow C IT 1 v l.length (l.map iv) ∧ l.length ≤ 100002
/-- What a step that tells a row has done. -/
def RzL (B g b o : Nat) (P : Nat → Prop) (w : World) (V : Value) (r : Except (Int × Nat) (List Nat × PS)) (e : Ending) (w' : World) : Prop :=
  (∃ er p v l, r = .error (er, p) ∧ e = .returned v ∧ RB w' w.heap.size v l ∧ v.ownBlock ≠ some g ∧ Bd g b w V w' er p) ∨ (∃ l s' V' v, r = .ok (l, s') ∧ e = .returned v ∧ St B g b o P w V w' V' s' ∧ St B g b o (PV P v) w V w' V' s' ∧ IR w' w.heap.size g b V' v l ∧ l.length ≤ 100001)
abbrev Ba (g b : Nat) (w : World) (V : Value) (er : Int) (p : Nat) : Prop := Bd g b w V w er p
end Rf
end Go.Proofs.YthdljnakmekhkaaGreatDoor


/- The reference's parser: its small steps, as the grammar has them. -/
namespace Go.Proofs.YthdljnakmekhkaaGreatDoor
namespace Rf
open Go.RowKit Go.Lib
attribute [local go_sem] store_float f64bits
attribute [local go_sem ↓] Go.wp_at_zero Go.wp_at_succ
attribute [local go_sem] nd_p tk_k tk_x tk_n tk_f tk_p
section
variable {w w' : World} {g b i : Nat} {TS : List Tk} {V : Value} {o er p : Int}
set_option maxHeartbeats 1000000 in
theorem qSign {t : Tk} (x : ByteArray) (h : QB w g b TS i V o er p) (ht : TS[i]? = some t) : Calls Tryz.prog 64 #[.pointer (some ⟨g, 0, none⟩), .string x] w fun r w' => r = .returned (.bool (decide (er = 0) && decide (t.k = 6) && decide (t.x = x))) ∧ Below w.heap.size w w' := by
  have cI := qIs 6 x h ht
  generalize (decide (er = 0) && decide (t.k = 6) && decide (t.x = x)) = v at cI ⊢
  clear h ht
  go_enter Tryz.func64, Tryz.ntmps64
  go_wp2_with (go_at_call 61; refine cI.mono ?_; rintro r1 w1 ⟨rfl, hb1⟩; have HB1 := hidb hb1; clear hb1)
  exact bodyPost_ret (v := .bool v) (by simp [results, Tryz.results64, go_sem]) rfl ⟨rfl, HB1.out⟩
set_option maxHeartbeats 1000000 in
theorem qKept {t : Tk} (x : ByteArray) (h : QB w g b TS i V o er p) (ht : TS[i]? = some t) : Calls Tryz.prog 105 #[.pointer (some ⟨g, 0, none⟩), .string x] w fun r w' => r = .returned (.bool (decide (er = 0) && decide (t.k = 7) && decide (t.x = x))) ∧ Below w.heap.size w w' := by
  have cI := qIs 7 x h ht
  generalize (decide (er = 0) && decide (t.k = 7) && decide (t.x = x)) = v at cI ⊢
  clear h ht
  go_enter Tryz.func105, Tryz.ntmps105
  go_wp2_with (go_at_call 61; refine cI.mono ?_; rintro r1 w1 ⟨rfl, hb1⟩; have HB1 := hidb hb1; clear hb1)
  exact bodyPost_ret (v := .bool v) (by simp [results, Tryz.results105, go_sem]) rfl ⟨rfl, HB1.out⟩
end

theorem hd_tok {TS : List Tk} {i : Nat} {s : PS} (hi : i < TS.length) (hs : s.ts = TS.drop i) : TS[i]? = some (Gm.hd s) := by
  unfold Gm.hd
  rw [hs, List.getElem?_eq_getElem hi, List.drop_eq_getElem_cons hi]
  rfl
theorem cut_drop {TS : List Tk} {i : Nat} {s : PS} (hs : s.ts = TS.drop i) : (Gm.cut s).ts = TS.drop (i + 1) := by
  simp [Gm.cut, hs, List.tail_drop]
theorem drop_next {TS : List Tk} {i : Nat} {s : PS} (hi : i < TS.length) (hs : s.ts = TS.drop i) (hn : Ne s) (hk : (Gm.hd s).k ≠ 8) : i + 1 < TS.length := by
  obtain ⟨r, hr⟩ := Gm.ne_hd2 hn hk
  have := congrArg List.length (hs.symm.trans hr)
  simp at this
  omega

section
variable {B g b o : Nat} {P : Nat → Prop} {w0 w w' w1 : World} {V0 V V' : Value} {s s' : PS} {er : Int} {p : Nat}
theorem St.tg (h : St B g b o P w0 V0 w V s) : Tg (Gm.hd s) := by
  obtain ⟨TS, i, hq, ht, hg, -⟩ := h.pb
  exact hg _ (List.mem_of_getElem? (hd_tok hq.ilt ht))
theorem sNow (h : St B g b o P w0 V0 w V s) : Calls Tryz.prog 26 #[.pointer (some ⟨g, 0, none⟩)] w fun r w' => ∃ t, Gm.hd s = t ∧ r = .returned t.val ∧ Below w.heap.size w w' := by
  obtain ⟨TS, i, hq, ht, -, -⟩ := h.pb
  exact (qNow hq (hd_tok hq.ilt ht)).mono fun _ _ ⟨h1, h2⟩ => ⟨_, rfl, h1, h2⟩
theorem sSign {x : ByteArray} (hx : lowB x = false) (h : St B g b o P w0 V0 w V s) : Calls Tryz.prog 64 #[.pointer (some ⟨g, 0, none⟩), .string x] w fun r w' => ((Gm.isM (Gm.hd s) x = true ∧ r = .returned (.bool true)) ∨ (Gm.isM (Gm.hd s) x = false ∧ r = .returned (.bool false))) ∧ Below w.heap.size w w' := by
  have htg := h.tg
  obtain ⟨TS, i, hq, ht, hg, -⟩ := h.pb
  refine (qSign x hq (hd_tok hq.ilt ht)).mono fun r w' ⟨h1, h2⟩ => ⟨?_, h2⟩
  rw [isM_sign htg hx]
  simp only [decide_true, Bool.true_and] at h1
  rw [h1]
  cases (decide ((Gm.hd s).k = 6) && decide ((Gm.hd s).x = x)) <;> simp
theorem sKept {x : ByteArray} (hx : lowB x = true) (h : St B g b o P w0 V0 w V s) : Calls Tryz.prog 105 #[.pointer (some ⟨g, 0, none⟩), .string x] w fun r w' => ((Gm.isM (Gm.hd s) x = true ∧ r = .returned (.bool true)) ∨ (Gm.isM (Gm.hd s) x = false ∧ r = .returned (.bool false))) ∧ Below w.heap.size w w' := by
  have htg := h.tg
  obtain ⟨TS, i, hq, ht, hg, -⟩ := h.pb
  refine (qKept x hq (hd_tok hq.ilt ht)).mono fun r w' ⟨h1, h2⟩ => ⟨?_, h2⟩
  rw [isM_word htg hx]
  simp only [decide_true, Bool.true_and] at h1
  rw [h1]
  cases (decide ((Gm.hd s).k = 7) && decide ((Gm.hd s).x = x)) <;> simp
theorem sBad (h : St B g b o P w0 V0 w V s) : Calls Tryz.prog 19 #[.pointer (some ⟨g, 0, none⟩)] w fun r w' => r = .returned (.bool false) ∧ w' = w := by
  obtain ⟨TS, i, hq, -⟩ := h.pb
  exact qBad hq
theorem sNext (h : At B g b o P w V s) (hk : (Gm.hd s).k ≠ 8) : Calls Tryz.prog 29 #[.pointer (some ⟨g, 0, none⟩)] w fun r w' => r = .returned (.tuple #[]) ∧ St B g b o P w V w' V (Gm.cut s) := by
  obtain ⟨TS, i, hq, ht, hg, he⟩ := h.pb
  exact (qNext_on hq (drop_next hq.ilt ht h.ne hk)).mono fun _ _ ⟨h1, h2, h3⟩ => ⟨h1, h.cut (s' := Gm.cut s) ⟨TS, i + 1, h2, cut_drop ht, hg, he⟩ rfl (Gm.ne_cut h.ne hk).1 rfl (by simp [Gm.cut]) h3⟩
theorem sFail {e : Int} (h : At B g b o P w V s) (q : Nat) (he : e ≠ 0) : Calls Tryz.prog 28 #[.pointer (some ⟨g, 0, none⟩), .int .i64 e, .int .i64 (q : Int)] w fun r w' => r = .returned (.tuple #[]) ∧ Bd g b w V w' e q := by
  obtain ⟨TS, i, hq, ht, hg, hen⟩ := h.pb
  exact (qFail e (q : Int) hq).mono fun _ _ ⟨h1, h2, h3⟩ => ⟨h1, he, ⟨TS, i, V, _, h2, hg, hen⟩, h3.mono fun _ _ h => .inl h⟩
/-- A sign or a kept word that must stand there. -/
theorem sWant {k : Int} {x : ByteArray} (hx : (k = 6 ∧ lowB x = false) ∨ (k = 7 ∧ lowB x = true)) (h : At B g b o P w V s) : Calls Tryz.prog 27 #[.pointer (some ⟨g, 0, none⟩), .int .i64 k, .string x] w fun r w' =>
    (∃ er q, Gm.need x s = .error (er, q) ∧ r = .returned (.tuple #[]) ∧ Bd g b w V w' er q) ∨ (∃ s', Gm.need x s = .ok ((), s') ∧ r = .returned (.tuple #[]) ∧ St B g b o P w V w' V s') := by
  have htg := h.tg
  have hm : Gm.isM (Gm.hd s) x = (decide ((Gm.hd s).k = k) && decide ((Gm.hd s).x = x)) := by
    rcases hx with ⟨rfl, hx⟩ | ⟨rfl, hx⟩
    · exact isM_sign htg hx
    · exact isM_word htg hx
  obtain ⟨TS, i, hq, ht, hg, hen⟩ := h.pb
  by_cases hh : Gm.isM (Gm.hd s) x = true
  · have h8 := Gm.isM_k hh
    have hn : Gm.need x s = .ok ((), Gm.cut s) := by simp only [Gm.need, if_pos hh]
    rw [hm, Bool.and_eq_true, decide_eq_true_eq, decide_eq_true_eq] at hh
    exact (qWant_on hq (hd_tok hq.ilt ht) hh.1 hh.2 (drop_next hq.ilt ht h.ne h8)).mono fun _ _ ⟨h1, h2, h3⟩ => .inr ⟨_, hn, h1, h.cut (s' := Gm.cut s) ⟨TS, i + 1, h2, cut_drop ht, hg, hen⟩ rfl (Gm.ne_cut h.ne h8).1 rfl (by simp [Gm.cut]) h3⟩
  · have hn : Gm.need x s = .error (24, (Gm.hd s).p) := by simp only [Gm.need, if_neg hh]
    have hno : ¬ ((0 : Int) = 0 ∧ (Gm.hd s).k = k ∧ (Gm.hd s).x = x) := fun ⟨_, h1, h2⟩ => hh (by rw [hm]; simp [h1, h2])
    exact (qWant_no hq (hd_tok hq.ilt ht) hno).mono fun _ _ ⟨h1, h2, h3⟩ => .inl ⟨24, _, hn, h1, by decide, ⟨TS, i, V, _, h2, hg, hen⟩, h3.mono fun _ _ h => .inl h⟩
theorem sKind {k : Int} (hk : k ≠ 8) (h : At B g b o P w V s) : Calls Tryz.prog 30 #[.pointer (some ⟨g, 0, none⟩), .int .i64 k] w fun r w' =>
    (∃ er q, ∃ u : Tk, Gm.needK k s = .error (er, q) ∧ r = .returned u.val ∧ Bd g b w V w' er q) ∨ (∃ t s', Gm.needK k s = .ok (t, s') ∧ r = .returned t.val ∧ St B g b o P w V w' V s') := by
  obtain ⟨TS, i, hq, ht, hg, hen⟩ := h.pb
  by_cases hh : (Gm.hd s).k = k
  · have h8 : (Gm.hd s).k ≠ 8 := by omega
    have hn : Gm.needK k s = .ok (Gm.hd s, Gm.cut s) := by simp only [Gm.needK, if_pos hh]
    exact (qKind_on hq (hd_tok hq.ilt ht) hh (drop_next hq.ilt ht h.ne h8)).mono fun _ _ ⟨h1, h2, h3⟩ => .inr ⟨_, _, hn, h1, h.cut (s' := Gm.cut s) ⟨TS, i + 1, h2, cut_drop ht, hg, hen⟩ rfl (Gm.ne_cut h.ne h8).1 rfl (by simp [Gm.cut]) h3⟩
  · have hn : Gm.needK k s = .error (24, (Gm.hd s).p) := by simp only [Gm.needK, if_neg hh]
    exact (qKind_no hq (hd_tok hq.ilt ht) (fun ⟨_, h1⟩ => hh h1)).mono fun _ _ ⟨u, h1, h2, h3⟩ => .inl ⟨24, _, u, hn, h1, by decide, ⟨TS, i, V, _, h2, hg, hen⟩, h3.mono fun _ _ h => .inl h⟩

/- In a fault. -/
theorem bNow (h : Bd g b w0 V0 w er p) : Calls Tryz.prog 26 #[.pointer (some ⟨g, 0, none⟩)] w fun r w' => ∃ t : Tk, r = .returned t.val ∧ Below w.heap.size w w' := by
  obtain ⟨hn, ⟨TS, i, V, o, hq, hg, he⟩, hb⟩ := h
  obtain ⟨t, ht⟩ := hq.tok
  exact (qNow hq ht).mono fun _ _ ⟨h1, h2⟩ => ⟨t, h1, h2⟩
theorem bBad (h : Bd g b w0 V0 w er p) : Calls Tryz.prog 19 #[.pointer (some ⟨g, 0, none⟩)] w fun r w' => r = .returned (.bool true) ∧ w' = w := by
  obtain ⟨hn, ⟨TS, i, V, o, hq, hg, he⟩, hb⟩ := h
  have := qBad hq
  rwa [show (er != 0) = true by simpa using hn] at this
theorem bSign (x : ByteArray) (h : Bd g b w0 V0 w er p) : Calls Tryz.prog 64 #[.pointer (some ⟨g, 0, none⟩), .string x] w fun r w' => r = .returned (.bool false) ∧ Below w.heap.size w w' := by
  obtain ⟨hn, ⟨TS, i, V, o, hq, hg, he⟩, hb⟩ := h
  obtain ⟨t, ht⟩ := hq.tok
  have := qSign x hq ht
  simpa [hn] using this
theorem bKept (x : ByteArray) (h : Bd g b w0 V0 w er p) : Calls Tryz.prog 105 #[.pointer (some ⟨g, 0, none⟩), .string x] w fun r w' => r = .returned (.bool false) ∧ Below w.heap.size w w' := by
  obtain ⟨hn, ⟨TS, i, V, o, hq, hg, he⟩, hb⟩ := h
  obtain ⟨t, ht⟩ := hq.tok
  have := qKept x hq ht
  simpa [hn] using this
theorem bNext (h : Bd g b w0 V0 w er p) : Calls Tryz.prog 29 #[.pointer (some ⟨g, 0, none⟩)] w fun r w' => r = .returned (.tuple #[]) ∧ Below w.heap.size w w' := by
  obtain ⟨hn, ⟨TS, i, V, o, hq, hg, he⟩, hb⟩ := h
  exact qNext_bad hq hn
theorem Bd.on {V : Value} {TS : List Tk} {i : Nat} {o : Int} (h : Bd g b w0 V0 w er p) (hq : QB w' g b TS i V o er (p : Int)) (hg : ∀ t ∈ TS, Tg t) (he : End TS) (hb : But (· = g) w w') : Bd g b w0 V0 w' er p :=
  ⟨h.no, ⟨TS, i, V, o, hq, hg, he⟩, h.but.trans (hb.mono fun _ _ h => .inl h)⟩
theorem bFail (e at' : Int) (h : Bd g b w0 V0 w er p) : Calls Tryz.prog 28 #[.pointer (some ⟨g, 0, none⟩), .int .i64 e, .int .i64 at'] w fun r w' => r = .returned (.tuple #[]) ∧ Bd g b w0 V0 w' er p ∧ But (· = g) w w' := by
  have h0 := h
  obtain ⟨hn, ⟨TS, i, V, o, hq, hg, he⟩, hb⟩ := h
  refine (qFail e at' hq).mono fun _ _ ⟨h1, h2, h3⟩ => ⟨h1, ?_, h3⟩
  rw [if_neg hn, if_neg hn] at h2
  exact h0.on h2 hg he h3
theorem bWant (k : Int) (x : ByteArray) (h : Bd g b w0 V0 w er p) : Calls Tryz.prog 27 #[.pointer (some ⟨g, 0, none⟩), .int .i64 k, .string x] w fun r w' => r = .returned (.tuple #[]) ∧ Bd g b w0 V0 w' er p ∧ But (· = g) w w' := by
  have h0 := h
  obtain ⟨hn, ⟨TS, i, V, o, hq, hg, he⟩, hb⟩ := h
  obtain ⟨t, ht⟩ := hq.tok
  refine (qWant_no hq ht (fun h => hn h.1)).mono fun _ _ ⟨h1, h2, h3⟩ => ⟨h1, ?_, h3⟩
  rw [if_neg hn, if_neg hn] at h2
  exact h0.on h2 hg he h3
theorem bKind (k : Int) (h : Bd g b w0 V0 w er p) : Calls Tryz.prog 30 #[.pointer (some ⟨g, 0, none⟩), .int .i64 k] w fun r w' => ∃ u : Tk, r = .returned u.val ∧ Bd g b w0 V0 w' er p ∧ But (· = g) w w' := by
  have h0 := h
  obtain ⟨hn, ⟨TS, i, V, o, hq, hg, he⟩, hb⟩ := h
  obtain ⟨t, ht⟩ := hq.tok
  refine (qKind_no hq ht (fun h => hn h.1)).mono fun _ _ ⟨u, h1, h2, h3⟩ => ⟨u, h1, ?_, h3⟩
  rw [if_neg hn, if_neg hn] at h2
  exact h0.on h2 hg he h3
end
end Rf
end Go.Proofs.YthdljnakmekhkaaGreatDoor


