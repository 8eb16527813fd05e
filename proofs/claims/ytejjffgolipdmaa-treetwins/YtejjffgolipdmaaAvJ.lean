/- All of a tree held against the document's. -/
import Derived.Test.YtejjffgolipdmaaAvI
namespace Go.Proofs.Ytejjffgolipdmaa
open Go.RowKit Go.Shelf
attribute [local go_sem] Oper.semAt_some
attribute [local go_sem ↓] Go.wp_at_zero Go.wp_at_succ

set_option maxRecDepth 100000 in
set_option maxHeartbeats 8000000 in
theorem all_law {w : World} {tb rb : Nat} {D E : Nat → Prop} {L : List KV} (ht : TB w tb D L) (hr : RB w rb E L) (hN : L.length ≤ 90000) (hD : ∀ k, D k → k < w.heap.size) :
    Calls Try.prog 9 #[.pointer (some ⟨tb, 0, none⟩), .pointer (some ⟨rb, 0, none⟩)] w fun e w' => e = .returned (.bool true) ∧ Below w.heap.size w w' := by
  refine calls_marks Try.func9 rfl ?_
  simp only [Try.ntmps9, List.size_toArray, List.length_cons, List.length_nil, Nat.reduceAdd, Nat.reduceSub, Array.replicate_succ, Array.replicate_zero, List.push_toArray, List.append_toArray, List.nil_append, List.cons_append]
  have hb0 : Below w.heap.size w (((w.alloc (.cells #[.pointer (some ⟨rb, 0, none⟩)] 26)).alloc (.cells #[.bool false] 4)).alloc (.cells #[.int .i64 0] 3)) := ((below_new _ _).alloc (by simp) _).alloc (by simp; omega) _
  have HTF := hidb (All_any (ht.keep hb0))
  have HT := hidb ht
  have HR := hidb hr
  have HDD := hidb hD
  have HN := hidb hN
  clear ht hr hD hN hb0
  go_wp2_with (go_at_call 7; refine HTF.out.mono ?_; clear HTF; rintro e w7 ⟨f, rfl, hb7, hq7⟩)
  have hs7 := hb7.size
  simp only [World.size_alloc] at hs7
  have hbW : Below w.heap.size w w7 := (((below_new w _).alloc (by simp) _).alloc (by simp; omega) _).trans (hb7.mono (by simp; omega))
  have n7 : w7.cell? ⟨w.heap.size + 1 + 1, 0, none⟩ = some (.int .i64 ((0 + ([] : List KV).length : Nat) : Int)) := (hb7.cell (p := ⟨w.heap.size + 1 + 1, 0, none⟩) (by simp)).trans (by simp [go_sem])
  have n7' : w7.frozen? ⟨w.heap.size + 1 + 1, 0, none⟩ = false := (hb7.frozen (p := ⟨w.heap.size + 1 + 1, 0, none⟩) (by simp)).trans (by simp [go_sem])
  have HCR : Hid (w7.cell? ⟨w.heap.size, 0, none⟩ = some (.pointer (some ⟨rb, 0, none⟩)) ∧ w7.cell? ⟨w.heap.size + 1, 0, none⟩ = some (.bool false) ∧ w7.frozen? ⟨w.heap.size + 1, 0, none⟩ = false) := hidb ⟨(hb7.cell (p := ⟨w.heap.size, 0, none⟩) (by simp; omega)).trans (by simp [go_sem]), (hb7.cell (p := ⟨w.heap.size + 1, 0, none⟩) (by simp)).trans (by simp [go_sem]), (hb7.frozen (p := ⟨w.heap.size + 1, 0, none⟩) (by simp)).trans (by simp [go_sem])⟩
  have hrl := HR.out.lt
  have HRC := hidb (HR.out.keep hbW)
  have HNE : Hid ((∀ g n c, w7.cell? ⟨rb, 0, none⟩ = some (.slice (some ⟨g, 0, none⟩) n c) → g ≠ w.heap.size + 1 + 1) ∧ (∀ g n c, w7.cell? ⟨rb, 1, none⟩ = some (.slice (some ⟨g, 0, none⟩) n c) → g ≠ w.heap.size + 1 + 1)) := hidb (by
    obtain ⟨V1, V2, h1, h2, h3, -, -⟩ := HR.out
    have e0 := (hbW.cell (p := ⟨rb, 0, none⟩) hrl).trans h1.c0
    have e1 := (hbW.cell (p := ⟨rb, 1, none⟩) hrl).trans h1.c1
    refine ⟨fun g n c h e => ?_, fun g n c h e => ?_⟩
    · rw [e0] at h
      have hV : V1 = .slice (some ⟨g, 0, none⟩) n c := by simpa using h
      have := (h2.lt g (by rw [hV]; rfl)).2
      omega
    · rw [e1] at h
      have hV : V2 = .slice (some ⟨g, 0, none⟩) n c := by simpa using h
      have := (h3.lt g (by rw [hV]; rfl)).2
      omega)
  have HZ : Hid (rb < w.heap.size ∧ w.heap.size + 3 ≤ w7.heap.size ∧ tb < w.heap.size) := hidb ⟨hrl, by omega, HT.out.lt⟩
  have hflt : L.filter (fun x => decide ((-9223372036854775808 : Int) ≤ x.1)) = L := filter_all (fun x hx => by have := HT.out.wf x hx; simpa using this)
  have HFL : Hid (L.drop 0 = L ∧ 0 ≤ L.length) := hidb ⟨rfl, Nat.zero_le _⟩
  have hdd := HDD.out
  have hsq : SQ w7 (fun k => ¬ (k = w.heap.size + 1 + 1 ∨ k = w.heap.size + 1 ∨ w7.heap.size ≤ k)) f (-9223372036854775808) L := by
    refine hq7.mono (fun k hk => ?_)
    rcases hk with h1 | ⟨h1, h2⟩
    · have := hdd k h1; omega
    · simp only [World.size_alloc] at h1; omega
  obtain ⟨lb, rfl, hseq⟩ := seq_o hsq (fun k hk => .inr (.inr hk))
  have HPF : Hid (∀ pre : List KV, pre <+: L.filter (fun x => decide ((-9223372036854775808 : Int) ≤ x.1)) → pre <+: L) := hidb (fun _ h => by rw [hflt] at h; exact h)
  have HBW := hidb hbW
  have HFT := hidb hflt
  have HTW : Hid (TB w7 tb D L) := hidb (HT.out.keep hbW)
  clear hb7 hq7 hs7 hbW hrl hdd hsq HT HR hflt
  refine range_p (w := w7) (gf := 25) (lb := lb) rfl (enters_of Try.func25 (by kernel_rfl) rfl) hseq (fun k hk => .inr (.inr hk)) (Below.refl _ _) (fun _ => rfl)
    (fun pre W => ∃ p : Nat, (p = 0 + pre.length ∧ pre <+: L) ∧ (W.cell? ⟨(w.heap.size + 1 + 1), 0, none⟩ = some (.int .i64 (p : Int)) ∧ W.frozen? ⟨(w.heap.size + 1 + 1), 0, none⟩ = false) ∧ But (fun k => k = (w.heap.size + 1 + 1)) w7 W)
    (fun c pre _ => c = .ret ∧ ¬ pre <+: L)
    ?hI ?hIx ⟨_, ⟨rfl, List.nil_prefix⟩, ⟨n7, n7'⟩, But.refl _ _⟩ ?round ?done ?stop
  case hI =>
    rintro pre A B row ⟨p, h1, h2, h3⟩ hg hr
    exact ⟨p, h1, OwnFrom.cells _ (fun _ : Unit => .int .i64 (p : Int)) () A B row h2 hg hr, OwnFrom.but (β := Unit) (Nat.le_refl _) () A B row h3 hg hr⟩
  case hIx => exact fun c => ownFrom_pure _ _
  case stop =>
    rintro De c pre W hD' hp ⟨rfl, hx⟩ hK'
    exact absurd (HPF.out pre hp) hx
  case round =>
    rintro l2 pre ⟨xk, xv⟩ W0 _ hlen
    gi_wp2
    refine ⟨trivial, ?_⟩
    rintro W1 ⟨p, ⟨hp, hpre⟩, ⟨p1, p2⟩, hB9⟩ hsz
    have hfl := HFL.out
    have hnn := HN.out
    have hz := HZ.out
    obtain ⟨a1, c1, a2, c2, d0, d1, hcl⟩ := HRC.out.cells
    have q0 := (hB9.cell (p := ⟨rb, 0, none⟩) (show rb < w7.heap.size by omega) (show ¬ rb = (w.heap.size + 1 + 1) by omega)).trans d0
    have q1 := (hB9.cell (p := ⟨rb, 1, none⟩) (show rb < w7.heap.size by omega) (show ¬ rb = (w.heap.size + 1 + 1) by omega)).trans d1
    have q2 := (hB9.cell (p := ⟨w.heap.size, 0, none⟩) (show w.heap.size < w7.heap.size by omega) (show ¬ w.heap.size = (w.heap.size + 1 + 1) by omega)).trans HCR.out.1
    have q3 := (hB9.cell (p := ⟨(w.heap.size + 1), 0, none⟩) (show (w.heap.size + 1) < w7.heap.size by omega) (show ¬ (w.heap.size + 1) = (w.heap.size + 1 + 1) by omega)).trans HCR.out.2.1
    have q4 := (hB9.frozen (p := ⟨(w.heap.size + 1), 0, none⟩) (show (w.heap.size + 1) < w7.heap.size by omega) (show ¬ (w.heap.size + 1) = (w.heap.size + 1 + 1) by omega)).trans HCR.out.2.2
    have HP := hidb hp
    have HB9 := hidb hB9
    have HRT : Hid ((w.heap.size + 1) < w7.heap.size ∧ (w.heap.size + 1 + 1) < w7.heap.size ∧ p ≤ 200000) := hidb (by have hln : pre.length < L.length := hlen; omega)
    by_cases hin : pre.length < (L).length
    · obtain ⟨y, hy⟩ : ∃ y, (L)[pre.length]? = some y := ⟨_, List.getElem?_eq_getElem hin⟩
      obtain ⟨yk, yv⟩ := y
      have hLp : L[p]? = some (yk, yv) := by rw [← hfl.1, List.getElem?_drop] at hy; rw [hp]; exact hy
      obtain ⟨g1, g2, rfl, rfl, m1, m2⟩ := hcl p _ hLp
      have hpl : p < L.length := (List.getElem?_eq_some_iff.1 hLp).1
      have b1 : g1 < w7.heap.size := World.block_lt_of_cell? _ _ m1
      have b2 : g2 < w7.heap.size := World.block_lt_of_cell? _ _ m2
      have hne := HNE.out
      have z1 := (hB9.cell (p := ⟨g1, p, none⟩) b1 (fun e => hne.1 g1 _ _ d0 e)).trans m1
      have z2 := (hB9.cell (p := ⟨g2, p, none⟩) b2 (fun e => hne.2 g2 _ _ d1 e)).trans m2
      have HPX := hidb (prefix_one hpre hy)
      have s2 : (p : Int) < (L.length : Int) := by omega
      have s3 : (0 : Int) ≤ (p : Int) := by omega
      have s4 : wrap64 ((p : Int) + 1) = ((p + 1 : Nat) : Int) := by unfold wrap64; omega
      have HPL : Hid (p < L.length) := hidb hpl
      clear hp hB9 hpre hsz hlen hin hy hLp hcl d0 d1 m1 m2 b1 b2 hne hfl hnn hz hpl
      by_cases hxk : xk = yk
      · subst hxk
        by_cases hxv : xv = yv
        · subst hxv
          gi_wp2
          have s1 : decide (L.length ≤ p) = false := by have := HPL.out; simp; omega
          refine region_round_quiet l2 (by kernel_rfl) (by kernel_rfl) (by kernel_rfl) ?_
          repeat (gi_big_quiet_step (fail))
          refine wpQuietIn_nil ?_
          intro _ hw'
          obtain ⟨nq, rfl⟩ := hw'
          gi_wp2
          have hrt := HRT.out
          refine ⟨(((But.refl _ W1).drewN nq)).setCell (fun _ => ⟨.inl rfl, .inl (show (w.heap.size + 1 + 1) < w7.heap.size by omega)⟩) _, p + 1, ⟨by rw [HP.out]; simp only [List.length_append, List.length_cons, List.length_nil]; omega, (HPX.out _).2 rfl⟩, ⟨World.cell?_setCell_same' _ _ _ (by rw [show (W1.drewN nq).cell? ⟨(w.heap.size + 1 + 1), 0, none⟩ = some (.int .i64 (p : Int)) from p1]; rfl), by rw [World.frozen?_setCell]; exact p2⟩, ((HB9.out).drewN nq).setCell (p := ⟨(w.heap.size + 1 + 1), 0, none⟩) (fun _ => rfl) _⟩
        · have hxv' : (xv != yv) = true := by simpa using hxv
          have HXV := hidb hxv
          clear hxv
          gi_wp2
          have s1 : decide (L.length ≤ p) = false := by have := HPL.out; simp; omega
          refine region_round_quiet l2 (by kernel_rfl) (by kernel_rfl) (by kernel_rfl) ?_
          repeat (gi_big_quiet_step (fail))
          refine wpQuietIn_nil ?_
          intro _ hw'
          obtain ⟨nq, rfl⟩ := hw'
          gi_wp2
          have hrt := HRT.out
          exact ⟨(((But.refl _ W1).drewN nq)).setCell (fun _ => ⟨.inr (.inl rfl), .inl (show (w.heap.size + 1) < w7.heap.size by omega)⟩) _, rfl, fun h => HXV.out (by have := (HPX.out _).1 h; simpa using this)⟩
      · have hxk' : (xk != yk) = true := by simpa using hxk
        have HXK := hidb hxk
        clear hxk
        gi_wp2
        have s1 : decide (L.length ≤ p) = false := by have := HPL.out; simp; omega
        refine region_round_quiet l2 (by kernel_rfl) (by kernel_rfl) (by kernel_rfl) ?_
        repeat (gi_big_quiet_step (fail))
        refine wpQuietIn_nil ?_
        intro _ hw'
        obtain ⟨nq, rfl⟩ := hw'
        gi_wp2
        have hrt := HRT.out
        exact ⟨(((But.refl _ W1).drewN nq)).setCell (fun _ => ⟨.inr (.inl rfl), .inl (show (w.heap.size + 1) < w7.heap.size by omega)⟩) _, rfl, fun h => HXK.out (by have := (HPX.out _).1 h; simp at this; exact this.1)⟩
    · have hpl : L.length ≤ p := by have h1 : L.length - 0 ≤ pre.length := (by rw [← List.length_drop, hfl.1]; omega); omega
      have HNP : Hid (¬ pre ++ [(xk, xv)] <+: L) := hidb (fun h => by have := h.length_le; simp only [List.length_append, List.length_cons, List.length_nil] at this; omega)
      have HPL : Hid (L.length ≤ p) := hidb hpl
      clear hp hB9 hpre hsz hlen hin hcl d0 d1 hfl hnn hz hpl
      gi_wp2
      have s1 : decide (L.length ≤ p) = true := by have := HPL.out; simp; omega
      refine region_round_quiet l2 (by kernel_rfl) (by kernel_rfl) (by kernel_rfl) ?_
      repeat (gi_big_quiet_step (fail))
      refine wpQuietIn_nil ?_
      intro _ hw'
      obtain ⟨nq, rfl⟩ := hw'
      gi_wp2
      have hrt := HRT.out
      exact ⟨(((But.refl _ W1).drewN nq)).setCell (fun _ => ⟨.inr (.inl rfl), .inl (show (w.heap.size + 1) < w7.heap.size by omega)⟩) _, rfl, HNP.out⟩
  case done =>
    rintro De zs W' hD' hzs ⟨p, ⟨hp, hpre⟩, ⟨p1, p2⟩, hB9⟩ hK'
    rw [HFT.out] at hzs
    subst hzs
    have hz := HZ.out
    obtain rfl : p = zs.length := by omega
    obtain ⟨a1, c1, a2, c2, d0, d1, hcl⟩ := HRC.out.cells
    have hdd := HDD.out
    have hTB : TB W' tb D zs := HTW.out.but hB9 (fun k hk e => by have := hdd k hk; omega) (by omega)
    have hC := HRC.out
    have HA : Hid (But (fun k => k = w.heap.size + 1 + 1) w7 W' ∧ W'.heap[De]? = some (.deferred (some [])) ∧ w7.heap.size ≤ De ∧ (rb < w.heap.size ∧ w.heap.size + 3 ≤ w7.heap.size ∧ tb < w.heap.size)) := hidb ⟨hB9, hK', hD', hz⟩
    have q0 := (hB9.cell (p := ⟨rb, 0, none⟩) (show rb < w7.heap.size by omega) (show ¬ rb = w.heap.size + 1 + 1 by omega)).trans d0
    have q1 := (hB9.cell (p := ⟨rb, 1, none⟩) (show rb < w7.heap.size by omega) (show ¬ rb = w.heap.size + 1 + 1 by omega)).trans d1
    have q2 := (hB9.cell (p := ⟨w.heap.size, 0, none⟩) (show w.heap.size < w7.heap.size by omega) (show ¬ w.heap.size = w.heap.size + 1 + 1 by omega)).trans HCR.out.1
    have q3 := (hB9.cell (p := ⟨w.heap.size + 1, 0, none⟩) (show w.heap.size + 1 < w7.heap.size by omega) (show ¬ w.heap.size + 1 = w.heap.size + 1 + 1 by omega)).trans HCR.out.2.1
    have q4 := (hB9.frozen (p := ⟨w.heap.size + 1, 0, none⟩) (show w.heap.size + 1 < w7.heap.size by omega) (show ¬ w.heap.size + 1 = w.heap.size + 1 + 1 by omega)).trans HCR.out.2.2
    have hWs := hB9.size
    have hne := HNE.out
    have hfz := hB9
    -- what stands behind First
    have fin : ∀ w8, Below W'.heap.size W' w8 → (w8.cell? ⟨rb, 0, none⟩ = some (.slice a1 zs.length c1) ∧ w8.cell? ⟨rb, 1, none⟩ = some (.slice a2 zs.length c2) ∧ w8.cell? ⟨w.heap.size, 0, none⟩ = some (.pointer (some ⟨rb, 0, none⟩)) ∧ w8.cell? ⟨w.heap.size + 1, 0, none⟩ = some (.bool false) ∧ w8.frozen? ⟨w.heap.size + 1, 0, none⟩ = false ∧ w8.cell? ⟨w.heap.size + 1 + 1, 0, none⟩ = some (.int .i64 (zs.length : Int))) ∧ (∀ x, zs[0]? = some x → ∃ g1 g2, a1 = some ⟨g1, 0, none⟩ ∧ a2 = some ⟨g2, 0, none⟩ ∧ w8.cell? ⟨g1, 0, none⟩ = some (.int .i64 x.1) ∧ w8.cell? ⟨g2, 0, none⟩ = some (.int .i64 x.2)) ∧ TB w8 tb D zs := fun w8 hb => by
      refine ⟨⟨(hb.cell (p := ⟨rb, 0, none⟩) (show rb < W'.heap.size by omega)).trans q0, (hb.cell (p := ⟨rb, 1, none⟩) (show rb < W'.heap.size by omega)).trans q1, (hb.cell (p := ⟨w.heap.size, 0, none⟩) (show w.heap.size < W'.heap.size by omega)).trans q2, (hb.cell (p := ⟨w.heap.size + 1, 0, none⟩) (show w.heap.size + 1 < W'.heap.size by omega)).trans q3, (hb.frozen (p := ⟨w.heap.size + 1, 0, none⟩) (show w.heap.size + 1 < W'.heap.size by omega)).trans q4, (hb.cell (p := ⟨w.heap.size + 1 + 1, 0, none⟩) (show w.heap.size + 1 + 1 < W'.heap.size by omega)).trans p1⟩, fun x hx => ?_, hTB.keep hb⟩
      obtain ⟨g1, g2, rfl, rfl, m1, m2⟩ := hcl 0 x hx
      have b1 : g1 < w7.heap.size := World.block_lt_of_cell? _ _ m1
      have b2 : g2 < w7.heap.size := World.block_lt_of_cell? _ _ m2
      have z1 := (hB9.cell (p := ⟨g1, 0, none⟩) b1 (fun e => hne.1 g1 _ _ d0 e)).trans m1
      have z2 := (hB9.cell (p := ⟨g2, 0, none⟩) b2 (fun e => hne.2 g2 _ _ d1 e)).trans m2
      exact ⟨g1, g2, rfl, rfl, (hb.cell (p := ⟨g1, 0, none⟩) (show g1 < W'.heap.size by omega)).trans z1, (hb.cell (p := ⟨g2, 0, none⟩) (show g2 < W'.heap.size by omega)).trans z2⟩
    have CF := hidb ((First_any hTB).mono (R' := fun e w8 => e = .returned (.tuple #[.int .i64 (zs.headD (0, 0)).1, .int .i64 (zs.headD (0, 0)).2, .bool (!zs.isEmpty)]) ∧ Hid (Below W'.heap.size W' w8) ∧ (w8.cell? ⟨rb, 0, none⟩ = some (.slice a1 zs.length c1) ∧ w8.cell? ⟨rb, 1, none⟩ = some (.slice a2 zs.length c2) ∧ w8.cell? ⟨w.heap.size, 0, none⟩ = some (.pointer (some ⟨rb, 0, none⟩)) ∧ w8.cell? ⟨w.heap.size + 1, 0, none⟩ = some (.bool false) ∧ w8.frozen? ⟨w.heap.size + 1, 0, none⟩ = false ∧ w8.cell? ⟨w.heap.size + 1 + 1, 0, none⟩ = some (.int .i64 (zs.length : Int))) ∧ Hid (∀ x, zs[0]? = some x → ∃ g1 g2, a1 = some ⟨g1, 0, none⟩ ∧ a2 = some ⟨g2, 0, none⟩ ∧ w8.cell? ⟨g1, 0, none⟩ = some (.int .i64 x.1) ∧ w8.cell? ⟨g2, 0, none⟩ = some (.int .i64 x.2)) ∧ Hid (TB w8 tb D zs)) (fun e w8 h => by obtain ⟨f1, f2, f3⟩ := fin w8 h.1; exact ⟨h.2, hidb h.1, f1, hidb f2, hidb f3⟩))
    clear hp hpre hB9 hK' hD' hz d0 d1 hcl hseq n7 n7' hTB hdd p1 p2 q0 q1 q2 q3 q4 hWs hne hfz fin hC
    cases zs with
    | nil =>
      go_wp2_with (go_at_call 18; refine CF.out.mono ?_; clear CF; rintro e w8 ⟨rfl, HB8, ⟨d0, d1, d2, d3, d4, d5⟩, HD0, HT8⟩; have CH := hidb (hl_any HT8.out (by simp)); have CL := hidb (len_any HT8.out))
      refine CH.out.mono ?_
      clear CH CL
      rintro e w9 ⟨hv, lv, rfl, rfl, HV, HLE⟩
      obtain rfl : hv = 0 := by have := HV.out; simp at this; omega
      have j1 : lv ≤ 0 := by have := HV.out; simpa using this.2.2.2
      have j2 : ¬ (0 : Int) < lv := by omega
      rw [List.length_nil] at d0 d5
      have CL := hidb (len_any (HT8.out.keep ((Below.refl _ _).drew)))
      rw [List.length_nil] at CL
      have HS0 : Hid (w9.drew.cell? ⟨rb, 0, none⟩ = some (.slice a1 0 c1) ∧ w9.drew.cell? ⟨w.heap.size, 0, none⟩ = some (.pointer (some ⟨rb, 0, none⟩)) ∧ w9.drew.cell? ⟨w.heap.size + 1 + 1, 0, none⟩ = some (.int .i64 0)) := hidb ⟨d0, d2, d5⟩
      have HS1 : Hid ((w9.setCell ⟨w.heap.size + 1, 0, none⟩ (.bool true)).drew.cell? ⟨rb, 0, none⟩ = some (.slice a1 0 c1) ∧ (w9.setCell ⟨w.heap.size + 1, 0, none⟩ (.bool true)).drew.cell? ⟨w.heap.size, 0, none⟩ = some (.pointer (some ⟨rb, 0, none⟩)) ∧ (w9.setCell ⟨w.heap.size + 1, 0, none⟩ (.bool true)).drew.cell? ⟨w.heap.size + 1 + 1, 0, none⟩ = some (.int .i64 0)) := hidb (by
        obtain ⟨x1, x2, x3, x4⟩ := HA.out
        exact ⟨(World.cell?_setCell_other _ _ _ _ (ne_blk _ _ _ _ (by omega))).trans d0, (World.cell?_setCell_other _ _ _ _ (ne_blk _ _ _ _ (by omega))).trans d2, (World.cell?_setCell_other _ _ _ _ (ne_blk _ _ _ _ (by omega))).trans d5⟩)
      have HX := hidb d3
      clear d0 d1 d2 d5
      go_wp2_with fail
      go_region_held3 (fun w' => w'.cell? ⟨rb, 0, none⟩ = some (.slice a1 0 c1) ∧ w'.cell? ⟨w.heap.size, 0, none⟩ = some (.pointer (some ⟨rb, 0, none⟩)) ∧ w'.cell? ⟨w.heap.size + 1 + 1, 0, none⟩ = some (.int .i64 0)) (first | with_reducible exact HS0.out | with_reducible exact HS1.out) (first | (go_at_call 13; refine CL.out.mono ?_; clear CL; rintro e w10 ⟨rfl, rfl⟩) | (go_at_call 19; refine (HLE.out _).mono ?_; clear HLE; rintro e w10 ⟨rfl, rfl⟩))
      go_wp2_with fail
      obtain ⟨x1, x2, x3, x4⟩ := HA.out
      have hc2 : (w9.setCell ⟨w.heap.size + 1, 0, none⟩ (.bool true)).drew.cell? ⟨w.heap.size + 1, 0, none⟩ = some (.bool true) := World.cell?_setCell_same _ _ _ HX.out
      have hs8 := HB8.out.size
      have hsW := x1.size
      have hDl : De < W'.heap.size := (Array.getElem?_eq_some_iff.mp x2).1
      refine retM [De] rfl (fun E hE => ?_) (by simp) (fun W'' hb => ?_)
      · obtain rfl : E = De := by simpa using hE
        exact (Below.heap_setCell w9 _ _ E (by simp; omega)).trans ((HB8.out.block _ hDl).trans x2)
      · have c5 := (hb.cell (p := ⟨w.heap.size + 1, 0, none⟩) (World.block_lt_of_cell? _ _ hc2) (by simp; omega)).trans hc2
        have z0 : But (fun k => w.heap.size ≤ k) w7 w9 := (x1.mono (fun k _ h => by show w.heap.size ≤ k; omega)).trans (But.of_below HB8.out)
        have z : But (fun k => w.heap.size ≤ k) w7 W'' := ((z0.setCell (p := ⟨w.heap.size + 1, 0, none⟩) (fun _ => Nat.le_succ _) _).drew).trans (hb.mono (fun k _ h => by have : k = De := (by simpa using h); show w.heap.size ≤ k; omega))
        exact ⟨.bool true, by simp [results, Try.results9, go_sem, c5], rfl, HBW.out.trans (z.below (by omega) (fun k h => h))⟩
    | cons x r =>
      go_wp2_with (go_at_call 18; refine CF.out.mono ?_; clear CF; rintro e w8 ⟨rfl, HB8, ⟨d0, d1, d2, d3, d4, d5⟩, HD0, HT8⟩; obtain ⟨g1, g2, rfl, rfl, z1, z2⟩ := HD0.out x rfl; have CH := hidb (hl_any HT8.out (by have := HN.out; omega)); have CL := hidb (len_any HT8.out))
      refine CH.out.mono ?_
      clear CH CL
      rintro e w9 ⟨hv, lv, rfl, rfl, HV, HLE⟩
      obtain ⟨N, hNN⟩ : ∃ N : Nat, (x :: r).length = N := ⟨_, rfl⟩
      obtain ⟨v1, v2, v3, v4⟩ := HV.out
      have v5 : 0 < hv := v3.2 (by simp)
      have v6 : (0 : Int) < (N : Int) := by rw [← hNN]; simp
      rw [hNN] at d0 d1 d5 v4
      have v7 : ¬ hv < 0 := by omega
      have v9 : 0 < N := by omega
      have v8 : ¬ (N : Int) < lv := by omega
      clear v3
      have CL := hidb (len_any (HT8.out.keep ((Below.refl _ _).drew)))
      rw [hNN] at CL
      clear hNN
      have HS0 : Hid (w9.drew.cell? ⟨rb, 0, none⟩ = some (.slice (some ⟨g1, 0, none⟩) N c1) ∧ w9.drew.cell? ⟨w.heap.size, 0, none⟩ = some (.pointer (some ⟨rb, 0, none⟩)) ∧ w9.drew.cell? ⟨w.heap.size + 1 + 1, 0, none⟩ = some (.int .i64 (N : Int))) := hidb ⟨d0, d2, d5⟩
      have HS1 : Hid ((w9.setCell ⟨w.heap.size + 1, 0, none⟩ (.bool true)).drew.cell? ⟨rb, 0, none⟩ = some (.slice (some ⟨g1, 0, none⟩) N c1) ∧ (w9.setCell ⟨w.heap.size + 1, 0, none⟩ (.bool true)).drew.cell? ⟨w.heap.size, 0, none⟩ = some (.pointer (some ⟨rb, 0, none⟩)) ∧ (w9.setCell ⟨w.heap.size + 1, 0, none⟩ (.bool true)).drew.cell? ⟨w.heap.size + 1 + 1, 0, none⟩ = some (.int .i64 (N : Int))) := hidb (by
        obtain ⟨x1, x2, x3, x4⟩ := HA.out
        exact ⟨(World.cell?_setCell_other _ _ _ _ (ne_blk _ _ _ _ (by omega))).trans d0, (World.cell?_setCell_other _ _ _ _ (ne_blk _ _ _ _ (by omega))).trans d2, (World.cell?_setCell_other _ _ _ _ (ne_blk _ _ _ _ (by omega))).trans d5⟩)
      have HX := hidb d3
      clear d0 d1 d2 d5
      go_wp2_with fail
      go_region_held3 (fun w' => w'.cell? ⟨rb, 0, none⟩ = some (.slice (some ⟨g1, 0, none⟩) N c1) ∧ w'.cell? ⟨w.heap.size, 0, none⟩ = some (.pointer (some ⟨rb, 0, none⟩)) ∧ w'.cell? ⟨w.heap.size + 1 + 1, 0, none⟩ = some (.int .i64 (N : Int))) (first | with_reducible exact HS0.out | with_reducible exact HS1.out) (first | (go_at_call 13; refine CL.out.mono ?_; clear CL; rintro e w10 ⟨rfl, rfl⟩) | (go_at_call 19; refine (HLE.out _).mono ?_; clear HLE; rintro e w10 ⟨rfl, rfl⟩))
      go_wp2_with fail
      obtain ⟨x1, x2, x3, x4⟩ := HA.out
      have hc2 : (w9.setCell ⟨w.heap.size + 1, 0, none⟩ (.bool true)).drew.cell? ⟨w.heap.size + 1, 0, none⟩ = some (.bool true) := World.cell?_setCell_same _ _ _ HX.out
      have hs8 := HB8.out.size
      have hsW := x1.size
      have hDl : De < W'.heap.size := (Array.getElem?_eq_some_iff.mp x2).1
      refine retM [De] rfl (fun E hE => ?_) (by simp) (fun W'' hb => ?_)
      · obtain rfl : E = De := by simpa using hE
        exact (Below.heap_setCell w9 _ _ E (by simp; omega)).trans ((HB8.out.block _ hDl).trans x2)
      · have c5 := (hb.cell (p := ⟨w.heap.size + 1, 0, none⟩) (World.block_lt_of_cell? _ _ hc2) (by simp; omega)).trans hc2
        have z0 : But (fun k => w.heap.size ≤ k) w7 w9 := (x1.mono (fun k _ h => by show w.heap.size ≤ k; omega)).trans (But.of_below HB8.out)
        have z : But (fun k => w.heap.size ≤ k) w7 W'' := ((z0.setCell (p := ⟨w.heap.size + 1, 0, none⟩) (fun _ => Nat.le_succ _) _).drew).trans (hb.mono (fun k _ h => by have : k = De := (by simpa using h); show w.heap.size ≤ k; omega))
        exact ⟨.bool true, by simp [results, Try.results9, go_sem, c5], rfl, HBW.out.trans (z.below (by omega) (fun k h => h))⟩

end Go.Proofs.Ytejjffgolipdmaa
