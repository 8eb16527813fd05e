/- A region that only reads, in a round; a sequence held against the document's tree. -/
import Derived.Test.YtnoknhgabjbocaaAvH
import Derived.Sort.BigQuietIn
namespace Go.Proofs.Ytnoknhgabjbocaa
open Go.RowKit Go.Shelf
attribute [local go_sem] Oper.semAt_some
attribute [local go_sem ↓] Go.wp_at_zero Go.wp_at_succ

theorem region_round_quiet {n : Nat} {P : Program} {id : Nat} {l : List Oper} {Q : Exit → Act → World → Prop} {a : Act} {w : World} (lp : Nat) (hm : P.follows .mixedOrders = true) (hB : Region.lexB .any l.toArray = true) (hops : l.toArray.all (fun o => match o.op with | .defer _ => false | _ => true) = true)
    (h : wpQuietIn Fence.wide n P l.toArray (fun w' => ∃ n, w' = w.drewN n) (fun a' => ∀ w', (∃ n, w' = w.drewN n) → Q .normal a' w') l a) : (Code.region id l.toArray true).wpIn (Fence.wide.inRound lp) n P Q a w := by
  simp only [Region.lexB, Bool.and_eq_true] at hB
  refine region_round lp hm hops (wpAnyIn_of_quiet (C := fun w' => ∃ n, w' = w.drewN n) (Q := fun a' => ∀ w', (∃ n, w' = w.drewN n) → Q .normal a' w') rfl (fun _ w' hw' h => h w' hw') _ _ _ _ ⟨1, rfl⟩ ?_)
  have := wpAnyQIn_lex (F := Fence.wide) (n := n) (C := fun w' => ∃ n, w' = w.drewN n) (md := .any) hB.1 l 0 (Array.replicate l.toArray.size false) a (by simp) (by simpa using hB.2) h
  simpa using this

theorem But.drewN {S : Nat → Prop} {a w : World} (h : But S a w) (n : Nat) : But S a (w.drewN n) := ⟨h.os, h.tape, h.output, h.size, h.block⟩

/-- Two keys from a place on: the document's row, and those from a key on. -/
theorem filter_cut {key : Int} {L : List KV} (h : Rise L) : L.drop (cntB key L) = L.filter (fun x => decide (key ≤ x.1)) ∧ cntB key L ≤ L.length := by
  obtain ⟨A, B, rfl, h1, h2⟩ := split_at (key := key) h
  rw [cnt_split h1 h2, List.drop_left, List.filter_append, filter_none (l := A) (fun x hx => by have := h1 x hx; simp; omega), filter_all (l := B) (fun x hx => by simpa using h2 x hx)]
  simp

/-- Where the rows of the document's tree lie, and what they hold. -/
theorem RB.cells {w : World} {rb : Nat} {E : Nat → Prop} {L : List KV} (h : RB w rb E L) : ∃ a1 c1 a2 c2, w.cell? ⟨rb, 0, none⟩ = some (.slice a1 L.length c1) ∧ w.cell? ⟨rb, 1, none⟩ = some (.slice a2 L.length c2) ∧
    ∀ (j : Nat) (x : KV), L[j]? = some x → ∃ g1 g2, a1 = some ⟨g1, 0, none⟩ ∧ a2 = some ⟨g2, 0, none⟩ ∧ w.cell? ⟨g1, j, none⟩ = some (.int .i64 x.1) ∧ w.cell? ⟨g2, j, none⟩ = some (.int .i64 x.2) := by
  obtain ⟨V1, V2, h1, h2, h3, -, -⟩ := h
  obtain ⟨a1, c1, rfl⟩ := own_sl h2
  obtain ⟨a2, c2, rfl⟩ := own_sl h3
  refine ⟨a1, c1, a2, c2, h1.c0, h1.c1, fun j x hj => ?_⟩
  obtain ⟨g1, d1, e1, k1⟩ := row_get h2 (show (keysOf L)[j]? = some x.1 by simp [keysOf, hj])
  obtain ⟨g2, d2, e2, k2⟩ := row_get h3 (show (valsOf L)[j]? = some x.2 by simp [valsOf, hj])
  obtain ⟨rfl, -⟩ : a1 = some ⟨g1, 0, none⟩ ∧ c1 = d1 := by simpa using e1
  obtain ⟨rfl, -⟩ : a2 = some ⟨g2, 0, none⟩ ∧ c2 = d2 := by simpa using e2
  exact ⟨g1, g2, rfl, rfl, k1, k2⟩

set_option maxRecDepth 100000 in
set_option maxHeartbeats 8000000 in
theorem over_law {w : World} {tb rb : Nat} {D E : Nat → Prop} {L : List KV} (ht : TB w tb D L) (hr : RB w rb E L) (hN : L.length ≤ 90000) (key : Int) (hD : ∀ k, D k → k < w.heap.size) :
    Calls Try.prog 13 #[.pointer (some ⟨tb, 0, none⟩), .pointer (some ⟨rb, 0, none⟩), .int .i64 key] w fun e w' => e = .returned (.bool true) ∧ Below w.heap.size w w' := by
  have hrs := ht.rise
  refine calls_marks Try.func13 rfl ?_
  simp only [Try.ntmps13, List.size_toArray, List.length_cons, List.length_nil, Nat.reduceAdd, Nat.reduceSub, Array.replicate_succ, Array.replicate_zero, List.push_toArray, List.append_toArray, List.nil_append, List.cons_append]
  have hb0 : Below w.heap.size w ((w.alloc (.cells #[.pointer (some ⟨rb, 0, none⟩)] 26)).alloc (.cells #[.bool false] 4)) := (below_new _ _).alloc (by simp) _
  have HFR := hidb (rfrom_any (hr.keep hb0) hrs key (by omega))
  have HT := hidb ht
  have HR := hidb hr
  have HDD := hidb hD
  have HN := hidb hN
  have HRS := hidb hrs
  clear ht hr hD hN hrs hb0
  go_wp2_with (first
    | (go_at_call 27; refine HFR.out.mono ?_; clear HFR; rintro e w1 ⟨rfl, hb1⟩; have HB1 := hidb hb1; clear hb1)
    | (go_at_call 28; have HTF := hidb (HT.out.keep ((((below_new w (.cells #[.pointer (some ⟨rb, 0, none⟩)] 26)).alloc (by simp) (.cells #[.bool false] 4)).trans (HB1.out.mono (by simp; omega))).alloc (by have := HB1.out.size; simp at this; omega) (.cells #[.int .i64 (cntB key L : Int)] 3))); refine (From_any HTF.out key).mono ?_; rintro e w7 ⟨f, rfl, hb7, hq7⟩; have HB7 := hidb hb7; have HQ7 := hidb hq7; clear hb7 hq7))
  have hb1 := HB1.out
  have hb7 := HB7.out
  have hq7 := HQ7.out
  have hs1 := hb1.size
  have hs7 := hb7.size
  simp only [World.size_alloc] at hs1 hs7
  have hbX : Below w.heap.size w w1 := ((below_new w _).alloc (by simp) _).trans (hb1.mono (by simp; omega))
  have hbN : Below w1.heap.size w1 w7 := (below_new w1 _).trans (hb7.mono (by simp))
  have hbW : Below w.heap.size w w7 := hbX.trans (hbN.mono hbX.size)
  have n7 : w7.cell? ⟨w1.heap.size, 0, none⟩ = some (.int .i64 ((cntB key L + ([] : List KV).length : Nat) : Int)) := (hb7.cell (p := ⟨w1.heap.size, 0, none⟩) (by simp)).trans (by simp [go_sem])
  have n7' : w7.frozen? ⟨w1.heap.size, 0, none⟩ = false := (hb7.frozen (p := ⟨w1.heap.size, 0, none⟩) (by simp)).trans (by simp [go_sem])
  have HCR : Hid (w7.cell? ⟨w.heap.size, 0, none⟩ = some (.pointer (some ⟨rb, 0, none⟩)) ∧ w7.cell? ⟨w.heap.size + 1, 0, none⟩ = some (.bool false) ∧ w7.frozen? ⟨w.heap.size + 1, 0, none⟩ = false) := hidb ⟨(hbN.cell (p := ⟨w.heap.size, 0, none⟩) (show w.heap.size < w1.heap.size by omega)).trans ((hb1.cell (p := ⟨w.heap.size, 0, none⟩) (by simp; omega)).trans (by simp [go_sem])), (hbN.cell (p := ⟨w.heap.size + 1, 0, none⟩) (show w.heap.size + 1 < w1.heap.size by omega)).trans ((hb1.cell (p := ⟨w.heap.size + 1, 0, none⟩) (by simp)).trans (by simp [go_sem])), (hbN.frozen (p := ⟨w.heap.size + 1, 0, none⟩) (show w.heap.size + 1 < w1.heap.size by omega)).trans ((hb1.frozen (p := ⟨w.heap.size + 1, 0, none⟩) (by simp)).trans (by simp [go_sem]))⟩
  have hrl := HR.out.lt
  have HRC := hidb (HR.out.keep hbW)
  have HNE : Hid ((∀ g n c, w7.cell? ⟨rb, 0, none⟩ = some (.slice (some ⟨g, 0, none⟩) n c) → g ≠ w1.heap.size) ∧ (∀ g n c, w7.cell? ⟨rb, 1, none⟩ = some (.slice (some ⟨g, 0, none⟩) n c) → g ≠ w1.heap.size)) := hidb (by
    have hk := HR.out.keep hbW
    obtain ⟨V1, V2, h1, h2, h3, -, -⟩ := HR.out
    have e0 := (hbW.cell (p := ⟨rb, 0, none⟩) hrl).trans h1.c0
    have e1 := (hbW.cell (p := ⟨rb, 1, none⟩) hrl).trans h1.c1
    refine ⟨fun g n c h e => ?_, fun g n c h e => ?_⟩
    · rw [e0] at h
      have hV : V1 = .slice (some ⟨g, 0, none⟩) n c := by simpa using h
      have := (h2.lt g (by rw [hV]; rfl)).2
      omega
    · rw [e1] at h
      have hV : V2 = .slice (some ⟨g, 0, none⟩) n c := by simpa using h
      have := (h3.lt g (by rw [hV]; rfl)).2
      omega)
  have HZ : Hid (rb < w.heap.size ∧ w.heap.size + 2 ≤ w1.heap.size ∧ w1.heap.size + 1 ≤ w7.heap.size) := hidb ⟨hrl, by omega, by omega⟩
  have hcut := filter_cut (key := key) HRS.out
  have HFL : Hid (L.drop (cntB key L) = L.filter (fun x => decide (key ≤ x.1)) ∧ cntB key L ≤ L.length) := hidb hcut
  have hdd := HDD.out
  have hsq : SQ w7 (fun k => ¬ (k = w1.heap.size ∨ k = w.heap.size + 1 ∨ w7.heap.size ≤ k)) f key L := by
    refine hq7.mono (fun k hk => ?_)
    rcases hk with h1 | ⟨h1, h2⟩
    · have := hdd k h1; omega
    · simp only [World.size_alloc] at h1; omega
  obtain ⟨lb, rfl, hseq⟩ := seq_o hsq (fun k hk => .inr (.inr hk))
  have HPF : Hid (∀ pre : List KV, pre <+: L.filter (fun x => decide (key ≤ x.1)) → pre <+: L.filter (fun x => decide (key ≤ x.1))) := hidb (fun _ h => h)
  have HBW := hidb hbW
  clear hb1 hb7 hq7 hs1 hs7 hbX hbN hbW hrl hcut hdd hsq HQ7 HB7 HB1 HTF HT HR HDD HRS
  refine range_p (w := w7) (gf := 33) (lb := lb) rfl (enters_of Try.func33 (by kernel_rfl) rfl) hseq (fun k hk => .inr (.inr hk)) (Below.refl _ _) (fun _ => rfl)
    (fun pre W => ∃ p : Nat, (p = cntB key L + pre.length ∧ pre <+: L.filter (fun x => decide (key ≤ x.1))) ∧ (W.cell? ⟨w1.heap.size, 0, none⟩ = some (.int .i64 (p : Int)) ∧ W.frozen? ⟨w1.heap.size, 0, none⟩ = false) ∧ But (fun k => k = w1.heap.size) w7 W)
    (fun c pre _ => c = .ret ∧ ¬ pre <+: L.filter (fun x => decide (key ≤ x.1)))
    ?hI ?hIx ⟨_, ⟨rfl, List.nil_prefix⟩, ⟨n7, n7'⟩, But.refl _ _⟩ ?round ?done ?stop
  case hI =>
    rintro pre A B row ⟨p, h1, h2, h3⟩ hg hr
    exact ⟨p, h1, OwnFrom.cells _ (fun _ : Unit => .int .i64 (p : Int)) () A B row h2 hg hr, OwnFrom.but (β := Unit) (Nat.le_refl _) () A B row h3 hg hr⟩
  case hIx => exact fun c => ownFrom_pure _ _
  case stop =>
    rintro De c pre W hD' hp ⟨rfl, hx⟩ hK'
    exact absurd (HPF.out pre hp) hx
  case round =>
    rintro l2 pre ⟨xk, xv⟩ W0 _ hlen
    gi_wp2
    refine ⟨trivial, ?_⟩
    rintro W1 ⟨p, ⟨hp, hpre⟩, ⟨p1, p2⟩, hB9⟩ hsz
    have hfl := HFL.out
    have hnn := HN.out
    have hz := HZ.out
    obtain ⟨a1, c1, a2, c2, d0, d1, hcl⟩ := HRC.out.cells
    have q0 := (hB9.cell (p := ⟨rb, 0, none⟩) (show rb < w7.heap.size by omega) (show ¬ rb = w1.heap.size by omega)).trans d0
    have q1 := (hB9.cell (p := ⟨rb, 1, none⟩) (show rb < w7.heap.size by omega) (show ¬ rb = w1.heap.size by omega)).trans d1
    have q2 := (hB9.cell (p := ⟨w.heap.size, 0, none⟩) (show w.heap.size < w7.heap.size by omega) (show ¬ w.heap.size = w1.heap.size by omega)).trans HCR.out.1
    have q3 := (hB9.cell (p := ⟨(w.heap.size + 1), 0, none⟩) (show (w.heap.size + 1) < w7.heap.size by omega) (show ¬ (w.heap.size + 1) = w1.heap.size by omega)).trans HCR.out.2.1
    have q4 := (hB9.frozen (p := ⟨(w.heap.size + 1), 0, none⟩) (show (w.heap.size + 1) < w7.heap.size by omega) (show ¬ (w.heap.size + 1) = w1.heap.size by omega)).trans HCR.out.2.2
    have HP := hidb hp
    have HB9 := hidb hB9
    have HRT : Hid ((w.heap.size + 1) < w7.heap.size ∧ w1.heap.size < w7.heap.size ∧ p ≤ 200000) := hidb (by have hln : pre.length < L.length := hlen; omega)
    by_cases hin : pre.length < (L.filter (fun x => decide (key ≤ x.1))).length
    · obtain ⟨y, hy⟩ : ∃ y, (L.filter (fun x => decide (key ≤ x.1)))[pre.length]? = some y := ⟨_, List.getElem?_eq_getElem hin⟩
      obtain ⟨yk, yv⟩ := y
      have hLp : L[p]? = some (yk, yv) := by rw [← hfl.1, List.getElem?_drop] at hy; rw [hp]; exact hy
      obtain ⟨g1, g2, rfl, rfl, m1, m2⟩ := hcl p _ hLp
      have hpl : p < L.length := (List.getElem?_eq_some_iff.1 hLp).1
      have b1 : g1 < w7.heap.size := World.block_lt_of_cell? _ _ m1
      have b2 : g2 < w7.heap.size := World.block_lt_of_cell? _ _ m2
      have hne := HNE.out
      have z1 := (hB9.cell (p := ⟨g1, p, none⟩) b1 (fun e => hne.1 g1 _ _ d0 e)).trans m1
      have z2 := (hB9.cell (p := ⟨g2, p, none⟩) b2 (fun e => hne.2 g2 _ _ d1 e)).trans m2
      have HPX := hidb (prefix_one hpre hy)
      have s2 : (p : Int) < (L.length : Int) := by omega
      have s3 : (0 : Int) ≤ (p : Int) := by omega
      have s4 : wrap64 ((p : Int) + 1) = ((p + 1 : Nat) : Int) := by unfold wrap64; omega
      have HPL : Hid (p < L.length) := hidb hpl
      clear hp hB9 hpre hsz hlen hin hy hLp hcl d0 d1 m1 m2 b1 b2 hne hfl hnn hz hpl
      by_cases hxk : xk = yk
      · subst hxk
        by_cases hxv : xv = yv
        · subst hxv
          gi_wp2
          have s1 : decide (L.length ≤ p) = false := by have := HPL.out; simp; omega
          refine region_round_quiet l2 (by kernel_rfl) (by kernel_rfl) (by kernel_rfl) ?_
          repeat (gi_big_quiet_step (fail))
          refine wpQuietIn_nil ?_
          intro _ hw'
          obtain ⟨nq, rfl⟩ := hw'
          gi_wp2
          have hrt := HRT.out
          refine ⟨(((But.refl _ W1).drewN nq)).setCell (fun _ => ⟨.inl rfl, .inl (show w1.heap.size < w7.heap.size by omega)⟩) _, p + 1, ⟨by rw [HP.out]; simp; omega, (HPX.out _).2 rfl⟩, ⟨World.cell?_setCell_same' _ _ _ (by rw [show (W1.drewN nq).cell? ⟨w1.heap.size, 0, none⟩ = some (.int .i64 (p : Int)) from p1]; rfl), by rw [World.frozen?_setCell]; exact p2⟩, ((HB9.out).drewN nq).setCell (p := ⟨w1.heap.size, 0, none⟩) (fun _ => rfl) _⟩
        · have hxv' : (xv != yv) = true := by simpa using hxv
          have HXV := hidb hxv
          clear hxv
          gi_wp2
          have s1 : decide (L.length ≤ p) = false := by have := HPL.out; simp; omega
          refine region_round_quiet l2 (by kernel_rfl) (by kernel_rfl) (by kernel_rfl) ?_
          repeat (gi_big_quiet_step (fail))
          refine wpQuietIn_nil ?_
          intro _ hw'
          obtain ⟨nq, rfl⟩ := hw'
          gi_wp2
          have hrt := HRT.out
          exact ⟨(((But.refl _ W1).drewN nq)).setCell (fun _ => ⟨.inr (.inl rfl), .inl (show (w.heap.size + 1) < w7.heap.size by omega)⟩) _, rfl, fun h => HXV.out (by have := (HPX.out _).1 h; simpa using this)⟩
      · have hxk' : (xk != yk) = true := by simpa using hxk
        have HXK := hidb hxk
        clear hxk
        gi_wp2
        have s1 : decide (L.length ≤ p) = false := by have := HPL.out; simp; omega
        refine region_round_quiet l2 (by kernel_rfl) (by kernel_rfl) (by kernel_rfl) ?_
        repeat (gi_big_quiet_step (fail))
        refine wpQuietIn_nil ?_
        intro _ hw'
        obtain ⟨nq, rfl⟩ := hw'
        gi_wp2
        have hrt := HRT.out
        exact ⟨(((But.refl _ W1).drewN nq)).setCell (fun _ => ⟨.inr (.inl rfl), .inl (show (w.heap.size + 1) < w7.heap.size by omega)⟩) _, rfl, fun h => HXK.out (by have := (HPX.out _).1 h; simp at this; exact this.1)⟩
    · have hpl : L.length ≤ p := by have h1 : L.length - cntB key L ≤ pre.length := (by rw [← List.length_drop, hfl.1]; omega); omega
      have HNP : Hid (¬ pre ++ [(xk, xv)] <+: L.filter (fun x => decide (key ≤ x.1))) := hidb (fun h => by have := h.length_le; simp only [List.length_append, List.length_cons, List.length_nil] at this; omega)
      have HPL : Hid (L.length ≤ p) := hidb hpl
      clear hp hB9 hpre hsz hlen hin hcl d0 d1 hfl hnn hz hpl
      gi_wp2
      have s1 : decide (L.length ≤ p) = true := by have := HPL.out; simp; omega
      refine region_round_quiet l2 (by kernel_rfl) (by kernel_rfl) (by kernel_rfl) ?_
      repeat (gi_big_quiet_step (fail))
      refine wpQuietIn_nil ?_
      intro _ hw'
      obtain ⟨nq, rfl⟩ := hw'
      gi_wp2
      have hrt := HRT.out
      exact ⟨(((But.refl _ W1).drewN nq)).setCell (fun _ => ⟨.inr (.inl rfl), .inl (show (w.heap.size + 1) < w7.heap.size by omega)⟩) _, rfl, HNP.out⟩
  case done =>
    rintro De zs W' hD' hzs ⟨p, ⟨hp, hpre⟩, ⟨p1, p2⟩, hB9⟩ hK'
    subst hzs
    have hfl := HFL.out
    have hz := HZ.out
    obtain rfl : p = L.length := by rw [hp, ← hfl.1, List.length_drop]; omega
    obtain ⟨a1, c1, a2, c2, d0, d1, hcl⟩ := HRC.out.cells
    have q0 := (hB9.cell (p := ⟨rb, 0, none⟩) (show rb < w7.heap.size by omega) (show ¬ rb = w1.heap.size by omega)).trans d0
    have q2 := (hB9.cell (p := ⟨w.heap.size, 0, none⟩) (show w.heap.size < w7.heap.size by omega) (show ¬ w.heap.size = w1.heap.size by omega)).trans HCR.out.1
    have q3 := (hB9.cell (p := ⟨w.heap.size + 1, 0, none⟩) (show w.heap.size + 1 < w7.heap.size by omega) (show ¬ w.heap.size + 1 = w1.heap.size by omega)).trans HCR.out.2.1
    have q4 := (hB9.frozen (p := ⟨w.heap.size + 1, 0, none⟩) (show w.heap.size + 1 < w7.heap.size by omega) (show ¬ w.heap.size + 1 = w1.heap.size by omega)).trans HCR.out.2.2
    have HS0 : Hid (W'.drew.cell? ⟨rb, 0, none⟩ = some (.slice a1 L.length c1) ∧ W'.drew.cell? ⟨w.heap.size, 0, none⟩ = some (.pointer (some ⟨rb, 0, none⟩)) ∧ W'.drew.cell? ⟨w1.heap.size, 0, none⟩ = some (.int .i64 (L.length : Int))) := hidb ⟨q0, q2, p1⟩
    have HS1 : Hid ((W'.setCell ⟨w.heap.size + 1, 0, none⟩ (.bool true)).drew.cell? ⟨rb, 0, none⟩ = some (.slice a1 L.length c1) ∧ (W'.setCell ⟨w.heap.size + 1, 0, none⟩ (.bool true)).drew.cell? ⟨w.heap.size, 0, none⟩ = some (.pointer (some ⟨rb, 0, none⟩)) ∧ (W'.setCell ⟨w.heap.size + 1, 0, none⟩ (.bool true)).drew.cell? ⟨w1.heap.size, 0, none⟩ = some (.int .i64 (L.length : Int))) := hidb ⟨(World.cell?_setCell_other _ _ _ _ (ne_blk _ _ _ _ (by omega))).trans q0, (World.cell?_setCell_other _ _ _ _ (ne_blk _ _ _ _ (by omega))).trans q2, (World.cell?_setCell_other _ _ _ _ (ne_blk _ _ _ _ (by omega))).trans p1⟩
    have HY := hidb (⟨hB9, hK', hD', hz, q3⟩ : But (fun k => k = w1.heap.size) w7 W' ∧ W'.heap[De]? = some (.deferred (some [])) ∧ w7.heap.size ≤ De ∧ (rb < w.heap.size ∧ w.heap.size + 2 ≤ w1.heap.size ∧ w1.heap.size + 1 ≤ w7.heap.size) ∧ W'.cell? ⟨w.heap.size + 1, 0, none⟩ = some (.bool false))
    clear hp hpre hB9 hK' hD' hfl hz d0 d1 hcl q0 q2 p1 p2 hseq n7 n7'
    go_wp2_with fail
    go_region_held3 (fun w' => w'.cell? ⟨rb, 0, none⟩ = some (.slice a1 L.length c1) ∧ w'.cell? ⟨w.heap.size, 0, none⟩ = some (.pointer (some ⟨rb, 0, none⟩)) ∧ w'.cell? ⟨w1.heap.size, 0, none⟩ = some (.int .i64 (L.length : Int))) (first | with_reducible exact HS0.out | with_reducible exact HS1.out) (first | fail)
    go_wp2_with fail
    obtain ⟨x1, x2, x3, x4, x5⟩ := HY.out
    have hc2 : (W'.setCell ⟨w.heap.size + 1, 0, none⟩ (.bool true)).drew.cell? ⟨w.heap.size + 1, 0, none⟩ = some (.bool true) := World.cell?_setCell_same _ _ _ x5
    refine retM [De] rfl (fun E hE => ?_) (by simp) (fun W'' hb => ?_)
    · obtain rfl : E = De := by simpa using hE
      exact (Below.heap_setCell W' _ _ E (by simp; omega)).trans x2
    · have c5 := (hb.cell (p := ⟨w.heap.size + 1, 0, none⟩) (World.block_lt_of_cell? _ _ hc2) (by simp; omega)).trans hc2
      have z : But (fun k => w.heap.size ≤ k) w7 W'' := (((x1.mono (fun k _ h => by show w.heap.size ≤ k; omega)).setCell (p := ⟨w.heap.size + 1, 0, none⟩) (fun _ => Nat.le_succ _) _).drew).trans (hb.mono (fun k _ h => by have : k = De := (by simpa using h); show w.heap.size ≤ k; omega))
      exact ⟨.bool true, by simp [results, Try.results13, go_sem, c5], rfl, HBW.out.trans (z.below (by omega) (fun k h => h))⟩

end Go.Proofs.Ytnoknhgabjbocaa
