import Derived.Test.YtmijabhnbmmmfaaGreatG41
import Derived.Deep.RegionHeld3
/- meet, walked. -/
namespace Go.Proofs.YtmijabhnbmmmfaaGreat
open Go.RowKit Go.Deep
attribute [local go_sem] store_float f64bits f64frombits
attribute [local go_sem ↓] Go.wp_at_zero Go.wp_at_succ

abbrev ints (l : List Int) : List Value := l.map fun u => Value.int .u64 u

/-- What is laid anew, and where, in memory. -/
structure MV (w0 w : World) (mb hb nb N : Nat) (V : Value) (laid : List Int) (now : Nat → Int) : Prop where
  tri : Tri w mb (.pointer (some ⟨hb, 0, none⟩)) V (.slice (some ⟨nb, 0, none⟩) N N)
  own : w.ownsRow w0.heap.size 51 1 V laid.length (ints laid)
  row : ∀ j, j < N → w.cell? ⟨nb, j, none⟩ = some (.int .u64 (now j)) ∧ w.frozen? ⟨nb, j, none⟩ = false
  lt : nb < w.heap.size
  ne : mb ≠ nb
  off : ∀ q, V.ownBlock = some q → q ≠ mb ∧ q ≠ nb
  mB : w0.heap.size ≤ mb
  nB : w0.heap.size ≤ nb
  be : Below w0.heap.size w0 w
  sp : SpU w V
  po : ∀ q, V.ownBlock = some q → 0 < laid.length

/-- The blocks that laying anew writes in. -/
abbrev MB (mb nb : Nat) (V : Value) : Nat → Prop := fun k => k = mb ∨ k = nb ∨ V.ownBlock = some k

theorem own_formW {w : World} {base : Nat} {v : Value} {n : Nat} {xs : List Value} (h : w.ownsRow base 51 1 v n xs) : ∃ av cv, v = .slice av n cv := by
  rcases h.2 with ⟨rfl, h0⟩ | ⟨g, cap, cur, rfl, _⟩
  · exact ⟨none, 0, by rw [h0]⟩
  · exact ⟨_, _, rfl⟩

section
variable {w0 w : World} {mb hb nb N : Nat} {V : Value} {laid : List Int} {now : Nat → Int}

theorem MV.keep {w' : World} (h : MV w0 w mb hb nb N V laid now) (hb' : Below w.heap.size w w') : MV w0 w' mb hb nb N V laid now := by
  refine ⟨h.tri.keep hb', row_keep1 h.own (fun g _ hl => hb'.block g hl), fun j hj => ?_, Nat.lt_of_lt_of_le h.lt hb'.size, h.ne, h.off, h.mB, h.nB, h.be.trans (hb'.mono h.be.size), h.sp.at (fun q hq => hb'.block q (row_lt1 h.own q hq).2), h.po⟩
  obtain ⟨a1, a2⟩ := h.row j hj
  exact ⟨(hb'.cell (p := ⟨nb, j, none⟩) h.lt).trans a1, (hb'.frozen (p := ⟨nb, j, none⟩) h.lt).trans a2⟩

theorem MV.mark (h : MV w0 w mb hb nb N V laid now) {p : Nat} (hp : p < N) (v : Int) : MV w0 (w.setCell ⟨nb, p, none⟩ (.int .u64 v)) mb hb nb N V laid (updN now p v) := by
  have hB : But (· = nb) w (w.setCell ⟨nb, p, none⟩ (.int .u64 v)) := (But.refl (· = nb) w).setCell (p := ⟨nb, p, none⟩) (fun _ => rfl) _
  refine ⟨h.tri.but hB h.ne, row_keep1 h.own (fun g hg hl => hB.block g hl (fun e => (h.off g hg).2 e)), fun j hj => ?_, Nat.lt_of_lt_of_le h.lt hB.size, h.ne, h.off, h.mB, h.nB, h.be.setCell h.nB _, h.sp.at (fun q hq => hB.block q (row_lt1 h.own q hq).2 (fun e => (h.off q hq).2 e)), h.po⟩
  obtain ⟨a1, a2⟩ := h.row j hj
  refine ⟨?_, by rw [World.frozen?_setCell]; exact a2⟩
  unfold updN
  by_cases e : j = p
  · subst e
    rw [if_pos rfl]
    exact World.cell?_setCell_same _ _ _ a1
  · rw [if_neg e, World.cell?_setCell_other _ _ _ _ (ne_off3 _ _ _ (fun h => e h.symm))]
    exact a1

/-- More words are laid. -/
theorem MV.more {X w' : World} {V' : Value} {own : List Int} (h : MV w0 w mb hb nb N V laid now) (hX : Below w.heap.size w X) (hg : X.grownBy w' V.ownBlock) (hv : V'.ownBlock = V.ownBlock ∨ V'.ownBlock = some X.heap.size) (ho : w'.ownsRow w0.heap.size 51 1 V' (laid.length + own.length) (ints laid ++ ints own)) (hsp : SpU w' V') (hne : 0 < own.length) : MV w0 (w'.setCell ⟨mb, 1, none⟩ V') mb hb nb N V' (laid ++ own) now := by
  have h2 := h.keep hX
  have hB := grown_but hg
  have hlo := row_lt1 h2.own
  have hmS : ¬ V.ownBlock = some mb := fun e => (h.off mb e).1 rfl
  have hnS : ¬ V.ownBlock = some nb := fun e => (h.off nb e).2 rfl
  have hB2 : But (· = mb) w' (w'.setCell ⟨mb, 1, none⟩ V') := (But.refl (· = mb) w').setCell (p := ⟨mb, 1, none⟩) (fun _ => rfl) _
  have hoff : ∀ q, V'.ownBlock = some q → q ≠ mb ∧ q ≠ nb := fun q hq => by
    rcases hv with e | e
    · rw [e] at hq; exact h.off q hq
    · rw [e] at hq
      have hq' := Option.some.inj hq
      have h3 := h2.tri.lt
      have h4 := h2.lt
      exact ⟨by omega, by omega⟩
  refine ⟨(h2.tri.but hB hmS).set1 _, ?_, fun j hj => ?_, ?_, h.ne, hoff, h.mB, h.nB, ?_, hsp.at (fun q hq => hB2.block q (row_lt1 ho q hq).2 (fun e => (hoff q hq).1 e)), fun _ _ => by rw [List.length_append]; omega⟩
  · have : w'.ownsRow w0.heap.size 51 1 V' (laid ++ own).length (ints (laid ++ own)) := by
      rw [List.length_append]
      unfold ints
      rw [List.map_append]
      exact ho
    exact row_keep1 this (fun g hg' hl => hB2.block g hl (fun e => (hoff g hg').1 e))
  · obtain ⟨a1, a2⟩ := h2.row j hj
    have hl := h2.lt
    have e1 := (hB.cell (p := ⟨nb, j, none⟩) hl hnS).trans a1
    have e2 := (hB.frozen (p := ⟨nb, j, none⟩) hl hnS).trans a2
    have hl' : nb < w'.heap.size := Nat.lt_of_lt_of_le hl hB.size
    exact ⟨(hB2.cell (p := ⟨nb, j, none⟩) hl' (fun e => h.ne e.symm)).trans e1, (hB2.frozen (p := ⟨nb, j, none⟩) hl' (fun e => h.ne e.symm)).trans e2⟩
  · have := h2.lt
    have := hB.size
    simp [World.setCell]
    omega
  · exact (h2.be.trans (hB.below h2.be.size (fun k e => (hlo k e).1))).setCell h.mB _
end

theorem step_tells {f : Nat} {vs : Array Value} {v : Value} {ops : Array Oper} {o : Oper} {a : Act} {w : World} {K : Act → World → Prop} {Q : Exit → Act → World → Prop} {E : Prop} (hg : o.guard = none) (hrun : (execOp a.eval o).run Tryz.prog w = .ok (.enter f vs) w)
    (hc : Calls Tryz.prog f vs w fun e w' => e = .returned v ∧ w' = w) (hok : K (a.put o.dst v) w) :
    if Region.wanted o (yielded ops a.tmps) = true then Oper.wp Tryz.prog o a w K Q else E :=
  step_call hg hrun hc fun e w' hh => by
    obtain ⟨rfl, rfl⟩ := hh
    exact hok

theorem ent_tag : Ent 81 := by
  intro args w
  kernel_rfl
theorem ent_of : Ent 58 := by
  intro args w
  kernel_rfl

set_option maxHeartbeats 1000000 in
theorem meet_al {w : World} {mb : Nat} {x : Int} (h0 : 0 ≤ x) (h1 : x ≤ 18446744073709551615) (hp : ptB x = false) : Calls Tryz.prog 56 #[.pointer (some ⟨mb, 0, none⟩), .int .u64 x] w fun e w' => e = .returned (.int .u64 x) ∧ w' = w := by
  have PT := hidb (points_any x h0 h1)
  rw [hp] at PT
  clear hp
  go_enter Tryz.func56, Tryz.ntmps56
  go_wp2_with (go_at_call 51; refine (PT.out _).mono ?_; rintro e w' ⟨rfl, rfl⟩)
  go_ret
  exact ⟨rfl, rfl⟩

set_option maxHeartbeats 1000000 in
theorem meet_old {w0 w : World} {mb hb nb N p : Nat} {V : Value} {laid : List Int} {now : Nat → Int} {x v : Int} (h0 : 0 ≤ x) (h1 : x ≤ 18446744073709551615) (ht : tagI x = 5 ∨ tagI x = 6) (hbd : bodyI x = p) (hp : p < N) (hm : MV w0 w mb hb nb N V laid now) (hv : now p = v) (hv0 : v ≠ 0) : Calls Tryz.prog 56 #[.pointer (some ⟨mb, 0, none⟩), .int .u64 x] w fun e w' => e = .returned (.int .u64 v) ∧ w' = w := by
  have PT := hidb (points_any x h0 h1)
  have e : ptB x = true := by unfold ptB; rcases ht with h | h <;> rw [h] <;> rfl
  rw [e] at PT
  have BD := hidb (body_any x h0 h1)
  rw [hbd] at BD
  obtain ⟨r1, _⟩ := hm.row p hp
  rw [hv] at r1
  obtain ⟨c0, c1, c2, f0, f1, f2, hlt⟩ := hm.tri
  have hvb : (v == 0) = false := by simpa using hv0
  have hpb : (p : Int) < (N : Int) := by omega
  have hpz : (0 : Int) ≤ (p : Int) := by omega
  clear hm hv e ht hbd
  go_enter Tryz.func56, Tryz.ntmps56
  go_wp2_with (first | (go_at_call 51; refine (PT.out _).mono ?_; rintro e w' ⟨rfl, rfl⟩) | (go_at_call 78; refine (BD.out _).mono ?_; rintro e w' ⟨rfl, rfl⟩))
  go_ret
  exact ⟨rfl, rfl⟩
end Go.Proofs.YtmijabhnbmmmfaaGreat


/- meet of a block that is not laid yet. -/
namespace Go.Proofs.YtmijabhnbmmmfaaGreat
open Go.RowKit Go.Deep
attribute [local go_sem] store_float f64bits f64frombits
attribute [local go_sem ↓] Go.wp_at_zero Go.wp_at_succ

/-- What meet has done where a block was not laid yet. -/
def MNew (w0 w : World) (mb hb nb N : Nat) (V : Value) (laid own : List Int) (now : Nat → Int) (p : Nat) (v : Int) (w' : World) : Prop :=
  ∃ V', MV w0 w' mb hb nb N V' (laid ++ own) (updN now p v) ∧ But (MB mb nb V) w w' ∧ ∀ q, V'.ownBlock = some q → V.ownBlock = some q ∨ w.heap.size ≤ q

set_option maxHeartbeats 3000000 in
set_option maxRecDepth 100000 in
theorem meet_new {hb ab most : Nat} {ws : List Int} {L : List ByteArray} {F : List Nat} {a : Option Addr} {c g : Nat} {w0 w : World} {mb nb p n : Nat} {V : Value} {laid : List Int} {now : Nat → Int} {x : Int} (hp0 : HP w0 hb ab most ws L F a c) (ha : a = some ⟨g, 0, none⟩) (h0 : 0 ≤ x) (h1 : x ≤ 18446744073709551615) (ht : tagI x = 5 ∨ tagI x = 6) (hbd : bodyI x = p) (hn : 0 < n) (hpn : p + n ≤ ws.length) (hll : laid.length ≤ 16777216)
    (hm : MV w0 w mb hb nb ws.length V laid now) (hv : now p = 0) (hblk : BlkIs hb ab most ws L F a c g x p n) :
    Calls Tryz.prog 56 #[.pointer (some ⟨mb, 0, none⟩), .int .u64 x] w fun e w' => e = .returned (.int .u64 (ofW (tagI x) laid.length)) ∧ MNew w0 w mb hb nb ws.length V laid ((ws.drop p).take n) now p (ofW (tagI x) laid.length) w' := by
  obtain ⟨El, m, cc, f, k, Nn, y, BLK⟩ := hblk
  have PT := hidb (points_any x h0 h1)
  have e : ptB x = true := by unfold ptB; rcases ht with h | h <;> rw [h] <;> rfl
  rw [e] at PT
  have BD := hidb (body_any x h0 h1)
  rw [hbd] at BD
  have TG := hidb (tag_any x h0 h1)
  have OF := hidb (hof_any (tagI x) (laid.length : Int) (by omega))
  obtain ⟨av, cv, rfl⟩ := own_formW hm.own
  have hws : ws.length ≤ 16777216 := Nat.le_trans hp0.fits hp0.small
  have BK := hidb (BLK w (hp0.keep hm.be))
  have HM := hidb hm
  have HP0 := hidb hp0
  have HA := hidb ha
  obtain ⟨r1, r1f⟩ := hm.row p (by omega)
  rw [hv] at r1
  obtain ⟨c0, c1, c2, f0, f1, f2, hlt⟩ := hm.tri
  have hpb : (p : Int) < (ws.length : Int) := by omega
  have hpz : (0 : Int) ≤ (p : Int) := by omega
  have hmn := hm.ne
  have hmlt := hm.tri.lt
  have hnlt := hm.lt
  generalize tagI x = T at *
  generalize hvv : ofW T (laid.length : Int) = v at *
  clear hp0 BLK hm e ht hbd hv ha h0 h1 hvv
  go_enter Tryz.func56, Tryz.ntmps56
  go_wp2_with (first | (go_at_call 51; refine (PT.out _).mono ?_; rintro e w' ⟨rfl, hw'⟩; obtain rfl := hw'.symm) | (go_at_call 78; refine (BD.out _).mono ?_; rintro e w' ⟨rfl, hw'⟩; obtain rfl := hw'.symm) | (go_at_call 53; refine BK.out.mono ?_; rintro e w1 ⟨rfl, hb1⟩; have HB1 := hidb hb1; have HM1 := hidb (HM.out.keep hb1); have HM2 := hidb ((HM.out.keep hb1).keep (below_new w1 (.cells #[.slice (some ⟨g, p, none⟩) n n, .int .i64 k, .int .i64 Nn, .float .f64 f, .string ⟨#[]⟩, .slice none 0 0, .slice El m cc, .int .u64 y] 129))); have HO2 := hidb (Oct.new w1 129 (.slice (some ⟨g, p, none⟩) n n) (.int .i64 k) (.int .i64 Nn) (.float .f64 f) (.string ⟨#[]⟩) (.slice none 0 0) (.slice El m cc) (.int .u64 y)); have hw1 := hb1.size; clear hb1 BK))
  have HB2 := hidb (show Below w.heap.size w (w1.alloc (.cells #[.slice (some ⟨g, p, none⟩) n n, .int .i64 k, .int .i64 Nn, .float .f64 f, .string ⟨#[]⟩, .slice none 0 0, .slice El m cc, .int .u64 y] 129)) from HB1.out.alloc HB1.out.size _)
  generalize hW : (w1.alloc (.cells #[.slice (some ⟨g, p, none⟩) n n, .int .i64 k, .int .i64 Nn, .float .f64 f, .string ⟨#[]⟩, .slice none 0 0, .slice El m cc, .int .u64 y] 129)) = W2 at *
  clear hW c0 c1 c2 f0 f1 f2 hlt r1 r1f HM1 HB1
  obtain ⟨c0, c1, c2, f0, f1, f2, hlt⟩ := HM2.out.tri
  obtain ⟨r1, r1f⟩ := HM2.out.row p (by omega)
  have hB1n : ¬ w1.heap.size = nb := by omega
  have hnm1 : ¬ nb = mb := fun e => hmn e.symm
  have hnm2 : ¬ mb = nb := hmn
  have K1 := hidb ((HM2.out.mark (p := p) (by omega) v).keep ((Below.refl _ _).drew)).tri
  have K2 := hidb (HM2.out.mark (p := p) (by omega) v).tri
  go_cut [] from 31 (fun wc => MV w0 wc mb hb nb ws.length (.slice av laid.length cv) laid (updN now p v) ∧ Oct wc w1.heap.size (.slice (some ⟨g, p, none⟩) n n) (.int .i64 k) (.int .i64 Nn) (.float .f64 f) (.string ⟨#[]⟩) (.slice none 0 0) (.slice El m cc) (.int .u64 y) ∧ But (MB mb nb (.slice av laid.length cv)) w wc)
  case first =>
    go_region_held3 (fun w' => w'.cell? ⟨mb, 1, none⟩ = some (.slice av laid.length cv) ∧ w'.cell? ⟨mb, 2, none⟩ = some (.slice (some ⟨nb, 0, none⟩) ws.length ws.length))
      (first | go_keep | exact ⟨K1.out.c1, K1.out.c2⟩ | exact ⟨K2.out.c1, K2.out.c2⟩)
      (first | (go_at_call 81; refine (TG.out _).mono ?_; rintro e w' ⟨rfl, hw'⟩; obtain rfl := hw'.symm) | (go_at_call 58; refine (OF.out _).mono ?_; rintro e w' ⟨rfl, hw'⟩; obtain rfl := hw'.symm))
    all_goals (
      go_wp2_with fail
      go_meet
      case rel =>
        have hk := HM2.out.mark (p := p) (by omega) v
        refine ⟨hk.keep ((Below.refl _ _).drew), ?_, ?_⟩
        · exact (HO2.out.but ((But.refl (· = nb) W2).setCell (p := ⟨nb, p, none⟩) (fun _ => rfl) (.int .u64 v)) hB1n).keep ((Below.refl _ _).drew)
        · exact ((But.of_below (S := MB mb nb (.slice av laid.length cv)) HB2.out).setCell (p := ⟨nb, p, none⟩) (fun _ => .inr (.inl rfl)) _).drew)
  case rest =>
  obtain ⟨hm3, ho3, hb3⟩ := hcut
  have HM3 := hidb hm3
  have HO3 := hidb ho3
  have HB3 := hidb hb3
  clear c0 c1 c2 f0 f1 f2 hlt r1 r1f HM2 HO2 HB2 hm3 ho3 hb3
  have hw1c : w1.heap.size < wc.heap.size := HO3.out.lt
  obtain ⟨c0, c1, c2, f0, f1, f2, hlt⟩ := HM3.out.tri
  obtain ⟨o0, o1, o2, o3, o4, o5, o6, o7, s0, s1, s2, s3, s4, s5, s6, s7, -⟩ := HO3.out
  have z1 : laid.length + n ≤ maxLen := by unfold maxLen; omega
  have z2 : (laid.length + n) * 8 ≤ 140737488355328 := by omega
  have hown : ((ws.drop p).take n).length = n := by simp; omega
  have z3 : (ints ((ws.drop p).take n)).length = n := by simp [ints]; omega
  have z4 : w0.heap.size ≤ wc.drew.heap.size := HM3.out.be.size
  have nws : ∀ j u, (ints ((ws.drop p).take n))[j]? = some u → wc.drew.cell? ((⟨g, p, none⟩ : Addr).add j) = some u := by
    intro j u hj
    simp only [ints, List.getElem?_map, List.getElem?_take] at hj
    split at hj
    · rename_i hjn
      rw [List.getElem?_drop] at hj
      cases hw : ws[p + j]? with
      | none => rw [hw] at hj; simp at hj
      | some z =>
        rw [hw] at hj
        obtain rfl : Value.int .u64 z = u := by simpa using hj
        obtain ⟨g', e', _, _, hc⟩ := hp_cell HP0.out (p + j) z hw
        rw [HA.out] at e'
        obtain rfl : g = g' := by simpa using e'
        have := hc wc.drew (HM3.out.be.trans ((Below.refl _ wc).drew.mono HM3.out.be.size))
        have ea : (⟨g, p, none⟩ : Addr).add j = ⟨g, p + j, none⟩ := by unfold Addr.add; split <;> simp_all
        rw [ea]
        exact this
    · simp at hj
  have n1c : ∀ u ∈ ints ((ws.drop p).take n), u.oneCell' = true := by
    intro u hu
    obtain ⟨z, _, rfl⟩ := List.mem_map.1 hu
    rfl
  have n1w : ∀ u ∈ ints ((ws.drop p).take n), ∃ i : Int, u = .int .u64 i := by
    intro u hu
    obtain ⟨z, _, rfl⟩ := List.mem_map.1 hu
    exact ⟨z, rfl⟩
  have HMD := hidb (HM3.out.keep ((Below.refl _ _).drew))
  have eu : updN now p v p = v := by simp [updN]
  go_wp2_with fail
  go_region_law (first
    | (refine step_appW rfl (.tmp 49) (.tmp 51) rfl w0.heap.size (.slice av laid.length cv) laid.length (ints laid) rfl HMD.out.own HMD.out.sp ⟨g, p, none⟩ n n (ints ((ws.drop p).take n)) z3 rfl nws n1c n1w hn z1 z2 z4 ?_; intro g' cap w5 hown5 hgrow hat hsp5; have HM5 := hidb (HMD.out.more (own := (ws.drop p).take n) (Below.refl _ _) hgrow (V' := .slice (some ⟨g', 0, none⟩) (laid.length + n) cap) (hat.imp (fun e => by rw [e]; rfl) (fun e => by rw [e]; rfl)) (by rw [hown]; exact hown5) hsp5 (by omega)); have HG5 := hidb hgrow; have HAT := hidb hat; obtain ⟨d0, d1, d2, e0, e1, e2, -⟩ := HMD.out.tri.but (grown_but hgrow) (fun e => (HMD.out.off _ e).1 rfl); have r5 := ((grown_but hgrow).cell (p := ⟨nb, p, none⟩) HMD.out.lt (fun e => (HMD.out.off _ e).2 rfl)).trans (HMD.out.row p (by omega)).1; rw [eu] at r5; clear hown5 hgrow hat hsp5))
  all_goals (
    go_wp2_with fail
    refine bodyPost_ret (v := .int .u64 v) (by simp [results, Tryz.results56, go_sem]) rfl ⟨rfl, _, HM5.out, ?_, fun q hq => ?_⟩
    · exact (((HB3.out.drew).trans ((grown_but HG5.out).mono fun k _ e => .inr (.inr e))).setCell (p := ⟨mb, 1, none⟩) (fun _ => .inl rfl) _)
    · obtain rfl : g' = q := by simpa [Value.ownBlock] using hq
      rcases HAT.out with e | e
      · exact .inl e
      · right
        have := HB3.out.size
        rw [e]
        exact this)
end Go.Proofs.YtmijabhnbmmmfaaGreat


