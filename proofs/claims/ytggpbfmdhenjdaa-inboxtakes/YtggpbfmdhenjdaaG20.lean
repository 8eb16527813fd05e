import Derived.Test.YtggpbfmdhenjdaaG19
import Derived.LaidEqlPtr
/- Take, walked. -/
namespace Go.Proofs.Ytggpbfmdhenjdaa
open Go.RowKit Go.Deep
attribute [local go_sem] store_float f64bits
attribute [local go_sem ↓] Go.wp_at_zero Go.wp_at_succ
variable {w : World} {bb place most puts : Nat} {ms : List Msg} {R : Nat → Prop}

theorem BX.back (h : BX w bb ms place most puts R) {i : Nat} (hi : i ≤ ms.length) : BX (w.setCell ⟨bb, 2, none⟩ (pt (prv ms i))) bb ms i most puts R :=
  ⟨h.box.set (i := 2) (by simp) (pt (prv ms i)), fun j x hx => (h.msg j x hx).other (fun e => h.nb x (List.mem_of_getElem? hx) e.symm) _, h.nd, h.nb, fun x hx => ⟨in_set1 (h.tr x hx).1 (h.tr x hx).2 (fun e => (h.far _ e).2.1 rfl) _, (h.tr x hx).2⟩, fun q hq => ⟨by simpa [World.setCell] using (h.far q hq).1, (h.far q hq).2⟩, hi⟩

theorem join_off {W : World} {o1 o2 : Option Nat} {u v : Value} {b k : Nat} (hk : 2 ≤ k) : ((W.setCell (jA bb o1) u).setCell (jB bb o2) v).cell? ⟨b, k, none⟩ = W.cell? ⟨b, k, none⟩ := by
  rw [World.cell?_setCell_other, World.cell?_setCell_other]
  · cases o1 with
    | none => intro e; have := congrArg Addr.off e; simp [jA] at this; omega
    | some x => intro e; have := congrArg Addr.off e; simp [jA] at this; omega
  · cases o2 with
    | none => intro e; have := congrArg Addr.off e; simp [jB] at this; omega
    | some x => intro e; have := congrArg Addr.off e; simp [jB] at this; omega

theorem BX.jA_at (h : BX w bb ms place most puts R) (i : Nat) : ∃ u, w.cell? (jA bb (prv ms i)) = some u ∧ w.frozen? (jA bb (prv ms i)) = false := by
  rcases prv_cases ms i with ⟨q, _⟩ | ⟨x, _, hx, q⟩
  · rw [q]; exact ⟨_, h.box.1 0 _ rfl⟩
  · rw [q]; exact ⟨_, (h.msg _ x hx).1 1 _ rfl⟩
theorem BX.jB_at (h : BX w bb ms place most puts R) (i : Nat) : ∃ u, w.cell? (jB bb (nxt ms i)) = some u ∧ w.frozen? (jB bb (nxt ms i)) = false := by
  rcases nxt_cases ms i with ⟨q, _⟩ | ⟨x, hx, q⟩
  · rw [q]; exact ⟨_, h.box.1 1 _ rfl⟩
  · rw [q]; exact ⟨_, (h.msg _ x hx).1 0 _ rfl⟩
theorem BX.prv_ne (h : BX w bb ms place most puts R) (i : Nat) : ∀ x, prv ms i = some x → x ≠ bb := by
  intro y hy
  rcases prv_cases ms i with ⟨q, _⟩ | ⟨x, _, hx, q⟩
  · rw [q] at hy; cases hy
  · rw [q] at hy; cases hy; exact h.nb x (List.mem_of_getElem? hx)
theorem BX.nxt_ne (h : BX w bb ms place most puts R) (i : Nat) : ∀ x, nxt ms i = some x → x ≠ bb := by
  intro y hy
  rcases nxt_cases ms i with ⟨q, _⟩ | ⟨x, hx, q⟩
  · rw [q] at hy; cases hy
  · rw [q] at hy; cases hy; exact h.nb x (List.mem_of_getElem? hx)

theorem BX.joins (h : BX w bb ms place most puts R) (i : Nat) : Calls Try.prog 32 #[.pointer (some ⟨bb, 0, none⟩), pt (prv ms i), pt (nxt ms i)] w fun e w' => e = .returned (.tuple #[]) ∧ w' = (w.setCell (jA bb (prv ms i)) (pt (nxt ms i))).setCell (jB bb (nxt ms i)) (pt (prv ms i)) := by
  obtain ⟨u, u1, u2⟩ := h.jA_at i
  obtain ⟨v, v1, v2⟩ := h.jB_at i
  exact joinB _ _ u v u1 u2 v1 v2 (h.prv_ne i) (h.nxt_ne i)

theorem next_fin2 {S : Nat → Prop} {w w4 : World} {C : Nat} {u0 u1 u2 u3 u4 : Value} {t : Tr} (h : BX w4 bb ms place most puts R) (hin : t.In w4 C) (hb : But S w w4) (hR : ∀ q, R q → q ≠ w.heap.size) (hB : ∀ q, BS bb ms q → q ≠ w.heap.size) (hC : w.heap.size < C) :
    t.In (((((w4.setCell ⟨w.heap.size, 0, none⟩ u0).setCell ⟨w.heap.size, 1, none⟩ u1).setCell ⟨w.heap.size, 2, none⟩ u2).setCell ⟨w.heap.size, 3, none⟩ u3).setCell ⟨w.heap.size, 4, none⟩ u4) w.heap.size ∧ BX (((((w4.setCell ⟨w.heap.size, 0, none⟩ u0).setCell ⟨w.heap.size, 1, none⟩ u1).setCell ⟨w.heap.size, 2, none⟩ u2).setCell ⟨w.heap.size, 3, none⟩ u3).setCell ⟨w.heap.size, 4, none⟩ u4) bb ms place most puts R ∧ But S w (((((w4.setCell ⟨w.heap.size, 0, none⟩ u0).setCell ⟨w.heap.size, 1, none⟩ u1).setCell ⟨w.heap.size, 2, none⟩ u2).setCell ⟨w.heap.size, 3, none⟩ u3).setCell ⟨w.heap.size, 4, none⟩ u4) := by
  refine ⟨in_base (Nat.le_of_lt hC) _ (in_set (in_set (in_set (in_set (in_set hin hC _) hC _) hC _) hC _) hC _), ?_, ?_⟩
  · have hb2 : But (fun q => q = w.heap.size) w4 (((((w4.setCell ⟨w.heap.size, 0, none⟩ u0).setCell ⟨w.heap.size, 1, none⟩ u1).setCell ⟨w.heap.size, 2, none⟩ u2).setCell ⟨w.heap.size, 3, none⟩ u3).setCell ⟨w.heap.size, 4, none⟩ u4) := (((((But.refl (fun q => q = w.heap.size) w4).setCell (p := ⟨w.heap.size, 0, none⟩) (fun _ => rfl) _).setCell (p := ⟨w.heap.size, 1, none⟩) (fun _ => rfl) _).setCell (p := ⟨w.heap.size, 2, none⟩) (fun _ => rfl) _).setCell (p := ⟨w.heap.size, 3, none⟩) (fun _ => rfl) _).setCell (p := ⟨w.heap.size, 4, none⟩) (fun _ => rfl) _
    exact h.but hb2 hB hR
  · exact ((((hb.setCell (p := ⟨w.heap.size, 0, none⟩) (fun h => absurd h (Nat.lt_irrefl _)) _).setCell (p := ⟨w.heap.size, 1, none⟩) (fun h => absurd h (Nat.lt_irrefl _)) _).setCell (p := ⟨w.heap.size, 2, none⟩) (fun h => absurd h (Nat.lt_irrefl _)) _).setCell (p := ⟨w.heap.size, 3, none⟩) (fun h => absurd h (Nat.lt_irrefl _)) _).setCell (p := ⟨w.heap.size, 4, none⟩) (fun h => absurd h (Nat.lt_irrefl _)) _

set_option maxHeartbeats 1000000 in
set_option maxRecDepth 100000 in
theorem removeB (h : BX w bb ms (place + 1) most puts R) {m : Msg} (hm : ms[place]? = some m) (hs : Small m.t) (hcn : cnT m.t ≤ 1000000000) (hl : ms.length ≤ 1000000) (hwd : wds ms ≤ 1000000000000) :
    Calls Try.prog 25 #[.pointer (some ⟨bb, 0, none⟩), .pointer (some ⟨m.b, 0, none⟩)] w fun e w' => ∃ (k' n' : Int) (f' : Nat) (s' : ByteArray) (a' : Option Addr) (c' : Nat) (kids' : List Tr), e = .returned (.agg #[.int .i64 k', .int .i64 n', .float .f64 f', .string s', .slice a' kids'.length c']) ∧ Sm m.t (.mk k' n' f' s' a' c' kids') ∧ (Tr.mk k' n' f' s' a' c' kids').In w' w.heap.size ∧ BX w' bb (ms.eraseIdx place) place most puts R ∧ But (BS bb ms) w w' := by
  have hpl : place < ms.length := (List.getElem?_eq_some_iff.1 hm).1
  have hmb := h.nb m (List.mem_of_getElem? hm)
  have hbm : ¬ bb = m.b := fun e => hmb e.symm
  have hX := h.keep (below_new w zT)
  have hB1 := ((h.back (i := place) (by omega)).keep (below_new _ zT)).keep ((Below.refl _ _).drew)
  have hbl := h.box.2
  have hml := (h.msg _ m hm).2
  have HJ := hidb (hB1.joins place)
  have HE := hidb (hB1.erased hm (Nat.le_refl _))
  have hp1 : prv ms (place + 1) = some m.b := by unfold prv; rw [if_neg (by omega), Nat.add_sub_cancel, hm]; rfl
  obtain ⟨c2, f2⟩ := hX.box.1 2 _ rfl
  rw [hp1] at c2
  have a0 := ((hX.msg _ m hm).1 0 _ rfl).1
  have a0' := ((hB1.msg _ m hm).1 0 _ rfl).1
  have a1' := ((hB1.msg _ m hm).1 1 _ rfl).1
  have q3 := hB1.box.1 3 _ rfl
  have q4 := hB1.box.1 4 _ rfl
  have q7 := (hB1.msg _ m hm).1 7 _ rfl
  have q9 := (hB1.msg _ m hm).1 9 _ rfl
  have t0 := hB1.tr m (List.mem_of_getElem? hm)
  have hmr : ¬ R m.b := fun e => (hB1.far _ e).2.2 m (List.mem_of_getElem? hm) rfl
  have hbr : ¬ R bb := fun e => (hB1.far _ e).2.1 rfl
  have hAr : ¬ R (jA bb (prv ms place)).block := by
    rcases prv_cases ms place with ⟨q, _⟩ | ⟨x, _, hx, q⟩
    · rw [q]; exact hbr
    · rw [q]; exact fun e => (hB1.far _ e).2.2 x (List.mem_of_getElem? hx) rfl
  have hBr : ¬ R (jB bb (nxt ms place)).block := by
    rcases nxt_cases ms place with ⟨q, _⟩ | ⟨x, hx, q⟩
    · rw [q]; exact hbr
    · rw [q]; exact fun e => (hB1.far _ e).2.2 x (List.mem_of_getElem? hx) rfl
  have tE : m.t.In (rmW (((w.setCell ⟨bb, 2, none⟩ (pt (prv ms place))).alloc zT).drew) bb ms place m) 0 := in_set1 (in_set1 (in_set1 (in_set1 (in_set1 t0.1 t0.2 hAr _) t0.2 hBr _) t0.2 hbr _) t0.2 hbr _) t0.2 hmr _
  have CP := hidb (fun W hb => copy_out (W := W) (in_below (w := rmW (((w.setCell ⟨bb, 2, none⟩ (pt (prv ms place))).alloc zT).drew) bb ms place m) hb tE) hs hcn)
  have HBT : Hid (But (BS bb ms) w (rmW (((w.setCell ⟨bb, 2, none⟩ (pt (prv ms place))).alloc zT).drew) bb ms place m)) := hidb (by
    have sA : BS bb ms (jA bb (prv ms place)).block := by
      rcases prv_cases ms place with ⟨q, _⟩ | ⟨x, _, hx, q⟩
      · rw [q]; exact .inl rfl
      · rw [q]; exact .inr ⟨x, List.mem_of_getElem? hx, rfl⟩
    have sB : BS bb ms (jB bb (nxt ms place)).block := by
      rcases nxt_cases ms place with ⟨q, _⟩ | ⟨x, hx, q⟩
      · rw [q]; exact .inl rfl
      · rw [q]; exact .inr ⟨x, List.mem_of_getElem? hx, rfl⟩
    have sb : BS bb ms bb := .inl rfl
    have sm : BS bb ms m.b := .inr ⟨m, List.mem_of_getElem? hm, rfl⟩
    exact (((((((But.refl _ w).setCell (p := ⟨bb, 2, none⟩) (fun _ => sb) _).alloc zT).drew.setCell (fun _ => sA) _).setCell (fun _ => sB) _).setCell (p := ⟨bb, 3, none⟩) (fun _ => sb) _).setCell (p := ⟨bb, 4, none⟩) (fun _ => sb) _).setCell (p := ⟨m.b, 9, none⟩) (fun _ => sm) _)
  have HSZ : Hid ((rmW (((w.setCell ⟨bb, 2, none⟩ (pt (prv ms place))).alloc zT).drew) bb ms place m).heap.size = w.heap.size + 1) := hidb (by simp [rmW, World.setCell])
  have hszw : (w.setCell ⟨bb, 2, none⟩ (pt (prv ms place))).heap.size = w.heap.size := by simp [World.setCell]
  have AZ := At.new (w.setCell ⟨bb, 2, none⟩ (pt (prv ms place))) [.int .i64 0, .int .i64 0, .float .f64 0, .string ⟨#[]⟩, .slice none 0 0] 27
  rw [hszw] at AZ
  replace AZ := AZ.keep ((Below.refl _ _).drew)
  have hltm : ∀ x : Msg, x ∈ ms → x.b < w.heap.size := fun x hx => by
    obtain ⟨i, hi⟩ := List.getElem?_of_mem hx
    exact (h.msg i x hi).2
  have AZ2 := (AZ.other (p := jA bb (prv ms place)) (by
    rcases prv_cases ms place with ⟨q, _⟩ | ⟨x, _, hx, q⟩
    · rw [q]; exact Nat.ne_of_lt hbl
    · rw [q]; exact Nat.ne_of_lt (hltm x (List.mem_of_getElem? hx))) (pt (nxt ms place))).other (p := jB bb (nxt ms place)) (by
    rcases nxt_cases ms place with ⟨q, _⟩ | ⟨x, hx, q⟩
    · rw [q]; exact Nat.ne_of_lt hbl
    · rw [q]; exact Nat.ne_of_lt (hltm x (List.mem_of_getElem? hx))) (pt (prv ms place))
  have HFR : Hid (∀ q, R q → q ≠ w.heap.size) := hidb (fun q hq => by have := (h.far q hq).1; omega)
  have HBS : Hid (∀ q, BS bb (ms.eraseIdx place) q → q ≠ w.heap.size) := hidb (by
    rintro q (e | ⟨x, hx, e⟩)
    · omega
    · have := hltm x (List.mem_of_mem_eraseIdx hx)
      omega)
  have hwb : ¬ w.heap.size = bb := by omega
  have hwm : ¬ w.heap.size = m.b := by omega
  have hjA : (jA bb (prv ms place)).block ≠ m.b := by
    rcases prv_cases ms place with ⟨q, _⟩ | ⟨x, h1, hx, q⟩
    · rw [q]; exact hbm
    · rw [q]; exact hB1.apart hx hm (by omega)
  have hjB : (jB bb (nxt ms place)).block ≠ m.b := by
    rcases nxt_cases ms place with ⟨q, _⟩ | ⟨x, hx, q⟩
    · rw [q]; exact hbm
    · rw [q]; exact hB1.apart hx hm (by omega)
  have hm2 := ((hB1.msg _ m hm).other hjA (pt (nxt ms place))).other hjB (pt (prv ms place))
  have n0 := (hm2.1 0 _ rfl).1
  have n1 := (hm2.1 1 _ rfl).1
  clear hm2 hjA hjB
  have y2 := (hB1.msg _ m hm).1 2 _ rfl
  have y3 := (hB1.msg _ m hm).1 3 _ rfl
  have y4 := (hB1.msg _ m hm).1 4 _ rfl
  have y5 := (hB1.msg _ m hm).1 5 _ rfl
  have y6 := (hB1.msg _ m hm).1 6 _ rfl
  have hwle : m.wd ≤ wds ms := by have := wds_erase ms place m hm; omega
  unfold rmW at HE CP HBT HSZ
  obtain ⟨Po, hPo⟩ : ∃ o, pt (prv ms place) = Value.pointer o := ⟨_, rfl⟩
  obtain ⟨No, hNo⟩ : ∃ o, pt (nxt ms place) = Value.pointer o := ⟨_, rfl⟩
  generalize pt (prv ms place) = P at *
  generalize pt (nxt ms place) = Nx at *
  subst hPo hNo
  have jo := fun (b k : Nat) (hk : 2 ≤ k) => join_off (bb := bb) (W := ((w.setCell ⟨bb, 2, none⟩ (.pointer Po)).alloc zT).drew) (o1 := prv ms place) (o2 := nxt ms place) (u := .pointer No) (v := .pointer Po) (b := b) hk
  have e3 := (jo bb 3 (by omega)).trans q3.1
  have e4 := (jo bb 4 (by omega)).trans q4.1
  have e7 := (jo m.b 7 (by omega)).trans q7.1
  have e9 := (jo m.b 9 (by omega)).trans q9.1
  have z2 := (jo m.b 2 (by omega)).trans y2.1
  have z3 := (jo m.b 3 (by omega)).trans y3.1
  have z4 := (jo m.b 4 (by omega)).trans y4.1
  have z5 := (jo m.b 5 (by omega)).trans y5.1
  have z6 := (jo m.b 6 (by omega)).trans y6.1
  have g3 : ((((w.setCell ⟨bb, 2, none⟩ (.pointer Po)).alloc zT).drew.setCell (jA bb (prv ms place)) (.pointer No)).setCell (jB bb (nxt ms place)) (.pointer Po)).frozen? ⟨bb, 3, none⟩ = false := by rw [World.frozen?_setCell, World.frozen?_setCell]; exact q3.2
  have g4 : ((((w.setCell ⟨bb, 2, none⟩ (.pointer Po)).alloc zT).drew.setCell (jA bb (prv ms place)) (.pointer No)).setCell (jB bb (nxt ms place)) (.pointer Po)).frozen? ⟨bb, 4, none⟩ = false := by rw [World.frozen?_setCell, World.frozen?_setCell]; exact q4.2
  have g9 : ((((w.setCell ⟨bb, 2, none⟩ (.pointer Po)).alloc zT).drew.setCell (jA bb (prv ms place)) (.pointer No)).setCell (jB bb (nxt ms place)) (.pointer Po)).frozen? ⟨m.b, 9, none⟩ = false := by rw [World.frozen?_setCell, World.frozen?_setCell]; exact q9.2
  generalize (((w.setCell ⟨bb, 2, none⟩ (.pointer Po)).alloc zT).drew.setCell (jA bb (prv ms place)) (.pointer No)).setCell (jB bb (nxt ms place)) (.pointer Po) = W2 at *
  have HAZ := hidb AZ2
  clear AZ AZ2 hltm hszw
  have hlw : IntKind.i64.wrap ((ms.length : Int) - 1) = ((ms.length - 1 : Nat) : Int) := by rw [IntKind.wrap_i64]; omega
  have hww : IntKind.i64.wrap ((wds ms : Int) - (m.wd : Int)) = ((wds ms - m.wd : Nat) : Int) := by rw [IntKind.wrap_i64]; omega
  generalize hL1 : ((ms.length - 1 : Nat) : Int) = L1 at *
  generalize hD1 : ((wds ms - m.wd : Nat) : Int) = D1 at *
  simp only [pt, Option.map_some] at c2
  clear h hX hB1 hs hcn t0 hmr hbr hAr hBr tE q3 q4 q7 q9 y2 y3 y4 y5 y6 jo hp1 hL1 hD1 hm hmb
  obtain ⟨jG, hjG⟩ : ∃ j, Try.prog.info? GT = some j := Option.isSome_iff_exists.1 (by kernel_rfl)
  have pe := run_eql_ptr_same (P := Try.prog) (w.alloc zT) ⟨m.b, 0, none⟩ Try.underlying51 hjG
  clear hjG
  go_enter Try.func25, Try.ntmps25
  have HS1 := hidb (And.intro a0' a1')
  have HS2 := hidb (And.intro n0 n1)
  have a0n : ((w.setCell ⟨bb, 2, none⟩ (.pointer Po)).alloc zT).cell? ⟨m.b, 0, none⟩ = some (.pointer Po) := a0'
  clear a0' a1' n0 n1
  go_wp2_with fail
  go_region_held3 (fun w' => w'.cell? ⟨m.b, 0, none⟩ = some (.pointer Po) ∧ w'.cell? ⟨m.b, 1, none⟩ = some (.pointer No)) (first | with_reducible exact HS1.out | with_reducible exact HS2.out) (first
    | (go_at_call 32; refine HJ.out.mono ?_; rintro e w' ⟨rfl, hw'⟩; obtain rfl := hw'.symm))
  go_wp2_with fail
  go_region
  all_goals go_wp2_with (first
    | (go_at_call 23; refine (CP.out _ ((Below.refl _ _).drew)).mono ?_; rintro e w4 ⟨k', n', f', s', a', c', kids', rfl, hst, hti, hb4⟩; have AZ4 := ((((HAZ.out.other (p := ⟨bb, 3, none⟩) (fun e => hwb e.symm) (.int .i64 L1)).other (p := ⟨bb, 4, none⟩) (fun e => hwb e.symm) (.int .i64 D1)).other (p := ⟨m.b, 9, none⟩) (fun e => hwm e.symm) (.bool true)).keep ((Below.refl _ _).drew)).keep hb4; obtain ⟨r0, g0⟩ := AZ4.1 0 _ rfl; obtain ⟨r1, g1⟩ := AZ4.1 1 _ rfl; obtain ⟨r2, g2⟩ := AZ4.1 2 _ rfl; obtain ⟨r3, g3'⟩ := AZ4.1 3 _ rfl; obtain ⟨r4, g4'⟩ := AZ4.1 4 _ rfl; have HK4 := hidb ((HE.out.keep ((Below.refl _ _).drew)).keep hb4); have HTI := hidb hti; have HST := hidb hst; have HB4 := hidb (HBT.out.drew.trans (But.of_below (S := BS bb ms) hb4)); clear hti hst hb4 AZ4))
  all_goals
    have HF := hidb (next_fin2 (w := w) (S := BS bb ms) (u0 := .int .i64 k') (u1 := .int .i64 n') (u2 := .float .f64 f') (u3 := .string s') (u4 := .slice a' kids'.length c') HK4.out HTI.out HB4.out HFR.out HBS.out (by have := HSZ.out; show w.heap.size < _; exact Nat.lt_of_lt_of_eq (Nat.lt_succ_self _) this.symm))
    exact bodyPost_ret (v := .agg #[.int .i64 k', .int .i64 n', .float .f64 f', .string s', .slice a' kids'.length c']) (by simp [results, Try.results25, go_sem, r0, r1, r2, r3, r4]) rfl ⟨k', n', f', s', a', c', kids', rfl, HST.out, HF.out.1, HF.out.2.1, HF.out.2.2⟩
end Go.Proofs.Ytggpbfmdhenjdaa


/- Take, walked. -/
namespace Go.Proofs.Ytggpbfmdhenjdaa
open Go.RowKit Go.Deep
attribute [local go_sem] store_float f64bits
attribute [local go_sem ↓] Go.wp_at_zero Go.wp_at_succ
variable {w : World} {bb place most puts : Nat} {ms : List Msg} {R : Nat → Prop}

theorem rewindB (h : BX w bb ms place most puts R) : Calls Try.prog 26 #[.pointer (some ⟨bb, 0, none⟩)] w fun e w' => e = .returned (.tuple #[]) ∧ w' = w.setCell ⟨bb, 2, none⟩ (.pointer none) := by
  obtain ⟨c2, f2⟩ := h.box.1 2 _ rfl
  clear h
  go_enter Try.func26, Try.ntmps26
  go_wp2
  exact bodyPost_end (by simp [results, Try.results26]) rfl ⟨rfl, rfl⟩

theorem take_facts {w w3 w5 : World} {C B0 : Nat} {S : Nat → Prop} {t : Tr} {told zs : List Value} {ty : TypeId} (h : BX w3 bb ms place most puts R) (hin : t.In w3 C) (hb : But S w w3) (hA : At w3 B0 zs) (hB0 : ¬ B0 = bb) (hC : bb < C) (hw : w5 = (w3.alloc (.cells told.toArray ty)).setCell ⟨bb, 2, none⟩ (.pointer none)) (hS : S bb := by exact .inl rfl) :
    BX w5 bb ms 0 most puts R ∧ At w5 w3.heap.size told ∧ At w5 B0 zs ∧ t.In w5 C ∧ But S w w5 ∧ ¬ w3.heap.size = B0 := by
  subst hw
  have hbl := h.box.2
  refine ⟨(h.keep (below_new w3 _)).wind, (At.new w3 told ty).other (p := ⟨bb, 2, none⟩) (fun e => by have e' : bb = w3.heap.size := e; omega) _, (hA.keep (below_new w3 _)).other (p := ⟨bb, 2, none⟩) (fun e => hB0 e.symm) _, in_set (in_over (fun p v _ hv => ((below_new w3 _).cell (World.block_lt_of_cell? _ _ hv)).trans hv) _ hin) hC _, (hb.alloc _).setCell (p := ⟨bb, 2, none⟩) (fun _ => hS) _, fun e => by have := hA.2; omega⟩

set_option maxHeartbeats 1000000 in
set_option maxRecDepth 100000 in
theorem takeB (h : BX w bb ms (place + 1) most puts R) {m : Msg} (hm : ms[place]? = some m) (hs : Small m.t) (hcn : cnT m.t ≤ 1000000000) (hl : ms.length ≤ 1000000) (hwd : wds ms ≤ 1000000000000) :
    Calls Try.prog 12 #[.pointer (some ⟨bb, 0, none⟩)] w fun e w' => ∃ (k' n' : Int) (f' : Nat) (s' : ByteArray) (a' : Option Addr) (c' : Nat) (kids' : List Tr), e = .returned (.tuple #[.agg #[.int .i64 k', .int .i64 n', .float .f64 f', .string s', .slice a' kids'.length c'], .int .i64 0]) ∧ Sm m.t (.mk k' n' f' s' a' c' kids') ∧ (Tr.mk k' n' f' s' a' c' kids').In w' w.heap.size ∧ BX w' bb (ms.eraseIdx place) 0 most puts R ∧ But (BS bb ms) w w' := by
  have hp1 : prv ms (place + 1) = some m.b := by unfold prv; rw [if_neg (by omega), Nat.add_sub_cancel, hm]; rfl
  have hX := h.keep (below_new w zT)
  obtain ⟨c2, f2⟩ := hX.box.1 2 _ rfl
  rw [hp1] at c2
  simp only [pt, Option.map_some] at c2
  have hbl := h.box.2
  have HR := hidb (fun W hb => removeB (w := W) (h.keep hb) hm hs hcn hl hwd)
  have AZ := At.new w [.int .i64 0, .int .i64 0, .float .f64 0, .string ⟨#[]⟩, .slice none 0 0] 27
  have HAZ := hidb AZ
  have hltm : ∀ x : Msg, x ∈ ms → x.b < w.heap.size := fun x hx => by
    obtain ⟨i, hi⟩ := List.getElem?_of_mem hx
    exact (h.msg i x hi).2
  have HNB : Hid (¬ BS bb ms w.heap.size) := hidb (by
    rintro (e | ⟨x, hx, e⟩)
    · omega
    · have := hltm x hx; omega)
  have HFR : Hid (∀ q, R q → q ≠ w.heap.size) := hidb (fun q hq => by have := (h.far q hq).1; omega)
  have HBS : Hid (∀ q, BS bb (ms.eraseIdx place) q → q ≠ w.heap.size) := hidb (by
    rintro q (e | ⟨x, hx, e⟩)
    · omega
    · have := hltm x (List.mem_of_mem_eraseIdx hx)
      omega)
  have hwb : ¬ w.heap.size = bb := by omega
  have hwb' : ¬ bb = w.heap.size := by omega
  clear h hX AZ hltm hm hs hcn hp1
  go_enter Try.func12, Try.ntmps12
  go_wp2_with (first
    | (go_at_call 25; refine (HR.out _ (below_new w zT)).mono ?_; rintro e w3 ⟨k', n', f', s', a', c', kids', rfl, hst, hti, hx3, hb3⟩; have HX3 := hidb hx3; have HTI := hidb hti; have HST := hidb hst; have HB3 := hidb ((But.of_below (S := BS bb ms) (below_new w zT)).trans (hb3.mono (fun _ _ h => h))); have HA3 := hidb (HAZ.out.but hb3 HNB.out); clear hst hti hx3 hb3)
    | (go_at_call 26; refine (rewindB (HX3.out.keep (below_new w3 _))).mono ?_; rintro e w5 ⟨rfl, hw5⟩; have HF5 := hidb (take_facts (told := [.int .i64 k', .int .i64 n', .float .f64 f', .string s', .slice a' kids'.length c']) HX3.out HTI.out HB3.out HA3.out hwb (by simp; omega) hw5); obtain ⟨x0, -⟩ := HF5.out.2.1.1 0 _ rfl; obtain ⟨x1, -⟩ := HF5.out.2.1.1 1 _ rfl; obtain ⟨x2, -⟩ := HF5.out.2.1.1 2 _ rfl; obtain ⟨x3, -⟩ := HF5.out.2.1.1 3 _ rfl; obtain ⟨x4, -⟩ := HF5.out.2.1.1 4 _ rfl; obtain ⟨r0, g0⟩ := HF5.out.2.2.1.1 0 _ rfl; obtain ⟨r1, g1⟩ := HF5.out.2.2.1.1 1 _ rfl; obtain ⟨r2, g2⟩ := HF5.out.2.2.1.1 2 _ rfl; obtain ⟨r3, g3⟩ := HF5.out.2.2.1.1 3 _ rfl; obtain ⟨r4, g4⟩ := HF5.out.2.2.1.1 4 _ rfl; have hlt5 := HF5.out.2.2.2.2.2; clear hw5))
  have HF := hidb (next_fin2 (w := w) (S := BS bb ms) (u0 := .int .i64 k') (u1 := .int .i64 n') (u2 := .float .f64 f') (u3 := .string s') (u4 := .slice a' kids'.length c') HF5.out.1 HF5.out.2.2.2.1 HF5.out.2.2.2.2.1 HFR.out HBS.out (by simp))
  exact bodyPost_ret (v := .tuple #[.agg #[.int .i64 k', .int .i64 n', .float .f64 f', .string s', .slice a' kids'.length c'], .int .i64 0]) (by simp [results, Try.results12, go_sem, r0, r1, r2, r3, r4]) rfl ⟨k', n', f', s', a', c', kids', rfl, HST.out, HF.out.1, HF.out.2.1, HF.out.2.2⟩
end Go.Proofs.Ytggpbfmdhenjdaa


