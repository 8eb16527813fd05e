import Derived.Test.YtpcpdehnppfbfaaGreatG06
/- Take, All. -/
namespace Go.Proofs.YtpcpdehnppfbfaaGreat
open Go.RowKit Go.Lib Go.Maps
attribute [local go_sem] store_float f64bits
attribute [local go_sem ↓] Go.wp_at_zero Go.wp_at_succ

variable {w0 w : World} {eb all N : Nat} {mv : Value} {f : Int → Int → Option Lane}

theorem all_any (h : EO w0 w eb mv f all N) : Calls Tryz.prog 15 #[.pointer (some ⟨eb, 0, none⟩)] w fun e w' => e = .returned (.int .i64 (all : Int)) ∧ w' = w := by
  obtain ⟨c0, c1, f0, f1, hlt⟩ := h.duo
  clear h
  go_enter Tryz.func15, Tryz.ntmps15
  go_wp2
  go_ret
  exact ⟨rfl, rfl⟩

/-- What Pop is known to do. -/
def PopOk : Prop := ∀ (w : World) (B rb k N : Nat) (V : Value) (x0 x1 x2 x3 : Int) (rest : List Value), Rw ST 12 w B rb V (sgl x0 x1 x2 x3 ++ rest) (k + 1) N → B ≤ w.heap.size → N ≤ 1000000 →
  Calls Tryz.prog 30 #[.pointer (some ⟨rb, 0, none⟩)] w fun e w' => e = .returned (.tuple #[.agg #[.int .i64 x0, .int .i64 x1, .int .i64 x2, .int .i64 x3, .int .i64 0, .bool false, .string ⟨#[]⟩, .int .i64 0, .int .i64 0, .float .f64 0, .string ⟨#[]⟩, .slice none 0 0], .bool true]) ∧
    ∃ V', Rw ST 12 w' B rb V' rest k N ∧ But (fun j => j = rb ∨ V.ownBlock = some j) w w' ∧ Stays w V V'

theorem take_far {w1 : World} {i j : Int} {l : Lane} {V' : Value} {xs : List Value} {k : Nat} (hlo : ∀ a b m q, f a b = some m → foot m q → q < w.heap.size) (hlt : w.heap.size < w1.heap.size) (hl : f i j = some l) (hs : Stays w1 l.V V') : ∀ a b m q, updL f i j (some ⟨l.rb, V', xs, k⟩) a b = some m → foot m q → q ≠ w.heap.size := by
  intro a b m q hm hq
  by_cases hc : a = i ∧ b = j
  · obtain ⟨rfl, rfl⟩ := hc
    rw [updL_same] at hm
    obtain rfl : (⟨l.rb, V', xs, k⟩ : Lane) = m := by simpa using hm
    rcases hq with e | e
    · have := hlo _ _ _ q hl (.inl e); omega
    · rcases hs with e2 | e2
      · have := hlo _ _ _ q hl (.inr (e2 ▸ e)); omega
      · have := e2 q e; omega
  · rw [updL_other _ _ _ _ _ _ hc] at hm
    have := hlo _ _ _ q hm hq; omega

/-- A box that is not the ether's may be written. -/
theorem EO.box {b q : Nat} {u : Value} (h : EO w0 w eb mv f all N) (h1 : b ≠ eb) (h2 : ∀ mb, mv = .map (some mb) → mb ≠ b) (h3 : ∀ a c m x, f a c = some m → foot m x → x ≠ b) (h4 : w0.heap.size ≤ b) : EO w0 (w.setCell ⟨b, q, none⟩ u) eb mv f all N :=
  h.but ((But.refl (fun k => k = b) w).setCell (p := ⟨b, q, none⟩) (fun _ => rfl) u) (fun e => h1 e.symm) (fun m e e2 => h2 m e e2) (fun a c m x hm hx e => h3 a c m x hm hx e) (fun _ e => e ▸ h4)

set_option maxHeartbeats 2000000 in
set_option maxRecDepth 100000 in
theorem take_more (PO : PopOk) {i j x2 x3 : Int} (hi : wfi i) (hj : wfi j) {l : Lane} {rest : List Value} {k : Nat} (h : EO w0 w eb mv f all N) (hl : f i j = some l) (hx : l.xs = sgl i j x2 x3 ++ rest) (hk : l.k = k + 1 + 1) (ha : 1 ≤ all) (hA : all ≤ 1000000) (hN : N ≤ 1000000) :
    Calls Tryz.prog 14 #[.pointer (some ⟨eb, 0, none⟩), .int .i64 i, .int .i64 j] w fun e w' => e = .returned (.tuple #[.agg #[.int .i64 i, .int .i64 j, .int .i64 x2, .int .i64 x3, .int .i64 0, .bool false, .string ⟨#[]⟩, .int .i64 0, .int .i64 0, .float .f64 0, .string ⟨#[]⟩, .slice none 0 0], .bool true]) ∧
      (∃ V', EO w0 w' eb mv (updL f i j (some ⟨l.rb, V', rest, k + 1⟩)) (all - 1) N ∧ Stays w l.V V') ∧ But (fun q => q = eb ∨ foot l q) w w' := by
  rcases h.map with ⟨_, hn⟩ | ⟨mb, n, rfl, he, -⟩
  · rw [hn] at hl; cases hl
  have hfr : (fun a b => (f a b).map Lane.rb) i j = some l.rb := by simp [hl]
  obtain ⟨c0, c1, f0, f1, hlt⟩ := h.duo
  have HE := hidb h
  have hlk := EM.look (he.but (But.of_below (S := fun _ => False) (below_new w (.cells #[.int .i64 0, .int .i64 0, .int .i64 0, .int .i64 0, .int .i64 0, .bool false, .string ⟨#[]⟩, .int .i64 0, .int .i64 0, .float .f64 0, .string ⟨#[]⟩, .slice none 0 0] ST))) (fun h => h)) hi hj hfr
  have H1 := hidb (h.keep (below_new w (.cells #[.int .i64 0, .int .i64 0, .int .i64 0, .int .i64 0, .int .i64 0, .bool false, .string ⟨#[]⟩, .int .i64 0, .int .i64 0, .float .f64 0, .string ⟨#[]⟩, .slice none 0 0] ST)))
  have HZ := hidb (at_new w (.cells #[.int .i64 0, .int .i64 0, .int .i64 0, .int .i64 0, .int .i64 0, .bool false, .string ⟨#[]⟩, .int .i64 0, .int .i64 0, .float .f64 0, .string ⟨#[]⟩, .slice none 0 0] ST))
  have LN := hidb (lenS_any (H1.out.lane i j l hl).2.2.1 (by omega))
  rw [hk] at LN
  have hk1 : (((k + 1 + 1 : Nat) : Int) == 1) = false := by simp; omega
  have hws : IntKind.i64.wrap ((all : Int) - 1) = ((all - 1 : Nat) : Int) := by rw [IntKind.wrap_i64]; omega
  have hebn : w.heap.size ≠ eb := by omega
  have HLO : Hid (∀ a b m q, f a b = some m → foot m q → q < w.heap.size) := hidb (fun a b m q hm hq => (h.foot_lt hm hq).1)
  have HNF : Hid (¬ foot l w.heap.size) := hidb (fun hq => by have := (h.foot_lt hl hq).1; omega)
  have HM2 : Hid (∀ m, Value.map (some mb) = .map (some m) → m ≠ w.heap.size) := hidb (fun m e => by have := he.lt; have e' : mb = m := (by simpa using e); omega)
  have HW0 := hidb h.bel.size
  clear h he HE
  unfold kv at hlk
  go_enter Tryz.func14, Tryz.ntmps14
  go_wp2_with (first
    | (go_at_call 29; refine LN.out.mono ?_; rintro e w1 ⟨rfl, hb1⟩; have HBT1 := hidb ((But.of_below (S := fun q => q = eb ∨ foot l q) ((below_new w (.cells #[.int .i64 0, .int .i64 0, .int .i64 0, .int .i64 0, .int .i64 0, .bool false, .string ⟨#[]⟩, .int .i64 0, .int .i64 0, .float .f64 0, .string ⟨#[]⟩, .slice none 0 0] ST)).trans (hb1.mono (by simp)))).setCell (p := ⟨eb, 1, none⟩) (fun _ => .inl rfl) (.int .i64 ((all - 1 : Nat) : Int))); have H2 := hidb (H1.out.keep hb1); have HZ1 := hidb (at_keep HZ.out hb1); obtain ⟨d0, d1, e0, e1, -⟩ := H2.out.duo; have H3 := hidb (H2.out.count (all - 1)); have HL3 := (H3.out.lane i j l hl).2.2.1; rw [hx, hk] at HL3; have HP := hidb (PO _ _ _ _ _ _ i j x2 x3 rest HL3 H3.out.bel.size hN); have hzl : w.heap.size < w1.heap.size := (Array.getElem?_eq_some_iff.1 HZ1.out).1; have hzl3 : w.heap.size < (w1.setCell ⟨eb, 1, none⟩ (.int .i64 ((all - 1 : Nat) : Int))).heap.size := (by simpa [World.setCell] using hzl); have HZ3 := hidb ((Below.heap_setCell w1 ⟨eb, 1, none⟩ (.int .i64 ((all - 1 : Nat) : Int)) w.heap.size hebn).trans HZ1.out); clear HL3 hb1)
    | (go_at_call 30; refine HP.out.mono ?_; rintro e w4 ⟨rfl, V', hr, hb4, hs4⟩; have H4 := hidb (H3.out.step hl hr hb4 hs4 (Nat.le_refl _)); have HBT4 := hidb (HBT1.out.trans (hb4.mono (S' := fun q => q = eb ∨ foot l q) (fun q _ h => .inr h))); have HST : Hid (Stays w l.V V') := hidb (hs4.imp id (fun h q hq => Nat.le_trans (Nat.le_of_lt hzl3) (h q hq))); have HF4 := hidb (take_far (w := w) (xs := rest) (k := k + 1) HLO.out hzl3 hl hs4); have HZ4 := hidb ((hb4.block w.heap.size hzl3 HNF.out).trans HZ3.out); obtain ⟨r0, r1, r2, r3, r4, r5, r6, r7, r8, r9, r10, r11⟩ := box12 HZ4.out; obtain ⟨g0, g1, g2, g3, g4, g5, g6, g7, g8, g9, g10, g11⟩ := fro12 HZ4.out; clear hr hb4 hs4 HP H3 HZ3))
  exact bodyPost_ret (v := .tuple #[.agg #[.int .i64 i, .int .i64 j, .int .i64 x2, .int .i64 x3, .int .i64 0, .bool false, .string ⟨#[]⟩, .int .i64 0, .int .i64 0, .float .f64 0, .string ⟨#[]⟩, .slice none 0 0], .bool true]) (by simp [results, Tryz.results14, go_sem, r0, r1, r2, r3, r4, r5, r6, r7, r8, r9, r10, r11]) rfl ⟨rfl, ⟨V', ((((((((((((H4.out.box hebn HM2.out HF4.out HW0.out).box hebn HM2.out HF4.out HW0.out).box hebn HM2.out HF4.out HW0.out).box hebn HM2.out HF4.out HW0.out).box hebn HM2.out HF4.out HW0.out).box hebn HM2.out HF4.out HW0.out).box hebn HM2.out HF4.out HW0.out).box hebn HM2.out HF4.out HW0.out).box hebn HM2.out HF4.out HW0.out).box hebn HM2.out HF4.out HW0.out).box hebn HM2.out HF4.out HW0.out).box hebn HM2.out HF4.out HW0.out), HST.out⟩, ((((((((((((HBT4.out.setCell (p := ⟨w.heap.size, 0, none⟩) (fun h => absurd h (Nat.lt_irrefl _)) _).setCell (p := ⟨w.heap.size, 1, none⟩) (fun h => absurd h (Nat.lt_irrefl _)) _).setCell (p := ⟨w.heap.size, 2, none⟩) (fun h => absurd h (Nat.lt_irrefl _)) _).setCell (p := ⟨w.heap.size, 3, none⟩) (fun h => absurd h (Nat.lt_irrefl _)) _).setCell (p := ⟨w.heap.size, 4, none⟩) (fun h => absurd h (Nat.lt_irrefl _)) _).setCell (p := ⟨w.heap.size, 5, none⟩) (fun h => absurd h (Nat.lt_irrefl _)) _).setCell (p := ⟨w.heap.size, 6, none⟩) (fun h => absurd h (Nat.lt_irrefl _)) _).setCell (p := ⟨w.heap.size, 7, none⟩) (fun h => absurd h (Nat.lt_irrefl _)) _).setCell (p := ⟨w.heap.size, 8, none⟩) (fun h => absurd h (Nat.lt_irrefl _)) _).setCell (p := ⟨w.heap.size, 9, none⟩) (fun h => absurd h (Nat.lt_irrefl _)) _).setCell (p := ⟨w.heap.size, 10, none⟩) (fun h => absurd h (Nat.lt_irrefl _)) _).setCell (p := ⟨w.heap.size, 11, none⟩) (fun h => absurd h (Nat.lt_irrefl _)) _)⟩
end Go.Proofs.YtpcpdehnppfbfaaGreat


/- Take of a lane with one signal, and of none. -/
namespace Go.Proofs.YtpcpdehnppfbfaaGreat
open Go.RowKit Go.Lib Go.Maps
attribute [local go_sem] store_float f64bits
attribute [local go_sem ↓] Go.wp_at_zero Go.wp_at_succ

variable {w0 w : World} {eb all N : Nat} {mv : Value} {f : Int → Int → Option Lane}

abbrev zsig : Value := .agg #[.int .i64 0, .int .i64 0, .int .i64 0, .int .i64 0, .int .i64 0, .bool false, .string ⟨#[]⟩, .int .i64 0, .int .i64 0, .float .f64 0, .string ⟨#[]⟩, .slice none 0 0]
abbrev zbox : Obj := .cells #[.int .i64 0, .int .i64 0, .int .i64 0, .int .i64 0, .int .i64 0, .bool false, .string ⟨#[]⟩, .int .i64 0, .int .i64 0, .float .f64 0, .string ⟨#[]⟩, .slice none 0 0] ST

set_option maxHeartbeats 2000000 in
set_option maxRecDepth 100000 in
theorem take_none {i j : Int} (hi : wfi i) (hj : wfi j) (h : EO w0 w eb mv f all N) (hl : f i j = none) :
    Calls Tryz.prog 14 #[.pointer (some ⟨eb, 0, none⟩), .int .i64 i, .int .i64 j] w fun e w' => e = .returned (.tuple #[zsig, .bool false]) ∧ Below w.heap.size w w' := by
  obtain ⟨c0, c1, f0, f1, hlt⟩ := h.duo
  have HB := hidb (below_new w zbox)
  obtain ⟨r0, r1, r2, r3, r4, r5, r6, r7, r8, r9, r10, r11⟩ := box12 (at_new w zbox)
  obtain ⟨g0, g1, g2, g3, g4, g5, g6, g7, g8, g9, g10, g11⟩ := fro12 (at_new w zbox)
  rcases h.map with ⟨rfl, _⟩ | ⟨mb, n, rfl, he, -⟩
  · have hlk := look_nil11 (w.alloc zbox) hi hj
    clear h
    unfold kv at hlk
    go_enter Tryz.func14, Tryz.ntmps14
    go_wp2_with fail
    exact bodyPost_ret (v := .tuple #[zsig, .bool false]) (by simp [results, Tryz.results14, go_sem, r0, r1, r2, r3, r4, r5, r6, r7, r8, r9, r10, r11]) rfl ⟨rfl, by (repeat (first | exact HB.out | refine Below.setCell ?_ (by simp) _))⟩
  · have hfr : (fun a b => (f a b).map Lane.rb) i j = none := by simp [hl]
    have hlk := EM.look0 (he.but (But.of_below (S := fun _ => False) HB.out) (fun h => h)) hi hj hfr
    clear h he
    unfold kv at hlk
    go_enter Tryz.func14, Tryz.ntmps14
    go_wp2_with fail
    exact bodyPost_ret (v := .tuple #[zsig, .bool false]) (by simp [results, Tryz.results14, go_sem, r0, r1, r2, r3, r4, r5, r6, r7, r8, r9, r10, r11]) rfl ⟨rfl, by (repeat (first | exact HB.out | refine Below.setCell ?_ (by simp) _))⟩

set_option maxHeartbeats 2000000 in
set_option maxRecDepth 100000 in
theorem take_last (PO : PopOk) {i j x2 x3 : Int} (hi : wfi i) (hj : wfi j) {l : Lane} {rest : List Value} (h : EO w0 w eb mv f all N) (hl : f i j = some l) (hx : l.xs = sgl i j x2 x3 ++ rest) (hk : l.k = 1) (ha : 1 ≤ all) (hA : all ≤ 1000000) (hN : N ≤ 1000000) :
    Calls Tryz.prog 14 #[.pointer (some ⟨eb, 0, none⟩), .int .i64 i, .int .i64 j] w fun e w' => e = .returned (.tuple #[.agg #[.int .i64 i, .int .i64 j, .int .i64 x2, .int .i64 x3, .int .i64 0, .bool false, .string ⟨#[]⟩, .int .i64 0, .int .i64 0, .float .f64 0, .string ⟨#[]⟩, .slice none 0 0], .bool true]) ∧
      EO w0 w' eb mv (updL f i j none) (all - 1) N ∧ But (fun q => q = eb ∨ mv = .map (some q) ∨ foot l q) w w' := by
  rcases h.map with ⟨_, hn⟩ | ⟨mb, n, rfl, he, hnN, hmb0, hme, hmf⟩
  · rw [hn] at hl; cases hl
  have hfr : (fun a b => (f a b).map Lane.rb) i j = some l.rb := by simp [hl]
  obtain ⟨c0, c1, f0, f1, hlt⟩ := h.duo
  have hlk := EM.look (he.but (But.of_below (S := fun _ => False) (below_new w zbox)) (fun h => h)) hi hj hfr
  have H1 := hidb (h.keep (below_new w zbox))
  have HE1 := hidb (he.but (But.of_below (S := fun _ => False) (below_new w zbox)) (fun h => h))
  have HZ := hidb (at_new w zbox)
  have LN := hidb (lenS_any (H1.out.lane i j l hl).2.2.1 (by omega))
  rw [hk] at LN
  have hws : IntKind.i64.wrap ((all : Int) - 1) = ((all - 1 : Nat) : Int) := by rw [IntKind.wrap_i64]; omega
  have hebn : w.heap.size ≠ eb := by omega
  have hmbn : w.heap.size ≠ mb := by have := he.lt; omega
  have HNF : Hid (¬ foot l w.heap.size) := hidb (fun hq => by have := (h.foot_lt hl hq).1; omega)
  have HW0 := hidb h.bel.size
  have HMF := hidb (hmf i j l hl)
  have HNN := hidb hnN
  have HNE : Hid (¬ foot l eb) := hidb (h.lane i j l hl).2.2.2.2
  have HGE : Hid (∀ q, foot l q → w0.heap.size ≤ q) := hidb (fun q hq => (h.foot_lt hl hq).2)
  have hold : ∀ a b m, updL f i j none a b = some m → f a b = some m ∧ ¬ (a = i ∧ b = j) := by
    intro a b m hm
    unfold updL at hm
    split at hm
    · cases hm
    · rename_i hc; exact ⟨hm, hc⟩
  have HAP : Hid (∀ a b m q, updL f i j none a b = some m → foot m q → ¬ foot l q) := hidb (fun a b m q hm hq hq2 => by
    obtain ⟨hm, hc⟩ := hold a b m hm
    refine h.apart a b m i j l hm hl ?_ q hq hq2
    by_cases e : a = i
    · exact .inr fun e2 => hc ⟨e, e2⟩
    · exact .inl e)
  have HFR : Hid (∀ a b m q, updL f i j none a b = some m → foot m q → q ≠ w.heap.size) := hidb (fun a b m q hm hq => by
    have := (h.foot_lt (hold a b m hm).1 hq).1; omega)
  have HM2 : Hid (∀ m, Value.map (some mb) = .map (some m) → m ≠ w.heap.size) := hidb (fun m e => by have := he.lt; have e' : mb = m := (by simpa using e); omega)
  have HM3 : Hid (∀ m, Value.map (some mb) = .map (some m) → ¬ foot l m) := hidb (fun m e => by obtain rfl : mb = m := (by simpa using e); exact HMF.out)
  clear h he hmf hnN hold
  unfold kv at hlk
  go_enter Tryz.func14, Tryz.ntmps14
  go_wp2_with (first
    | (go_at_call 29; refine LN.out.mono ?_; rintro e w1 ⟨rfl, hb1⟩; have H2 := hidb (H1.out.keep hb1); have HZ1 := hidb (at_keep HZ.out hb1); obtain ⟨d0, d1, e0, e1, -⟩ := H2.out.duo; obtain ⟨wd, hdrop, hEd, hBd⟩ := EM.drop (HE1.out.but (But.of_below (S := fun _ => False) hb1) (fun h => h)) hi hj 0; unfold kv at hdrop; have H3 := hidb (H2.out.less rfl hEd hBd HNN.out); obtain ⟨c30, c31, f30, f31, -⟩ := H3.out.duo; have H4 := hidb (H3.out.count (all - 1)); have HL4 := ((H2.out.lane i j l hl).2.2.1.but hBd (fun e => HMF.out (.inl e.symm)) (fun q hq e => HMF.out (.inr (e ▸ hq)))).but ((But.refl (fun q => q = eb) wd).setCell (p := ⟨eb, 1, none⟩) (fun _ => rfl) (.int .i64 ((all - 1 : Nat) : Int))) (fun e => HNE.out (.inl e.symm)) (fun q hq e => HNE.out (.inr (e ▸ hq))); rw [hx, hk] at HL4; have HP := hidb (PO _ _ _ 0 _ _ i j x2 x3 rest HL4 H4.out.bel.size hN); have hzl : w.heap.size < w1.heap.size := (Array.getElem?_eq_some_iff.1 HZ1.out).1; have HZd := hidb ((hBd.block w.heap.size hzl hmbn).trans HZ1.out); have HZ4 := hidb ((Below.heap_setCell wd ⟨eb, 1, none⟩ (.int .i64 ((all - 1 : Nat) : Int)) w.heap.size hebn).trans HZd.out); have hzl4 : w.heap.size < (wd.setCell ⟨eb, 1, none⟩ (.int .i64 ((all - 1 : Nat) : Int))).heap.size := (Array.getElem?_eq_some_iff.1 HZ4.out).1; have HBT4 := hidb (((But.of_below (S := fun q => q = eb ∨ Value.map (some mb) = .map (some q) ∨ foot l q) ((below_new w zbox).trans (hb1.mono (by simp)))).trans (hBd.mono (fun q _ e => .inr (.inl (by rw [e]))))).setCell (p := ⟨eb, 1, none⟩) (fun _ => .inl rfl) (.int .i64 ((all - 1 : Nat) : Int))); clear hb1 hEd hBd HL4 H1 H2 H3 HZ HZ1 HZd HE1 LN)
    | (go_at_call 30; refine HP.out.mono ?_; rintro e w4 ⟨rfl, V', hr, hb4, -⟩; have H5 := hidb (H4.out.but hb4 HNE.out HM3.out HAP.out HGE.out); have HBT5 := hidb (HBT4.out.trans (hb4.mono (S' := fun q => q = eb ∨ Value.map (some mb) = .map (some q) ∨ foot l q) (fun q _ h => .inr (.inr h)))); have HZ5 := hidb ((hb4.block w.heap.size hzl4 HNF.out).trans HZ4.out); obtain ⟨r0, r1, r2, r3, r4, r5, r6, r7, r8, r9, r10, r11⟩ := box12 HZ5.out; obtain ⟨g0, g1, g2, g3, g4, g5, g6, g7, g8, g9, g10, g11⟩ := fro12 HZ5.out; clear hr hb4 HP H4 HZ4 HBT4))
  exact bodyPost_ret (v := .tuple #[.agg #[.int .i64 i, .int .i64 j, .int .i64 x2, .int .i64 x3, .int .i64 0, .bool false, .string ⟨#[]⟩, .int .i64 0, .int .i64 0, .float .f64 0, .string ⟨#[]⟩, .slice none 0 0], .bool true]) (by simp [results, Tryz.results14, go_sem, r0, r1, r2, r3, r4, r5, r6, r7, r8, r9, r10, r11]) rfl ⟨rfl, ((((((((((((H5.out.box hebn HM2.out HFR.out HW0.out).box hebn HM2.out HFR.out HW0.out).box hebn HM2.out HFR.out HW0.out).box hebn HM2.out HFR.out HW0.out).box hebn HM2.out HFR.out HW0.out).box hebn HM2.out HFR.out HW0.out).box hebn HM2.out HFR.out HW0.out).box hebn HM2.out HFR.out HW0.out).box hebn HM2.out HFR.out HW0.out).box hebn HM2.out HFR.out HW0.out).box hebn HM2.out HFR.out HW0.out).box hebn HM2.out HFR.out HW0.out), ((((((((((((HBT5.out.setCell (p := ⟨w.heap.size, 0, none⟩) (fun h => absurd h (Nat.lt_irrefl _)) _).setCell (p := ⟨w.heap.size, 1, none⟩) (fun h => absurd h (Nat.lt_irrefl _)) _).setCell (p := ⟨w.heap.size, 2, none⟩) (fun h => absurd h (Nat.lt_irrefl _)) _).setCell (p := ⟨w.heap.size, 3, none⟩) (fun h => absurd h (Nat.lt_irrefl _)) _).setCell (p := ⟨w.heap.size, 4, none⟩) (fun h => absurd h (Nat.lt_irrefl _)) _).setCell (p := ⟨w.heap.size, 5, none⟩) (fun h => absurd h (Nat.lt_irrefl _)) _).setCell (p := ⟨w.heap.size, 6, none⟩) (fun h => absurd h (Nat.lt_irrefl _)) _).setCell (p := ⟨w.heap.size, 7, none⟩) (fun h => absurd h (Nat.lt_irrefl _)) _).setCell (p := ⟨w.heap.size, 8, none⟩) (fun h => absurd h (Nat.lt_irrefl _)) _).setCell (p := ⟨w.heap.size, 9, none⟩) (fun h => absurd h (Nat.lt_irrefl _)) _).setCell (p := ⟨w.heap.size, 10, none⟩) (fun h => absurd h (Nat.lt_irrefl _)) _).setCell (p := ⟨w.heap.size, 11, none⟩) (fun h => absurd h (Nat.lt_irrefl _)) _)⟩
end Go.Proofs.YtpcpdehnppfbfaaGreat


