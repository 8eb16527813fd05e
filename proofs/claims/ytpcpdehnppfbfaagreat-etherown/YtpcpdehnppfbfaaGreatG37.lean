import Derived.Test.YtpcpdehnppfbfaaGreatG07
import Derived.Test.YtpcpdehnppfbfaaGreatG36
import Derived.Test.YtpcpdehnppfbfaaGreatG26
/- Peek of a lane that has no signals. -/
namespace Go.Proofs.YtpcpdehnppfbfaaGreat
open Go.RowKit Go.Lib Go.Maps
attribute [local go_sem] store_float f64bits
attribute [local go_sem ↓] Go.wp_at_zero Go.wp_at_succ

variable {w0 w : World} {eb all N : Nat} {mv : Value} {f : Int → Int → Option Lane}

set_option maxHeartbeats 2000000 in
set_option maxRecDepth 100000 in
theorem peek_none {i j : Int} (hi : wfi i) (hj : wfi j) (h : EO w0 w eb mv f all N) (hl : f i j = none) :
    Calls Tryz.prog 10 #[.pointer (some ⟨eb, 0, none⟩), .int .i64 i, .int .i64 j] w fun e w' => e = .returned (.tuple #[zsig, .bool false]) ∧ Below w.heap.size w w' := by
  obtain ⟨c0, c1, f0, f1, hlt⟩ := h.duo
  have HB := hidb (below_new w zbox)
  obtain ⟨r0, r1, r2, r3, r4, r5, r6, r7, r8, r9, r10, r11⟩ := box12 (at_new w zbox)
  obtain ⟨g0, g1, g2, g3, g4, g5, g6, g7, g8, g9, g10, g11⟩ := fro12 (at_new w zbox)
  rcases h.map with ⟨rfl, _⟩ | ⟨mb, n, rfl, he, -⟩
  · have hlk := look_nil11 (w.alloc zbox) hi hj
    clear h
    unfold kv at hlk
    go_enter Tryz.func10, Tryz.ntmps10
    go_wp2_with fail
    exact bodyPost_ret (v := .tuple #[zsig, .bool false]) (by simp [results, Tryz.results10, go_sem, r0, r1, r2, r3, r4, r5, r6, r7, r8, r9, r10, r11]) rfl ⟨rfl, by (repeat (first | exact HB.out | refine Below.setCell ?_ (by simp) _))⟩
  · have hfr : (fun a b => (f a b).map Lane.rb) i j = none := by simp [hl]
    have hlk := EM.look0 (he.but (But.of_below (S := fun _ => False) HB.out) (fun h => h)) hi hj hfr
    clear h he
    unfold kv at hlk
    go_enter Tryz.func10, Tryz.ntmps10
    go_wp2_with fail
    exact bodyPost_ret (v := .tuple #[zsig, .bool false]) (by simp [results, Tryz.results10, go_sem, r0, r1, r2, r3, r4, r5, r6, r7, r8, r9, r10, r11]) rfl ⟨rfl, by (repeat (first | exact HB.out | refine Below.setCell ?_ (by simp) _))⟩
end Go.Proofs.YtpcpdehnppfbfaaGreat


/- Peek of a lane that has signals: what is told may be spoilt. -/
namespace Go.Proofs.YtpcpdehnppfbfaaGreat
open Go.RowKit Go.Lib Go.Maps
attribute [local go_sem] store_float f64bits
attribute [local go_sem ↓] Go.wp_at_zero Go.wp_at_succ

variable {w0 w : World} {eb all N : Nat} {mv : Value} {f : Int → Int → Option Lane}

theorem SpH.set0 {S : Nat → Prop} {w : World} {p : Addr} {H : Nat} {v u : Value} (hp : ¬ S p.block) (h : SpH S w H v) : SpH S (w.setCell p u) H v :=
  SpH.but (X := fun k => k = p.block) ((But.refl (fun k => k = p.block) w).setCell (fun _ => rfl) u) (fun _ hk e => hp (e ▸ hk)) h

set_option maxHeartbeats 2000000 in
set_option maxRecDepth 100000 in
theorem first_any {B rb k N : Nat} {V : Value} {x0 x1 x2 x3 x4 : Int} {lk : Bool} {nm : ByteArray} {tk tn : Int} {tf : Nat} {ts : ByteArray} {ta : Option Addr} {tc : Nat} {tks : List Tr} {rest : List Value} (h : Rw ST 12 w B rb V (sgr x0 x1 x2 x3 x4 lk nm tk tn tf ts ta tks.length tc ++ rest) (k + 1) N) (hN : N ≤ 1000000) :
    Calls Tryz.prog 22 #[.pointer (some ⟨rb, 0, none⟩)] w fun e w' => e = .returned (.agg #[.int .i64 x0, .int .i64 x1, .int .i64 x2, .int .i64 x3, .int .i64 x4, .bool lk, .string nm, .int .i64 tk, .int .i64 tn, .float .f64 tf, .string ts, .slice ta tks.length tc]) ∧ Below w.heap.size w w' := by
  obtain ⟨gone, items, n, ⟨⟨c0, c1, -, -, -⟩, hO, -, -, -⟩, hdrop, hn, hnN⟩ := h
  obtain ⟨g, c, rfl⟩ : ∃ g c, V = .slice (some ⟨g, 0, none⟩) n c := by
    rcases hO.2 with ⟨_, h0⟩ | ⟨g, cap, cur, hv, _⟩
    · omega
    · exact ⟨g, _, hv⟩
  have hlen := hO.1
  have yy : ∀ q, q < 12 → w.cell? ⟨g, gone * 12 + q, none⟩ = (sgr x0 x1 x2 x3 x4 lk nm tk tn tf ts ta tks.length tc)[q]? := fun q hq => by
    rw [hO.cellAt _ (by omega), ← List.getElem?_drop, hdrop, List.getElem?_append_left (by exact hq)]
  obtain ⟨TL, hTL⟩ : ∃ TL, tks.length = TL := ⟨_, rfl⟩
  rw [hTL] at yy ⊢
  have y0 : w.cell? ⟨g, gone * 12, none⟩ = some (.int .i64 x0) := yy 0 (by omega)
  have y1 : w.cell? ⟨g, gone * 12 + 1, none⟩ = some (.int .i64 x1) := yy 1 (by omega)
  have y2 : w.cell? ⟨g, gone * 12 + 2, none⟩ = some (.int .i64 x2) := yy 2 (by omega)
  have y3 : w.cell? ⟨g, gone * 12 + 3, none⟩ = some (.int .i64 x3) := yy 3 (by omega)
  have y4 : w.cell? ⟨g, gone * 12 + 4, none⟩ = some (.int .i64 x4) := yy 4 (by omega)
  have y5 : w.cell? ⟨g, gone * 12 + 5, none⟩ = some (.bool lk) := yy 5 (by omega)
  have y6 : w.cell? ⟨g, gone * 12 + 6, none⟩ = some (.string nm) := yy 6 (by omega)
  have y7 : w.cell? ⟨g, gone * 12 + 7, none⟩ = some (.int .i64 tk) := yy 7 (by omega)
  have y8 : w.cell? ⟨g, gone * 12 + 8, none⟩ = some (.int .i64 tn) := yy 8 (by omega)
  have y9 : w.cell? ⟨g, gone * 12 + 9, none⟩ = some (.float .f64 tf) := yy 9 (by omega)
  have y10 : w.cell? ⟨g, gone * 12 + 10, none⟩ = some (.string ts) := yy 10 (by omega)
  have y11 : w.cell? ⟨g, gone * 12 + 11, none⟩ = some (.slice ta TL tc) := yy 11 (by omega)
  have hgn : (gone : Int) < (n : Int) := by omega
  have hg0 : (0 : Int) ≤ (gone : Int) := by omega
  have hgl : g < w.heap.size := World.block_lt_of_cell? w _ y0
  have hrl : rb < w.heap.size := World.block_lt_of_cell? w _ c0
  have hq1 : g ≠ w.heap.size := by omega
  have hq2 : w.heap.size ≠ g := by omega
  have hq3 : rb ≠ w.heap.size := by omega
  have hq4 : w.heap.size ≠ rb := by omega
  obtain ⟨W, hW⟩ : ∃ W, w.alloc zbox = W := ⟨_, rfl⟩
  have hb : Below w.heap.size w W := hW ▸ below_new w zbox
  have hz : W.heap[w.heap.size]? = some zbox := hW ▸ at_new w zbox
  obtain ⟨r0, r1, r2, r3, r4, r5, r6, r7, r8, r9, r10, r11⟩ := box12 hz
  obtain ⟨g0, g1, g2, g3, g4, g5, g6, g7, g8, g9, g10, g11⟩ := fro12 hz
  replace c0 := (hb.cell (p := ⟨rb, 0, none⟩) hrl).trans c0
  replace c1 := (hb.cell (p := ⟨rb, 1, none⟩) hrl).trans c1
  replace y0 := (hb.cell (p := ⟨g, gone * 12, none⟩) hgl).trans y0
  replace y1 := (hb.cell (p := ⟨g, gone * 12 + 1, none⟩) hgl).trans y1
  replace y2 := (hb.cell (p := ⟨g, gone * 12 + 2, none⟩) hgl).trans y2
  replace y3 := (hb.cell (p := ⟨g, gone * 12 + 3, none⟩) hgl).trans y3
  replace y4 := (hb.cell (p := ⟨g, gone * 12 + 4, none⟩) hgl).trans y4
  replace y5 := (hb.cell (p := ⟨g, gone * 12 + 5, none⟩) hgl).trans y5
  replace y6 := (hb.cell (p := ⟨g, gone * 12 + 6, none⟩) hgl).trans y6
  replace y7 := (hb.cell (p := ⟨g, gone * 12 + 7, none⟩) hgl).trans y7
  replace y8 := (hb.cell (p := ⟨g, gone * 12 + 8, none⟩) hgl).trans y8
  replace y9 := (hb.cell (p := ⟨g, gone * 12 + 9, none⟩) hgl).trans y9
  replace y10 := (hb.cell (p := ⟨g, gone * 12 + 10, none⟩) hgl).trans y10
  replace y11 := (hb.cell (p := ⟨g, gone * 12 + 11, none⟩) hgl).trans y11
  have HB := hidb hb
  clear yy hTL hO hdrop hb hz hn hnN hlen hN hgl hrl
  go_enter Tryz.func22, Tryz.ntmps22
  go_wp2_with fail
  clear hW
  go_region
  go_wp2_with fail
  exact bodyPost_ret (v := .agg #[.int .i64 x0, .int .i64 x1, .int .i64 x2, .int .i64 x3, .int .i64 x4, .bool lk, .string nm, .int .i64 tk, .int .i64 tn, .float .f64 tf, .string ts, .slice ta TL tc]) (by simp [results, Tryz.results22, go_sem, r0, r1, r2, r3, r4, r5, r6, r7, r8, r9, r10, r11]) rfl ⟨rfl, ((((((((((((HB.out.setCell (by simp) _).setCell (by simp) _).setCell (by simp) _).setCell (by simp) _).setCell (by simp) _).setCell (by simp) _).setCell (by simp) _).setCell (by simp) _).setCell (by simp) _).setCell (by simp) _).setCell (by simp) _).setCell (by simp) _).drew⟩

set_option maxHeartbeats 2000000 in
set_option maxRecDepth 100000 in
theorem peek_sp {i j : Int} (hi : wfi i) (hj : wfi j) {l : Lane} {s : SG} {rest : List SG} (h : EO w0 w eb mv f all N) (hN : N ≤ 1000000) (hl : f i j = some l) (hx : l.xs = sgcs (s :: rest)) (hk : l.k = rest.length + 1) (hin : s.t.In w 0) (hsm : Small s.t) (hcn : cnT s.t ≤ 1000000000) :
    Calls Tryz.prog 10 #[.pointer (some ⟨eb, 0, none⟩), .int .i64 i, .int .i64 j] w fun e w' => ∃ (x0 x1 x2 x3 x4 : Int) (lk : Bool) (nm : ByteArray) (k' n' : Int) (f' : Nat) (s' : ByteArray) (a' : Option Addr) (L' c' : Nat), e = .returned (.tuple #[.agg #[.int .i64 x0, .int .i64 x1, .int .i64 x2, .int .i64 x3, .int .i64 x4, .bool lk, .string nm, .int .i64 k', .int .i64 n', .float .f64 f', .string s', .slice a' L' c'], .bool true]) ∧ Below w.heap.size w w' ∧ ∃ H, SpH (fun q => w.heap.size ≤ q ∧ q < w'.heap.size) w' H (.slice a' L' c') := by
  obtain ⟨x0, x1, x2, x3, x4, lk, nm, ⟨tk, tn, tf, ts, ta, tc, tks⟩⟩ := s
  rcases h.map with ⟨_, hn⟩ | ⟨mb, n, rfl, he, -⟩
  · rw [hn] at hl; cases hl
  have hfr : (fun a b => (f a b).map Lane.rb) i j = some l.rb := by simp [hl]
  obtain ⟨c0, c1, f0, f1, hlt⟩ := h.duo
  have HB := hidb (below_new w zbox)
  have hlk := EM.look (he.but (But.of_below (S := fun _ => False) HB.out) (fun h => h)) hi hj hfr
  have HZ := hidb (at_new w zbox)
  have hR := (h.lane i j l hl).2.2.1.keep HB.out
  rw [hx, hk] at hR
  have FA := hidb (first_any (w := w.alloc zbox) (rest := sgcs rest) hR hN)
  have OW := hidb (fun W (hb : Below w.heap.size w W) => own_sp x0 x1 x2 x3 x4 lk nm tk tn tf ts ta tc tks W (in_below hb hin) hsm hcn)
  obtain ⟨TL, hTL⟩ : ∃ TL, tks.length = TL := ⟨_, rfl⟩
  rw [hTL] at FA OW
  clear h he hR hx hTL hin hsm hcn
  unfold kv at hlk
  go_enter Tryz.func10, Tryz.ntmps10
  go_wp2_with (first
    | (go_at_call 22; refine FA.out.mono ?_; rintro e w1 ⟨rfl, hb1⟩; have HZ1 := hidb (at_keep HZ.out hb1); have HB1 := hidb (HB.out.trans (hb1.mono HB.out.size)); clear hb1 FA HZ)
    | (go_at_call 21; refine (OW.out _ HB1.out).mono ?_; rintro e w2 ⟨k', n', f', s', a', c', ks', rfl, -, -, hb2, ⟨H, hsp⟩⟩; have HSP := hidb hsp; clear hsp; obtain ⟨L', hL'⟩ : ∃ L', ks'.length = L' := ⟨_, rfl⟩; rw [hL'] at HSP ⊢; have HZ2 := hidb (at_keep HZ1.out hb2); have HZS := hidb (Array.getElem?_eq_some_iff.1 HZ1.out).1; have HB2 := hidb (HB1.out.trans (hb2.mono HB1.out.size)); obtain ⟨r0, r1, r2, r3, r4, r5, r6, r7, r8, r9, r10, r11⟩ := box12 HZ2.out; obtain ⟨g0, g1, g2, g3, g4, g5, g6, g7, g8, g9, g10, g11⟩ := fro12 HZ2.out; clear hb2 OW HZ1 HB1))
  refine bodyPost_ret (v := .tuple #[.agg #[.int .i64 x0, .int .i64 x1, .int .i64 x2, .int .i64 x3, .int .i64 x4, .bool lk, .string nm, .int .i64 k', .int .i64 n', .float .f64 f', .string s', .slice a' L' c'], .bool true]) (by simp [results, Tryz.results10, go_sem, r0, r1, r2, r3, r4, r5, r6, r7, r8, r9, r10, r11]) rfl ⟨x0, x1, x2, x3, x4, lk, nm, k', n', f', s', a', L', c', rfl, ((((((((((((HB2.out.setCell (by simp) _).setCell (by simp) _).setCell (by simp) _).setCell (by simp) _).setCell (by simp) _).setCell (by simp) _).setCell (by simp) _).setCell (by simp) _).setCell (by simp) _).setCell (by simp) _).setCell (by simp) _).setCell (by simp) _), H, ?_⟩
  have hp : ¬ (w1.heap.size ≤ w.heap.size ∧ w.heap.size < w2.heap.size) := fun e => by have := HZS.out; omega
  exact SpH.more (fun q hq => ⟨by have := hq.1; have := HZS.out; omega, by simpa [World.setCell] using hq.2⟩) (SpH.set0 hp (SpH.set0 hp (SpH.set0 hp (SpH.set0 hp (SpH.set0 hp (SpH.set0 hp (SpH.set0 hp (SpH.set0 hp (SpH.set0 hp (SpH.set0 hp (SpH.set0 hp (SpH.set0 hp (HSP.out)))))))))))))
end Go.Proofs.YtpcpdehnppfbfaaGreat


