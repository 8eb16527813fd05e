/- Half-links: the program's table and the document's side by side; law14.step. -/
import Derived.Test.YtodelafnboimnaaLr5
namespace Go.Proofs.Ytodelafnboimnaa
open Go.RowKit Go.Lib
open HV (Hf hf0 getL insL delL Rise Wfk TB Nw Rst RT RU)
attribute [local go_sem ↓] Go.wp_at_zero Go.wp_at_succ

/-- The two tables side by side, apart, in memory that is newer than w0. -/
def PL (w0 w : World) (tb rb : Nat) (L : List HV.KV) (n : Int) : Prop :=
  ∃ D E, LT w tb D L n ∧ RT w rb E L n ∧ (∀ k, D k → w0.heap.size ≤ k ∧ k ≠ rb ∧ k < w.heap.size ∧ ¬ E k) ∧ (∀ k, E k → w0.heap.size ≤ k ∧ k ≠ tb ∧ k < w.heap.size) ∧ w0.heap.size ≤ tb ∧ w0.heap.size ≤ rb ∧ tb ≠ rb ∧ Below w0.heap.size w0 w

theorem PL.keep {w0 w w' : World} {tb rb : Nat} {L : List HV.KV} {n : Int} (h : PL w0 w tb rb L n) (hb : Below w.heap.size w w') : PL w0 w' tb rb L n := by
  obtain ⟨D, E, h1, h2, h3, h4, h5, h6, h7, h8⟩ := h
  have hs := hb.size
  exact ⟨D, E, h1.keep hb, h2.keep hb, fun k hk => ⟨(h3 k hk).1, (h3 k hk).2.1, by have := (h3 k hk).2.2.1; omega, (h3 k hk).2.2.2⟩, fun k hk => ⟨(h4 k hk).1, (h4 k hk).2.1, by have := (h4 k hk).2.2; omega⟩, h5, h6, h7, h8.trans (hb.mono h8.size)⟩
theorem PL.below {w0 w : World} {tb rb : Nat} {L : List HV.KV} {n : Int} (h : PL w0 w tb rb L n) : Below w0.heap.size w0 w := by obtain ⟨_, _, _, _, _, _, _, _, _, h⟩ := h; exact h
theorem PL.lts {w0 w : World} {tb rb : Nat} {L : List HV.KV} {n : Int} (h : PL w0 w tb rb L n) : tb < w.heap.size ∧ rb < w.heap.size ∧ Rise L ∧ HOk L := by
  obtain ⟨_, _, h1, h2, _⟩ := h; exact ⟨h1.tr.lt, h2.lt, h1.tr.rise, h1.ok⟩

/-- A method of the one, then the like one of the other, with a fact about the rows. -/
theorem PL.with_E {w0 w : World} {tb rb : Nat} {L : List HV.KV} {n : Int} (_ : PL w0 w tb rb L n) (Z : (Nat → Prop) → Prop) (h : ∃ D E, LT w tb D L n ∧ RT w rb E L n ∧ (∀ k, D k → w0.heap.size ≤ k ∧ k ≠ rb ∧ k < w.heap.size ∧ ¬ E k) ∧ (∀ k, E k → w0.heap.size ≤ k ∧ k ≠ tb ∧ k < w.heap.size) ∧ w0.heap.size ≤ tb ∧ w0.heap.size ≤ rb ∧ tb ≠ rb ∧ Below w0.heap.size w0 w ∧ Z E) :
    ∃ D E, LT w tb D L n ∧ RT w rb E L n ∧ (∀ k, E k → k < w.heap.size) ∧ Z E ∧ ∀ w1 L' n', LU w w1 tb D L' n' → ∀ w2, Below w1.heap.size w1 w2 → RT w2 rb E L n ∧ (∀ k, E k → k < w2.heap.size) ∧ (∀ b v0 v1 v2, Tri w b v0 v1 v2 → ¬ b = tb → Tri w2 b v0 v1 v2) ∧ ∀ w3, RU w2 w3 rb E L' n' → PL w0 w3 tb rb L' n' ∧ (∀ b v0 v1 v2, Tri w2 b v0 v1 v2 → ¬ b = rb → ¬ E b → Tri w3 b v0 v1 v2) := by
  obtain ⟨D, E, h1, h2, h3, h4, h5, h6, h7, h8, h9⟩ := h
  have ht := h1.tr.lt
  have hr := h2.lt
  refine ⟨D, E, h1, h2, fun k hk => (h4 k hk).2.2, h9, fun w1 L' n' hu w2 hb => ?_⟩
  have hs1 := hu.bt.size
  have hs2 := hb.size
  have hbt : But (fun k => k = tb) w w2 := hu.bt.trans (But.of_below hb)
  refine ⟨h2.but hbt (fun e => h7 e.symm) (fun k hk e => (h4 k hk).2.1 e), fun k hk => by have := (h4 k hk).2.2; omega, fun b v0 v1 v2 hT hne => hT.but hbt hne, fun w3 hru => ?_⟩
  have hs3 := hru.bt.size
  refine ⟨⟨Nw D w w1, Nw E w2 w3, (hu.lt.keep hb).but hru.bt (fun k hk e => ?_) (fun e => e.elim h7 (fun e => (h4 _ e).2.1 rfl)), hru.rt, fun k hk => ?_, fun k hk => ?_, h5, h6, h7, ?_⟩, fun b v0 v1 v2 hT hne hE => hT.but hru.bt (fun e => e.elim hne hE)⟩
  · rcases hk with hk | hk
    · exact e.elim (h3 k hk).2.1 (h3 k hk).2.2.2
    · rcases e with e | e
      · omega
      · have := (h4 k e).2.2; omega
  · have hw0 := h8.size
    rcases hk with hk | hk
    · have := h3 k hk
      exact ⟨this.1, this.2.1, by omega, fun e => e.elim this.2.2.2 (fun e => by omega)⟩
    · exact ⟨by omega, by omega, by omega, fun e => e.elim (fun e => by have := (h4 k e).2.2; omega) (fun e => by omega)⟩
  · have hw0 := h8.size
    rcases hk with hk | hk
    · have := h4 k hk
      exact ⟨this.1, this.2.1, by omega⟩
    · exact ⟨by omega, by omega, by omega⟩
  · exact (h8.trans (hbt.below h8.size (fun k e => by omega))).trans (hru.bt.below (by have := h8.size; omega) (fun k e => by
      rcases e with e | e
      · omega
      · exact (h4 k e).1))

/-- A method of the one, then the like one of the other. -/
theorem PL.both {w0 w : World} {tb rb : Nat} {L : List HV.KV} {n : Int} (h : PL w0 w tb rb L n) :
    ∃ D E, LT w tb D L n ∧ RT w rb E L n ∧ (∀ k, E k → k < w.heap.size) ∧ ∀ w1 L' n', LU w w1 tb D L' n' → ∀ w2, Below w1.heap.size w1 w2 → RT w2 rb E L n ∧ (∀ k, E k → k < w2.heap.size) ∧ (∀ b v0 v1 v2, Tri w b v0 v1 v2 → ¬ b = tb → Tri w2 b v0 v1 v2) ∧ ∀ w3, RU w2 w3 rb E L' n' → PL w0 w3 tb rb L' n' ∧ (∀ b v0 v1 v2, Tri w2 b v0 v1 v2 → ¬ b = rb → ¬ E b → Tri w3 b v0 v1 v2) := by
  obtain ⟨D, E, h1, h2, h3, h4, h5, h6, h7, h8⟩ := h
  obtain ⟨D, E, a1, a2, a3, -, a4⟩ := PL.with_E ⟨D, E, h1, h2, h3, h4, h5, h6, h7, h8⟩ (fun _ => True) ⟨D, E, h1, h2, h3, h4, h5, h6, h7, h8, trivial⟩
  exact ⟨D, E, a1, a2, a3, a4⟩

/-- The same, behind two steps that lay memory; the first one's block is none of the rows. -/
theorem PL.both2 {w0 w wa wb : World} {tb rb : Nat} {L : List HV.KV} {n : Int} (h : PL w0 w tb rb L n) (ha : Below w.heap.size w wa) (hb : Below wa.heap.size wa wb) :
    ∃ D E, LT wb tb D L n ∧ RT wb rb E L n ∧ (∀ k, E k → k < wb.heap.size) ∧ ¬ E w.heap.size ∧ ∀ w1 L' n', LU wb w1 tb D L' n' → ∀ w2, Below w1.heap.size w1 w2 → RT w2 rb E L n ∧ (∀ k, E k → k < w2.heap.size) ∧ (∀ b v0 v1 v2, Tri wb b v0 v1 v2 → ¬ b = tb → Tri w2 b v0 v1 v2) ∧ ∀ w3, RU w2 w3 rb E L' n' → PL w0 w3 tb rb L' n' ∧ (∀ b v0 v1 v2, Tri w2 b v0 v1 v2 → ¬ b = rb → ¬ E b → Tri w3 b v0 v1 v2) := by
  obtain ⟨D, E, h1, h2, h3, h4, h5, h6, h7, h8⟩ := h
  have hs := ha.size
  have hs2 := hb.size
  have hc : Below w.heap.size w wb := ha.trans (hb.mono hs)
  have hk : PL w0 wb tb rb L n := ⟨D, E, h1.keep hc, h2.keep hc, fun k hk => ⟨(h3 k hk).1, (h3 k hk).2.1, by have := (h3 k hk).2.2.1; omega, (h3 k hk).2.2.2⟩, fun k hk => ⟨(h4 k hk).1, (h4 k hk).2.1, by have := (h4 k hk).2.2; omega⟩, h5, h6, h7, h8.trans (hc.mono h8.size)⟩
  exact hk.with_E (fun E' => ¬ E' w.heap.size) ⟨D, E, h1.keep hc, h2.keep hc, fun k hk => ⟨(h3 k hk).1, (h3 k hk).2.1, by have := (h3 k hk).2.2.1; omega, (h3 k hk).2.2.2⟩, fun k hk => ⟨(h4 k hk).1, (h4 k hk).2.1, by have := (h4 k hk).2.2; omega⟩, h5, h6, h7, h8.trans (hc.mono h8.size), fun e => by have := (h4 _ e).2.2; omega⟩

/-- What a step makes of half-links. -/
def stpL (op p id n : Int) (L : List HV.KV) : List HV.KV :=
  if op = 1 then lnkL p L else if op = 2 then ulkL p n L else if op = 3 then onlL p L else if op = 4 then dlL p L else if op = 5 then ackL p id L else if op = 6 then dlL p L else if op = 7 then insL p ⟨p, 1, 0⟩ L else if op = 8 then L.tail else L
def stpN (op p n : Int) (L : List HV.KV) : Int := if op = 2 then ulkN p n L else n

/-- What step tells. -/
def StpR (w0 : World) (tb rb : Nat) (L : List HV.KV) (n op p id : Int) (e : Ending) (w' : World) : Prop := e = .returned (.bool true) ∧ PL w0 w' tb rb (stpL op p id n L) (stpN op p n L)

set_option maxRecDepth 100000 in
set_option maxHeartbeats 4000000 in
theorem step1 {w0 w : World} {tb rb : Nat} {L : List HV.KV} {n : Int} (h : PL w0 w tb rb L n) (p id : Int) (hp : 1 ≤ p) (hN : L.length ≤ 80000) (hn : 0 ≤ n ∧ n < 900000) :
    Calls Try.prog 7 #[.pointer (some ⟨tb, 0, none⟩), .pointer (some ⟨rb, 0, none⟩), .agg #[.int .i64 1, .int .i64 p, .int .i64 id]] w (StpR w0 tb rb L n 1 p id) := by
  have hpn := And.intro hp hn
  have hb0 := below_new w (.cells #[.int .i64 1, .int .i64 p, .int .i64 id] 31)
  have hl := h.lts
  have P0 : Tri (w.alloc (.cells #[.int .i64 1, .int .i64 p, .int .i64 id] 31)).drew w.heap.size (.int .i64 1) (.int .i64 p) (.int .i64 id) := (Tri.new _ _ _ _ _).keep ((Below.refl _ _).drew)
  obtain ⟨D, E, h1, h2, h3, hE0, h4⟩ := h.both2 hb0 ((Below.refl _ _).drew)
  have C : Hid (Calls Try.prog 16 #[.pointer (some ⟨tb, 0, none⟩), .int .i64 p] (w.alloc (.cells #[.int .i64 1, .int .i64 p, .int .i64 id] 31)).drew fun e w1 => e = .returned (.bool (!isLk p L)) ∧ Hid (Tri w1 w.heap.size (.int .i64 1) (.int .i64 p) (.int .i64 id) ∧ Calls Try.prog 18 #[.pointer (some ⟨rb, 0, none⟩), .int .i64 p] w1 fun e w2 => e = .returned (.bool (!isLk p L)) ∧ Hid (w2.cell? ⟨w.heap.size, 1, none⟩ = some (.int .i64 p) ∧ w2.cell? ⟨w.heap.size, 2, none⟩ = some (.int .i64 id)) ∧ Hid (PL w0 w2 tb rb (lnkL p L) n))) := by
    refine hidb ((llink_any h1 (by omega) p (by omega)).mono ?_)
    rintro e w1 ⟨rfl, hu⟩
    refine ⟨rfl, hidb ?_⟩
    obtain ⟨g1, g2, g3, g4⟩ := h4 w1 _ _ hu w1 (Below.refl _ _)
    refine ⟨g3 _ _ _ _ P0 (by omega), (HV.rlink_any g1 hl.2.2.1 hl.2.2.2 p (by omega)).mono ?_⟩
    rintro e w2 ⟨rfl, hru⟩
    have P2 := (g4 w2 hru).2 _ _ _ _ (g3 _ _ _ _ P0 (by omega)) (by omega) hE0
    exact ⟨rfl, hidb ⟨P2.c1, P2.c2⟩, hidb (g4 w2 hru).1⟩
  have HS0 : Hid ((w.alloc (.cells #[.int .i64 1, .int .i64 p, .int .i64 id] 31)).drew.cell? ⟨w.heap.size, 1, none⟩ = some (.int .i64 p) ∧ (w.alloc (.cells #[.int .i64 1, .int .i64 p, .int .i64 id] 31)).drew.cell? ⟨w.heap.size, 2, none⟩ = some (.int .i64 id)) := hidb ⟨P0.c1, P0.c2⟩
  clear hpn h hb0 hl P0 h1 h2 h3 h4 hE0 hN hn hp
  go_enter Try.func7, Try.ntmps7
  go_wp2_with fail
  go_region_held3 (fun w' => w'.cell? ⟨w.heap.size, 1, none⟩ = some (.int .i64 p) ∧ w'.cell? ⟨w.heap.size, 2, none⟩ = some (.int .i64 id)) (first | with_reducible exact HS0.out | with_reducible exact HS1.out | with_reducible exact HS2.out) (first
    | (go_at_call 16; refine C.out.mono ?_; clear C; rintro e w1 ⟨rfl, C2⟩; have HS1 : Hid (w1.cell? ⟨w.heap.size, 1, none⟩ = some (.int .i64 p) ∧ w1.cell? ⟨w.heap.size, 2, none⟩ = some (.int .i64 id)) := hidb ⟨C2.out.1.c1, C2.out.1.c2⟩)
    | (go_at_call 18; refine C2.out.2.mono ?_; clear C2; rintro e w2 ⟨rfl, HS2, HP⟩))
  go_wp2_with fail
  go_ret
  exact ⟨by simp, HP.out⟩

set_option maxRecDepth 100000 in
set_option maxHeartbeats 4000000 in
theorem step2 {w0 w : World} {tb rb : Nat} {L : List HV.KV} {n : Int} (h : PL w0 w tb rb L n) (p id : Int) (hp : 1 ≤ p) (hN : L.length ≤ 80000) (hn : 0 ≤ n ∧ n < 900000) :
    Calls Try.prog 7 #[.pointer (some ⟨tb, 0, none⟩), .pointer (some ⟨rb, 0, none⟩), .agg #[.int .i64 2, .int .i64 p, .int .i64 id]] w (StpR w0 tb rb L n 2 p id) := by
  have hpn := And.intro hp hn
  have hb0 := below_new w (.cells #[.int .i64 2, .int .i64 p, .int .i64 id] 31)
  have hl := h.lts
  have P0 : Tri (w.alloc (.cells #[.int .i64 2, .int .i64 p, .int .i64 id] 31)) w.heap.size (.int .i64 2) (.int .i64 p) (.int .i64 id) := Tri.new _ _ _ _ _
  obtain ⟨D, E, h1, h2, h3, h4⟩ := (h.keep hb0).both
  have hE : ¬ E w.heap.size ∨ True := .inr trivial
  have C : Hid (Calls Try.prog 13 #[.pointer (some ⟨tb, 0, none⟩), .int .i64 p] (w.alloc (.cells #[.int .i64 2, .int .i64 p, .int .i64 id] 31)) fun e w1 => e = .returned (.tuple #[.int .i64 (ulkI p n L), .bool (isLk p L)]) ∧ Hid (Tri w1 w.heap.size (.int .i64 2) (.int .i64 p) (.int .i64 id) ∧ Calls Try.prog 14 #[.pointer (some ⟨rb, 0, none⟩), .int .i64 p] w1 fun e w2 => e = .returned (.tuple #[.int .i64 (ulkI p n L), .bool (isLk p L)]) ∧ Hid (PL w0 w2 tb rb (ulkL p n L) (ulkN p n L)))) := by
    refine hidb ((lunlink_any h1 (by omega) p (by omega) (by omega)).mono ?_)
    rintro e w1 ⟨rfl, hu⟩
    refine ⟨rfl, hidb ?_⟩
    obtain ⟨g1, g2, g3, g4⟩ := h4 w1 _ _ hu w1 (Below.refl _ _)
    refine ⟨g3 _ _ _ _ P0 (by omega), (HV.runlink_any g1 hl.2.2.1 hl.2.2.2 p (by omega) (by omega)).mono ?_⟩
    rintro e w2 ⟨rfl, hru⟩
    exact ⟨rfl, hidb (g4 w2 hru).1⟩
  clear hpn h hb0 hl P0 h1 h2 h3 h4 hE hN hn hp
  go_enter Try.func7, Try.ntmps7
  go_wp2_with (first
    | (go_at_call 13; refine C.out.mono ?_; clear C; rintro e w1 ⟨rfl, C2⟩; have P1 := C2.out.1; have p0 := P1.c0; have p1 := P1.c1; have p2 := P1.c2; clear P1)
    | (go_at_call 14; refine C2.out.2.mono ?_; clear C2; rintro e w2 ⟨rfl, HP⟩))
  go_ret
  exact ⟨rfl, HP.out⟩

set_option maxRecDepth 100000 in
set_option maxHeartbeats 4000000 in
theorem step3 {w0 w : World} {tb rb : Nat} {L : List HV.KV} {n : Int} (h : PL w0 w tb rb L n) (p id : Int) (hp : 1 ≤ p) (hN : L.length ≤ 80000) (hn : 0 ≤ n ∧ n < 900000) :
    Calls Try.prog 7 #[.pointer (some ⟨tb, 0, none⟩), .pointer (some ⟨rb, 0, none⟩), .agg #[.int .i64 3, .int .i64 p, .int .i64 id]] w (StpR w0 tb rb L n 3 p id) := by
  have hpn := And.intro hp hn
  have hb0 := below_new w (.cells #[.int .i64 3, .int .i64 p, .int .i64 id] 31)
  have hl := h.lts
  have P0 : Tri (w.alloc (.cells #[.int .i64 3, .int .i64 p, .int .i64 id] 31)) w.heap.size (.int .i64 3) (.int .i64 p) (.int .i64 id) := Tri.new _ _ _ _ _
  obtain ⟨D, E, h1, h2, h3, h4⟩ := (h.keep hb0).both
  have hE : ¬ E w.heap.size ∨ True := .inr trivial
  have C : Hid (Calls Try.prog 19 #[.pointer (some ⟨tb, 0, none⟩), .int .i64 p] (w.alloc (.cells #[.int .i64 3, .int .i64 p, .int .i64 id] 31)) fun e w1 => e = .returned (.tuple #[]) ∧ Hid (Tri w1 w.heap.size (.int .i64 3) (.int .i64 p) (.int .i64 id) ∧ Calls Try.prog 20 #[.pointer (some ⟨rb, 0, none⟩), .int .i64 p] w1 fun e w2 => e = .returned (.tuple #[]) ∧ Hid (PL w0 w2 tb rb (onlL p L) n))) := by
    refine hidb ((lonlink_any h1 (by omega) p (by omega)).mono ?_)
    rintro e w1 ⟨rfl, hu⟩
    refine ⟨rfl, hidb ?_⟩
    obtain ⟨g1, g2, g3, g4⟩ := h4 w1 _ _ hu w1 (Below.refl _ _)
    refine ⟨g3 _ _ _ _ P0 (by omega), (HV.ronlink_any g1 hl.2.2.1 hl.2.2.2 p (by omega)).mono ?_⟩
    rintro e w2 ⟨rfl, hru⟩
    exact ⟨rfl, hidb (g4 w2 hru).1⟩
  clear hpn h hb0 hl P0 h1 h2 h3 h4 hE hN hn hp
  go_enter Try.func7, Try.ntmps7
  go_wp2_with (first
    | (go_at_call 19; refine C.out.mono ?_; clear C; rintro e w1 ⟨rfl, C2⟩; have P1 := C2.out.1; have p0 := P1.c0; have p1 := P1.c1; have p2 := P1.c2; clear P1)
    | (go_at_call 20; refine C2.out.2.mono ?_; clear C2; rintro e w2 ⟨rfl, HP⟩))
  go_ret
  exact ⟨rfl, HP.out⟩

set_option maxRecDepth 100000 in
set_option maxHeartbeats 4000000 in
theorem step4 {w0 w : World} {tb rb : Nat} {L : List HV.KV} {n : Int} (h : PL w0 w tb rb L n) (p id : Int) (hp : 1 ≤ p) (hN : L.length ≤ 80000) (hn : 0 ≤ n ∧ n < 900000) :
    Calls Try.prog 7 #[.pointer (some ⟨tb, 0, none⟩), .pointer (some ⟨rb, 0, none⟩), .agg #[.int .i64 4, .int .i64 p, .int .i64 id]] w (StpR w0 tb rb L n 4 p id) := by
  have hpn := And.intro hp hn
  have hb0 := below_new w (.cells #[.int .i64 4, .int .i64 p, .int .i64 id] 31)
  have hl := h.lts
  have P0 : Tri (w.alloc (.cells #[.int .i64 4, .int .i64 p, .int .i64 id] 31)) w.heap.size (.int .i64 4) (.int .i64 p) (.int .i64 id) := Tri.new _ _ _ _ _
  obtain ⟨D, E, h1, h2, h3, h4⟩ := (h.keep hb0).both
  have hE : ¬ E w.heap.size ∨ True := .inr trivial
  have C : Hid (Calls Try.prog 21 #[.pointer (some ⟨tb, 0, none⟩), .int .i64 p] (w.alloc (.cells #[.int .i64 4, .int .i64 p, .int .i64 id] 31)) fun e w1 => e = .returned (.tuple #[]) ∧ Hid (Tri w1 w.heap.size (.int .i64 4) (.int .i64 p) (.int .i64 id) ∧ Calls Try.prog 22 #[.pointer (some ⟨rb, 0, none⟩), .int .i64 p] w1 fun e w2 => e = .returned (.bool (isLk p L)) ∧ Hid (PL w0 w2 tb rb (dlL p L) n))) := by
    refine hidb ((lonunlink_any h1 (by omega) p).mono ?_)
    rintro e w1 ⟨rfl, hu⟩
    refine ⟨rfl, hidb ?_⟩
    obtain ⟨g1, g2, g3, g4⟩ := h4 w1 _ _ hu w1 (Below.refl _ _)
    refine ⟨g3 _ _ _ _ P0 (by omega), (HV.ronexit_any g1 hl.2.2.1 hl.2.2.2 p (by omega)).mono ?_⟩
    rintro e w2 ⟨rfl, hru⟩
    exact ⟨rfl, hidb (g4 w2 hru).1⟩
  clear hpn h hb0 hl P0 h1 h2 h3 h4 hE hN hn hp
  go_enter Try.func7, Try.ntmps7
  go_wp2_with (first
    | (go_at_call 21; refine C.out.mono ?_; clear C; rintro e w1 ⟨rfl, C2⟩; have P1 := C2.out.1; have p0 := P1.c0; have p1 := P1.c1; have p2 := P1.c2; clear P1)
    | (go_at_call 22; refine C2.out.2.mono ?_; clear C2; rintro e w2 ⟨rfl, HP⟩))
  go_ret
  exact ⟨rfl, HP.out⟩

set_option maxRecDepth 100000 in
set_option maxHeartbeats 4000000 in
theorem step5 {w0 w : World} {tb rb : Nat} {L : List HV.KV} {n : Int} (h : PL w0 w tb rb L n) (p id : Int) (hp : 1 ≤ p) (hN : L.length ≤ 80000) (hn : 0 ≤ n ∧ n < 900000) :
    Calls Try.prog 7 #[.pointer (some ⟨tb, 0, none⟩), .pointer (some ⟨rb, 0, none⟩), .agg #[.int .i64 5, .int .i64 p, .int .i64 id]] w (StpR w0 tb rb L n 5 p id) := by
  have hpn := And.intro hp hn
  have hb0 := below_new w (.cells #[.int .i64 5, .int .i64 p, .int .i64 id] 31)
  have hl := h.lts
  have P0 : Tri (w.alloc (.cells #[.int .i64 5, .int .i64 p, .int .i64 id] 31)).drew w.heap.size (.int .i64 5) (.int .i64 p) (.int .i64 id) := (Tri.new _ _ _ _ _).keep ((Below.refl _ _).drew)
  obtain ⟨D, E, h1, h2, h3, hE0, h4⟩ := h.both2 hb0 ((Below.refl _ _).drew)
  have C : Hid (Calls Try.prog 17 #[.pointer (some ⟨tb, 0, none⟩), .int .i64 p, .int .i64 id] (w.alloc (.cells #[.int .i64 5, .int .i64 p, .int .i64 id] 31)).drew fun e w1 => e = .returned (.bool (ackB p id L)) ∧ Hid (Tri w1 w.heap.size (.int .i64 5) (.int .i64 p) (.int .i64 id) ∧ Calls Try.prog 23 #[.pointer (some ⟨rb, 0, none⟩), .int .i64 p, .int .i64 id] w1 fun e w2 => e = .returned (.bool (ackB p id L)) ∧ Hid (w2.cell? ⟨w.heap.size, 1, none⟩ = some (.int .i64 p) ∧ w2.cell? ⟨w.heap.size, 2, none⟩ = some (.int .i64 id)) ∧ Hid (PL w0 w2 tb rb (ackL p id L) n))) := by
    refine hidb ((lonack_any h1 (by omega) p id).mono ?_)
    rintro e w1 ⟨rfl, hu⟩
    refine ⟨rfl, hidb ?_⟩
    obtain ⟨g1, g2, g3, g4⟩ := h4 w1 _ _ hu w1 (Below.refl _ _)
    refine ⟨g3 _ _ _ _ P0 (by omega), (HV.ronack_any g1 hl.2.2.1 hl.2.2.2 p id (by omega)).mono ?_⟩
    rintro e w2 ⟨rfl, hru⟩
    have P2 := (g4 w2 hru).2 _ _ _ _ (g3 _ _ _ _ P0 (by omega)) (by omega) hE0
    exact ⟨rfl, hidb ⟨P2.c1, P2.c2⟩, hidb (g4 w2 hru).1⟩
  have HS0 : Hid ((w.alloc (.cells #[.int .i64 5, .int .i64 p, .int .i64 id] 31)).drew.cell? ⟨w.heap.size, 1, none⟩ = some (.int .i64 p) ∧ (w.alloc (.cells #[.int .i64 5, .int .i64 p, .int .i64 id] 31)).drew.cell? ⟨w.heap.size, 2, none⟩ = some (.int .i64 id)) := hidb ⟨P0.c1, P0.c2⟩
  clear hpn h hb0 hl P0 h1 h2 h3 h4 hE0 hN hn hp
  go_enter Try.func7, Try.ntmps7
  go_wp2_with fail
  go_region_held3 (fun w' => w'.cell? ⟨w.heap.size, 1, none⟩ = some (.int .i64 p) ∧ w'.cell? ⟨w.heap.size, 2, none⟩ = some (.int .i64 id)) (first | with_reducible exact HS0.out | with_reducible exact HS1.out | with_reducible exact HS2.out) (first
    | (go_at_call 17; refine C.out.mono ?_; clear C; rintro e w1 ⟨rfl, C2⟩; have HS1 : Hid (w1.cell? ⟨w.heap.size, 1, none⟩ = some (.int .i64 p) ∧ w1.cell? ⟨w.heap.size, 2, none⟩ = some (.int .i64 id)) := hidb ⟨C2.out.1.c1, C2.out.1.c2⟩)
    | (go_at_call 23; refine C2.out.2.mono ?_; clear C2; rintro e w2 ⟨rfl, HS2, HP⟩))
  go_wp2_with fail
  go_ret
  exact ⟨by simp, HP.out⟩

set_option maxRecDepth 100000 in
set_option maxHeartbeats 4000000 in
theorem step6 {w0 w : World} {tb rb : Nat} {L : List HV.KV} {n : Int} (h : PL w0 w tb rb L n) (p id : Int) (hp : 1 ≤ p) (hN : L.length ≤ 80000) (hn : 0 ≤ n ∧ n < 900000) :
    Calls Try.prog 7 #[.pointer (some ⟨tb, 0, none⟩), .pointer (some ⟨rb, 0, none⟩), .agg #[.int .i64 6, .int .i64 p, .int .i64 id]] w (StpR w0 tb rb L n 6 p id) := by
  have hpn := And.intro hp hn
  have hb0 := below_new w (.cells #[.int .i64 6, .int .i64 p, .int .i64 id] 31)
  have hl := h.lts
  have P0 : Tri (w.alloc (.cells #[.int .i64 6, .int .i64 p, .int .i64 id] 31)).drew w.heap.size (.int .i64 6) (.int .i64 p) (.int .i64 id) := (Tri.new _ _ _ _ _).keep ((Below.refl _ _).drew)
  obtain ⟨D, E, h1, h2, h3, hE0, h4⟩ := h.both2 hb0 ((Below.refl _ _).drew)
  have C : Hid (Calls Try.prog 15 #[.pointer (some ⟨tb, 0, none⟩), .int .i64 p] (w.alloc (.cells #[.int .i64 6, .int .i64 p, .int .i64 id] 31)).drew fun e w1 => e = .returned (.bool (isLk p L)) ∧ Hid (Tri w1 w.heap.size (.int .i64 6) (.int .i64 p) (.int .i64 id) ∧ Calls Try.prog 22 #[.pointer (some ⟨rb, 0, none⟩), .int .i64 p] w1 fun e w2 => e = .returned (.bool (isLk p L)) ∧ Hid (w2.cell? ⟨w.heap.size, 1, none⟩ = some (.int .i64 p) ∧ w2.cell? ⟨w.heap.size, 2, none⟩ = some (.int .i64 id)) ∧ Hid (PL w0 w2 tb rb (dlL p L) n))) := by
    refine hidb ((lonexit_any h1 (by omega) p).mono ?_)
    rintro e w1 ⟨rfl, hu⟩
    refine ⟨rfl, hidb ?_⟩
    obtain ⟨g1, g2, g3, g4⟩ := h4 w1 _ _ hu w1 (Below.refl _ _)
    refine ⟨g3 _ _ _ _ P0 (by omega), (HV.ronexit_any g1 hl.2.2.1 hl.2.2.2 p (by omega)).mono ?_⟩
    rintro e w2 ⟨rfl, hru⟩
    have P2 := (g4 w2 hru).2 _ _ _ _ (g3 _ _ _ _ P0 (by omega)) (by omega) hE0
    exact ⟨rfl, hidb ⟨P2.c1, P2.c2⟩, hidb (g4 w2 hru).1⟩
  have HS0 : Hid ((w.alloc (.cells #[.int .i64 6, .int .i64 p, .int .i64 id] 31)).drew.cell? ⟨w.heap.size, 1, none⟩ = some (.int .i64 p) ∧ (w.alloc (.cells #[.int .i64 6, .int .i64 p, .int .i64 id] 31)).drew.cell? ⟨w.heap.size, 2, none⟩ = some (.int .i64 id)) := hidb ⟨P0.c1, P0.c2⟩
  clear hpn h hb0 hl P0 h1 h2 h3 h4 hE0 hN hn hp
  go_enter Try.func7, Try.ntmps7
  go_wp2_with fail
  go_region_held3 (fun w' => w'.cell? ⟨w.heap.size, 1, none⟩ = some (.int .i64 p) ∧ w'.cell? ⟨w.heap.size, 2, none⟩ = some (.int .i64 id)) (first | with_reducible exact HS0.out | with_reducible exact HS1.out | with_reducible exact HS2.out) (first
    | (go_at_call 15; refine C.out.mono ?_; clear C; rintro e w1 ⟨rfl, C2⟩; have HS1 : Hid (w1.cell? ⟨w.heap.size, 1, none⟩ = some (.int .i64 p) ∧ w1.cell? ⟨w.heap.size, 2, none⟩ = some (.int .i64 id)) := hidb ⟨C2.out.1.c1, C2.out.1.c2⟩)
    | (go_at_call 22; refine C2.out.2.mono ?_; clear C2; rintro e w2 ⟨rfl, HS2, HP⟩))
  go_wp2_with fail
  go_ret
  exact ⟨by simp, HP.out⟩

set_option maxRecDepth 100000 in
set_option maxHeartbeats 4000000 in
theorem step7 {w0 w : World} {tb rb : Nat} {L : List HV.KV} {n : Int} (h : PL w0 w tb rb L n) (p id : Int) (hp : 1 ≤ p) (hN : L.length ≤ 80000) (hn : 0 ≤ n ∧ n < 900000) :
    Calls Try.prog 7 #[.pointer (some ⟨tb, 0, none⟩), .pointer (some ⟨rb, 0, none⟩), .agg #[.int .i64 7, .int .i64 p, .int .i64 id]] w (StpR w0 tb rb L n 7 p id) := by
  have hpn := And.intro hp hn
  have hb0 := below_new w (.cells #[.int .i64 7, .int .i64 p, .int .i64 id] 31)
  have hl := h.lts
  have P0 : Tri (w.alloc (.cells #[.int .i64 7, .int .i64 p, .int .i64 id] 31)) w.heap.size (.int .i64 7) (.int .i64 p) (.int .i64 id) := Tri.new _ _ _ _ _
  obtain ⟨D, E, h1, h2, h3, h4⟩ := (h.keep hb0).both
  have hE : ¬ E w.heap.size ∨ True := .inr trivial
  have C : Hid (Calls Try.prog 24 #[.pointer (some ⟨tb, 0, none⟩), .int .i64 p] (w.alloc (.cells #[.int .i64 7, .int .i64 p, .int .i64 id] 31)) fun e w1 => e = .returned (.tuple #[]) ∧ Hid (Tri w1 w.heap.size (.int .i64 7) (.int .i64 p) (.int .i64 id) ∧ Calls Try.prog 25 #[.pointer (some ⟨rb, 0, none⟩), .int .i64 p] w1 fun e w2 => e = .returned (.tuple #[]) ∧ Hid (PL w0 w2 tb rb (insL p ⟨p, 1, 0⟩ L) n))) := by
    refine hidb ((lset_any h1 (by omega) p (by omega)).mono ?_)
    rintro e w1 ⟨rfl, hu⟩
    refine ⟨rfl, hidb ?_⟩
    obtain ⟨g1, g2, g3, g4⟩ := h4 w1 _ _ hu w1 (Below.refl _ _)
    refine ⟨g3 _ _ _ _ P0 (by omega), (HV.rset_any g1 hl.2.2.1 hl.2.2.2 p (by omega)).mono ?_⟩
    rintro e w2 ⟨rfl, hru⟩
    exact ⟨rfl, hidb (g4 w2 hru).1⟩
  clear hpn h hb0 hl P0 h1 h2 h3 h4 hE hN hn hp
  go_enter Try.func7, Try.ntmps7
  go_wp2_with (first
    | (go_at_call 24; refine C.out.mono ?_; clear C; rintro e w1 ⟨rfl, C2⟩; have P1 := C2.out.1; have p0 := P1.c0; have p1 := P1.c1; have p2 := P1.c2; clear P1)
    | (go_at_call 25; refine C2.out.2.mono ?_; clear C2; rintro e w2 ⟨rfl, HP⟩))
  go_ret
  exact ⟨rfl, HP.out⟩

set_option maxRecDepth 100000 in
set_option maxHeartbeats 4000000 in
theorem step8 {w0 w : World} {tb rb : Nat} {L : List HV.KV} {n : Int} (h : PL w0 w tb rb L n) (p id : Int) (hp : 1 ≤ p) (hN : L.length ≤ 80000) (hn : 0 ≤ n ∧ n < 900000) :
    Calls Try.prog 7 #[.pointer (some ⟨tb, 0, none⟩), .pointer (some ⟨rb, 0, none⟩), .agg #[.int .i64 8, .int .i64 p, .int .i64 id]] w (StpR w0 tb rb L n 8 p id) := by
  have hpn := And.intro hp hn
  have hb0 := below_new w (.cells #[.int .i64 8, .int .i64 p, .int .i64 id] 31)
  have hl := h.lts
  obtain ⟨D, E, h1, h2, h3, h4⟩ := (h.keep hb0).both
  have C : Hid (Calls Try.prog 26 #[.pointer (some ⟨tb, 0, none⟩)] (w.alloc (.cells #[.int .i64 8, .int .i64 p, .int .i64 id] 31)) fun e w1 => e = .returned (.tuple #[.agg #[.int .i64 (L.headD (0, hf0)).2.a, .int .i64 (L.headD (0, hf0)).2.b, .int .i64 (L.headD (0, hf0)).2.c], .bool (!L.isEmpty)]) ∧ Hid (Calls Try.prog 27 #[.pointer (some ⟨rb, 0, none⟩)] (w1.alloc (.cells #[.int .i64 (L.headD (0, hf0)).2.a, .int .i64 (L.headD (0, hf0)).2.b, .int .i64 (L.headD (0, hf0)).2.c] 34)) fun e w2 => e = .returned (.tuple #[.agg #[.int .i64 (L.headD (0, hf0)).2.a, .int .i64 (L.headD (0, hf0)).2.b, .int .i64 (L.headD (0, hf0)).2.c], .bool (!L.isEmpty)]) ∧ Tri w2 w1.heap.size (.int .i64 (L.headD (0, hf0)).2.a) (.int .i64 (L.headD (0, hf0)).2.b) (.int .i64 (L.headD (0, hf0)).2.c) ∧ Hid (PL w0 w2 tb rb L.tail n))) := by
    refine hidb ((lpop_any h1 (by omega)).mono ?_)
    rintro e w1 ⟨rfl, hu⟩
    refine ⟨rfl, hidb ?_⟩
    obtain ⟨g1, g2, g3, g4⟩ := h4 w1 _ _ hu (w1.alloc (.cells #[.int .i64 (L.headD (0, hf0)).2.a, .int .i64 (L.headD (0, hf0)).2.b, .int .i64 (L.headD (0, hf0)).2.c] 34)) (below_new _ _)
    refine (HV.rpop_any g1 (by omega) g2).mono ?_
    rintro e w2 ⟨rfl, hru⟩
    have hs := hu.bt.size
    have hs2 := hb0.size
    exact ⟨rfl, (g4 w2 hru).2 _ _ _ _ (Tri.new w1 _ _ _ _) (by omega) (fun e => by have := h3 _ e; omega), hidb (g4 w2 hru).1⟩
  generalize (L.headD (0, hf0)).2 = v at *
  generalize (!L.isEmpty) = z at *
  clear hpn h hb0 hl h1 h2 h3 h4 hN hn hp
  go_enter Try.func7, Try.ntmps7
  go_wp2_with (first
    | (go_at_call 26; refine C.out.mono ?_; clear C; rintro e w1 ⟨rfl, C2⟩)
    | (go_at_call 27; refine C2.out.mono ?_; clear C2; rintro e w2 ⟨rfl, P2, HP⟩; have P3 := P2.keep (below_new w2 (.cells #[.int .i64 v.a, .int .i64 v.b, .int .i64 v.c] 34)); have p0 := P3.c0; have p1 := P3.c1; have p2 := P3.c2))
  go_ret
  exact ⟨by simp, HP.out.keep (below_new _ _)⟩

set_option maxRecDepth 100000 in
set_option maxHeartbeats 4000000 in
theorem step0 {w0 w : World} {tb rb : Nat} {L : List HV.KV} {n : Int} (h : PL w0 w tb rb L n) (op p id : Int) (e1 : (op == 1) = false) (e2 : (op == 2) = false) (e3 : (op == 3) = false) (e4 : (op == 4) = false) (e5 : (op == 5) = false) (e6 : (op == 6) = false) (e7 : (op == 7) = false) (e8 : (op == 8) = false) :
    Calls Try.prog 7 #[.pointer (some ⟨tb, 0, none⟩), .pointer (some ⟨rb, 0, none⟩), .agg #[.int .i64 op, .int .i64 p, .int .i64 id]] w (StpR w0 tb rb L n op p id) := by
  have HP : Hid (PL w0 (w.alloc (.cells #[.int .i64 op, .int .i64 p, .int .i64 id] 31)) tb rb (stpL op p id n L) (stpN op p n L)) := hidb (by
    simp only [beq_eq_false_iff_ne, ne_eq] at e1 e2 e3 e4 e5 e6 e7 e8
    rw [show stpL op p id n L = L by simp [stpL, e1, e2, e3, e4, e5, e6, e7, e8], show stpN op p n L = n by simp [stpN, e2]]
    exact h.keep (below_new _ _))
  clear h
  go_enter Try.func7, Try.ntmps7
  go_wp2_with fail
  go_ret
  exact ⟨rfl, HP.out⟩

theorem step_any {w0 w : World} {tb rb : Nat} {L : List HV.KV} {n : Int} (h : PL w0 w tb rb L n) (op p id : Int) (hp : 1 ≤ p) (hN : L.length ≤ 80000) (hn : 0 ≤ n ∧ n < 900000) :
    Calls Try.prog 7 #[.pointer (some ⟨tb, 0, none⟩), .pointer (some ⟨rb, 0, none⟩), .agg #[.int .i64 op, .int .i64 p, .int .i64 id]] w (StpR w0 tb rb L n op p id) := by
  by_cases e1 : op = 1
  · subst e1; exact step1 h p id hp hN hn
  by_cases e2 : op = 2
  · subst e2; exact step2 h p id hp hN hn
  by_cases e3 : op = 3
  · subst e3; exact step3 h p id hp hN hn
  by_cases e4 : op = 4
  · subst e4; exact step4 h p id hp hN hn
  by_cases e5 : op = 5
  · subst e5; exact step5 h p id hp hN hn
  by_cases e6 : op = 6
  · subst e6; exact step6 h p id hp hN hn
  by_cases e7 : op = 7
  · subst e7; exact step7 h p id hp hN hn
  by_cases e8 : op = 8
  · subst e8; exact step8 h p id hp hN hn
  exact step0 h op p id (by simpa using e1) (by simpa using e2) (by simpa using e3) (by simpa using e4) (by simpa using e5) (by simpa using e6) (by simpa using e7) (by simpa using e8)

end Go.Proofs.Ytodelafnboimnaa
