import Derived.Test.YtpcpdehnppfbfaaGreatG01
import Derived.Maps.AppendAt
import Derived.Laws.AppendOwnNone
import Derived.Deep.RegionLaw
import Derived.Deep.AppendLies
import Derived.Deep.DrawnRows
import Derived.Deep.RegionHeld3
import Derived.Deep.RegionHeld2
import Derived.Deep.Cut
import Derived.Deep.LoopGhost
import Derived.BigQuiet
import Derived.Laws.OwnMore
import Derived.OneCell
/- Queues in memory. -/
namespace Go.Proofs.YtpcpdehnppfbfaaGreat
open Go.RowKit Go.Lib

theorem grown_but {X w' : World} {row : Option Nat} (h : X.grownBy w' row) : But (fun k => row = some k) X w' := ⟨h.os, h.tape, h.output, h.size, fun k hk hs => h.block k hk (fun e => hs e.symm)⟩
theorem row_but {S : Nat → Prop} {w w' : World} {B e size n : Nat} {V : Value} {xs : List Value} (h : w.ownsRow B e size V n xs) (hb : But S w w') (hV : ∀ k, V.ownBlock = some k → ¬ S k) : w'.ownsRow B e size V n xs := by
  refine ⟨h.1, ?_⟩
  rcases h.2 with hn | ⟨q, cap, cur, rfl, hB, hq, rest⟩
  · exact .inl hn
  · exact .inr ⟨q, cap, cur, rfl, hB, (hb.block q (Array.getElem?_eq_some_iff.1 hq).1 (hV q rfl)).trans hq, rest⟩
theorem row_lt {w : World} {B e size n : Nat} {V : Value} {xs : List Value} (h : w.ownsRow B e size V n xs) : ∀ k, V.ownBlock = some k → k < w.heap.size ∧ B ≤ k := by
  intro k hk
  rcases h.2 with ⟨rfl, _⟩ | ⟨q, cap, cur, rfl, hB, hq, rest⟩
  · simp [Value.ownBlock] at hk
  · simp [Value.ownBlock] at hk; subst hk; exact ⟨(Array.getElem?_eq_some_iff.1 hq).1, hB⟩
theorem grown_up {w X w' : World} {row : Option Nat} (hX : Below w.heap.size w X) (h : X.grownBy w' row) (hr : ∀ k, row = some k → w.heap.size ≤ k) : Below w.heap.size w w' :=
  ⟨h.os.trans hX.os, h.tape.trans hX.tape, h.output.trans hX.output, Nat.le_trans hX.size h.size, fun k hk => (h.block k (Nat.lt_of_lt_of_le hk hX.size) (fun e => by have := hr k e.symm; omega)).trans (hX.block k hk)⟩

/-- A queue: its block rb has a row V, of the call's own memory (from B on), and how many of it are gone. -/
structure RW (E sz : Nat) (w : World) (B rb : Nat) (V : Value) (gone : Nat) (items : List Value) (n : Nat) : Prop where
  duo : Duo w rb V (.int .i64 (gone : Int))
  own : w.ownsRow B E sz V n items
  ne : V.ownBlock ≠ some rb
  le : gone ≤ n
  one : ∀ u ∈ items, u.oneCell' = true

theorem RW.but {E sz : Nat} {S : Nat → Prop} {w w' : World} {B rb gone n : Nat} {V : Value} {items : List Value} (h : RW E sz w B rb V gone items n) (hb : But S w w') (h1 : ¬ S rb) (hV : ∀ k, V.ownBlock = some k → ¬ S k) : RW E sz w' B rb V gone items n :=
  ⟨h.duo.but hb h1, row_but h.own hb hV, h.ne, h.le, h.one⟩
theorem RW.keep {E sz : Nat} {w w' : World} {B rb gone n : Nat} {V : Value} {items : List Value} (h : RW E sz w B rb V gone items n) (hb : Below w.heap.size w w') : RW E sz w' B rb V gone items n :=
  h.but (But.of_below (S := fun _ => False) hb) (fun h => h) (fun _ _ h => h)

/-- Where a row lies: V's own block, or a new one. -/
def Stays (w : World) (V V' : Value) : Prop := V'.ownBlock = V.ownBlock ∨ ∀ k, V'.ownBlock = some k → w.heap.size ≤ k

/-- A queue that has xs: k elements; at most N lie in its row. -/
def Rw (E sz : Nat) (w : World) (B rb : Nat) (V : Value) (xs : List Value) (k N : Nat) : Prop :=
  ∃ gone items n, RW E sz w B rb V gone items n ∧ items.drop (gone * sz) = xs ∧ n = gone + k ∧ n ≤ N

theorem Rw.but {E sz : Nat} {S : Nat → Prop} {w w' : World} {B rb k N : Nat} {V : Value} {xs : List Value} (h : Rw E sz w B rb V xs k N) (hb : But S w w') (h1 : ¬ S rb) (hV : ∀ k, V.ownBlock = some k → ¬ S k) : Rw E sz w' B rb V xs k N := by
  obtain ⟨gone, items, n, h, r⟩ := h
  exact ⟨gone, items, n, h.but hb h1 hV, r⟩
theorem Rw.keep {E sz : Nat} {w w' : World} {B rb k N : Nat} {V : Value} {xs : List Value} (h : Rw E sz w B rb V xs k N) (hb : Below w.heap.size w w') : Rw E sz w' B rb V xs k N :=
  h.but (But.of_below (S := fun _ => False) hb) (fun h => h) (fun _ _ h => h)
theorem Rw.mono {E sz : Nat} {w : World} {B rb k N N' : Nat} {V : Value} {xs : List Value} (h : Rw E sz w B rb V xs k N) (hN : N ≤ N') : Rw E sz w B rb V xs k N' := by
  obtain ⟨gone, items, n, h, a, b, c⟩ := h
  exact ⟨gone, items, n, h, a, b, Nat.le_trans c hN⟩
theorem Rw.lt {E sz : Nat} {w : World} {B rb k N : Nat} {V : Value} {xs : List Value} (h : Rw E sz w B rb V xs k N) : rb < w.heap.size ∧ V.ownBlock ≠ some rb ∧ ∀ k, V.ownBlock = some k → k < w.heap.size ∧ B ≤ k := by
  obtain ⟨gone, items, n, h, _⟩ := h
  exact ⟨h.duo.lt, h.ne, row_lt h.own⟩
theorem Rw.length {E sz : Nat} {w : World} {B rb k N : Nat} {V : Value} {xs : List Value} (h : Rw E sz w B rb V xs k N) : xs.length = k * sz := by
  obtain ⟨gone, items, n, h, a, b, c⟩ := h
  rw [← a, List.length_drop, h.own.1, b, Nat.add_mul]
  omega
theorem rw_new (E sz : Nat) (w : World) (B : Nat) (t : TypeId) : Rw E sz (w.alloc (.cells #[.slice none 0 0, .int .i64 0] t)) B w.heap.size (.slice none 0 0) [] 0 0 :=
  ⟨0, [], 0, ⟨Duo.new _ _ _ _, World.ownsRow_nil _ _ _ _, by simp [Value.ownBlock], Nat.le_refl _, by simp⟩, by simp, rfl, Nat.le_refl _⟩

abbrev IT : Nat := 3
abbrev ST : Nat := 30

theorem own_sl {w : World} {C e size n : Nat} {v : Value} {xs : List Value} (h : w.ownsRow C e size v n xs) : ∃ a c, v = .slice a n c := by
  rcases h.2 with ⟨rfl, rfl⟩ | ⟨g, cap, cur, rfl, _⟩
  · exact ⟨_, _, rfl⟩
  · exact ⟨_, _, rfl⟩

/-- An append at a step of a region that draws its order. -/
theorem step_app {P : Program} {w : World} {ops : Array Oper} {o : Oper} {a : Act} {K : Act → World → Prop} {Q : Exit → Act → World → Prop} {E : Prop} (hgd : o.guard = none) (s x : Operand) (t : TypeId)
    (ho : o.op = .call { callee := .builtin .append, args := #[s, x], argTypes := #[t, t] })
    (base : Nat) (e : TypeId) (i : TypeInfo) (z : Value) (size bytes : Nat) (ht : P.underlying t = some (.slice e)) (hi : P.info? e = some i) (hz : i.zero = some z)
    (hsize : i.size = size) (hby : i.bytes = bytes) (hzs : z.cells.size = size) (hsz : 0 < size)
    (v : Value) (n : Nat) (xs : List Value) (hs : a.eval s = v) (hown : w.ownsRow base e size v n xs)
    (ad : Addr) (m c : Nat) (news : List Value) (hx : a.eval x = .slice (some ad) m c) (hl : news.length = m * size) (hnews : ∀ j u, news[j]? = some u → w.cell? (ad.add j) = some u) (h1 : ∀ u ∈ news, u.oneCell' = true)
    (h63 : n + m ≤ maxLen) (hbytes : (n + m) * bytes ≤ 140737488355328) (hbase : base ≤ w.heap.size)
    (h : ∀ v' w', w'.ownsRow base e size v' (n + m) (xs ++ news) → w.grownBy w' v.ownBlock → (v'.ownBlock = v.ownBlock ∨ v'.ownBlock = some w.heap.size) → K (a.put o.dst v') w') :
    if Region.wanted o (yielded ops a.tmps) = true then Oper.wp P o a w K Q else E := by
  have hw : Region.wanted o (yielded ops a.tmps) = true := by simp [Region.wanted, hgd]
  rw [if_pos hw]
  obtain ⟨v', w', hr, h2, h3, h4, h5⟩ := run_append_own_at (P := P) w base t o.type e i z size bytes ht hi hz hsize hby hzs hsz v n xs hown ad m c news hl hnews h1 h63 hbytes hbase
  unfold Oper.wp execOp
  simp only [ho, resolve, invoke, builtin, Sem.run_bind, Sem.run_pure, Result.andThen_ok, List.map_toArray, List.map_cons, List.map_nil, hs, hx, hr]
  exact h v' w' h2 h3 h5
theorem step_app0 {P : Program} {w : World} {ops : Array Oper} {o : Oper} {a : Act} {K : Act → World → Prop} {Q : Exit → Act → World → Prop} {E : Prop} (hgd : o.guard = none) (s x : Operand) (t : TypeId)
    (ho : o.op = .call { callee := .builtin .append, args := #[s, x], argTypes := #[t, t] })
    (base : Nat) (e : TypeId) (i : TypeInfo) (size : Nat) (ht : P.underlying t = some (.slice e)) (hi : P.info? e = some i)
    (v : Value) (n : Nat) (xs : List Value) (hs : a.eval s = v) (hown : w.ownsRow base e size v n xs) (hx : a.eval x = .slice none 0 0)
    (h : K (a.put o.dst v) w) : if Region.wanted o (yielded ops a.tmps) = true then Oper.wp P o a w K Q else E := by
  have hw : Region.wanted o (yielded ops a.tmps) = true := by simp [Region.wanted, hgd]
  rw [if_pos hw]
  have hrun := run_append_owned_none (P := P) (w := w) base t o.type e i size ht hi v n xs hown
  unfold Oper.wp
  simp [execOp, ho, resolve, invoke, builtin, hs, hx, hrun, Result.andThen]
  exact h

theorem push_done {E sz : Nat} {w X w1 : World} {B rb gone n : Nat} {V V' : Value} {items news : List Value} (h : RW E sz w B rb V gone items n) (hX : Below w.heap.size w X) (hG : X.grownBy w1 V.ownBlock) (hO : w1.ownsRow B E sz V' (n + 1) (items ++ news))
    {H : Nat} (hat : V'.ownBlock = V.ownBlock ∨ V'.ownBlock = some H) (hH : X.heap.size = H) (h1 : ∀ u ∈ news, u.oneCell' = true) :
    RW E sz (w1.setCell ⟨rb, 0, none⟩ V') B rb V' gone (items ++ news) (n + 1) ∧ But (fun k => k = rb ∨ V.ownBlock = some k) w (w1.setCell ⟨rb, 0, none⟩ V') ∧ Stays w V V' := by
  subst hH
  have hb1 : But (fun k => V.ownBlock = some k) w w1 := (But.of_below hX).trans (grown_but hG)
  have hne : V'.ownBlock ≠ some rb := by
    rcases hat with e | e
    · rw [e]; exact h.ne
    · rw [e]; intro h2
      have h3 : X.heap.size = rb := by simpa using h2
      have := h.duo.lt; have := hX.size; omega
  refine ⟨⟨(h.duo.but hb1 h.ne).set0 _, ownsRow_setCell_other hO hne _, hne, by have := h.le; omega, fun u hu => ?_⟩, (hb1.mono (fun k _ h => .inr h)).setCell (fun _ => .inl rfl) _, ?_⟩
  · rcases List.mem_append.1 hu with hu | hu
    · exact h.one u hu
    · exact h1 u hu
  · rcases hat with e | e
    · exact .inl e
    · exact .inr fun k hk => by rw [e] at hk; have h3 : X.heap.size = k := (by simpa using hk); have := hX.size; omega

theorem row_base {w : World} {B B' e size n : Nat} {V : Value} {xs : List Value} (h : w.ownsRow B' e size V n xs) (hB : B ≤ B') : w.ownsRow B e size V n xs := by
  refine ⟨h.1, ?_⟩
  rcases h.2 with hn | ⟨q, cap, cur, rfl, hq, rest⟩
  · exact .inl hn
  · exact .inr ⟨q, cap, cur, rfl, Nat.le_trans hB hq, rest⟩

/-- One more is gone. -/
theorem pop_gone {E sz : Nat} {w w2 : World} {B rb gone k : Nat} {V : Value} {items items2 : List Value} (h : RW E sz w B rb V gone items (gone + k)) (hk : 0 < k) (hO : w2.ownsRow B E sz V (gone + k) items2) (h1 : ∀ u ∈ items2, u.oneCell' = true)
    (hb : But (fun j => V.ownBlock = some j) w w2) :
    RW E sz (w2.setCell ⟨rb, 1, none⟩ (.int .i64 ((gone : Int) + 1))) B rb V (gone + 1) items2 (gone + k) ∧ But (fun j => j = rb ∨ V.ownBlock = some j) w (w2.setCell ⟨rb, 1, none⟩ (.int .i64 ((gone : Int) + 1))) := by
  refine ⟨⟨?_, ownsRow_setCell_other hO h.ne _, h.ne, by omega, h1⟩, (hb.mono (fun k _ h => .inr h)).setCell (fun _ => .inl rfl) _⟩
  have := (h.duo.but hb h.ne).set1 (.int .i64 ((gone : Int) + 1))
  exact this

/-- What is left lies in a new row. -/
theorem pop_new {E sz : Nat} {w w4 : World} {B rb gone n C : Nat} {V V' : Value} {items news : List Value} {m : Nat} (h : RW E sz w B rb V gone items n) (hb : Below w.heap.size w w4) (hO : w4.ownsRow C E sz V' m news) (hC : w.heap.size ≤ C) (hB : B ≤ C) (h1 : ∀ u ∈ news, u.oneCell' = true) :
    RW E sz ((w4.setCell ⟨rb, 0, none⟩ V').setCell ⟨rb, 1, none⟩ (.int .i64 0)) B rb V' 0 news m ∧ But (fun j => j = rb) w ((w4.setCell ⟨rb, 0, none⟩ V').setCell ⟨rb, 1, none⟩ (.int .i64 0)) ∧ Stays w V V' := by
  have hlt := h.duo.lt
  have hr := row_lt hO
  have hne : V'.ownBlock ≠ some rb := fun e => by have := (hr rb e).2; omega
  refine ⟨⟨?_, ownsRow_setCell_other (ownsRow_setCell_other (row_base hO hB) hne _) hne _, hne, Nat.zero_le _, h1⟩, ((But.of_below (S := fun j => j = rb) hb).setCell (fun _ => rfl) _).setCell (fun _ => rfl) _, .inr fun k hk => by have := (hr k hk).2; omega⟩
  have := ((h.duo.keep hb).set0 V').set1 (.int .i64 0)
  exact this
end Go.Proofs.YtpcpdehnppfbfaaGreat


/- A queue of signals: NewRow, Len, All, Push, Pop. -/
namespace Go.Proofs.YtpcpdehnppfbfaaGreat
open Go.RowKit Go.Lib
attribute [local go_sem] store_float f64bits
attribute [local go_sem ↓] Go.wp_at_zero Go.wp_at_succ

theorem infoS : ∃ i0, Tryz.prog.info? ST = some i0 ∧ i0.zero = some (.agg #[.int .i64 0, .int .i64 0, .int .i64 0, .int .i64 0, .int .i64 0, .bool false, .string ⟨#[]⟩, .int .i64 0, .int .i64 0, .float .f64 0, .string ⟨#[]⟩, .slice none 0 0]) ∧ i0.size = 12 ∧ i0.bytes = 128 := by
  obtain ⟨i0, hi, hz0, hz1, hz2⟩ := info_parts (P := Tryz.prog) (e := ST) (z := (.agg #[.int .i64 0, .int .i64 0, .int .i64 0, .int .i64 0, .int .i64 0, .bool false, .string ⟨#[]⟩, .int .i64 0, .int .i64 0, .float .f64 0, .string ⟨#[]⟩, .slice none 0 0])) (size := 12) (bytes := 128) (by kernel_rfl)
  exact ⟨i0, hi, hz0, hz1, hz2⟩

theorem newS (w : World) : Calls Tryz.prog 35 #[] w fun e w' => e = .returned (.pointer (some ⟨w.heap.size, 0, none⟩)) ∧ w' = w.alloc (.cells #[.slice none 0 0, .int .i64 0] 81) := by
  go_enter Tryz.func35, Tryz.ntmps35
  go_wp2
  go_ret
  exact ⟨rfl, rfl⟩

theorem lenS_of {w : World} {B rb gone n : Nat} {V : Value} {items : List Value} (h : RW ST 12 w B rb V gone items n) (hN : n ≤ 1000000) : Calls Tryz.prog 29 #[.pointer (some ⟨rb, 0, none⟩)] w fun e w' => e = .returned (.int .i64 (n - gone : Nat)) ∧ Below w.heap.size w w' := by
  obtain ⟨c0, c1, -, -, -⟩ := h.duo
  have own := h.own.2
  have hgl := h.le
  obtain ⟨k, hn⟩ : ∃ k, n = gone + k := ⟨n - gone, by omega⟩
  obtain rfl : n - gone = k := by omega
  have hw : IntKind.i64.wrap ((n : Int) - (gone : Int)) = ((n - gone : Nat) : Int) := by rw [IntKind.wrap_i64]; omega
  generalize n - gone = k at hw hn ⊢
  clear h hN
  rcases own with ⟨rfl, hn0⟩ | ⟨g, cap, cur, rfl, -⟩
  · obtain rfl : k = 0 := by omega
    obtain rfl : gone = 0 := by omega
    clear hw hn hn0 hgl
    go_enter Tryz.func29, Tryz.ntmps29
    go_wp2_with fail
    go_quiet (fail)
    go_wp2_with fail
    go_ret
    exact ⟨rfl, below_drewN (Below.refl _ _) _⟩
  · clear hn hgl
    go_enter Tryz.func29, Tryz.ntmps29
    go_wp2_with fail
    go_quiet (fail)
    go_wp2_with fail
    go_ret
    exact ⟨by simp, below_drewN (Below.refl _ _) _⟩

theorem lenS_any {w : World} {B rb k N : Nat} {V : Value} {xs : List Value} (h : Rw ST 12 w B rb V xs k N) (hN : N ≤ 1000000) : Calls Tryz.prog 29 #[.pointer (some ⟨rb, 0, none⟩)] w fun e w' => e = .returned (.int .i64 (k : Int)) ∧ Below w.heap.size w w' := by
  obtain ⟨gone, items, n, h, hx, hn, hle⟩ := h
  have := lenS_of h (by omega)
  rw [show n - gone = k by omega] at this
  exact this

set_option maxHeartbeats 1000000 in
theorem allS_of {w : World} {B rb gone n : Nat} {V : Value} {items : List Value} (h : RW ST 12 w B rb V gone items n) (hN : n ≤ 1000000) :
    Calls Tryz.prog 42 #[.pointer (some ⟨rb, 0, none⟩)] w fun e w' => ∃ v, e = .returned v ∧ w'.ownsRow w.heap.size ST 12 v (n - gone) (items.drop (gone * 12)) ∧ Below w.heap.size w w' := by
  obtain ⟨c0, c1, -, -, -⟩ := h.duo
  have hown := h.own
  have h1 := h.one
  have hgl := h.le
  obtain ⟨k, hn⟩ : ∃ k, n = gone + k := ⟨n - gone, by omega⟩
  obtain ⟨i0, hi, hz0, hz1, hz2⟩ := infoS
  clear h
  rcases hown.2 with ⟨rfl, hn0⟩ | ⟨g, cap, cur, rfl, hB, hb, hcap, hcm, hcs, htk⟩
  · obtain rfl : k = 0 := by omega
    obtain rfl : gone = 0 := by omega
    obtain rfl : n = 0 := by omega
    have hl := hown.1
    obtain rfl : items = [] := List.eq_nil_of_length_eq_zero (by omega)
    clear hown hn hn0 hgl hl h1
    go_enter Tryz.func42, Tryz.ntmps42
    go_wp2_with fail
    go_region_law (first
      | (refine step_app0 rfl _ _ 22 rfl w.heap.size ST i0 12 Tryz.underlying22 hi _ _ _ rfl (World.ownsRow_nil _ _ _ _) rfl ?_))
    all_goals go_wp2_with fail
    all_goals go_ret
    all_goals exact ⟨_, rfl, World.ownsRow_nil _ _ _ _, (Below.refl _ _).drew⟩
  · subst hn
    have hlen : (items.drop (gone * 12)).length = k * 12 := by rw [List.length_drop, hown.1, Nat.add_mul]; omega
    obtain ⟨ad, had⟩ : ∃ ad : Addr, (if cap = gone then some (⟨g, 0, none⟩ : Addr) else some ⟨g, gone * 12, none⟩) = some ad := by
      by_cases hc : cap = gone
      · exact ⟨_, if_pos hc⟩
      · exact ⟨_, if_neg hc⟩
    have hnews : ∀ (w' : World), w'.heap = w.heap → ∀ j u, (items.drop (gone * 12))[j]? = some u → w'.cell? (ad.add j) = some u := by
      intro w' hw' j u hj
      by_cases hc : cap = gone
      · obtain rfl : k = 0 := by omega
        rw [List.eq_nil_of_length_eq_zero (by omega : (items.drop (gone * 12)).length = 0)] at hj
        simp at hj
      · rw [if_neg hc] at had
        obtain rfl : (⟨g, gone * 12, none⟩ : Addr) = ad := by simpa using had
        rw [List.getElem?_drop] at hj
        have hcell := hown.cells (g := g) rfl _ _ hj
        rw [World.cell?_of_block (w := w) (w' := w') (by rw [hw'])]
        have e1 : (⟨g, gone * 12, none⟩ : Addr).add j = ⟨g, gone * 12 + j, none⟩ := by unfold Addr.add; split <;> simp_all
        have e2 : (⟨g, 0, none⟩ : Addr).add (gone * 12 + j) = ⟨g, gone * 12 + j, none⟩ := by unfold Addr.add; split <;> simp_all
        rw [e1, ← e2]
        exact hcell
    have h1' : ∀ u ∈ items.drop (gone * 12), u.oneCell' = true := fun u hu => h1 u (List.mem_of_mem_drop hu)
    have hgi : (gone : Int) ≤ (gone : Int) + (k : Int) := by omega
    have z1 : 0 + k ≤ maxLen := by unfold maxLen; omega
    have z2 : (0 + k) * 128 ≤ 140737488355328 := by omega
    have hsub : gone + k - gone = k := by omega
    rw [hsub]
    generalize items.drop (gone * 12) = X at *
    clear hB hb hcm hcs htk h1 hown hsub hgl hN hcap
    go_enter Tryz.func42, Tryz.ntmps42
    go_wp2_with fail
    go_region_law (first
      | (refine step_app rfl _ _ 22 rfl w.heap.size ST i0 (.agg #[.int .i64 0, .int .i64 0, .int .i64 0, .int .i64 0, .int .i64 0, .bool false, .string ⟨#[]⟩, .int .i64 0, .int .i64 0, .float .f64 0, .string ⟨#[]⟩, .slice none 0 0]) 12 128 Tryz.underlying22 hi hz0 hz1 hz2 rfl (by decide) (.slice none 0 0) _ _ rfl (World.ownsRow_nil _ _ _ _) ad k (cap - gone) X rfl hlen (hnews _ rfl) h1' z1 z2 (Nat.le_refl _) ?_; intro v' w3 hown' hgrow hat; have HG := hidb hgrow; have HO := hidb hown'; clear hown' hgrow hat))
    all_goals go_wp2_with fail
    all_goals go_ret
    all_goals (
      have ho := HO.out
      rw [Nat.zero_add, List.nil_append] at ho
      exact ⟨_, rfl, ho, grown_up (Below.drew (Below.refl _ _)) HG.out (fun k hk => by simp [Value.ownBlock] at hk)⟩)

theorem allS_any {w : World} {B rb k N : Nat} {V : Value} {xs : List Value} (h : Rw ST 12 w B rb V xs k N) (hN : N ≤ 1000000) : Calls Tryz.prog 42 #[.pointer (some ⟨rb, 0, none⟩)] w fun e w' => ∃ v, e = .returned v ∧ w'.ownsRow w.heap.size ST 12 v k xs ∧ Below w.heap.size w w' := by
  obtain ⟨gone, items, n, h, hx, hn, hle⟩ := h
  have := allS_of h (by omega)
  rw [show n - gone = k by omega, hx] at this
  exact this

def sgObj (x0 x1 x2 x3 x4 : Int) (lk : Bool) (nm : ByteArray) (tk tn : Int) (tf : Nat) (ts : ByteArray) (ta : Option Addr) (tl tc : Nat) : Obj := .cells #[.int .i64 x0, .int .i64 x1, .int .i64 x2, .int .i64 x3, .int .i64 x4, .bool lk, .string nm, .int .i64 tk, .int .i64 tn, .float .f64 tf, .string ts, .slice ta tl tc] ST

set_option maxHeartbeats 2000000 in
set_option maxRecDepth 100000 in
theorem pushS_of {w : World} {B rb gone n : Nat} {V : Value} {items : List Value} (x0 x1 x2 x3 x4 : Int) (lk : Bool) (nm : ByteArray) (tk tn : Int) (tf : Nat) (ts : ByteArray) (ta : Option Addr) (tl tc : Nat) (h : RW ST 12 w B rb V gone items n) (hB : B ≤ w.heap.size) (hN : n ≤ 1000000) :
    Calls Tryz.prog 20 #[.pointer (some ⟨rb, 0, none⟩), .agg #[.int .i64 x0, .int .i64 x1, .int .i64 x2, .int .i64 x3, .int .i64 x4, .bool lk, .string nm, .int .i64 tk, .int .i64 tn, .float .f64 tf, .string ts, .slice ta tl tc]] w fun e w' => e = .returned (.tuple #[]) ∧ ∃ V', RW ST 12 w' B rb V' gone (items ++ [.int .i64 x0, .int .i64 x1, .int .i64 x2, .int .i64 x3, .int .i64 x4, .bool lk, .string nm, .int .i64 tk, .int .i64 tn, .float .f64 tf, .string ts, .slice ta tl tc]) (n + 1) ∧ But (fun k => k = rb ∨ V.ownBlock = some k) w w' ∧ Stays w V V' := by
  obtain ⟨c0, c1, f0, f1, hlt⟩ := h.duo
  obtain ⟨q, cap, rfl⟩ := own_sl h.own
  obtain ⟨i0, hi, hz0, hz1, hz2⟩ := infoS
  have HH := hidb h
  have hone : ∀ u ∈ ([.int .i64 x0, .int .i64 x1, .int .i64 x2, .int .i64 x3, .int .i64 x4, .bool lk, .string nm, .int .i64 tk, .int .i64 tn, .float .f64 tf, .string ts, .slice ta tl tc] : List Value), u.oneCell' = true := by intro u hu; simp at hu; rcases hu with rfl | rfl | rfl | rfl | rfl | rfl | rfl | rfl | rfl | rfl | rfl | rfl <;> rfl
  have hX : Below w.heap.size w ((w.alloc (sgObj x0 x1 x2 x3 x4 lk nm tk tn tf ts ta tl tc)).alloc (sgObj x0 x1 x2 x3 x4 lk nm tk tn tf ts ta tl tc)).drew := Below.drew (((Below.refl _ w).alloc (Nat.le_refl _) _).alloc (by simp) _)
  have ow : (((w.alloc (sgObj x0 x1 x2 x3 x4 lk nm tk tn tf ts ta tl tc)).alloc (sgObj x0 x1 x2 x3 x4 lk nm tk tn tf ts ta tl tc)).drew).ownsRow B ST 12 (.slice q n cap) n items := ((h.own.alloc _).alloc _).drew
  have nw : ∀ j u, [.int .i64 x0, .int .i64 x1, .int .i64 x2, .int .i64 x3, .int .i64 x4, .bool lk, .string nm, .int .i64 tk, .int .i64 tn, .float .f64 tf, .string ts, .slice ta tl tc][j]? = some u → (((w.alloc (sgObj x0 x1 x2 x3 x4 lk nm tk tn tf ts ta tl tc)).alloc (sgObj x0 x1 x2 x3 x4 lk nm tk tn tf ts ta tl tc)).drew).cell? ((⟨w.heap.size + 1, 0, none⟩ : Addr).add j) = some u := by
    have hb : (((w.alloc (sgObj x0 x1 x2 x3 x4 lk nm tk tn tf ts ta tl tc)).alloc (sgObj x0 x1 x2 x3 x4 lk nm tk tn tf ts ta tl tc)).drew).heap[w.heap.size + 1]? = some (sgObj x0 x1 x2 x3 x4 lk nm tk tn tf ts ta tl tc) := by
      show ((w.alloc (sgObj x0 x1 x2 x3 x4 lk nm tk tn tf ts ta tl tc)).alloc (sgObj x0 x1 x2 x3 x4 lk nm tk tn tf ts ta tl tc)).heap[w.heap.size + 1]? = _
      have := (MapKept.heap_alloc (w.alloc (sgObj x0 x1 x2 x3 x4 lk nm tk tn tf ts ta tl tc)) (sgObj x0 x1 x2 x3 x4 lk nm tk tn tf ts ta tl tc)).1
      simpa using this
    exact World.news_of_block hb
  have z1 : n + 1 ≤ maxLen := by unfold maxLen; omega
  have z2 : (n + 1) * 128 ≤ 140737488355328 := by omega
  have z4 : B ≤ (((w.alloc (sgObj x0 x1 x2 x3 x4 lk nm tk tn tf ts ta tl tc)).alloc (sgObj x0 x1 x2 x3 x4 lk nm tk tn tf ts ta tl tc)).drew).heap.size := by simp; omega
  unfold sgObj at hX ow nw z4
  have HX := hidb hX
  clear h hX
  go_enter Tryz.func20, Tryz.ntmps20
  go_wp2_with fail
  go_region_law (first
    | (refine step_app rfl (.tmp 8) (.tmp 10) 22 rfl B ST i0 (.agg #[.int .i64 0, .int .i64 0, .int .i64 0, .int .i64 0, .int .i64 0, .bool false, .string ⟨#[]⟩, .int .i64 0, .int .i64 0, .float .f64 0, .string ⟨#[]⟩, .slice none 0 0]) 12 128 Tryz.underlying22 hi hz0 hz1 hz2 rfl (by decide) (.slice q n cap) n items rfl ow ⟨w.heap.size + 1, 0, none⟩ 1 1 [.int .i64 x0, .int .i64 x1, .int .i64 x2, .int .i64 x3, .int .i64 x4, .bool lk, .string nm, .int .i64 tk, .int .i64 tn, .float .f64 tf, .string ts, .slice ta tl tc] rfl rfl nw hone z1 z2 z4 ?_; intro v' w1 hown' hgrow hat; obtain ⟨a', c', rfl⟩ := own_sl hown'; have hd := (HH.out.duo.but (But.of_below HX.out) (S := fun k => (Value.slice q n cap).ownBlock = some k) HH.out.ne).but (grown_but hgrow) HH.out.ne; have d0 := hd.c0; have e0 := hd.f0; have K := hidb (push_done HH.out HX.out hgrow hown' hat (by simp) hone); clear hd hown' hgrow hat))
  all_goals go_wp2_with fail
  all_goals exact bodyPost_end (by simp [results, Tryz.results20]) rfl ⟨rfl, _, K.out.1, K.out.2.1, K.out.2.2⟩

theorem pushS_any {w : World} {B rb k N : Nat} {V : Value} {xs : List Value} (x0 x1 x2 x3 x4 : Int) (lk : Bool) (nm : ByteArray) (tk tn : Int) (tf : Nat) (ts : ByteArray) (ta : Option Addr) (tl tc : Nat) (h : Rw ST 12 w B rb V xs k N) (hB : B ≤ w.heap.size) (hN : N ≤ 1000000) :
    Calls Tryz.prog 20 #[.pointer (some ⟨rb, 0, none⟩), .agg #[.int .i64 x0, .int .i64 x1, .int .i64 x2, .int .i64 x3, .int .i64 x4, .bool lk, .string nm, .int .i64 tk, .int .i64 tn, .float .f64 tf, .string ts, .slice ta tl tc]] w fun e w' => e = .returned (.tuple #[]) ∧ ∃ V', Rw ST 12 w' B rb V' (xs ++ [.int .i64 x0, .int .i64 x1, .int .i64 x2, .int .i64 x3, .int .i64 x4, .bool lk, .string nm, .int .i64 tk, .int .i64 tn, .float .f64 tf, .string ts, .slice ta tl tc]) (k + 1) (N + 1) ∧ But (fun k => k = rb ∨ V.ownBlock = some k) w w' ∧ Stays w V V' := by
  obtain ⟨gone, items, n, h, hx, hn, hle⟩ := h
  refine (pushS_of x0 x1 x2 x3 x4 lk nm tk tn tf ts ta tl tc h hB (by omega)).mono ?_
  rintro e w' ⟨rfl, V', h', hb, hs⟩
  refine ⟨rfl, V', ⟨gone, _, _, h', ?_, by omega, by omega⟩, hb, hs⟩
  rw [List.drop_append_of_le_length (by rw [h.own.1]; exact Nat.mul_le_mul_right _ h.le), hx]
end Go.Proofs.YtpcpdehnppfbfaaGreat


