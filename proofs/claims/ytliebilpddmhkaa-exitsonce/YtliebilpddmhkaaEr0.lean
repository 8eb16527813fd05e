/- Queues in memory. -/
import Derived.Test.YtliebilpddmhkaaBtw
import Derived.Maps.AppendAt
import Derived.Laws.AppendOwnNone
import Derived.Deep.RegionLaw
import Derived.Deep.AppendLies
import Derived.Deep.DrawnRows
import Derived.Deep.RegionHeld3
import Derived.Deep.RegionHeld2
import Derived.Deep.Cut
import Derived.Deep.LoopGhost
import Derived.BigQuiet
import Derived.Laws.OwnMore
import Derived.OneCell
namespace Go.Proofs.Ytliebilpddmhkaa
open Go.RowKit Go.Lib

theorem grown_but {X w' : World} {row : Option Nat} (h : X.grownBy w' row) : But (fun k => row = some k) X w' := ⟨h.os, h.tape, h.output, h.size, fun k hk hs => h.block k hk (fun e => hs e.symm)⟩
theorem row_but {S : Nat → Prop} {w w' : World} {B e size n : Nat} {V : Value} {xs : List Value} (h : w.ownsRow B e size V n xs) (hb : But S w w') (hV : ∀ k, V.ownBlock = some k → ¬ S k) : w'.ownsRow B e size V n xs := by
  refine ⟨h.1, ?_⟩
  rcases h.2 with hn | ⟨q, cap, cur, rfl, hB, hq, rest⟩
  · exact .inl hn
  · exact .inr ⟨q, cap, cur, rfl, hB, (hb.block q (Array.getElem?_eq_some_iff.1 hq).1 (hV q rfl)).trans hq, rest⟩
theorem row_lt {w : World} {B e size n : Nat} {V : Value} {xs : List Value} (h : w.ownsRow B e size V n xs) : ∀ k, V.ownBlock = some k → k < w.heap.size ∧ B ≤ k := by
  intro k hk
  rcases h.2 with ⟨rfl, _⟩ | ⟨q, cap, cur, rfl, hB, hq, rest⟩
  · simp [Value.ownBlock] at hk
  · simp [Value.ownBlock] at hk; subst hk; exact ⟨(Array.getElem?_eq_some_iff.1 hq).1, hB⟩
theorem grown_up {w X w' : World} {row : Option Nat} (hX : Below w.heap.size w X) (h : X.grownBy w' row) (hr : ∀ k, row = some k → w.heap.size ≤ k) : Below w.heap.size w w' :=
  ⟨h.os.trans hX.os, h.tape.trans hX.tape, h.output.trans hX.output, Nat.le_trans hX.size h.size, fun k hk => (h.block k (Nat.lt_of_lt_of_le hk hX.size) (fun e => by have := hr k e.symm; omega)).trans (hX.block k hk)⟩

/-- A queue: its block rb has a row V, of the call's own memory (from B on), and how many of it are gone. -/
structure RW (E sz : Nat) (w : World) (B rb : Nat) (V : Value) (gone : Nat) (items : List Value) (n : Nat) : Prop where
  duo : Duo w rb V (.int .i64 (gone : Int))
  own : w.ownsRow B E sz V n items
  ne : V.ownBlock ≠ some rb
  le : gone ≤ n
  one : ∀ u ∈ items, u.oneCell' = true

theorem RW.but {E sz : Nat} {S : Nat → Prop} {w w' : World} {B rb gone n : Nat} {V : Value} {items : List Value} (h : RW E sz w B rb V gone items n) (hb : But S w w') (h1 : ¬ S rb) (hV : ∀ k, V.ownBlock = some k → ¬ S k) : RW E sz w' B rb V gone items n :=
  ⟨h.duo.but hb h1, row_but h.own hb hV, h.ne, h.le, h.one⟩
theorem RW.keep {E sz : Nat} {w w' : World} {B rb gone n : Nat} {V : Value} {items : List Value} (h : RW E sz w B rb V gone items n) (hb : Below w.heap.size w w') : RW E sz w' B rb V gone items n :=
  h.but (But.of_below (S := fun _ => False) hb) (fun h => h) (fun _ _ h => h)

/-- Where a row lies: V's own block, or a new one. -/
def Stays (w : World) (V V' : Value) : Prop := V'.ownBlock = V.ownBlock ∨ ∀ k, V'.ownBlock = some k → w.heap.size ≤ k

/-- A queue that has xs: k elements; at most N lie in its row. -/
def Rw (E sz : Nat) (w : World) (B rb : Nat) (V : Value) (xs : List Value) (k N : Nat) : Prop :=
  ∃ gone items n, RW E sz w B rb V gone items n ∧ items.drop (gone * sz) = xs ∧ n = gone + k ∧ n ≤ N

theorem Rw.but {E sz : Nat} {S : Nat → Prop} {w w' : World} {B rb k N : Nat} {V : Value} {xs : List Value} (h : Rw E sz w B rb V xs k N) (hb : But S w w') (h1 : ¬ S rb) (hV : ∀ k, V.ownBlock = some k → ¬ S k) : Rw E sz w' B rb V xs k N := by
  obtain ⟨gone, items, n, h, r⟩ := h
  exact ⟨gone, items, n, h.but hb h1 hV, r⟩
theorem Rw.keep {E sz : Nat} {w w' : World} {B rb k N : Nat} {V : Value} {xs : List Value} (h : Rw E sz w B rb V xs k N) (hb : Below w.heap.size w w') : Rw E sz w' B rb V xs k N :=
  h.but (But.of_below (S := fun _ => False) hb) (fun h => h) (fun _ _ h => h)
theorem Rw.mono {E sz : Nat} {w : World} {B rb k N N' : Nat} {V : Value} {xs : List Value} (h : Rw E sz w B rb V xs k N) (hN : N ≤ N') : Rw E sz w B rb V xs k N' := by
  obtain ⟨gone, items, n, h, a, b, c⟩ := h
  exact ⟨gone, items, n, h, a, b, Nat.le_trans c hN⟩
theorem Rw.lt {E sz : Nat} {w : World} {B rb k N : Nat} {V : Value} {xs : List Value} (h : Rw E sz w B rb V xs k N) : rb < w.heap.size ∧ V.ownBlock ≠ some rb ∧ ∀ k, V.ownBlock = some k → k < w.heap.size ∧ B ≤ k := by
  obtain ⟨gone, items, n, h, _⟩ := h
  exact ⟨h.duo.lt, h.ne, row_lt h.own⟩
theorem Rw.length {E sz : Nat} {w : World} {B rb k N : Nat} {V : Value} {xs : List Value} (h : Rw E sz w B rb V xs k N) : xs.length = k * sz := by
  obtain ⟨gone, items, n, h, a, b, c⟩ := h
  rw [← a, List.length_drop, h.own.1, b, Nat.add_mul]
  omega
theorem rw_new (E sz : Nat) (w : World) (B : Nat) (t : TypeId) : Rw E sz (w.alloc (.cells #[.slice none 0 0, .int .i64 0] t)) B w.heap.size (.slice none 0 0) [] 0 0 :=
  ⟨0, [], 0, ⟨Duo.new _ _ _ _, World.ownsRow_nil _ _ _ _, by simp [Value.ownBlock], Nat.le_refl _, by simp⟩, by simp, rfl, Nat.le_refl _⟩

abbrev IT : Nat := 3
abbrev ST : Nat := 27

theorem own_sl {w : World} {C e size n : Nat} {v : Value} {xs : List Value} (h : w.ownsRow C e size v n xs) : ∃ a c, v = .slice a n c := by
  rcases h.2 with ⟨rfl, rfl⟩ | ⟨g, cap, cur, rfl, _⟩
  · exact ⟨_, _, rfl⟩
  · exact ⟨_, _, rfl⟩

/-- An append at a step of a region that draws its order. -/
theorem step_app {P : Program} {w : World} {ops : Array Oper} {o : Oper} {a : Act} {K : Act → World → Prop} {Q : Exit → Act → World → Prop} {E : Prop} (hgd : o.guard = none) (s x : Operand) (t : TypeId)
    (ho : o.op = .call { callee := .builtin .append, args := #[s, x], argTypes := #[t, t] })
    (base : Nat) (e : TypeId) (i : TypeInfo) (z : Value) (size bytes : Nat) (ht : P.underlying t = some (.slice e)) (hi : P.info? e = some i) (hz : i.zero = some z)
    (hsize : i.size = size) (hby : i.bytes = bytes) (hzs : z.cells.size = size) (hsz : 0 < size)
    (v : Value) (n : Nat) (xs : List Value) (hs : a.eval s = v) (hown : w.ownsRow base e size v n xs)
    (ad : Addr) (m c : Nat) (news : List Value) (hx : a.eval x = .slice (some ad) m c) (hl : news.length = m * size) (hnews : ∀ j u, news[j]? = some u → w.cell? (ad.add j) = some u) (h1 : ∀ u ∈ news, u.oneCell' = true)
    (h63 : n + m ≤ maxLen) (hbytes : (n + m) * bytes ≤ 140737488355328) (hbase : base ≤ w.heap.size)
    (h : ∀ v' w', w'.ownsRow base e size v' (n + m) (xs ++ news) → w.grownBy w' v.ownBlock → (v'.ownBlock = v.ownBlock ∨ v'.ownBlock = some w.heap.size) → K (a.put o.dst v') w') :
    if Region.wanted o (yielded ops a.tmps) = true then Oper.wp P o a w K Q else E := by
  have hw : Region.wanted o (yielded ops a.tmps) = true := by simp [Region.wanted, hgd]
  rw [if_pos hw]
  obtain ⟨v', w', hr, h2, h3, h4, h5⟩ := run_append_own_at (P := P) w base t o.type e i z size bytes ht hi hz hsize hby hzs hsz v n xs hown ad m c news hl hnews h1 h63 hbytes hbase
  unfold Oper.wp execOp
  simp only [ho, resolve, invoke, builtin, Sem.run_bind, Sem.run_pure, Result.andThen_ok, List.map_toArray, List.map_cons, List.map_nil, hs, hx, hr]
  exact h v' w' h2 h3 h5
theorem step_app0 {P : Program} {w : World} {ops : Array Oper} {o : Oper} {a : Act} {K : Act → World → Prop} {Q : Exit → Act → World → Prop} {E : Prop} (hgd : o.guard = none) (s x : Operand) (t : TypeId)
    (ho : o.op = .call { callee := .builtin .append, args := #[s, x], argTypes := #[t, t] })
    (base : Nat) (e : TypeId) (i : TypeInfo) (size : Nat) (ht : P.underlying t = some (.slice e)) (hi : P.info? e = some i)
    (v : Value) (n : Nat) (xs : List Value) (hs : a.eval s = v) (hown : w.ownsRow base e size v n xs) (hx : a.eval x = .slice none 0 0)
    (h : K (a.put o.dst v) w) : if Region.wanted o (yielded ops a.tmps) = true then Oper.wp P o a w K Q else E := by
  have hw : Region.wanted o (yielded ops a.tmps) = true := by simp [Region.wanted, hgd]
  rw [if_pos hw]
  have hrun := run_append_owned_none (P := P) (w := w) base t o.type e i size ht hi v n xs hown
  unfold Oper.wp
  simp [execOp, ho, resolve, invoke, builtin, hs, hx, hrun, Result.andThen]
  exact h

theorem push_done {E sz : Nat} {w X w1 : World} {B rb gone n : Nat} {V V' : Value} {items news : List Value} (h : RW E sz w B rb V gone items n) (hX : Below w.heap.size w X) (hG : X.grownBy w1 V.ownBlock) (hO : w1.ownsRow B E sz V' (n + 1) (items ++ news))
    {H : Nat} (hat : V'.ownBlock = V.ownBlock ∨ V'.ownBlock = some H) (hH : X.heap.size = H) (h1 : ∀ u ∈ news, u.oneCell' = true) :
    RW E sz (w1.setCell ⟨rb, 0, none⟩ V') B rb V' gone (items ++ news) (n + 1) ∧ But (fun k => k = rb ∨ V.ownBlock = some k) w (w1.setCell ⟨rb, 0, none⟩ V') ∧ Stays w V V' := by
  subst hH
  have hb1 : But (fun k => V.ownBlock = some k) w w1 := (But.of_below hX).trans (grown_but hG)
  have hne : V'.ownBlock ≠ some rb := by
    rcases hat with e | e
    · rw [e]; exact h.ne
    · rw [e]; intro h2
      have h3 : X.heap.size = rb := by simpa using h2
      have := h.duo.lt; have := hX.size; omega
  refine ⟨⟨(h.duo.but hb1 h.ne).set0 _, ownsRow_setCell_other hO hne _, hne, by have := h.le; omega, fun u hu => ?_⟩, (hb1.mono (fun k _ h => .inr h)).setCell (fun _ => .inl rfl) _, ?_⟩
  · rcases List.mem_append.1 hu with hu | hu
    · exact h.one u hu
    · exact h1 u hu
  · rcases hat with e | e
    · exact .inl e
    · exact .inr fun k hk => by rw [e] at hk; have h3 : X.heap.size = k := (by simpa using hk); have := hX.size; omega

theorem row_base {w : World} {B B' e size n : Nat} {V : Value} {xs : List Value} (h : w.ownsRow B' e size V n xs) (hB : B ≤ B') : w.ownsRow B e size V n xs := by
  refine ⟨h.1, ?_⟩
  rcases h.2 with hn | ⟨q, cap, cur, rfl, hq, rest⟩
  · exact .inl hn
  · exact .inr ⟨q, cap, cur, rfl, Nat.le_trans hB hq, rest⟩

/-- One more is gone. -/
theorem pop_gone {E sz : Nat} {w w2 : World} {B rb gone k : Nat} {V : Value} {items items2 : List Value} (h : RW E sz w B rb V gone items (gone + k)) (hk : 0 < k) (hO : w2.ownsRow B E sz V (gone + k) items2) (h1 : ∀ u ∈ items2, u.oneCell' = true)
    (hb : But (fun j => V.ownBlock = some j) w w2) :
    RW E sz (w2.setCell ⟨rb, 1, none⟩ (.int .i64 ((gone : Int) + 1))) B rb V (gone + 1) items2 (gone + k) ∧ But (fun j => j = rb ∨ V.ownBlock = some j) w (w2.setCell ⟨rb, 1, none⟩ (.int .i64 ((gone : Int) + 1))) := by
  refine ⟨⟨?_, ownsRow_setCell_other hO h.ne _, h.ne, by omega, h1⟩, (hb.mono (fun k _ h => .inr h)).setCell (fun _ => .inl rfl) _⟩
  have := (h.duo.but hb h.ne).set1 (.int .i64 ((gone : Int) + 1))
  exact this

/-- What is left lies in a new row. -/
theorem pop_new {E sz : Nat} {w w4 : World} {B rb gone n C : Nat} {V V' : Value} {items news : List Value} {m : Nat} (h : RW E sz w B rb V gone items n) (hb : Below w.heap.size w w4) (hO : w4.ownsRow C E sz V' m news) (hC : w.heap.size ≤ C) (hB : B ≤ C) (h1 : ∀ u ∈ news, u.oneCell' = true) :
    RW E sz ((w4.setCell ⟨rb, 0, none⟩ V').setCell ⟨rb, 1, none⟩ (.int .i64 0)) B rb V' 0 news m ∧ But (fun j => j = rb) w ((w4.setCell ⟨rb, 0, none⟩ V').setCell ⟨rb, 1, none⟩ (.int .i64 0)) ∧ Stays w V V' := by
  have hlt := h.duo.lt
  have hr := row_lt hO
  have hne : V'.ownBlock ≠ some rb := fun e => by have := (hr rb e).2; omega
  refine ⟨⟨?_, ownsRow_setCell_other (ownsRow_setCell_other (row_base hO hB) hne _) hne _, hne, Nat.zero_le _, h1⟩, ((But.of_below (S := fun j => j = rb) hb).setCell (fun _ => rfl) _).setCell (fun _ => rfl) _, .inr fun k hk => by have := (hr k hk).2; omega⟩
  have := ((h.duo.keep hb).set0 V').set1 (.int .i64 0)
  exact this
end Go.Proofs.Ytliebilpddmhkaa
