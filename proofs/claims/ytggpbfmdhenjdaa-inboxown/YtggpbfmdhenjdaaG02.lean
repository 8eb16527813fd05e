import Derived.Test.YtggpbfmdhenjdaaG01
import Derived.Maps.AppendAt
import Derived.Laws.AppendOwnNone
import Derived.Deep.RegionLaw
import Derived.Deep.AppendLies
import Derived.Deep.DrawnRows
import Derived.Deep.RegionHeld3
import Derived.Deep.RegionHeld2
import Derived.Deep.Cut
import Derived.Deep.LoopGhost
import Derived.BigQuiet
import Derived.Laws.OwnMore
import Derived.OneCell
import Derived.Laws.MakeOwn
import Derived.Laws.CopyRow
/- Queues in memory. -/
namespace Go.Proofs.Ytggpbfmdhenjdaa
open Go.RowKit Go.Lib

theorem grown_but {X w' : World} {row : Option Nat} (h : X.grownBy w' row) : But (fun k => row = some k) X w' := ⟨h.os, h.tape, h.output, h.size, fun k hk hs => h.block k hk (fun e => hs e.symm)⟩
theorem row_but {S : Nat → Prop} {w w' : World} {B e size n : Nat} {V : Value} {xs : List Value} (h : w.ownsRow B e size V n xs) (hb : But S w w') (hV : ∀ k, V.ownBlock = some k → ¬ S k) : w'.ownsRow B e size V n xs := by
  refine ⟨h.1, ?_⟩
  rcases h.2 with hn | ⟨q, cap, cur, rfl, hB, hq, rest⟩
  · exact .inl hn
  · exact .inr ⟨q, cap, cur, rfl, hB, (hb.block q (Array.getElem?_eq_some_iff.1 hq).1 (hV q rfl)).trans hq, rest⟩
theorem row_lt {w : World} {B e size n : Nat} {V : Value} {xs : List Value} (h : w.ownsRow B e size V n xs) : ∀ k, V.ownBlock = some k → k < w.heap.size ∧ B ≤ k := by
  intro k hk
  rcases h.2 with ⟨rfl, _⟩ | ⟨q, cap, cur, rfl, hB, hq, rest⟩
  · simp [Value.ownBlock] at hk
  · simp [Value.ownBlock] at hk; subst hk; exact ⟨(Array.getElem?_eq_some_iff.1 hq).1, hB⟩
theorem grown_up {w X w' : World} {row : Option Nat} (hX : Below w.heap.size w X) (h : X.grownBy w' row) (hr : ∀ k, row = some k → w.heap.size ≤ k) : Below w.heap.size w w' :=
  ⟨h.os.trans hX.os, h.tape.trans hX.tape, h.output.trans hX.output, Nat.le_trans hX.size h.size, fun k hk => (h.block k (Nat.lt_of_lt_of_le hk hX.size) (fun e => by have := hr k e.symm; omega)).trans (hX.block k hk)⟩

/-- A queue: its block rb has a row V, of the call's own memory (from B on), and how many of it are gone. -/
structure RW (E sz : Nat) (w : World) (B rb : Nat) (V : Value) (gone : Nat) (items : List Value) (n : Nat) : Prop where
  duo : Duo w rb V (.int .i64 (gone : Int))
  own : w.ownsRow B E sz V n items
  ne : V.ownBlock ≠ some rb
  le : gone ≤ n
  one : ∀ u ∈ items, u.oneCell' = true

theorem RW.but {E sz : Nat} {S : Nat → Prop} {w w' : World} {B rb gone n : Nat} {V : Value} {items : List Value} (h : RW E sz w B rb V gone items n) (hb : But S w w') (h1 : ¬ S rb) (hV : ∀ k, V.ownBlock = some k → ¬ S k) : RW E sz w' B rb V gone items n :=
  ⟨h.duo.but hb h1, row_but h.own hb hV, h.ne, h.le, h.one⟩
theorem RW.keep {E sz : Nat} {w w' : World} {B rb gone n : Nat} {V : Value} {items : List Value} (h : RW E sz w B rb V gone items n) (hb : Below w.heap.size w w') : RW E sz w' B rb V gone items n :=
  h.but (But.of_below (S := fun _ => False) hb) (fun h => h) (fun _ _ h => h)

/-- Where a row lies: V's own block, or a new one. -/
def Stays (w : World) (V V' : Value) : Prop := V'.ownBlock = V.ownBlock ∨ ∀ k, V'.ownBlock = some k → w.heap.size ≤ k

/-- A queue that has xs: k elements; at most N lie in its row. -/
def Rw (E sz : Nat) (w : World) (B rb : Nat) (V : Value) (xs : List Value) (k N : Nat) : Prop :=
  ∃ gone items n, RW E sz w B rb V gone items n ∧ items.drop (gone * sz) = xs ∧ n = gone + k ∧ n ≤ N

theorem Rw.but {E sz : Nat} {S : Nat → Prop} {w w' : World} {B rb k N : Nat} {V : Value} {xs : List Value} (h : Rw E sz w B rb V xs k N) (hb : But S w w') (h1 : ¬ S rb) (hV : ∀ k, V.ownBlock = some k → ¬ S k) : Rw E sz w' B rb V xs k N := by
  obtain ⟨gone, items, n, h, r⟩ := h
  exact ⟨gone, items, n, h.but hb h1 hV, r⟩
theorem Rw.keep {E sz : Nat} {w w' : World} {B rb k N : Nat} {V : Value} {xs : List Value} (h : Rw E sz w B rb V xs k N) (hb : Below w.heap.size w w') : Rw E sz w' B rb V xs k N :=
  h.but (But.of_below (S := fun _ => False) hb) (fun h => h) (fun _ _ h => h)
theorem Rw.mono {E sz : Nat} {w : World} {B rb k N N' : Nat} {V : Value} {xs : List Value} (h : Rw E sz w B rb V xs k N) (hN : N ≤ N') : Rw E sz w B rb V xs k N' := by
  obtain ⟨gone, items, n, h, a, b, c⟩ := h
  exact ⟨gone, items, n, h, a, b, Nat.le_trans c hN⟩
theorem Rw.lt {E sz : Nat} {w : World} {B rb k N : Nat} {V : Value} {xs : List Value} (h : Rw E sz w B rb V xs k N) : rb < w.heap.size ∧ V.ownBlock ≠ some rb ∧ ∀ k, V.ownBlock = some k → k < w.heap.size ∧ B ≤ k := by
  obtain ⟨gone, items, n, h, _⟩ := h
  exact ⟨h.duo.lt, h.ne, row_lt h.own⟩
theorem Rw.length {E sz : Nat} {w : World} {B rb k N : Nat} {V : Value} {xs : List Value} (h : Rw E sz w B rb V xs k N) : xs.length = k * sz := by
  obtain ⟨gone, items, n, h, a, b, c⟩ := h
  rw [← a, List.length_drop, h.own.1, b, Nat.add_mul]
  omega
theorem rw_new (E sz : Nat) (w : World) (B : Nat) (t : TypeId) : Rw E sz (w.alloc (.cells #[.slice none 0 0, .int .i64 0] t)) B w.heap.size (.slice none 0 0) [] 0 0 :=
  ⟨0, [], 0, ⟨Duo.new _ _ _ _, World.ownsRow_nil _ _ _ _, by simp [Value.ownBlock], Nat.le_refl _, by simp⟩, by simp, rfl, Nat.le_refl _⟩

abbrev IT : Nat := 3
theorem own_sl {w : World} {C e size n : Nat} {v : Value} {xs : List Value} (h : w.ownsRow C e size v n xs) : ∃ a c, v = .slice a n c := by
  rcases h.2 with ⟨rfl, rfl⟩ | ⟨g, cap, cur, rfl, _⟩
  · exact ⟨_, _, rfl⟩
  · exact ⟨_, _, rfl⟩

/-- An append at a step of a region that draws its order. -/
theorem step_app {P : Program} {w : World} {ops : Array Oper} {o : Oper} {a : Act} {K : Act → World → Prop} {Q : Exit → Act → World → Prop} {E : Prop} (hgd : o.guard = none) (s x : Operand) (t : TypeId)
    (ho : o.op = .call { callee := .builtin .append, args := #[s, x], argTypes := #[t, t] })
    (base : Nat) (e : TypeId) (i : TypeInfo) (z : Value) (size bytes : Nat) (ht : P.underlying t = some (.slice e)) (hi : P.info? e = some i) (hz : i.zero = some z)
    (hsize : i.size = size) (hby : i.bytes = bytes) (hzs : z.cells.size = size) (hsz : 0 < size)
    (v : Value) (n : Nat) (xs : List Value) (hs : a.eval s = v) (hown : w.ownsRow base e size v n xs)
    (ad : Addr) (m c : Nat) (news : List Value) (hx : a.eval x = .slice (some ad) m c) (hl : news.length = m * size) (hnews : ∀ j u, news[j]? = some u → w.cell? (ad.add j) = some u) (h1 : ∀ u ∈ news, u.oneCell' = true)
    (h63 : n + m ≤ maxLen) (hbytes : (n + m) * bytes ≤ 140737488355328) (hbase : base ≤ w.heap.size)
    (h : ∀ v' w', w'.ownsRow base e size v' (n + m) (xs ++ news) → w.grownBy w' v.ownBlock → (v'.ownBlock = v.ownBlock ∨ v'.ownBlock = some w.heap.size) → K (a.put o.dst v') w') :
    if Region.wanted o (yielded ops a.tmps) = true then Oper.wp P o a w K Q else E := by
  have hw : Region.wanted o (yielded ops a.tmps) = true := by simp [Region.wanted, hgd]
  rw [if_pos hw]
  obtain ⟨v', w', hr, h2, h3, h4, h5⟩ := run_append_own_at (P := P) w base t o.type e i z size bytes ht hi hz hsize hby hzs hsz v n xs hown ad m c news hl hnews h1 h63 hbytes hbase
  unfold Oper.wp execOp
  simp only [ho, resolve, invoke, builtin, Sem.run_bind, Sem.run_pure, Result.andThen_ok, List.map_toArray, List.map_cons, List.map_nil, hs, hx, hr]
  exact h v' w' h2 h3 h5
theorem step_app0 {P : Program} {w : World} {ops : Array Oper} {o : Oper} {a : Act} {K : Act → World → Prop} {Q : Exit → Act → World → Prop} {E : Prop} (hgd : o.guard = none) (s x : Operand) (t : TypeId)
    (ho : o.op = .call { callee := .builtin .append, args := #[s, x], argTypes := #[t, t] })
    (base : Nat) (e : TypeId) (i : TypeInfo) (size : Nat) (ht : P.underlying t = some (.slice e)) (hi : P.info? e = some i)
    (v : Value) (n : Nat) (xs : List Value) (hs : a.eval s = v) (hown : w.ownsRow base e size v n xs) (hx : a.eval x = .slice none 0 0)
    (h : K (a.put o.dst v) w) : if Region.wanted o (yielded ops a.tmps) = true then Oper.wp P o a w K Q else E := by
  have hw : Region.wanted o (yielded ops a.tmps) = true := by simp [Region.wanted, hgd]
  rw [if_pos hw]
  have hrun := run_append_owned_none (P := P) (w := w) base t o.type e i size ht hi v n xs hown
  unfold Oper.wp
  simp [execOp, ho, resolve, invoke, builtin, hs, hx, hrun, Result.andThen]
  exact h

theorem push_done {E sz : Nat} {w X w1 : World} {B rb gone n : Nat} {V V' : Value} {items news : List Value} (h : RW E sz w B rb V gone items n) (hX : Below w.heap.size w X) (hG : X.grownBy w1 V.ownBlock) (hO : w1.ownsRow B E sz V' (n + 1) (items ++ news))
    {H : Nat} (hat : V'.ownBlock = V.ownBlock ∨ V'.ownBlock = some H) (hH : X.heap.size = H) (h1 : ∀ u ∈ news, u.oneCell' = true) :
    RW E sz (w1.setCell ⟨rb, 0, none⟩ V') B rb V' gone (items ++ news) (n + 1) ∧ But (fun k => k = rb ∨ V.ownBlock = some k) w (w1.setCell ⟨rb, 0, none⟩ V') ∧ Stays w V V' := by
  subst hH
  have hb1 : But (fun k => V.ownBlock = some k) w w1 := (But.of_below hX).trans (grown_but hG)
  have hne : V'.ownBlock ≠ some rb := by
    rcases hat with e | e
    · rw [e]; exact h.ne
    · rw [e]; intro h2
      have h3 : X.heap.size = rb := by simpa using h2
      have := h.duo.lt; have := hX.size; omega
  refine ⟨⟨(h.duo.but hb1 h.ne).set0 _, ownsRow_setCell_other hO hne _, hne, by have := h.le; omega, fun u hu => ?_⟩, (hb1.mono (fun k _ h => .inr h)).setCell (fun _ => .inl rfl) _, ?_⟩
  · rcases List.mem_append.1 hu with hu | hu
    · exact h.one u hu
    · exact h1 u hu
  · rcases hat with e | e
    · exact .inl e
    · exact .inr fun k hk => by rw [e] at hk; have h3 : X.heap.size = k := (by simpa using hk); have := hX.size; omega

theorem row_base {w : World} {B B' e size n : Nat} {V : Value} {xs : List Value} (h : w.ownsRow B' e size V n xs) (hB : B ≤ B') : w.ownsRow B e size V n xs := by
  refine ⟨h.1, ?_⟩
  rcases h.2 with hn | ⟨q, cap, cur, rfl, hq, rest⟩
  · exact .inl hn
  · exact .inr ⟨q, cap, cur, rfl, Nat.le_trans hB hq, rest⟩

/-- One more is gone. -/
theorem pop_gone {E sz : Nat} {w w2 : World} {B rb gone k : Nat} {V : Value} {items items2 : List Value} (h : RW E sz w B rb V gone items (gone + k)) (hk : 0 < k) (hO : w2.ownsRow B E sz V (gone + k) items2) (h1 : ∀ u ∈ items2, u.oneCell' = true)
    (hb : But (fun j => V.ownBlock = some j) w w2) :
    RW E sz (w2.setCell ⟨rb, 1, none⟩ (.int .i64 ((gone : Int) + 1))) B rb V (gone + 1) items2 (gone + k) ∧ But (fun j => j = rb ∨ V.ownBlock = some j) w (w2.setCell ⟨rb, 1, none⟩ (.int .i64 ((gone : Int) + 1))) := by
  refine ⟨⟨?_, ownsRow_setCell_other hO h.ne _, h.ne, by omega, h1⟩, (hb.mono (fun k _ h => .inr h)).setCell (fun _ => .inl rfl) _⟩
  have := (h.duo.but hb h.ne).set1 (.int .i64 ((gone : Int) + 1))
  exact this

/-- What is left lies in a new row. -/
theorem pop_new {E sz : Nat} {w w4 : World} {B rb gone n C : Nat} {V V' : Value} {items news : List Value} {m : Nat} (h : RW E sz w B rb V gone items n) (hb : Below w.heap.size w w4) (hO : w4.ownsRow C E sz V' m news) (hC : w.heap.size ≤ C) (hB : B ≤ C) (h1 : ∀ u ∈ news, u.oneCell' = true) :
    RW E sz ((w4.setCell ⟨rb, 0, none⟩ V').setCell ⟨rb, 1, none⟩ (.int .i64 0)) B rb V' 0 news m ∧ But (fun j => j = rb) w ((w4.setCell ⟨rb, 0, none⟩ V').setCell ⟨rb, 1, none⟩ (.int .i64 0)) ∧ Stays w V V' := by
  have hlt := h.duo.lt
  have hr := row_lt hO
  have hne : V'.ownBlock ≠ some rb := fun e => by have := (hr rb e).2; omega
  refine ⟨⟨?_, ownsRow_setCell_other (ownsRow_setCell_other (row_base hO hB) hne _) hne _, hne, Nat.zero_le _, h1⟩, ((But.of_below (S := fun j => j = rb) hb).setCell (fun _ => rfl) _).setCell (fun _ => rfl) _, .inr fun k hk => by have := (hr k hk).2; omega⟩
  have := ((h.duo.keep hb).set0 V').set1 (.int .i64 0)
  exact this
end Go.Proofs.Ytggpbfmdhenjdaa


/- term.copyList on any row of terms. -/
namespace Go.Proofs.Ytggpbfmdhenjdaa
open Go.RowKit Go.Lib
attribute [local go_sem] store_float f64bits
attribute [local go_sem ↓] Go.wp_at_zero Go.wp_at_succ

abbrev TT : Nat := 27
abbrev TS : Nat := 22

theorem infoT : ∃ i0, Try.prog.info? TT = some i0 ∧ i0.zero = some (.agg #[.int .i64 0, .int .i64 0, .float .f64 0, .string ⟨#[]⟩, .slice none 0 0]) ∧ i0.size = 5 ∧ i0.bytes = 64 := by
  obtain ⟨i0, hi, hz0, hz1, hz2⟩ := info_parts (P := Try.prog) (e := TT) (z := .agg #[.int .i64 0, .int .i64 0, .float .f64 0, .string ⟨#[]⟩, .slice none 0 0]) (size := 5) (bytes := 64) (by kernel_rfl)
  exact ⟨i0, hi, hz0, hz1, hz2⟩

theorem run_copy_terms (w : World) (ty : TypeId) (g n dCap : Nat) (a : Addr) (sCap : Nat) (cur : Array Value) (t : TypeId) (cs : List Value)
    (hg : w.heap[g]? = some (.cells cur t (0, 0))) (hn : cs.length = n * 5) (hsrc : ∀ j v, cs[j]? = some v → w.cell? (a.add j) = some v) (hfit : cur.size = n * 5) (h1 : ∀ v ∈ cs, v.oneCell' = true) :
    (Builtin.copy_ #[TS, TS] ty #[.slice (some ⟨g, 0, none⟩) n dCap, .slice (some a) n sCap]).run Try.prog w = .ok (goInt n) (w.setRow g cs.toArray) := by
  obtain ⟨i, hq, -, hi, -⟩ := infoT
  have hl := run_loadCells_list (P := Try.prog) w a cs hsrc
  have hst := run_storeCells_at Try.prog g 0 t cs 0 cur w hg (by omega) h1
  have e1 : cur.toList.drop (0 + 0 + cs.length) = [] := List.drop_eq_nil_of_le (by rw [Array.length_toList]; omega)
  rw [e1] at hst
  simp only [Nat.add_zero, List.take_zero, List.nil_append, List.append_nil] at hst
  have hmin : Nat.min n n = n := Nat.min_self n
  simp [Builtin.copy_, run_underlying Try.underlying22, Builtin.lenOf, Builtin.firstCells, sizeOf, typeInfo, hq, hi, ← hn, hl, hst]

theorem copyList_none (a : Option Addr) (c : Nat) (w : World) : Calls Try.prog 38 #[.slice a 0 c] w fun e w' => e = .returned (.slice none 0 0) ∧ w' = w := by
  go_enter Try.func38, Try.ntmps38
  go_wp2
  go_ret
  exact ⟨rfl, rfl⟩

set_option maxHeartbeats 1000000 in
set_option maxRecDepth 100000 in
theorem copyList_any (w : World) (a : Addr) (n c : Nat) (cs : List Value) (hn : cs.length = n * 5) (h0 : 0 < n) (hb : n ≤ 1000000000000) (hsrc : ∀ j v, cs[j]? = some v → w.cell? (a.add j) = some v) (h1 : ∀ v ∈ cs, v.oneCell' = true) :
    Calls Try.prog 38 #[.slice (some a) n c] w fun e w' => e = .returned (.slice (some ⟨w.heap.size, 0, none⟩) n n) ∧ w' = w.alloc (.cells cs.toArray TT) := by
  obtain ⟨i0, hi, hz0, hz1, hz2⟩ := infoT
  have hmk := run_make (P := Try.prog) w TS TT i0 _ Try.underlying22 hi hz0 .i64 .i64 (n : Int) (n : Int) (by omega) (by omega) (by rw [hz2]; omega) (by omega)
  simp only [Int.toNat_natCast, hz1] at hmk
  generalize hzz : madeCells (Value.agg #[.int .i64 0, .int .i64 0, .float .f64 0, .string ⟨#[]⟩, .slice none 0 0]).cells (n * 5) = zs at hmk
  have hzl : zs.size = n * 5 := by rw [← hzz]; exact size_madeCells _ _
  have hcp := fun ty => run_copy_terms (w.alloc (.cells zs TT)) ty w.heap.size n n a c zs TT cs (MapKept.heap_alloc w _).1 hn (fun j v hj => by
    have := hsrc j v hj
    rw [← this]
    exact World.cell?_of_block (w := w) (Below.heap_alloc _ _ _ (World.block_lt_of_cell? w _ this))) hzl h1
  have hset : (w.alloc (.cells zs TT)).setRow w.heap.size cs.toArray = w.alloc (.cells cs.toArray TT) := by
    cases w with
    | mk heap tape drawn os output =>
      simp only [World.setRow, World.alloc]
      congr 1
      apply Array.ext
      · simp
      · intro k h1 h2
        simp only [Array.getElem_modify, Array.getElem_push]
        split
        · rename_i hk; subst hk; simp
        · rename_i hk
          split
          · rfl
          · simp at h1; omega
  simp only [hset] at hcp
  have hz : ((n : Int) == 0) = false := by simp; omega
  clear hsrc h1 hzl hzz hn h0 hset hz0 hi
  go_enter Try.func38, Try.ntmps38
  go_wp2_with fail
  go_ret
  exact ⟨rfl, rfl⟩

theorem box_set4 {w : World} {b : Nat} {v0 v1 v2 v3 v4 : Value} (h : Box w b v0 v1 v2 v3 v4) (u : Value) : Box (w.setCell ⟨b, 4, none⟩ u) b v0 v1 v2 v3 u :=
  ⟨by rw [World.cell?_setCell_other _ _ _ _ (ne_off3 _ _ _ (by decide))]; exact h.c0, by rw [World.cell?_setCell_other _ _ _ _ (ne_off3 _ _ _ (by decide))]; exact h.c1, by rw [World.cell?_setCell_other _ _ _ _ (ne_off3 _ _ _ (by decide))]; exact h.c2, by rw [World.cell?_setCell_other _ _ _ _ (ne_off3 _ _ _ (by decide))]; exact h.c3, World.cell?_setCell_same _ _ _ h.c4,
    by rw [World.frozen?_setCell]; exact h.f0, by rw [World.frozen?_setCell]; exact h.f1, by rw [World.frozen?_setCell]; exact h.f2, by rw [World.frozen?_setCell]; exact h.f3, by rw [World.frozen?_setCell]; exact h.f4, by simp [World.setCell]; exact h.lt⟩

/-- What a term without elements is copied to. -/
theorem copyAll_look (w : World) (b : Nat) (k n : Int) (f : Nat) (s : ByteArray) (a : Option Addr) (c : Nat) (h : Box w b (.int .i64 k) (.int .i64 n) (.float .f64 f) (.string s) (.slice a 0 c)) :
    Calls Try.prog 33 #[.slice (some ⟨b, 0, none⟩) 1 1] w fun e w' => ∃ g, e = .returned (.slice (some ⟨g, 0, none⟩) 1 1) ∧ Box w' g (.int .i64 k) (.int .i64 n) (.float .f64 f) (.string s) (.slice none 0 0) ∧ Below w.heap.size w w' := by
  obtain ⟨c0, c1, c2, c3, c4, -, -, -, -, -, hlt⟩ := h
  have CL := hidb (copyList_any w ⟨b, 0, none⟩ 1 1 [.int .i64 k, .int .i64 n, .float .f64 f, .string s, .slice a 0 c] rfl (by omega) (by omega) (by
    intro j v hj
    match j, hj with
    | 0, hj => simp at hj; subst hj; simpa [Addr.add] using c0
    | 1, hj => simp at hj; subst hj; simpa [Addr.add] using c1
    | 2, hj => simp at hj; subst hj; simpa [Addr.add] using c2
    | 3, hj => simp at hj; subst hj; simpa [Addr.add] using c3
    | 4, hj => simp at hj; subst hj; simpa [Addr.add] using c4
    | j + 5, hj => simp at hj) (by intro u hu; simp at hu; rcases hu with rfl | rfl | rfl | rfl | rfl <;> rfl))
  have CN := hidb (fun w' => copyList_none a c w')
  clear c0 c1 c2 c3 c4
  go_enter Try.func33, Try.ntmps33
  go_wp2_with (first
    | (go_at_call 38; refine CL.out.mono ?_; rintro e w1 ⟨rfl, rfl⟩; clear CL))
  go_loopw [4] (fun wv wr => (wv = .slice (some ⟨w.heap.size + 1, 0, none⟩) 1 1 ∧ wr = (w.alloc (.cells #[.int .i64 k, .int .i64 n, .float .f64 f, .string s, .slice a 0 c] 27)).alloc (.cells #[.slice (some ⟨w.heap.size, 0, none⟩) 1 1] 22)) ∨
      ((∃ q c, wv = .slice q 0 c) ∧ Box wr w.heap.size (.int .i64 k) (.int .i64 n) (.float .f64 f) (.string s) (.slice none 0 0) ∧ Below w.heap.size w wr)) (fun wv _ => match wv with | .slice _ n _ => n | _ => 0)
  case atStart => exact .inl ⟨rfl, rfl⟩
  case round =>
  rcases hrel with ⟨rfl, rfl⟩ | ⟨⟨q, c', rfl⟩, hbx, hbel⟩
  · go_wp2_with (first
      | (go_at_call 38; refine (CN.out _).mono ?_; rintro e w1 ⟨rfl, rfl⟩))
    have hX := Box.alloc (Box.new w 27 (.int .i64 k) (.int .i64 n) (.float .f64 f) (.string s) (.slice a 0 c)) (.cells #[.slice (some ⟨w.heap.size, 0, none⟩) 1 1] 22)
    have hB : Below w.heap.size w ((w.alloc (.cells #[.int .i64 k, .int .i64 n, .float .f64 f, .string s, .slice a 0 c] 27)).alloc (.cells #[.slice (some ⟨w.heap.size, 0, none⟩) 1 1] 22)) := (below_new w _).alloc (by simp) _
    have HX := hidb hX
    have HB := hidb hB
    generalize (w.alloc (.cells #[.int .i64 k, .int .i64 n, .float .f64 f, .string s, .slice a 0 c] 27)).alloc (.cells #[.slice (some ⟨w.heap.size, 0, none⟩) 1 1] 22) = W at *
    clear hX hB
    go_loopw [4, 27] (fun wv iv wr => (∃ q c, wv = .slice q 0 c) ∧ ((iv = .int .i64 0 ∧ wr = W) ∨ (iv = .int .i64 1 ∧ Box wr w.heap.size (.int .i64 k) (.int .i64 n) (.float .f64 f) (.string s) (.slice none 0 0) ∧ Below w.heap.size w wr))) (fun _ iv _ => 1 - (intOf iv).toNat)
    case atStart => exact ⟨⟨_, _, rfl⟩, .inl ⟨rfl, rfl⟩⟩
    case round =>
    obtain ⟨⟨qw, cw, rfl⟩, hrel⟩ := hrel
    rcases hrel with ⟨rfl, rfl⟩ | ⟨rfl, hbx, hbel⟩
    · obtain ⟨c0, c1, c2, c3, c4, f0, f1, f2, f3, f4, hlw⟩ := HX.out
      go_wp2_with (first
        | (go_at_call 38; refine (CN.out _).mono ?_; rintro e w1 ⟨rfl, rfl⟩))
      go_roundw
      case rel => exact ⟨⟨_, _, rfl⟩, .inr ⟨rfl, box_set4 HX.out _, HB.out.setCell (Nat.le_refl _) _⟩⟩
      case measure => simp [intOf]
    · have HBX := hidb hbx
      have HB2 := hidb hbel
      clear hbx hbel HX HB
      go_wp2_with fail
      go_roundw
      case rel => exact .inr ⟨⟨_, _, rfl⟩, HBX.out, HB2.out⟩
      case measure => simp
  · have HBX := hidb hbx
    have HB := hidb hbel
    clear hbx hbel
    go_wp2_with fail
    go_ret
    exact ⟨_, rfl, HBX.out, HB.out⟩

/-- term.Copy of a term without elements. -/
theorem copy_leaf (w : World) (k n : Int) (f : Nat) (s : ByteArray) (a : Option Addr) (c : Nat) : Calls Try.prog 23 #[.agg #[.int .i64 k, .int .i64 n, .float .f64 f, .string s, .slice a 0 c]] w fun e w' => e = .returned (.agg #[.int .i64 k, .int .i64 n, .float .f64 f, .string s, .slice none 0 0]) ∧ Below w.heap.size w w' := by
  have bx : Box (((w.alloc (.cells #[.int .i64 k, .int .i64 n, .float .f64 f, .string s, .slice a 0 c] TT)).alloc (.cells #[.int .i64 0, .int .i64 0, .float .f64 0, .string ⟨#[]⟩, .slice none 0 0] TT)).alloc (.cells #[.int .i64 k, .int .i64 n, .float .f64 f, .string s, .slice a 0 c] TT)) (w.heap.size + 1 + 1) (.int .i64 k) (.int .i64 n) (.float .f64 f) (.string s) (.slice a 0 c) := by
    have := Box.new ((w.alloc (.cells #[.int .i64 k, .int .i64 n, .float .f64 f, .string s, .slice a 0 c] TT)).alloc (.cells #[.int .i64 0, .int .i64 0, .float .f64 0, .string ⟨#[]⟩, .slice none 0 0] TT)) TT (.int .i64 k) (.int .i64 n) (.float .f64 f) (.string s) (.slice a 0 c)
    simpa using this
  have rx : Box (((w.alloc (.cells #[.int .i64 k, .int .i64 n, .float .f64 f, .string s, .slice a 0 c] TT)).alloc (.cells #[.int .i64 0, .int .i64 0, .float .f64 0, .string ⟨#[]⟩, .slice none 0 0] TT)).alloc (.cells #[.int .i64 k, .int .i64 n, .float .f64 f, .string s, .slice a 0 c] TT)) (w.heap.size + 1) (.int .i64 0) (.int .i64 0) (.float .f64 0) (.string ⟨#[]⟩) (.slice none 0 0) := by
    have := (Box.new (w.alloc (.cells #[.int .i64 k, .int .i64 n, .float .f64 f, .string s, .slice a 0 c] TT)) TT (.int .i64 0) (.int .i64 0) (.float .f64 0) (.string ⟨#[]⟩) (.slice none 0 0)).alloc (.cells #[.int .i64 k, .int .i64 n, .float .f64 f, .string s, .slice a 0 c] TT)
    simpa using this
  have bw : Below w.heap.size w (((w.alloc (.cells #[.int .i64 k, .int .i64 n, .float .f64 f, .string s, .slice a 0 c] TT)).alloc (.cells #[.int .i64 0, .int .i64 0, .float .f64 0, .string ⟨#[]⟩, .slice none 0 0] TT)).alloc (.cells #[.int .i64 k, .int .i64 n, .float .f64 f, .string s, .slice a 0 c] TT)) := ((below_new w _).alloc (by simp) _).alloc (by simp; omega) _
  have CA := hidb (copyAll_look _ _ k n f s a c bx)
  have RX := hidb rx
  have BW := hidb bw
  clear bx rx bw
  go_enter Try.func23, Try.ntmps23
  go_wp2_with (first | (go_at_call 33; refine CA.out.mono ?_; rintro e w1 ⟨g, rfl, hbx, hb⟩; obtain ⟨q0, q1, q2, q3, q4, -, -, -, -, -, -⟩ := hbx; obtain ⟨r0, r1, r2, r3, r4, g0, g1, g2, g3, g4, -⟩ := RX.out.keep hb; have HB := hidb (BW.out.trans (hb.mono BW.out.size)); clear hb CA RX BW))
  exact bodyPost_ret (v := .agg #[.int .i64 k, .int .i64 n, .float .f64 f, .string s, .slice none 0 0]) (by simp [results, Try.results23, go_sem, r0, r1, r2, r3, r4]) rfl ⟨rfl, ((((HB.out.setCell (by simp) _).setCell (by simp) _).setCell (by simp) _).setCell (by simp) _).setCell (by simp) _⟩
end Go.Proofs.Ytggpbfmdhenjdaa


