/- EtherOrder: what its last loops keep. -/
import Derived.Test.YtapjnnbcphpokaaGreatLE2
namespace Go.Proofs.YtapjnnbcphpokaaGreat
open Go.RowKit Go.Lib Go.Maps

theorem tot_app {put got rem : Nat → List Int} (h : ∀ n, n < 4 → put n = got n ++ rem n) : tot put = tot got + tot rem := by
  unfold tot
  rw [h 0 (by omega), h 1 (by omega), h 2 (by omega), h 3 (by omega)]
  simp
  omega

theorem lvs_at {rs : List (Int × Int × Value)} {m : Nat} {x : Int × Int × Value} (h : rs[m]? = some x) : (lvs rs)[m * 3]? = some (.int .i64 x.1) ∧ (lvs rs)[m * 3 + 2]? = some x.2.2 := by
  induction rs generalizing m with
  | nil => simp at h
  | cons y r ih =>
    cases m with
    | zero => simp at h; subst h; simp [lvs]
    | succ m =>
      obtain ⟨h1, h2⟩ := ih (m := m) (by simpa using h)
      have e : lvs (y :: r) = [.int .i64 y.1, .int .i64 y.2.1, y.2.2] ++ lvs r := by simp [lvs]
      rw [e]
      constructor
      · rw [show (m + 1) * 3 = (m * 3) + 3 by omega]; simpa using h1
      · rw [show (m + 1) * 3 + 2 = (m * 3 + 2) + 3 by omega]; simpa using h2

/-- What the last loops keep: j lanes are gone over. -/
structure GI (w w3 wr : World) (C0 eb pb gb : Nat) (mv : Value) (f : Int → Int → Option Lane) (N : Nat) (pv gv : Nat → Value) (ks : List (Int × Int)) (put got got' rem : Nat → List Int) (j lf : Nat) : Prop where
  o : OI w wr eb pb gb mv f N pv gv put got' rem
  b : But (fun q => q < C0) w3 wr
  far : ∀ q, AF gb gv q → q < C0 ∨ w3.heap.size ≤ q
  g : ∀ n, n < 4 → got' n = if ((n : Int), toN n) ∈ ks.take j then put n else got n
  l : lf + tot got = tot got'

variable {w w3 wr w' : World} {C0 eb pb gb N j lf n k : Nat} {mv : Value} {f : Int → Int → Option Lane} {pv gv : Nat → Value} {ks : List (Int × Int)} {put got got' rem : Nat → List Int}

/-- In the midst of a lane: k of its signals are gone over. -/
structure GJ (w w3 wr : World) (C0 eb pb gb : Nat) (mv : Value) (f : Int → Int → Option Lane) (N : Nat) (pv gv : Nat → Value) (put got got' rem : Nat → List Int) (n k : Nat) : Prop where
  o : OI w wr eb pb gb mv f N pv gv put (updV got' n (got n ++ (rem n).take k)) rem
  b : But (fun q => q < C0) w3 wr
  far : ∀ q, AF gb gv q → q < C0 ∨ w3.heap.size ≤ q

theorem key_ne {n n' : Nat} (h : n ≠ n') : ((n : Int), toN n) ≠ ((n' : Int), toN n') := fun e => h (by have := (Prod.mk.inj e).1; omega)

theorem updV_self {α : Type} (vs : Nat → α) (n : Nat) : updV vs n (vs n) = vs := by
  funext i
  unfold updV
  split
  · rename_i h; rw [h]
  · rfl

theorem GI.into (h : GI w w3 wr C0 eb pb gb mv f N pv gv ks put got got' rem j lf) (hn : n < 4) (hnd : ks.Nodup) (hk : ks[j]? = some ((n : Int), toN n)) : GJ w w3 wr C0 eb pb gb mv f N pv gv put got got' rem n 0 := by
  refine ⟨?_, h.b, h.far⟩
  have hno : ((n : Int), toN n) ∉ ks.take j := by
    intro hm
    obtain ⟨i, hi, e⟩ := List.getElem_of_mem hm
    rw [List.getElem_take] at e
    have hij : i < j := by simp at hi; omega
    have hil : i < ks.length := by simp at hi; omega
    have hjl : j < ks.length := (List.getElem?_eq_some_iff.1 hk).1
    have ej := (List.getElem?_eq_some_iff.1 hk).2
    have := (List.getElem_inj (h₀ := hil) (h₁ := hjl) hnd).1 (e.trans ej.symm)
    omega
  have e := h.g n hn
  rw [if_neg hno] at e
  rw [List.take_zero, List.append_nil, ← e, updV_self]
  exact h.o

theorem GJ.done {wz : World} {gv' : Nat → Value} (h : GJ w w3 wz C0 eb pb gb mv f N pv gv' put got got' rem n (rem n).length) (h0 : GI w w3 wr C0 eb pb gb mv f N pv gv ks put got got' rem j lf) (hn : n < 4) (hnd : ks.Nodup) (hk : ks[j]? = some ((n : Int), toN n)) (heq : ∀ n, n < 4 → put n = got n ++ rem n) :
    GI w w3 wz C0 eb pb gb mv f N pv gv' ks put got (updV got' n (put n)) rem (j + 1) (lf + (rem n).length) := by
  have ho := h.o
  rw [List.take_length, ← heq n hn] at ho
  have hst := (h0.into hn hnd hk)
  have hgn : got' n = got n := by
    have hno : ((n : Int), toN n) ∉ ks.take j := by
      intro hm
      obtain ⟨i, hi, e⟩ := List.getElem_of_mem hm
      rw [List.getElem_take] at e
      have hij : i < j := by simp at hi; omega
      have hil : i < ks.length := by simp at hi; omega
      have hjl : j < ks.length := (List.getElem?_eq_some_iff.1 hk).1
      have ej := (List.getElem?_eq_some_iff.1 hk).2
      have := (List.getElem_inj (h₀ := hil) (h₁ := hjl) hnd).1 (e.trans ej.symm)
      omega
    have e := h0.g n hn
    rwa [if_neg hno] at e
  refine ⟨ho, h.b, h.far, fun i hi => ?_, ?_⟩
  · rw [List.take_add_one, hk]
    by_cases e : i = n
    · subst e; rw [updV_same, if_pos (by simp)]
    · rw [updV_other _ _ _ _ e, h0.g i hi]
      have := key_ne e
      simp [List.mem_append, this]
  · have h1 := tot_upd got' n hn (put n)
    have h2 := h0.l
    rw [hgn, heq n hn] at h1
    rw [heq n hn]
    simp at h1
    omega

theorem GI.all (h : GI w w3 wr C0 eb pb gb mv f N pv gv ks put got got' rem ks.length lf) (hk : LKeys f ks) (heq : ∀ n, n < 4 → put n = got n ++ rem n) : (∀ n, n < 4 → got' n = put n) ∧ lf = tot rem := by
  have h1 : ∀ n, n < 4 → got' n = put n := by
    intro n hn
    rw [h.g n hn, List.take_length]
    by_cases e : rem n = []
    · rw [heq n hn, e]; simp
    · obtain ⟨l, hl, _⟩ := h.o.li.yes n hn e
      have hw1 : wfi (n : Int) ∧ wfi (toN n) := by
        have e0 : IntKind.i64.min = -9223372036854775808 := by decide
        have e1 : IntKind.i64.max = 9223372036854775807 := by decide
        unfold wfi toN
        simp only [Lit.wf, e0, e1, Bool.and_eq_true, decide_eq_true_eq]
        omega
      rw [if_pos ((hk.2.1 _ _ hw1.1 hw1.2).2 (by rw [hl]; rfl))]
  refine ⟨h1, ?_⟩
  have e1 := h.l
  have e2 := tot_app heq
  have e3 : tot got' = tot put := by unfold tot; rw [h1 0 (by omega), h1 1 (by omega), h1 2 (by omega), h1 3 (by omega)]
  omega

theorem GI.le (h : GI w w3 wr C0 eb pb gb mv f N pv gv ks put got got' rem j lf) (heq : ∀ n, n < 4 → put n = got n ++ rem n) : lf ≤ tot rem := by
  have h1 : ∀ n, n < 4 → (got' n).length ≤ (put n).length := by
    intro n hn
    rw [h.g n hn]
    split
    · omega
    · rw [heq n hn]; simp
  have e1 := h.l
  have e2 := tot_app heq
  have e3 : tot got' ≤ tot put := by
    unfold tot
    have := h1 0 (by omega)
    have := h1 1 (by omega)
    have := h1 2 (by omega)
    have := h1 3 (by omega)
    omega
  omega

/-- Which lane stands at a place of what Lanes told. -/
theorem lane_at {rs : List (Int × Int × Value)} (hl : LI f rem) (hk : LKeys f ks) (hr : rs.map (fun r => (r.1, r.2.1)) = ks) {j : Nat} (hj : j < rs.length) : ∃ (n : Nat) (v : Value), n < 4 ∧ rs[j]? = some ((n : Int), toN n, v) ∧ ks[j]? = some ((n : Int), toN n) := by
  obtain ⟨⟨a, b, v⟩, hx⟩ : ∃ x, rs[j]? = some x := ⟨_, List.getElem?_eq_getElem hj⟩
  have hkj : ks[j]? = some (a, b) := by rw [← hr]; simp [hx]
  obtain ⟨h1, h2⟩ := hk.2.2 _ (List.mem_of_getElem? hkj)
  obtain ⟨l, hlf⟩ := Option.isSome_iff_exists.1 ((hk.2.1 a b h1 h2).1 (List.mem_of_getElem? hkj))
  obtain ⟨n, hn, rfl, rfl⟩ := hl.only a b l hlf
  exact ⟨n, v, hn, hx, hkj⟩

/-- One more signal of a lane. -/
theorem GJ.more (h : GJ w w3 wr C0 eb pb gb mv f N pv gv put got got' rem n k) (hn : n < 4) {id : Int} (hid : (rem n)[k]? = some id) {X w2 : World} {v' : Value} (hX : Below wr.heap.size wr X) (hG : X.grownBy w2 (gv n).ownBlock) (hO : w2.ownsRow w.heap.size IT 1 v' ((got n ++ (rem n).take k).length + 1) (ivs (got n ++ (rem n).take k) ++ [.int .i64 id])) (hat : v'.ownBlock = (gv n).ownBlock ∨ v'.ownBlock = some X.heap.size) :
    GJ w w3 (w2.setCell ⟨gb, n, none⟩ v') C0 eb pb gb mv f N pv (updV gv n v') put got got' rem n (k + 1) := by
  have hg := h.o.pgot (x := id) hn hX hG (by rw [updV_same]; exact hO) hat
  have hb1 : But (fun k => (gv n).ownBlock = some k) wr w2 := (But.of_below hX).trans (grown_but hG)
  refine ⟨?_, ?_, ?_⟩
  · have e : updV (updV got' n (got n ++ (rem n).take k)) n (updV got' n (got n ++ (rem n).take k) n ++ [id]) = updV got' n (got n ++ (rem n).take (k + 1)) := by
      funext i
      unfold updV
      by_cases e : i = n
      · simp [e, List.take_add_one, hid]
      · simp [e]
    rw [e] at hg
    exact hg
  · have hb2 : But (fun q => AF gb gv q) wr (w2.setCell ⟨gb, n, none⟩ v') := (hb1.mono (fun q _ e => .inr ⟨n, hn, e⟩)).setCell (p := ⟨gb, n, none⟩) (fun _ => .inl rfl) v'
    exact ⟨hb2.os.trans h.b.os, hb2.tape.trans h.b.tape, hb2.output.trans h.b.output, Nat.le_trans h.b.size hb2.size, fun k hk hs => (hb2.block k (Nat.lt_of_lt_of_le hk h.b.size) (fun hq => (h.far k hq).elim hs (fun e => Nat.not_lt.2 e hk))).trans (h.b.block k hk hs)⟩
  · intro q hq
    rcases hq with e | ⟨i, hi, e⟩
    · exact h.far q (.inl e)
    · by_cases e2 : i = n
      · subst e2; rw [updV_same] at e
        rcases hat with e3 | e3
        · exact h.far q (.inr ⟨i, hi, e3 ▸ e⟩)
        · rw [e3] at e
          have : X.heap.size = q := by simpa using e
          have := hX.size
          have := h.b.size
          omega
      · rw [updV_other _ _ _ _ e2] at e; exact h.far q (.inr ⟨i, hi, e⟩)
end Go.Proofs.YtapjnnbcphpokaaGreat
