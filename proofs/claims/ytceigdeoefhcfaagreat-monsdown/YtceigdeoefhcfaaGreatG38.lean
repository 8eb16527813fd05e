import Derived.Test.YtceigdeoefhcfaaGreatG37
import Derived.Deep.OwnRows
import Derived.Test.YtceigdeoefhcfaaGreatG12
import Derived.Test.YtceigdeoefhcfaaGreatG11
/- MonsDown: how it begins, the row of what was given up, a move of the play. -/
namespace Go.Proofs.YtceigdeoefhcfaaGreat
open Go.RowKit Go.Lib
open MV (Hf hf0 getL insL delL Rise Wfk TB Nw Rst KV MnT mvs)

variable {w0 w w' : World} {wb ta tb eb N refs G : Nat} {O T O' T' : List KV} {p q : List Sg} {dead : Bool} {dn : List Nat} {gs : List Bool}
theorem Pst.does {w1 : World} {n i : Nat} (hl : gs.length = n) (hg : GR w G gs) (h : DM (fun k => k = G) w1 w wb ta tb eb O T p q dead refs dn N) (hi : Iv (gp gs) i O T p q dead refs dn N) (hN : i ≤ 3000) (op rf : Int) (hk : op = 2 → isK rf O = true → gp gs rf) :
    Calls Tryz.prog 7 #[.pointer (some ⟨wb, 0, none⟩), .agg #[.int .i64 op, .int .i64 rf]] w fun e w' => e = .returned (.tuple #[]) ∧ Pst w1 w' wb ta tb eb G n (i + 1) := by
  refine (does_any (DL.of h) hi hN op rf hk).mono ?_
  rintro e w' ⟨rfl, O', T', p', q', dead', refs', dn', N', h1, h2⟩
  obtain ⟨h3, h4⟩ := DL.to h1
  exact ⟨rfl, gs, O', T', p', q', dead', refs', dn', N', hl, hg.but h4 (fun hh => hh rfl), h3, h2⟩
end Go.Proofs.YtceigdeoefhcfaaGreat


/- MonsDown: the end, when nothing is under way. -/
namespace Go.Proofs.YtceigdeoefhcfaaGreat
open Go.RowKit Go.Lib
open MV (Hf hf0 getL insL delL Rise Wfk TB Nw Rst KV MnT mvs)

variable {w1 w w' : World} {wb ta tb eb G i pl ql : Nat} {gs : List Bool}

def PL (w1 w : World) (wb ta tb eb G : Nat) (gs : List Bool) (i pl ql : Nat) : Prop := ∃ O T p q dead refs dn N, GR w G gs ∧ DM (fun k => k = G) w1 w wb ta tb eb O T p q dead refs dn N ∧ Iv (gp gs) i O T p q dead refs dn N ∧ p.length = pl ∧ q.length ≤ ql

theorem PL.keep (h : PL w1 w wb ta tb eb G gs i pl ql) (hb : Below w.heap.size w w') : PL w1 w' wb ta tb eb G gs i pl ql := by
  obtain ⟨O, T, p, q, dead, refs, dn, N, hG, hD, hV, e, hq⟩ := h
  exact ⟨O, T, p, q, dead, refs, dn, N, hG.but (But.of_below (S := fun _ => False) hb) (fun h => h), hD.keep hb, hV, e, hq⟩
theorem PL.low (h : PL w1 w wb ta tb eb G gs i pl ql) : Below w1.heap.size w1 w := by
  obtain ⟨O, T, p, q, dead, refs, dn, N, hG, hD, hV, e, hq⟩ := h
  exact hD.low
theorem PL.does4 (h : PL w1 w wb ta tb eb G gs i pl ql) (hN : i ≤ 3000) (rf : Int) : Calls Tryz.prog 7 #[.pointer (some ⟨wb, 0, none⟩), .agg #[.int .i64 4, .int .i64 rf]] w fun e w' => e = .returned (.tuple #[]) ∧ PL w1 w' wb ta tb eb G gs i (pl - 1) (ql + min pl 1) := by
  obtain ⟨O, T, p, q, dead, refs, dn, N, hG, hD, hV, rfl, hq⟩ := h
  refine (does4_q (DL.of hD) hV hN rf).mono ?_
  rintro e w' ⟨rfl, O2, T2, p2, q2, dead2, refs2, dn2, N2, hd, hv, hp2, hq2⟩
  obtain ⟨hm, hb⟩ := DL.to hd
  exact ⟨rfl, O2, T2, p2, q2, dead2, refs2, dn2, N2, hG.but hb (fun h => h rfl), hm, hv, hp2, by omega⟩
theorem PL.does3 (h : PL w1 w wb ta tb eb G gs i pl ql) (hN : i ≤ 3000) (rf : Int) : Calls Tryz.prog 7 #[.pointer (some ⟨wb, 0, none⟩), .agg #[.int .i64 3, .int .i64 rf]] w fun e w' => e = .returned (.tuple #[]) ∧ PL w1 w' wb ta tb eb G gs i pl (ql - 1) := by
  obtain ⟨O, T, p, q, dead, refs, dn, N, hG, hD, hV, rfl, hq⟩ := h
  refine (does3_q (DL.of hD) hV hN rf).mono ?_
  rintro e w' ⟨rfl, O2, T2, p2, q2, dead2, refs2, dn2, N2, hd, hv, hp2, hq2⟩
  obtain ⟨hm, hb⟩ := DL.to hd
  exact ⟨rfl, O2, T2, p2, q2, dead2, refs2, dn2, N2, hG.but hb (fun h => h rfl), hm, hv, hp2, by omega⟩
theorem PL.all (h : PL w1 w wb ta tb eb G gs i pl ql) (hN : i ≤ 3000) : ∃ n : Nat, n ≤ 100000 ∧ w.cell? ⟨wb, 2, none⟩ = some (.pointer (some ⟨eb, 0, none⟩)) ∧ (Calls Tryz.prog 8 #[.pointer (some ⟨eb, 0, none⟩)] w fun e w' => e = .returned (.int .i64 (n : Int)) ∧ w' = w) ∧ (n = 0 → PL w1 w wb ta tb eb G gs i 0 0) ∧ (n ≠ 0 → pl ≠ 0 ∨ ql ≠ 0) := by
  obtain ⟨O, T, p, q, dead, refs, dn, N, hG, hD, hV, rfl, hq⟩ := h
  obtain ⟨V, hS, -⟩ := hD.box
  have ha := hV.bs.a
  have hb := hV.bs.b
  refine ⟨p.length + q.length, by omega, hS.c2, hD.count, fun h0 => ?_, fun h0 => by omega⟩
  exact ⟨O, T, p, q, dead, refs, dn, N, hG, hD, hV, by omega, by omega⟩

/-- What is there at the end. -/
structure Fin (w : World) (wb ta tb G i : Nat) (O T : List KV) (dead : Bool) (refs : Nat) (V : Value) : Prop where
  c0 : w.cell? ⟨wb, 0, none⟩ = some (.pointer (some ⟨ta, 0, none⟩))
  c1 : w.cell? ⟨wb, 1, none⟩ = some (.pointer (some ⟨tb, 0, none⟩))
  c3 : w.cell? ⟨wb, 3, none⟩ = some (.bool dead)
  c4 : w.cell? ⟨wb, 4, none⟩ = some (.int .i64 (refs : Int))
  c5 : w.cell? ⟨wb, 5, none⟩ = some V
  lt : wb < w.heap.size
  r : refs ≤ i
  row : ∀ n, n < refs → ∃ (c : Nat) (b : Bool) (g cap : Nat), V = .slice (some ⟨g, 0, none⟩) refs cap ∧ w.cell? ⟨g, n, none⟩ = some (.int .i64 (c : Int)) ∧ w.cell? ⟨G, n + 1, none⟩ = some (.bool b) ∧ c ≤ 1 ∧ (dead = true → c = 1 ∨ b = true)
  o : ∃ D, MTab w ta D O []
  t : ∃ D, MTab w tb D [] T
  ol : O.length ≤ 90000
  tl : T.length ≤ 90000
  de : dead = true → O = [] ∧ T = []
  al : dead = false → O.length = T.length ∧ ∀ (j : Nat) (x y : KV), O[j]? = some x → T[j]? = some y → x.2.a = y.2.a ∧ x.2.b = 2 ∧ y.2.b = 1

theorem PL.fin (h : PL w1 w wb ta tb eb G gs i 0 0) (hN : i ≤ 3000) (hg : gs.length = i + 1) : ∃ O T dead refs V, Fin w wb ta tb G i O T dead refs V := by
  obtain ⟨O, T, p, q, dead, refs, dn, N, hG, hD, hV, hp, hq⟩ := h
  obtain rfl : p = [] := List.length_eq_zero_iff.1 hp
  obtain rfl : q = [] := List.length_eq_zero_iff.1 (by omega)
  obtain ⟨V, hS, hR, -⟩ := hD.box
  have hb := hV.bs
  refine ⟨O, T, dead, refs, V, hS.c0, hS.c1, hS.c3, hS.c4, hS.c5, hS.lt, hb.r, fun n hn => ?_, hD.tabA, hD.tabB, by have := olen hb; have := hb.r; omega, by have := hb.b; omega, fun e => by subst e; exact hV.fin_dead, fun e => ?_⟩
  · have hl := hb.l
    have hr := hb.r
    obtain ⟨c, hc⟩ : ∃ c, dn[n]? = some c := ⟨_, List.getElem?_eq_getElem (by omega)⟩
    obtain ⟨b, hb1⟩ : ∃ b, gs[n + 1]? = some b := ⟨_, List.getElem?_eq_getElem (by omega)⟩
    obtain ⟨gv, cap, z5, zc, -⟩ := (DL.of hD).row hc
    refine ⟨c, b, gv, cap, ?_, zc, (hG.2 (n + 1) b hb1).1, (hb.c n c hc).1, fun e => ?_⟩
    · have := hS.c5.symm.trans z5
      rw [hl] at this
      simpa using this
    · subst e
      obtain ⟨rfl, rfl⟩ := hV.fin_dead
      rcases (hb.c n c hc).2.2 (by simp [isK, MV.getL]) with h1 | ⟨m, hm, h1⟩
      · exact .inl h1
      · obtain rfl : m = n + 1 := by omega
        exact .inr (by rw [hb1] at h1; simpa using h1)
  · subst e
    have hm := hV.fin_live
    refine ⟨by have := congrArg List.length hm; simpa using this, fun j x y hx hy => ?_⟩
    have h1 := hb.o x (List.mem_of_getElem? hx)
    have h2 := hb.t y (List.mem_of_getElem? hy)
    have h3 : x.1 = y.1 := by
      have a1 : (O.map (·.1))[j]? = some x.1 := by rw [List.getElem?_map, hx]; rfl
      have a2 : (T.map (·.1))[j]? = some y.1 := by rw [List.getElem?_map, hy]; rfl
      rw [hm, a2] at a1
      exact (Option.some.inj a1).symm
    rw [h1.1, h2.1]
    exact ⟨h3, rfl, rfl⟩
end Go.Proofs.YtceigdeoefhcfaaGreat


