import Derived.Test.YtmijabhnbmmmfaaGreatG50
import Derived.Test.YtmijabhnbmmmfaaGreatG52
/- Roots that are picked out of what was stored. -/
namespace Go.Proofs.YtmijabhnbmmmfaaGreat
open Go.RowKit Go.Deep

theorem rT_sum {ws : List Int} {L : List ByteArray} {us : List Int} {ts : List Tr} (hL : L.length ≤ 100000) (hr : Rts2 ws L us ts) (hU : Unlike us ts us.length) : ∀ m, m ≤ us.length → rT us ts m = wAll (ts.take m)
  | 0, _ => by simp [rT, wAll]
  | m + 1, h => by
    have ih := rT_sum hL hr hU m (by omega)
    obtain ⟨u, hu⟩ : ∃ u, us[m]? = some u := ⟨_, List.getElem?_eq_getElem (by omega)⟩
    obtain ⟨t, ht⟩ : ∃ t, ts[m]? = some t := ⟨_, List.getElem?_eq_getElem (by have := hr.len; omega)⟩
    rw [wAll_take ht, rT, ih, hu, ht]
    simp only []
    cases ha : aloneT t with
    | true => simp [alone_w ha]
    | false =>
      have hm : u ∉ us.take m := fun hm => by
        obtain ⟨i, hi⟩ := List.getElem?_of_mem hm
        rw [List.getElem?_take] at hi
        split at hi
        · rename_i hil
          obtain ⟨s, hs⟩ : ∃ s, ts[i]? = some s := ⟨_, List.getElem?_eq_getElem (by have := hr.len; omega)⟩
          obtain ⟨_, g2, _, g4⟩ := hr.good i u s hi hs
          obtain ⟨_, g2', _, g4'⟩ := hr.good m u t hu ht
          obtain ⟨p1, _⟩ := rep_pts hL g2.1 g4
          obtain ⟨_, p2⟩ := rep_pts hL g2'.1 g4'
          cases hs2 : aloneT s with
          | true =>
            have e1 := p1 hs2
            obtain ⟨_, e2⟩ := p2 ha
            unfold ptB at e1
            rcases e2 with e2 | e2 <;> rw [e2] at e1 <;> simp at e1
          | false => exact hU i m u u s t hil (by omega) hi hu hs ht hs2 ha rfl
        · cases hi
      simp [hm]

/-- Which are kept, of the first m. -/
def sel (bs : List Bool) : Nat → List Nat
  | 0 => []
  | m + 1 => sel bs m ++ (if bs[m]? = some true then [m] else [])

theorem sel_lt (bs : List Bool) : ∀ (m : Nat) (p : Nat), p ∈ sel bs m → p < m
  | 0, p, h => by simp [sel] at h
  | m + 1, p, h => by
    simp only [sel] at h
    rcases List.mem_append.1 h with h | h
    · have := sel_lt bs m p h; omega
    · split at h
      · have := List.mem_singleton.1 h; omega
      · simp at h

theorem sel_nodup (bs : List Bool) : ∀ m, (sel bs m).Nodup
  | 0 => List.nodup_nil
  | m + 1 => by
    simp only [sel]
    refine nodup_app (sel_nodup bs m) ?_ (fun x hx hx' => ?_)
    · split
      · exact List.nodup_cons.2 ⟨by simp, List.nodup_nil⟩
      · exact List.nodup_nil
    · have := sel_lt bs m x hx
      split at hx'
      · have := List.mem_singleton.1 hx'; omega
      · simp at hx'

abbrev noT : Tr := .mk 0 0 0 ⟨#[]⟩ none 0 []
def selU (bs : List Bool) (us : List Int) (m : Nat) : List Int := (sel bs m).map fun p => us.getD p 0
def selT (bs : List Bool) (kids : List Tr) (m : Nat) : List Tr := (sel bs m).map fun p => kids.getD p noT

theorem selU_len (bs : List Bool) (us : List Int) (m : Nat) : (selU bs us m).length = (sel bs m).length := by simp [selU]
theorem selT_len (bs : List Bool) (kids : List Tr) (m : Nat) : (selT bs kids m).length = (sel bs m).length := by simp [selT]

theorem selU_yes {bs : List Bool} {us : List Int} {m : Nat} {u : Int} (hb : bs[m]? = some true) (hu : us[m]? = some u) : selU bs us (m + 1) = selU bs us m ++ [u] := by simp [selU, sel, hb, List.getD, hu]
theorem selT_yes {bs : List Bool} {kids : List Tr} {m : Nat} {t : Tr} (hb : bs[m]? = some true) (ht : kids[m]? = some t) : selT bs kids (m + 1) = selT bs kids m ++ [t] := by simp [selT, sel, hb, List.getD, ht]
theorem selU_no {bs : List Bool} {us : List Int} {m : Nat} (hb : bs[m]? ≠ some true) : selU bs us (m + 1) = selU bs us m := by simp [selU, sel, hb]
theorem selT_no {bs : List Bool} {kids : List Tr} {m : Nat} (hb : bs[m]? ≠ some true) : selT bs kids (m + 1) = selT bs kids m := by simp [selT, sel, hb]

theorem sel_at {bs : List Bool} {us : List Int} {kids : List Tr} {N : Nat} (hN : us.length = N) (hk : kids.length = N) {i : Nat} {u : Int} {t : Tr} (hu : (selU bs us N)[i]? = some u) (ht : (selT bs kids N)[i]? = some t) : ∃ p, (sel bs N)[i]? = some p ∧ us[p]? = some u ∧ kids[p]? = some t := by
  have hil : i < (sel bs N).length := by have := get_lt hu; rwa [selU_len] at this
  have hp : (sel bs N)[i]? = some (sel bs N)[i] := List.getElem?_eq_getElem hil
  have hlt := sel_lt bs N _ (List.getElem_mem hil)
  refine ⟨_, hp, ?_, ?_⟩
  · simp only [selU, List.getElem?_map, hp, Option.map_some, Option.some.injEq] at hu
    rw [← hu, List.getD, List.getElem?_eq_getElem (by omega)]
    rfl
  · simp only [selT, List.getElem?_map, hp, Option.map_some, Option.some.injEq] at ht
    rw [← ht, List.getD, List.getElem?_eq_getElem (by omega)]
    rfl

theorem head_of {ws : List Int} {L : List ByteArray} {t : Tr} {u : Int} {p : Nat} (hs : Sto ws L t u p) (ha : aloneT t = false) : ∃ b, b ∈ blks ws t u ∧ bodyI u = b := by
  obtain ⟨g1, g2, g3, g4⟩ := hs.good
  obtain ⟨b, hN⟩ := new_blk g1 g2 g4 ha
  exact ⟨b, by rw [hN.b_]; exact List.mem_cons_self .., by rw [hN.x_]; exact (ptr_made t hN.p_).1⟩

/-- All that are picked are unlike. -/
theorem unlike_sel {ws : List Int} {L : List ByteArray} {kids : List Tr} {us : List Int} {bs : List Bool} {N : Nat} (hS : ∀ (j : Nat) (t : Tr) (u : Int), kids[j]? = some t → us[j]? = some u → Sto ws L t u (wAll (kids.take j))) (hN : us.length = N) (hk : kids.length = N) (m : Nat) : Unlike (selU bs us N) (selT bs kids N) m := by
  intro i j u v t s hij _ hu hv ht hs ha has e
  subst e
  obtain ⟨p, p1, p2, p3⟩ := sel_at hN hk hu ht
  obtain ⟨q, q1, q2, q3⟩ := sel_at hN hk hv hs
  obtain ⟨b, hb, e1⟩ := head_of (hS p t u p3 p2) ha
  obtain ⟨b', hb', e2⟩ := head_of (hS q s u q3 q2) has
  obtain rfl : b = b' := by omega
  have i1 := (hS p t u p3 p2).inn b hb
  have i2 := (hS q s u q3 q2).inn b hb'
  have w1 := wAll_take p3
  have w2 := wAll_take q3
  have hpq : p = q := by
    rcases Nat.lt_trichotomy p q with h | h | h
    · have := wAll_take_mono kids (show p + 1 ≤ q by omega)
      omega
    · exact h
    · have := wAll_take_mono kids (show q + 1 ≤ p by omega)
      omega
  subst hpq
  have hil := get_lt p1
  have hjl := get_lt q1
  have h1 : (sel bs N)[i] = p := by simpa [hil] using p1
  have h2 : (sel bs N)[j] = p := by simpa [hjl] using q1
  have := (List.getElem_inj (sel_nodup bs N)).1 (h1.trans h2.symm)
  omega

theorem unlike_after {w w' : World} {hb ab most : Nat} {ws : List Int} {L : List ByteArray} {F : List Nat} {us : List Int} {ts : List Tr} {tb : Nat} {laid : List Int} {tl : Nat → Int} (hc : Coll w w' hb ab most ws L F us ts tb laid tl) (hU : Unlike us ts us.length) (m : Nat) : Unlike ((List.range us.length).map tl) ts m := by
  intro i j v v' t s hij _ hvi hvj hti htj ha has e
  subst e
  obtain ⟨cells, now, hw, ox, hj, hR⟩ := hc.fo
  have back : ∀ (j : Nat) (v : Int), ((List.range us.length).map tl)[j]? = some v → j < us.length ∧ ∃ u, us[j]? = some u ∧ tl j = v := by
    intro j v hv
    have hjl : j < us.length := by have := get_lt hv; simpa using this
    rw [List.getElem?_map, List.getElem?_range hjl] at hv
    exact ⟨hjl, us[j], List.getElem?_eq_getElem hjl, by simpa using hv⟩
  obtain ⟨_, u, hu, e1⟩ := back i v hvi
  obtain ⟨hjl, u', hu', e2⟩ := back j v hvj
  rcases hR _ _ _ ⟨i, hu, hti, rfl⟩ with ⟨h, _⟩ | ⟨_, b, p, q1, q2, q3, q4, q5, q6, _⟩
  · rw [ha] at h; cases h
  rcases hR _ _ _ ⟨j, hu', htj, rfl⟩ with ⟨h, _⟩ | ⟨_, b', p', r1, r2, r3, r4, r5, r6, _⟩
  · rw [has] at h; cases h
  have hbb : b = b' := pN_inj hj (by rw [q5]; exact q6) (by rw [r5]; exact r6) (by unfold pN; rw [q5, r5, e1, e2])
  have ht : tagT t = tagT s := by
    have h1 : tagI v = tagT t := by
      rw [← e1, q4]
      rcases tag56 t with e | e
      · rw [e]; exact (box_made q2).1
      · rw [e]; exact (cons_made q2).1
    have h2 : tagI v = tagT s := by
      rw [← e2, r4]
      rcases tag56 s with e | e
      · rw [e]; exact (box_made r2).1
      · rw [e]; exact (cons_made r2).1
    rw [← h1, h2]
  exact hU i j u u' t s hij hjl hu hu' hti htj ha has (by rw [q3, r3, hbb, ht])

/-- A second collection leaves the roots' words as they are. -/
theorem again_same {w1 w1' w2 w2' : World} {hb ab most : Nat} {ws laid laid2 : List Int} {L : List ByteArray} {F : List Nat} {us : List Int} {ts : List Tr} {tb tb2 : Nat} {tl tl2 : Nat → Int} (hlen : us.length = ts.length) (hU : Unlike us ts us.length) (h1 : Coll w1 w1' hb ab most ws L F us ts tb laid tl) (h2 : Coll w2 w2' hb ab most laid L F ((List.range us.length).map tl) ts tb2 laid2 tl2) : ∀ j, j < us.length → tl2 j = tl j := by
  intro j hj
  have hu : us[j]? = some us[j] := List.getElem?_eq_getElem hj
  have ht : ts[j]? = some (ts[j]'(by omega)) := List.getElem?_eq_getElem (by omega)
  have hv : ((List.range us.length).map tl)[j]? = some (tl j) := by rw [List.getElem?_map, List.getElem?_range hj]; rfl
  have e1 := h1.fm hU j _ _ hu ht
  have e2 := h2.fm (by have := unlike_after h1 hU; exact this _) j _ _ hv ht
  rw [e2]
  split
  · rfl
  · rename_i hn
    rw [e1, if_neg hn]
end Go.Proofs.YtmijabhnbmmmfaaGreat


/- Two rows of words that are the same. -/
namespace Go.Proofs.YtmijabhnbmmmfaaGreat
open Go.RowKit Go.Deep
attribute [local go_sem] store_float f64bits f64frombits
attribute [local go_sem ↓] Go.wp_at_zero Go.wp_at_succ

set_option maxHeartbeats 1000000 in
theorem same_ok {w : World} {ta tb n : Nat} {fa fb : Nat → Int} (ha : TR w ta n fa) (hb : TR w tb n fb) (he : ∀ j, j < n → fa j = fb j) (hn : n ≤ 1000000) : Calls Tryz.prog 25 #[.slice (some ⟨ta, 0, none⟩) n n, .slice (some ⟨tb, 0, none⟩) n n] w fun e w' => e = .returned (.bool true) ∧ Below w.heap.size w w' := by
  have HA := hidb (show ∀ j, j < n → w.cell? ⟨ta, j, none⟩ = some (.int .u64 (fb j)) from fun j hj => by rw [← he j hj]; exact (ha.row j hj).1)
  have HB := hidb (show ∀ j, j < n → w.cell? ⟨tb, j, none⟩ = some (.int .u64 (fb j)) from fun j hj => (hb.row j hj).1)
  have la := ha.lt
  have lb := hb.lt
  clear ha hb he
  go_enter Tryz.func25, Tryz.ntmps25
  go_wp2_with fail
  go_loopw [5] (fun iv wq => ∃ (r : Nat), r ≤ n ∧ iv = .int .i64 r ∧ Below w.heap.size w wq) (fun iv _ => n - (intOf iv).toNat)
  case atStart => exact ⟨0, by omega, rfl, Below.refl _ _⟩
  case round =>
  obtain ⟨r, hr, rfl, hbr⟩ := hrel
  have HBR := hidb hbr
  by_cases hrl : r < n
  · have hrb : (r : Int) < (n : Int) := by omega
    have hrz : (0 : Int) ≤ (r : Int) := by omega
    have v0 := (hbr.cell (p := ⟨ta, r, none⟩) la).trans (HA.out r hrl)
    have v1 := (hbr.cell (p := ⟨tb, r, none⟩) lb).trans (HB.out r hrl)
    clear hbr
    go_wp2_with fail
    go_region
    all_goals (
      go_wp2_with fail
      go_roundw
      case rel => exact ⟨r + 1, by omega, by go_num, HBR.out.drew⟩
      case measure => simp [intOf]; omega)
  · have hrn : ¬ (r : Int) < (n : Int) := by omega
    clear hbr
    go_wp2_with fail
    go_ret
    exact ⟨rfl, HBR.out⟩

/-- Two rows of the call's own: words, and terms. -/
structure RK (w5 wr : World) (us : List Int) (ts : List Tr) (rv kv : Value) : Prop where
  r : wr.ownsRow w5.heap.size 51 1 rv us.length (ints us)
  k : wr.ownsRow w5.heap.size 44 5 kv ts.length (ts.flatMap Tr.cells)
  d : ∀ q, rv.ownBlock = some q → kv.ownBlock ≠ some q
  be : Below w5.heap.size w5 wr

theorem RK.keep {w5 wr w' : World} {us : List Int} {ts : List Tr} {rv kv : Value} (h : RK w5 wr us ts rv kv) (hb : Below wr.heap.size wr w') : RK w5 w' us ts rv kv :=
  ⟨row_keep1 h.r (fun g _ hl => hb.block g hl), ownsRow_block h.k (fun g hg => hb.block g (ownsRow_lt h.k g hg).2), h.d, h.be.trans (hb.mono h.be.size)⟩

theorem RK.app1 {w5 wr X w' : World} {us : List Int} {ts : List Tr} {rv kv v' : Value} {u : Int} (h : RK w5 wr us ts rv kv) (hX : Below wr.heap.size wr X) (hg : X.grownBy w' rv.ownBlock) (hv : v'.ownBlock = rv.ownBlock ∨ v'.ownBlock = some X.heap.size) (ho : w'.ownsRow w5.heap.size 51 1 v' (us.length + 1) (ints us ++ [.int .u64 u])) : RK w5 w' (us ++ [u]) ts v' kv := by
  have h2 := h.keep hX
  have hB := grown_but hg
  refine ⟨?_, ownsRow_block h2.k (fun g hg' => hB.block g (ownsRow_lt h2.k g hg').2 (fun e => h.d g e hg')), fun q hq hk => ?_, h2.be.trans (hB.below h2.be.size (fun k e => (row_lt1 h2.r k e).1))⟩
  · rw [List.length_append]
    unfold ints
    rw [List.map_append]
    exact ho
  · rcases hv with e | e
    · rw [e] at hq; exact h.d q hq hk
    · rw [e] at hq
      have h1 := Option.some.inj hq
      have h3 := (ownsRow_lt h2.k q hk).2
      omega

theorem RK.app2 {w5 wr X w' : World} {us : List Int} {ts : List Tr} {rv kv v' : Value} {t : Tr} (h : RK w5 wr us ts rv kv) (hX : Below wr.heap.size wr X) (hg : X.grownBy w' kv.ownBlock) (hv : v'.ownBlock = kv.ownBlock ∨ v'.ownBlock = some X.heap.size) (ho : w'.ownsRow w5.heap.size 44 5 v' (ts.length + 1) (ts.flatMap Tr.cells ++ t.cells)) : RK w5 w' us (ts ++ [t]) rv v' := by
  have h2 := h.keep hX
  have hB := grown_but hg
  refine ⟨row_keep1 h2.r (fun g hg' hl => hB.block g hl (fun e => h.d g hg' e)), ?_, fun q hq hk => ?_, h2.be.trans (hB.below h2.be.size (fun k e => (ownsRow_lt h2.k k e).1))⟩
  · rw [List.length_append, List.flatMap_append, List.flatMap_cons, List.flatMap_nil, List.append_nil]
    exact ho
  · rcases hv with e | e
    · rw [e] at hk; exact h.d q hq hk
    · rw [e] at hk
      have h1 := Option.some.inj hk
      have h3 := (row_lt1 h2.r q hq).2
      omega

theorem own_formT {w : World} {base : Nat} {v : Value} {n : Nat} {xs : List Value} (h : w.ownsRow base 44 5 v n xs) : ∃ av cv, v = .slice av n cv := by
  rcases h.2 with ⟨rfl, h0⟩ | ⟨g, cap, cur, rfl, _⟩
  · exact ⟨none, 0, by rw [h0]⟩
  · exact ⟨_, _, rfl⟩

theorem cells_new {w : World} {k n : Int} {f : Nat} {s : ByteArray} {a : Option Addr} {m c : Nat} : ∀ j u, [Value.int .i64 k, .int .i64 n, .float .f64 f, .string s, .slice a m c][j]? = some u → (w.alloc (objT k n f s a m c)).cell? ((⟨w.heap.size, 0, none⟩ : Addr).add j) = some u := by
  intro j u hj
  have hadd : (⟨w.heap.size, 0, none⟩ : Addr).add j = ⟨w.heap.size, j, none⟩ := by unfold Addr.add; split <;> simp_all
  rw [hadd, World.cell?_alloc_new]
  simpa using hj
end Go.Proofs.YtmijabhnbmmmfaaGreat


