import Derived.Test.YthdljnakmekhkaaGreatDoorG28
import Derived.Lib.AppendStr
import Derived.Test.YthdljnakmekhkaaGreatDoorSV
import Derived.Test.YthdljnakmekhkaaGreatDoorG24
import Derived.Test.YthdljnakmekhkaaGreatDoorG05
import Derived.Deep.RegionHeld2
/- LexLong. -/
namespace Go.Proofs.YthdljnakmekhkaaGreatDoor
open Go.RowKit Go.Lib
attribute [local go_sem] store_float f64bits
attribute [local go_sem ↓] Go.wp_at_zero Go.wp_at_succ

set_option maxHeartbeats 1000000 in
set_option maxRecDepth 100000 in
/-- The reference's tokens of any bytes. -/
theorem rTokens_any (s : ByteArray) (w : World) :
    Calls Tryz.prog 17 #[.string s] w fun e w' => TP w.heap.size (allT s) e w' ∧ Below w.heap.size w w' := by
  by_cases hl : 65536 < s.size
  · have h1 : (65536 : Int) < (s.size : Int) := by omega
    unfold allT
    rw [if_pos hl]
    go_enter Tryz.func17, Tryz.ntmps17
    go_wp2_with fail
    exact bodyPost_ret (v := .tuple #[.slice none 0 0, .agg #[.int .i64 3, .int .i64 0]]) (by simp [results, Tryz.results17, go_sem]) rfl ⟨.inr ⟨3, 0, rfl, rfl⟩, (Below.refl _ _).alloc (Nat.le_refl _) _⟩
  · exact rTokens_of s (rTok_all s (by omega)) w

end Go.Proofs.YthdljnakmekhkaaGreatDoor


/- The reference's parser: Parse. -/
namespace Go.Proofs.YthdljnakmekhkaaGreatDoor
namespace Rf
open Go.RowKit Go.Lib
attribute [local go_sem] store_float f64bits
attribute [local go_sem ↓] Go.wp_at_zero Go.wp_at_succ
attribute [local go_sem] nd_p tk_k tk_x tk_n tk_f tk_p

theorem St.sl {B g b o : Nat} {P : Nat → Prop} {w0 w : World} {V0 V : Value} {s : PS} (h : St B g b o P w0 V0 w V s) : ∃ a m c, V = .slice a m c := by
  obtain ⟨⟨vs, _, ho, _⟩, _⟩ := h.ns
  rcases ho.2 with ⟨hv, _⟩ | ⟨q, cap, cur, hv, _⟩
  · exact ⟨_, _, _, hv⟩
  · exact ⟨_, _, _, hv⟩
theorem St.cell2 {B g b o : Nat} {P : Nat → Prop} {w0 w : World} {V0 V : Value} {s : PS} (h : St B g b o P w0 V0 w V s) : w.cell? ⟨g, 2, none⟩ = some V := by
  obtain ⟨TS, i, ⟨⟨cap, h6⟩, _⟩, _⟩ := h.pb
  exact h6.c2
theorem Bd.cells {g b : Nat} {w0 w : World} {V0 : Value} {er : Int} {p : Nat} (h : Bd g b w0 V0 w er p) : w.cell? ⟨g, 4, none⟩ = some (.int .i64 er) ∧ w.cell? ⟨g, 5, none⟩ = some (.int .i64 (p : Int)) := by
  obtain ⟨_, ⟨TS, i, V, o, ⟨⟨cap, h6⟩, _⟩, _⟩, _⟩ := h
  exact ⟨h6.c4, h6.c5⟩

set_option maxHeartbeats 2000000 in
set_option maxRecDepth 100000 in
theorem rParse_any (s : ByteArray) (w : World) : Calls Tryz.prog 11 #[.string s] w fun e w' => ParseR w (parseP s) e w' := by
  obtain ⟨W2, hW2⟩ : ∃ W2, ((w.alloc (.cells #[.slice none 0 0, .int .i64 0] 25)).alloc (.cells #[.int .i64 0, .int .i64 0] 28)) = W2 := ⟨_, rfl⟩
  have hB2 : Below w.heap.size w W2 := by rw [← hW2]; exact ((Below.refl _ _).alloc (Nat.le_refl _) _).alloc (by simp) _
  have hZ2 : W2.heap.size = w.heap.size + 1 + 1 := by rw [← hW2]; simp
  have hD1 : Duo W2 w.heap.size (.slice none 0 0) (.int .i64 0) := by rw [← hW2]; exact (Duo.new w _ _ _).keep (below_new _ _)
  have hD2 : Duo W2 (w.heap.size + 1) (.int .i64 0) (.int .i64 0) := by
    rw [← hW2]
    have := Duo.new (w.alloc (.cells #[.slice none 0 0, .int .i64 0] 25)) 28 (.int .i64 0) (.int .i64 0)
    simpa using this
  have cT := rTokens_any s W2
  have HW2 := hidb hW2
  have HB2 := hidb hB2
  have HD1 := hidb hD1
  have HD2 := hidb hD2
  clear hW2 hB2 hD1 hD2
  cases hA : allT s with
  | inr q =>
    obtain ⟨er, p⟩ := q
    have hR : parseP s = .error (er, p) := by unfold parseP; rw [hA]
    have her := allT_err s hA
    rw [hR]
    rw [hA] at cT
    have k4 : (er != 0) = true := by simpa using her
    clear hA hR
    go_enter Tryz.func11, Tryz.ntmps11
    go_wp2_with (go_at_call 17; rw [HW2.out]; refine cT.mono ?_; rintro r1 w1 ⟨⟨l, V, hl, rfl, ho⟩ | ⟨er', p', hl, rfl⟩, hb⟩ <;> first | (cases hl; have HB := hidb hb; obtain ⟨y0, y1, z0, z1, q1⟩ := HD1.out.keep hb; obtain ⟨y2, y3, z2, z3, q2⟩ := HD2.out.keep hb; clear hb) | cases hl)
    go_region_law (fail)
    all_goals (
      go_wp2_with fail
      obtain ⟨e1, e2, e3⟩ := put4_all (HD1.out.keep HB.out) (HD2.out.keep HB.out) (by omega) (.slice none 0 0) (.int .i64 0) (.int .i64 er) (.int .i64 (p : Int))
      have hb6 : Below w.heap.size w1 (put4 w1 w.heap.size (w.heap.size + 1) (.slice none 0 0) (.int .i64 0) (.int .i64 er) (.int .i64 (p : Int))) := e3.below (by omega) (fun k hk => by omega)
      have e5 := e1.keep (Below.drew (below_new _ (.cells #[.int .i64 er, .int .i64 (p : Int)] 28)))
      have e6 := e2.keep (Below.drew (below_new _ (.cells #[.int .i64 er, .int .i64 (p : Int)] 28)))
      have hb7 := ((HB2.out.trans (HB.out.mono (by omega))).trans hb6).trans ((Below.drew (below_new _ (.cells #[.int .i64 er, .int .i64 (p : Int)] 28))).mono (by have := hb6.size; omega))
      have k0 := e5.c0; have k1 := e5.c1; have k2 := e6.c0; have k3 := e6.c1
      simp only [put4] at k0 k1 k2 k3
      exact bodyPost_ret (v := .tuple #[.agg #[.slice none 0 0, .int .i64 0], .agg #[.int .i64 er, .int .i64 (p : Int)]]) (by simp [results, Tryz.results11, go_sem, k0, k1, k2, k3]) rfl ⟨hb7, .inl ⟨er, p, rfl, rfl⟩⟩)
  | inl l =>
    have hR : parseP s = treeP l := by unfold parseP; rw [hA]
    obtain ⟨hne, hlen⟩ := allT_ends s hA
    obtain ⟨htg, hend⟩ := allT_tg s hA
    have hpos : 0 < l.length := by obtain ⟨a, t, h, _⟩ := hend; rw [h]; simp
    obtain ⟨R, hRR⟩ : ∃ R, treeP l = R := ⟨_, rfl⟩
    have HR : Hid (R = Gm.module (Gm.expr 201) ⟨l, [], 0⟩) := hidb hRR.symm
    rw [hR, hRR]
    rw [hA] at cT
    have HNE := hidb hne
    have HTG := hidb htg
    have HEN := hidb hend
    clear hA hR hne htg hend hRR
    go_enter Tryz.func11, Tryz.ntmps11
    go_wp2_with (first
      | (go_at_call 17; rw [HW2.out]; refine cT.mono ?_; rintro r1 w1 ⟨⟨l2, V, hl, rfl, ho⟩ | ⟨er', p', hl, rfl⟩, hb⟩ <;> first | (cases hl; have HB := hidb hb; obtain ⟨q, cap, rfl, hqB, hqc, hcs⟩ := own_cell ho hpos; have HQL := hidb (row_lt ho q rfl); have HTK := hidb (tks_of l 0 (fun k u h => by rw [Nat.zero_add]; exact hcs k u h)); clear hb ho hcs) | (cases hl; done)))
    obtain ⟨W3, hW3⟩ : ∃ W3, ((w1.alloc (.cells #[.int .i64 0, .int .i64 0] 28)).alloc (.cells #[.slice (some ⟨q, 0, none⟩) l.length cap, .int .i64 0, .slice none 0 0, .int .i64 0, .int .i64 0, .int .i64 0] 50)) = W3 := ⟨_, rfl⟩
    have hB3 : Below w1.heap.size w1 W3 := by rw [← hW3]; exact ((Below.refl _ _).alloc (Nat.le_refl _) _).alloc (by simp) _
    have hZ3 : W3.heap.size = w1.heap.size + 1 + 1 := by rw [← hW3]; simp
    have hSix : Six W3 (w1.heap.size + 1) (.slice (some ⟨q, 0, none⟩) l.length cap) (.int .i64 0) (.slice none 0 0) (.int .i64 0) (.int .i64 0) (.int .i64 0) := by
      rw [← hW3]
      have := Six.new (w1.alloc (.cells #[.int .i64 0, .int .i64 0] 28)) 50 (.slice (some ⟨q, 0, none⟩) l.length cap) (.int .i64 0) (.slice none 0 0) (.int .i64 0) (.int .i64 0) (.int .i64 0)
      simpa using this
    have hql := HQL.out
    have hz1 := HB.out.size
    have hAt : At w.heap.size (w1.heap.size + 1) q 0 (fun k => k < w1.heap.size + 1) W3 (.slice none 0 0) ⟨l, [], 0⟩ := by
      refine ⟨⟨l, 0, ⟨⟨cap, hSix⟩, HTK.out.but (But.of_below (S := fun _ => False) hB3) hql (fun h => h), hpos, hlen, by omega, by omega⟩, rfl, HTG.out, HEN.out⟩, ⟨⟨[], rfl, World.ownsRow_nil _ _ _ _, by simp⟩, by simp [Value.ownBlock], by simp [Value.ownBlock], by simp⟩, by omega, HNE.out, rfl, But.refl _ _, .inl rfl, fun k hk => by omega, fun k hk => ⟨by simp [Value.ownBlock], by omega⟩, hlen⟩
    have HA := hidb hAt
    have HB3 := hidb hB3
    have HD13 := hidb ((HD1.out.keep HB.out).keep hB3)
    have HD23 := hidb ((HD2.out.keep HB.out).keep hB3)
    rw [hW3]
    clear hSix hAt hB3 hW3
    refine (pModule (ec_expr 200 0 rfl) HA.out).mono ?_
    rintro r1 w4 (⟨er, p, z, hq, rfl, hbd⟩ | ⟨r, s1, V1, hq, rfl, hs⟩)
    · have HQ := hidb (HR.out.trans hq)
      have HD14 := hidb (HD13.out.but hbd.but (by simp [Value.ownBlock]; omega))
      have HD24 := hidb (HD23.out.but hbd.but (by simp [Value.ownBlock]; omega))
      have hb4 : Below w.heap.size W3 w4 := hbd.but.below (by omega) (fun k hk => by simp [Value.ownBlock] at hk; omega)
      have HB4 := hidb hb4
      obtain ⟨g4, g5⟩ := hbd.cells
      have hgl := hbd.glt
      have H := hidb hbd
      obtain ⟨y0, y1, z0, z1, q1⟩ := HD14.out
      obtain ⟨y2, y3, z2, z3, q2⟩ := HD24.out
      clear hq hbd hb4
      go_wp2_with (go_at_call 19; refine (bBad H.out).mono ?_; rintro r1 w5 ⟨rfl, rfl⟩)
      go_region_law (fail)
      all_goals (
        go_wp2_with fail
        obtain ⟨e1, e2, e3⟩ := put4_all HD14.out HD24.out (by omega) (.slice none 0 0) (.int .i64 0) (.int .i64 er) (.int .i64 (p : Int))
        have hz3 := HB3.out.size
        have hz4 := HB4.out.size
        have hb6 : Below w.heap.size w5 (put4 w5 w.heap.size (w.heap.size + 1) (.slice none 0 0) (.int .i64 0) (.int .i64 er) (.int .i64 (p : Int))) := e3.below (by omega) (fun k hk => by omega)
        have hb7 := ((((HB2.out.trans (HB.out.mono (by omega))).trans (HB3.out.mono (by omega))).trans HB4.out).trans hb6).drew
        have e5 := e1.keep (Below.drew (Below.refl _ _))
        have e6 := e2.keep (Below.drew (Below.refl _ _))
        have k0 := e5.c0; have k1 := e5.c1; have k2 := e6.c0; have k3 := e6.c1
        simp only [put4] at k0 k1 k2 k3
        exact bodyPost_ret (v := .tuple #[.agg #[.slice none 0 0, .int .i64 0], .agg #[.int .i64 er, .int .i64 (p : Int)]]) (by simp [results, Tryz.results11, go_sem, k0, k1, k2, k3]) rfl ⟨hb7, .inl ⟨er, p, HQ.out, rfl⟩⟩)
    · have HQ := hidb (HR.out.trans hq)
      have HD14 := hidb (HD13.out.but hs.but (by simp [Value.ownBlock]; omega))
      have HD24 := hidb (HD23.out.but hs.but (by simp [Value.ownBlock]; omega))
      have hb4 : Below w.heap.size W3 w4 := hs.but.below (by omega) (fun k hk => by simp [Value.ownBlock] at hk; omega)
      have HB4 := hidb hb4
      obtain ⟨va, vm, vc, rfl⟩ := hs.sl
      have g2 := hs.cell2
      have hgl := hs.glt
      have H := hidb hs
      obtain ⟨y0, y1, z0, z1, q1⟩ := HD14.out
      obtain ⟨y2, y3, z2, z3, q2⟩ := HD24.out
      clear hq hs hb4
      go_wp2_with (go_at_call 19; refine (sBad H.out).mono ?_; rintro r1 w5 ⟨rfl, rfl⟩)
      obtain ⟨e1, e2, e3⟩ := put4_all HD14.out HD24.out (by omega) (.slice va vm vc) (iv r) (.int .i64 0) (.int .i64 0)
      have hz3 := HB3.out.size
      have hz4 := HB4.out.size
      have hb6 : Below w.heap.size w5 (put4 w5 w.heap.size (w.heap.size + 1) (.slice va vm vc) (iv r) (.int .i64 0) (.int .i64 0)) := e3.below (by omega) (fun k hk => by omega)
      have hb7 := (((HB2.out.trans (HB.out.mono (by omega))).trans (HB3.out.mono (by omega))).trans HB4.out).trans hb6
      have hnd := (H.out.ns.but e3 (fun k hk he => (H.out.npv k (show k < w1.heap.size + 1 by omega)).1 hk) (fun k he => .inr (.inr (show k < w1.heap.size + 1 by omega)))).nodes (fun k hk => show k < w1.heap.size + 1 by omega)
      have k0 := e1.c0; have k1 := e1.c1; have k2 := e2.c0; have k3 := e2.c1
      simp only [put4] at k0 k1 k2 k3
      exact bodyPost_ret (v := .tuple #[.agg #[.slice va vm vc, iv r], .agg #[.int .i64 0, .int .i64 0]]) (by simp [results, Tryz.results11, go_sem, k0, k1, k2, k3]) rfl ⟨hb7, .inr ⟨r, s1, _, HQ.out, rfl, hnd⟩⟩
end Rf
end Go.Proofs.YthdljnakmekhkaaGreatDoor


/- Nodes that are laid make a forest: each is owned once, by a later one, but for the roots. -/
namespace Go.Proofs.YthdljnakmekhkaaGreatDoor

/-- The nodes b, laid behind n0 others, are a forest with the roots l. -/
structure Forest (n0 : Nat) (b : List Nd) (l : List Nat) : Prop where
  inc : l.Pairwise (· < ·)
  rng : ∀ i ∈ l, n0 ≤ i ∧ i < n0 + b.length
  kid : ∀ j n, b[j]? = some n → n.l.Pairwise (· < ·) ∧ ∀ c ∈ n.l, n0 ≤ c ∧ c < n0 + j
  one : ∀ i, n0 ≤ i → i < n0 + b.length → (b.flatMap (·.l)).count i = if i ∈ l then 0 else 1

theorem Forest.nil (n0 : Nat) : Forest n0 [] [] := ⟨List.Pairwise.nil, (by simp), (by simp), fun i h1 h2 => by simp at h2; omega⟩
theorem Forest.kids {n0 : Nat} {b : List Nd} {l : List Nat} (h : Forest n0 b l) {c : Nat} (hc : c ∈ b.flatMap (·.l)) : n0 ≤ c ∧ c < n0 + b.length := by
  obtain ⟨n, hn, hcn⟩ := List.mem_flatMap.1 hc
  obtain ⟨j, hj, hjn⟩ := List.getElem_of_mem hn
  have := (h.kid j n (by rw [List.getElem?_eq_getElem hj, hjn])).2 c hcn
  omega
theorem Forest.append {n0 : Nat} {b b' : List Nd} {l l' : List Nat} (h : Forest n0 b l) (h' : Forest (n0 + b.length) b' l') : Forest n0 (b ++ b') (l ++ l') := by
  refine ⟨List.pairwise_append.2 ⟨h.inc, h'.inc, fun x hx y hy => ?_⟩, fun i hi => ?_, fun j n hj => ?_, fun i h1 h2 => ?_⟩
  · have := h.rng x hx
    have := h'.rng y hy
    omega
  · rw [List.length_append]
    rcases List.mem_append.1 hi with hi | hi
    · have := h.rng i hi; omega
    · have := h'.rng i hi; omega
  · by_cases hjl : j < b.length
    · rw [List.getElem?_append_left hjl] at hj
      exact h.kid j n hj
    · rw [List.getElem?_append_right (by omega)] at hj
      obtain ⟨h3, h4⟩ := h'.kid _ n hj
      exact ⟨h3, fun c hc => by have := h4 c hc; omega⟩
  · rw [List.flatMap_append, List.count_append]
    rw [List.length_append] at h2
    by_cases hi : i < n0 + b.length
    · have h3 : (b'.flatMap (·.l)).count i = 0 := List.count_eq_zero.2 fun hc => by have := h'.kids hc; omega
      have h4 : i ∉ l' := fun hc => by have := h'.rng i hc; omega
      rw [h3, h.one i h1 hi]
      simp [h4]
    · have h3 : (b.flatMap (·.l)).count i = 0 := List.count_eq_zero.2 fun hc => by have := h.kids hc; omega
      have h4 : i ∉ l := fun hc => by have := h.rng i hc; omega
      rw [h3, h'.one i (by omega) (by omega)]
      simp [h4]
theorem Forest.lay {n0 : Nat} {b : List Nd} {l : List Nat} (h : Forest n0 b l) {n : Nd} (hn : n.l = l) : Forest n0 (b ++ [n]) [n0 + b.length] := by
  refine ⟨List.pairwise_singleton _ _, fun i hi => ?_, fun j m hj => ?_, fun i h1 h2 => ?_⟩
  · simp at hi; simp; omega
  · by_cases hjl : j < b.length
    · rw [List.getElem?_append_left hjl] at hj
      exact h.kid j m hj
    · rw [List.getElem?_append_right (by omega)] at hj
      have hj0 : j - b.length = 0 := by
        cases hd : j - b.length with
        | zero => rfl
        | succ d => simp [hd] at hj
      rw [hj0] at hj
      simp at hj
      subst hj
      rw [hn]
      exact ⟨h.inc, fun c hc => by have := h.rng c hc; omega⟩
  · rw [List.flatMap_append, List.count_append]
    simp only [List.flatMap_cons, List.flatMap_nil, List.append_nil, hn]
    have hnd : l.Nodup := h.inc.imp (fun h => Nat.ne_of_lt h)
    rw [List.length_append] at h2
    by_cases hi : i < n0 + b.length
    · rw [h.one i h1 hi]
      have h5 : i ∉ [n0 + b.length] := by simp; omega
      rw [if_neg h5]
      by_cases hm : i ∈ l
      · rw [if_pos hm]
        have h6 := List.count_pos_iff.2 hm
        have h7 := List.nodup_iff_count.1 hnd i
        omega
      · rw [if_neg hm, List.count_eq_zero.2 hm]
    · have h3 : (b.flatMap (·.l)).count i = 0 := List.count_eq_zero.2 fun hc => by have := h.kids hc; omega
      have h4 : l.count i = 0 := List.count_eq_zero.2 fun hc => by have := h.rng i hc; omega
      have h5 : i ∈ [n0 + b.length] := by simp at h2 ⊢; omega
      rw [h3, h4, if_pos h5]

/-- What has been laid since s0 is a forest with the roots l. -/
def Fo (s0 s : PS) (l : List Nat) : Prop := ∃ b, s.ns = s0.ns ++ b ∧ Forest s0.ns.length b l
theorem Fo.start (s : PS) : Fo s s [] := ⟨[], by simp, Forest.nil _⟩
theorem Fo.trans {s0 s s' : PS} {l l' : List Nat} (h : Fo s0 s l) (h' : Fo s s' l') : Fo s0 s' (l ++ l') := by
  obtain ⟨b, h1, h2⟩ := h
  obtain ⟨b', h3, h4⟩ := h'
  refine ⟨b ++ b', by rw [h3, h1, List.append_assoc], h2.append ?_⟩
  rw [h1, List.length_append] at h4
  exact h4

namespace Gm
/-- A step that goes on with the roots l, and tells roots. -/
def Ks {α : Type} (l : List Nat) (r : α → List Nat) (m : PM α) : Prop := ∀ s0 s a s', Fo s0 s l → m s = .ok (a, s') → Fo s0 s' (r a)
theorem ks_bind {α β : Type} {l : List Nat} {r : α → List Nat} {q : β → List Nat} {m : PM α} {f : α → PM β} (h : Ks l r m) (g : ∀ a, Ks (r a) q (f a)) : Ks l q (m >>= f) := by
  intro s0 s b s' hf hb
  rw [bind_at] at hb
  cases hm : m s with
  | error e => simp [hm] at hb
  | ok p =>
    obtain ⟨a, t⟩ := p
    simp only [hm] at hb
    exact g a s0 t b s' (h s0 s a t hf hm) hb
/-- A rule: it lays a tree of its own. -/
abbrev Rt (m : PM Nat) : Prop := Ks [] (fun x => [x]) m
abbrev RtL (m : PM (List Nat)) : Prop := Ks [] (fun x => x) m
theorem ks_add {α : Type} {r : α → List Nat} {m : PM α} (h : Ks [] r m) (l : List Nat) : Ks l (fun a => l ++ r a) m := fun _ _ a s' hf hm => hf.trans (h _ _ a s' (Fo.start _) hm)
theorem ks_still {α : Type} {m : PM α} (h : ∀ s a s', m s = .ok (a, s') → s'.ns = s.ns) (l : List Nat) : Ks l (fun _ => l) m := fun s0 s a s' hf hm => by
  obtain ⟨b, h1, h2⟩ := hf
  exact ⟨b, by rw [h s a s' hm, h1], h2⟩
theorem ks_pure {α : Type} {r : α → List Nat} {l : List Nat} (a : α) (h : r a = l) : Ks l r (pure a) := fun s0 s b s' hf hm => by cases hm; rw [h]; exact hf
theorem ks_here (l : List Nat) : Ks l (fun _ => l) here := ks_still (fun _ _ _ h => by cases h; rfl) l
theorem ks_ahead (l : List Nat) : Ks l (fun _ => l) ahead := ks_still (fun _ _ _ h => by cases h; rfl) l
theorem ks_left (l : List Nat) : Ks l (fun _ => l) left := ks_still (fun _ _ _ h => by cases h; rfl) l
theorem ks_next (l : List Nat) : Ks l (fun _ => l) next := ks_still (fun _ _ _ h => by cases h; rfl) l
theorem ks_take (w : ByteArray) (l : List Nat) : Ks l (fun _ => l) (take w) := ks_still (fun s a s' h => by
  simp only [take] at h
  split at h <;> cases h <;> rfl) l
theorem ks_need (w : ByteArray) (l : List Nat) : Ks l (fun _ => l) (need w) := ks_still (fun s a s' h => by
  simp only [need] at h
  split at h
  · cases h; rfl
  · cases h) l
theorem ks_needK (k : Int) (l : List Nat) : Ks l (fun _ => l) (needK k) := ks_still (fun s a s' h => by
  simp only [needK] at h
  split at h
  · cases h; rfl
  · cases h) l
theorem ks_giveUp {α : Type} {l : List Nat} {r : α → List Nat} (e : Int) : Ks l r (giveUp e) := fun _ _ _ _ _ h => by cases h
theorem ks_fault {α : Type} {l : List Nat} {r : α → List Nat} (e : Int) (p : Nat) : Ks l r (fault e p) := fun _ _ _ _ _ h => by cases h
theorem ks_lay (n : Nd) : Ks n.l (fun x => [x]) (lay n) := by
  intro s0 s x s' hf h
  obtain ⟨b, h1, h2⟩ := hf
  simp only [lay] at h
  split at h
  · cases h
  · cases h
    refine ⟨b ++ [n], by simp [h1], ?_⟩
    rw [h1, List.length_append]
    exact h2.lay rfl
theorem ks_ite {α : Type} {l : List Nat} {r : α → List Nat} {c : Prop} [Decidable c] {m n : PM α} (h : Ks l r m) (g : Ks l r n) : Ks l r (if c then m else n) := by split <;> assumption
theorem rt_layNone (k : Int) (l : List Nat) : Ks l (fun x => l ++ [x]) (layNone k) := ks_add (ks_bind (ks_here []) fun _ => ks_lay ⟨k, ⟨#[]⟩, 0, 0, [], _⟩) l

variable {e : PM Nat}
theorem rt_more (he : Rt e) (most : Nat) : ∀ k l, Ks l (fun x => x) (more e most k l)
  | 0, l => ks_pure l rfl
  | k + 1, l => ks_bind (ks_take _ l) fun _ => ks_ite (ks_ite (ks_giveUp _) (ks_bind (ks_add he l) fun _ => rt_more he most k _)) (ks_pure l rfl)
theorem rt_exprs (he : Rt e) (most : Nat) : RtL (exprs e most) := ks_bind he fun _ => ks_bind (ks_left _) fun _ => rt_more he _ _ _
theorem rt_group (he : Rt e) (k : Int) : Rt (group e k) := ks_bind (ks_here _) fun _ => ks_bind (rt_exprs he _) fun l => ks_lay ⟨k, ⟨#[]⟩, 0, 0, l, _⟩
theorem rt_body (he : Rt e) : Rt (body e) := rt_group he _
theorem rt_guard (he : Rt e) : Rt (guard e) := ks_bind (ks_take _ _) fun _ => ks_ite (rt_group he _) (rt_layNone _ [])
theorem rt_args (he : Rt e) : RtL (args e) :=
  ks_bind (ks_need _ _) fun _ => ks_bind (ks_take _ _) fun _ => ks_ite (ks_pure [] rfl) (ks_bind (rt_exprs he _) fun l => ks_bind (ks_need _ l) fun _ => ks_pure l rfl)
theorem rt_tail (he : Rt e) (p : Nat) (x : ByteArray) (l : List Nat) : Ks l (fun x => [x]) (tail e p x l) :=
  ks_bind (ks_add (rt_guard he) l) fun g => ks_bind (ks_need _ _) fun _ => ks_bind (ks_add (rt_body he) _) fun b => by
    have h := ks_lay ⟨21, x, (l.length : Int), 0, l ++ [g, b], p⟩
    simpa using h
theorem rt_fclause (he : Rt e) : Rt (fclause e) := ks_bind (ks_needK _ _) fun _ => ks_bind (rt_args he) fun _ => rt_tail he _ _ _
theorem rt_gclause (he : Rt e) : Rt (gclause e) := ks_bind (ks_here _) fun _ => ks_bind (rt_args he) fun _ => rt_tail he _ _ _
theorem rt_clause (he : Rt e) : Rt (clause e) := ks_bind (ks_here _) fun _ => ks_bind he fun _ => rt_tail he _ _ _
theorem rt_leaf : Rt leaf := ks_bind (ks_next _) fun t => ks_lay ⟨leafKind t.k, t.x, t.n, t.f, [], t.p⟩
theorem rt_cls : Rt cls := ks_bind (ks_here _) fun t => ks_bind (ks_ahead _) fun _ => ks_ite (ks_ite (ks_bind rt_leaf fun x => ks_bind (ks_need _ _) fun _ => ks_pure x rfl) (ks_giveUp _)) (ks_lay ⟨3, ⟨#[116, 104, 114, 111, 119]⟩, 0, 0, [], t.p⟩)
theorem rt_cclause (he : Rt e) : Rt (cclause e) := ks_bind (ks_here _) fun _ => ks_bind rt_cls fun _ => ks_bind (ks_add he _) fun _ => rt_tail he _ _ _
theorem rt_moreC {c : PM Nat} (hc : Rt c) : ∀ k l, Ks l (fun x => x) (moreC c k l)
  | 0, l => ks_pure l rfl
  | k + 1, l => ks_bind (ks_take _ l) fun _ => ks_ite (ks_bind (ks_add hc l) fun _ => rt_moreC hc k _) (ks_pure l rfl)
theorem rt_clauses {c : PM Nat} (hc : Rt c) : Rt (clauses c) := ks_bind (ks_here _) fun t => ks_bind hc fun _ => ks_bind (ks_left _) fun _ => ks_bind (rt_moreC hc _ _) fun l => ks_lay ⟨20, ⟨#[]⟩, 0, 0, l, t.p⟩
theorem rt_clausesBehind {c : PM Nat} (w : ByteArray) (hc : Rt c) : Rt (clausesBehind w c) := ks_bind (ks_take _ _) fun _ => ks_ite (rt_clauses hc) (rt_layNone _ [])
theorem rt_begin (he : Rt e) : Rt (begin e) := ks_bind (ks_next _) fun t => ks_bind (rt_exprs he _) fun l => ks_bind (ks_need _ _) fun _ => ks_lay ⟨19, ⟨#[]⟩, 0, 0, l, t.p⟩
theorem rt_choice (he : Rt e) : Rt (choice e) := ks_bind (ks_next _) fun t => ks_bind he fun x => ks_bind (ks_need _ _) fun _ => ks_bind (ks_add (rt_clauses (rt_clause he)) _) fun c => ks_bind (ks_need _ _) fun _ => ks_lay ⟨15, ⟨#[]⟩, 0, 0, [x, c], t.p⟩
theorem rt_funName (p : Nat) : Rt (funName p) := ks_bind (ks_next _) fun t => ks_bind (ks_need _ _) fun _ => ks_bind (ks_needK _ _) fun n => ks_ite (ks_fault _ _) (ks_lay ⟨14, t.x, n.n, 0, [], p⟩)
theorem rt_fn (he : Rt e) : Rt (fn e) := ks_bind (ks_next _) fun t => ks_bind (ks_here _) fun _ => ks_ite (rt_funName _) (ks_bind (rt_clauses (rt_gclause he)) fun c => ks_bind (ks_need _ _) fun _ => ks_lay ⟨13, ⟨#[]⟩, 0, 0, [c], t.p⟩)
theorem rt_afterB (he : Rt e) : Ks [] (fun a => [a.2]) (afterB e) := ks_bind (ks_take _ _) fun _ => ks_ite (ks_bind (rt_body he) fun x => ks_pure (1, x) rfl) (ks_bind (rt_layNone _ []) fun x => ks_pure (0, x) rfl)
theorem rt_tryOf (he : Rt e) : Rt (tryOf e) := ks_bind (ks_next _) fun t => ks_bind (rt_body he) fun b => ks_bind (ks_add (rt_clausesBehind _ (rt_clause he)) _) fun o => ks_bind (ks_here _) fun _ => ks_bind (ks_add (rt_clausesBehind _ (rt_cclause he)) _) fun c => ks_bind (ks_here _) fun _ => ks_ite (ks_bind (ks_add (rt_afterB he) _) fun a => ks_bind (ks_need _ _) fun _ => ks_lay ⟨16, ⟨#[]⟩, a.1, 0, [b, o, c, a.2], t.p⟩) (ks_giveUp _)
theorem ks_patience (l : List Nat) : Ks l (fun _ => l) patience := ks_bind (ks_here l) fun _ => ks_ite (ks_bind (ks_next l) fun _ => ks_pure _ rfl) (ks_ite (ks_bind (ks_next l) fun _ => ks_pure _ rfl) (ks_giveUp _))
theorem rt_received (he : Rt e) : Rt (received e) := ks_bind (ks_here _) fun _ => ks_ite (rt_layNone _ []) (rt_clauses (rt_clause he))
theorem rt_afterR (he : Rt e) : Ks [] (fun a => [a.2]) (afterR e) := ks_bind (ks_take _ _) fun _ => ks_ite (ks_bind (ks_patience _) fun n => ks_bind (ks_need _ _) fun _ => ks_bind (rt_body he) fun x => ks_pure (n, x) rfl) (ks_bind (rt_layNone _ []) fun x => ks_pure (0, x) rfl)
theorem rt_receive (he : Rt e) : Rt (receive e) := ks_bind (ks_next _) fun t => ks_bind (rt_received he) fun c => ks_bind (ks_add (rt_afterR he) _) fun a => ks_bind (ks_need _ _) fun _ => ks_lay ⟨18, ⟨#[]⟩, a.1, 0, [c, a.2], t.p⟩
theorem rt_worded (he : Rt e) : Rt (worded e) := ks_bind (ks_here _) fun _ => ks_ite (rt_begin he) (ks_ite (rt_choice he) (ks_ite (rt_fn he) (ks_ite (rt_tryOf he) (ks_ite (rt_receive he) (ks_giveUp _)))))
theorem rt_tuple (he : Rt e) : Rt (tuple e) := ks_bind (ks_next _) fun t => ks_bind (ks_here _) fun _ => ks_ite (ks_bind (ks_need _ _) fun _ => ks_lay ⟨6, ⟨#[]⟩, 0, 0, [], t.p⟩) (ks_bind (rt_exprs he _) fun l => ks_bind (ks_need _ _) fun _ => ks_lay ⟨6, ⟨#[]⟩, 0, 0, l, t.p⟩)
theorem rt_list (he : Rt e) : Rt (list e) := ks_bind (ks_next _) fun t => ks_bind (ks_here _) fun _ => ks_ite (ks_bind (ks_need _ _) fun _ => ks_lay ⟨7, ⟨#[]⟩, 0, 0, [], t.p⟩) (ks_bind (rt_exprs he _) fun l => ks_bind (ks_take _ _) fun _ => ks_ite (ks_bind (ks_add he l) fun x => ks_bind (ks_need _ _) fun _ => ks_lay ⟨8, ⟨#[]⟩, 0, 0, l ++ [x], t.p⟩) (ks_bind (ks_need _ _) fun _ => ks_lay ⟨7, ⟨#[]⟩, 0, 0, l, t.p⟩))
theorem rt_bracketed (he : Rt e) : Rt (bracketed e) := ks_bind (ks_here _) fun _ => ks_ite (ks_bind (ks_next _) fun _ => ks_bind he fun x => ks_bind (ks_need _ _) fun _ => ks_pure x rfl) (ks_ite (rt_tuple he) (ks_ite (rt_list he) (ks_giveUp _)))
theorem rt_primary (he : Rt e) : Rt (primary e) := ks_bind (ks_here _) fun _ => ks_ite rt_leaf (ks_ite (rt_bracketed he) (ks_ite (rt_worded he) (ks_giveUp _)))
theorem rt_called (he : Rt e) : Rt (called e) := ks_bind (ks_here _) fun t => ks_bind (ks_ahead _) fun _ => ks_ite (ks_bind (ks_next _) fun _ => ks_bind (rt_args he) fun l => ks_lay ⟨11, t.x, 0, 0, l, t.p⟩) (rt_primary he)
theorem rt_applied (he : Rt e) (p : Nat) : ∀ k x, Ks [x] (fun y => [y]) (applied e p k x)
  | 0, x => ks_pure x rfl
  | k + 1, x => ks_bind (ks_here _) fun _ => ks_ite (ks_bind (ks_add (rt_args he) [x]) fun l => ks_bind (ks_lay ⟨12, ⟨#[]⟩, 0, 0, x :: l, p⟩) fun y => rt_applied he p k y) (ks_pure x rfl)
theorem rt_call (he : Rt e) : Rt (call e) := ks_bind (ks_here _) fun _ => ks_bind (rt_called he) fun x => ks_bind (ks_left _) fun _ => rt_applied he _ _ x
theorem ks_signs : ∀ k l, Ks [] (fun _ => []) (signs k l)
  | 0, l => ks_pure l rfl
  | k + 1, l => ks_bind (ks_here _) fun _ => ks_ite (ks_bind (ks_next _) fun _ => ks_signs k _) (ks_pure l rfl)
theorem rt_layOps : ∀ l x, Ks [x] (fun y => [y]) (layOps l x)
  | [], x => ks_pure x rfl
  | t :: r, x => ks_bind (rt_layOps r x) fun y => ks_lay ⟨9, t.x, 0, 0, [y], t.p⟩
theorem rt_unary (he : Rt e) : Rt (unary e) := ks_bind (ks_left _) fun _ => ks_bind (ks_signs _ _) fun l => ks_bind (rt_call he) fun x => rt_layOps l x
theorem rt_leftward {m : PM Nat} (hm : Rt m) (sg : Tk → Bool) (p : Nat) : ∀ k x, Ks [x] (fun y => [y]) (leftward m sg p k x)
  | 0, x => ks_pure x rfl
  | k + 1, x => ks_bind (ks_here _) fun t => ks_ite (ks_bind (ks_next _) fun _ => ks_bind (ks_add hm [x]) fun y => ks_bind (ks_lay ⟨9, t.x, 0, 0, [x, y], p⟩) fun z => rt_leftward hm sg p k z) (ks_pure x rfl)
theorem rt_mul (he : Rt e) : Rt (mul e) := ks_bind (ks_here _) fun _ => ks_bind (rt_unary he) fun x => ks_bind (ks_left _) fun _ => rt_leftward (rt_unary he) _ _ _ x
theorem rt_add (he : Rt e) : Rt (add e) := ks_bind (ks_here _) fun _ => ks_bind (rt_mul he) fun x => ks_bind (ks_left _) fun _ => rt_leftward (rt_mul he) _ _ _ x
theorem rt_rightward {m : PM Nat} (hm : Rt m) (w : ByteArray) : ∀ k, Rt (rightward m w k)
  | 0 => hm
  | k + 1 => ks_bind (ks_here _) fun t => ks_bind hm fun x => ks_bind (ks_take _ _) fun _ => ks_ite (ks_bind (ks_add (rt_rightward hm w k) [x]) fun y => ks_lay ⟨9, w, 0, 0, [x, y], t.p⟩) (ks_pure x rfl)
theorem rt_right {m : PM Nat} (hm : Rt m) (w : ByteArray) : Rt (right m w) := ks_bind (ks_left _) fun _ => rt_rightward hm w _
theorem rt_compare (he : Rt e) : Rt (compare e) := ks_bind (ks_here _) fun t => ks_bind (rt_right (rt_add he) _) fun x => ks_bind (ks_here _) fun u => ks_ite (ks_bind (ks_next _) fun _ => ks_bind (ks_add (rt_right (rt_add he) _) [x]) fun y => ks_lay ⟨9, u.x, 0, 0, [x, y], t.p⟩) (ks_pure x rfl)
theorem rt_opened (he : Rt e) : Rt (opened e) := ks_bind (ks_here _) fun t => ks_bind (ks_take _ _) fun _ => ks_ite (ks_bind he fun x => ks_lay ⟨17, ⟨#[]⟩, 0, 0, [x], t.p⟩) (ks_bind (rt_right (rt_right (rt_compare he) _) _) fun x => ks_bind (ks_take _ _) fun _ => ks_ite (ks_bind (ks_add he [x]) fun y => ks_lay ⟨10, ⟨#[]⟩, 0, 0, [x, y], t.p⟩) (ks_bind (ks_take _ _) fun _ => ks_ite (ks_bind (ks_add he [x]) fun y => ks_lay ⟨9, ⟨#[33]⟩, 0, 0, [x, y], t.p⟩) (ks_pure x rfl)))
theorem rt_expr : ∀ k, Rt (expr k)
  | 0 => ks_giveUp _
  | k + 1 => by
    intro s0 s a s' hf hm
    simp only [expr] at hm
    split at hm
    · cases hm
    · cases ho : opened (expr k) { s with o := s.o + 1 } with
      | error er => simp [ho] at hm
      | ok p =>
        obtain ⟨x, t⟩ := p
        simp only [ho] at hm
        cases hm
        exact rt_opened (rt_expr k) s0 { s with o := s.o + 1 } _ t hf ho
theorem rt_function (he : Rt e) : Rt (functionOf e) := ks_bind (ks_here _) fun t => ks_bind (rt_clauses (rt_fclause he)) fun c => ks_bind (ks_need _ _) fun _ => fun s0 s x s' hf hm => ks_lay ⟨23, _, _, 0, [c], t.p⟩ s0 s x s' hf hm
theorem rt_functions (he : Rt e) : ∀ k l, Ks l (fun x => x) (functions e k l)
  | 0, l => ks_pure l rfl
  | k + 1, l => ks_bind (ks_here _) fun _ => ks_ite (ks_pure l rfl) (ks_bind (ks_add (rt_function he) l) fun _ => rt_functions he k _)
theorem rt_module (he : Rt e) : Rt (module e) := ks_bind (ks_here _) fun t => ks_bind (ks_need _ _) fun _ => ks_bind (ks_here _) fun _ => ks_ite (ks_bind (ks_next _) fun _ => ks_bind (ks_need _ _) fun _ => ks_bind (ks_needK _ _) fun n => ks_bind (ks_need _ _) fun _ => ks_bind (ks_need _ _) fun _ => ks_bind (ks_left _) fun _ => ks_bind (rt_functions he _ _) fun l => ks_lay ⟨24, n.x, 0, 0, l, t.p⟩) (ks_giveUp _)
end Gm
/-- A tree is a tree: each node but the root is owned once, by a later one. -/
theorem tree_forest (ts : List Tk) {r : Nat} {s : PS} (h : Gm.module (Gm.expr 201) ⟨ts, [], 0⟩ = .ok (r, s)) : Forest 0 s.ns [r] := by
  obtain ⟨b, h1, h2⟩ := Gm.rt_module (Gm.rt_expr 201) _ _ r s (Fo.start _) h
  simp at h1
  subst h1
  exact h2
end Go.Proofs.YthdljnakmekhkaaGreatDoor


/- The grammar, reckoned at given sources. -/
namespace Go.Proofs.YthdljnakmekhkaaGreatDoor
open Go.RowKit Go.Lib

/-- The first example's source. -/
def src1 : ByteArray := ⟨#[45, 109, 111, 100, 117, 108, 101, 40, 109, 41, 46, 32, 102, 40, 88, 41, 32, 119, 104, 101, 110, 32, 88, 32, 62, 32, 48, 32, 45, 62, 32, 88, 32, 45, 32, 49, 46]⟩
def src2 : ByteArray := ⟨#[45, 109, 111, 100, 117, 108, 101, 40, 109, 41, 46, 32, 102, 40, 41, 32, 45, 62, 32, 49, 32, 43, 46]⟩
def is1 (r : Except (Int × Nat) (Nat × PS)) : Bool := match r with
  | .ok (r, s) => decide (r = 12) && decide (s.ns.length = 13) && (match s.ns[3]? with | some n => decide (n.k = 9) && decide (n.x = ⟨#[62]⟩) | none => false) && (match s.ns[12]? with | some n => decide (n.k = 24) && decide (n.x = ⟨#[109]⟩) | none => false)
  | _ => false
theorem src1_is : is1 (parseP src1) = true := by kernel_rfl
theorem src2_is : parseP src2 = .error (24, 22) := by kernel_rfl
end Go.Proofs.YthdljnakmekhkaaGreatDoor


/- known. -/
namespace Go.Proofs.YthdljnakmekhkaaGreatDoor
open Go.RowKit Go.Lib
attribute [local go_sem] store_float f64bits
attribute [local go_sem ↓] Go.wp_at_zero Go.wp_at_succ

theorem Nodes.node {w : World} {B : Nat} {V : Value} {ns : List Nd} (h : Nodes w B V ns) {i : Nat} {n : Nd} (hi : ns[i]? = some n) :
    ∃ q cap v, V = .slice (some ⟨q, 0, none⟩) ns.length cap ∧ B ≤ q ∧ q < w.heap.size ∧ LRow w v n.l ∧ (∀ j, j < 6 → w.cell? ⟨q, i * 6 + j, none⟩ = (n.cells v)[j]?) := by
  obtain ⟨⟨vs, hl, ho, hr⟩, _⟩ := h
  have hlt := (List.getElem?_eq_some_iff.1 hi).1
  obtain ⟨v, hv⟩ : ∃ v, vs[i]? = some v := ⟨_, List.getElem?_eq_getElem (by omega)⟩
  have hlow := ho.lt
  rcases ho.2 with ⟨_, h0⟩ | ⟨q, cap, cur, hV, _⟩
  · omega
  · subst hV
    exact ⟨q, cap, v, rfl, (hlow q rfl).1, (hlow q rfl).2, (hr i n v hi hv).1, fun j hj => (ho.cellAt (i * 6 + j) (by omega)).trans (ndCells_get ns vs i n v hi hv j hj)⟩

theorem known1 {w w' : World} {e : Ending} (h : ParseR w (parseP src1) e w') : ∃ q cap, e = .returned (.tuple #[.agg #[.slice (some ⟨q, 0, none⟩) 13 cap, .int .i64 12], .agg #[.int .i64 0, .int .i64 0]]) ∧
    q < w'.heap.size ∧ w'.cell? ⟨q, 18, none⟩ = some (.int .i64 9) ∧ w'.cell? ⟨q, 19, none⟩ = some (.string ⟨#[62]⟩) ∧ w'.cell? ⟨q, 72, none⟩ = some (.int .i64 24) ∧ w'.cell? ⟨q, 73, none⟩ = some (.string ⟨#[109]⟩) ∧ Below w.heap.size w w' := by
  have h1 := src1_is
  obtain ⟨hb, ⟨er, p, hr, he⟩ | ⟨r, s, V, hr, he, hn⟩⟩ := h
  · rw [hr] at h1; cases h1
  · rw [hr] at h1
    simp only [is1, Bool.and_eq_true, decide_eq_true_eq] at h1
    obtain ⟨⟨⟨h2, h3⟩, h4⟩, h5⟩ := h1
    obtain ⟨n3, hn3⟩ : ∃ n, s.ns[3]? = some n := ⟨_, List.getElem?_eq_getElem (by omega)⟩
    obtain ⟨n12, hn12⟩ : ∃ n, s.ns[12]? = some n := ⟨_, List.getElem?_eq_getElem (by omega)⟩
    simp only [hn3, Bool.and_eq_true, decide_eq_true_eq] at h4
    simp only [hn12, Bool.and_eq_true, decide_eq_true_eq] at h5
    obtain ⟨q, cap, v, hV, _, hq, _, hc⟩ := hn.node hn3
    obtain ⟨q', cap', v', hV', _, _, _, hc'⟩ := hn.node hn12
    obtain ⟨rfl, rfl⟩ : q = q' ∧ cap = cap' := by rw [hV] at hV'; cases hV'; exact ⟨rfl, rfl⟩
    have k0 := hc 0 (by omega); have k1 := hc 1 (by omega); have k2 := hc' 0 (by omega); have k3 := hc' 1 (by omega)
    simp only [Nd.cells, List.getElem?_cons_zero, List.getElem?_cons_succ, h4.1, h4.2, h5.1, h5.2] at k0 k1 k2 k3
    rw [h3] at hV
    subst h2
    exact ⟨q, cap, by rw [he, hV]; rfl, hq, k0, k1, k2, k3, hb⟩

theorem known2 {w w' : World} {e : Ending} (h : ParseR w (parseP src2) e w') : e = .returned (.tuple #[.agg #[.slice none 0 0, .int .i64 0], .agg #[.int .i64 24, .int .i64 22]]) ∧ Below w.heap.size w w' := by
  obtain ⟨hb, ⟨er, p, hr, he⟩ | ⟨r, s, V, hr, he, hn⟩⟩ := h
  · rw [src2_is] at hr; cases hr; exact ⟨he, hb⟩
  · rw [src2_is] at hr; cases hr

set_option maxHeartbeats 4000000 in
set_option maxRecDepth 100000 in
theorem known6_any (w : World) (hT : LexTab w) : Calls Tryz.prog 9 #[] w fun e w' => e = .returned (.bool true) ∧ Below w.heap.size w w' := by
  have GT : ∀ {wx : World}, Below w.heap.size w wx → LexTab wx := fun hb => hT.but (But.of_below (S := fun _ => False) hb) (fun _ e => e.elim)
  have HT := hidb hT
  clear hT
  have M0 : Hid True := hidb trivial
  go_enter Tryz.func9, Tryz.ntmps9
  go_wp2_with (first
    | (go_at_call 10; clear M0; refine (Parse_any src1 w HT.out).mono ?_; rintro e w1 h1; obtain ⟨q, cap, rfl, hq, k0, k1, k2, k3, hb⟩ := known1 h1; have HB := hidb hb; have HQ := hidb hq; have hX : Below w1.heap.size w1 ((w1.alloc (.cells #[.slice (some ⟨q, 0, none⟩) 13 cap, .int .i64 12] 25)).alloc (.cells #[.int .i64 0, .int .i64 0] 28)) := (((Below.refl _ _).alloc (Nat.le_refl _) _).alloc (by simp) _); have HX := hidb hX; have D1 := hidb ((Duo.new w1 25 (.slice (some ⟨q, 0, none⟩) 13 cap) (.int .i64 12)).keep (below_new _ (.cells #[.int .i64 0, .int .i64 0] 28))); have hDD := Duo.new (w1.alloc (.cells #[.slice (some ⟨q, 0, none⟩) 13 cap, .int .i64 12] 25)) 28 (.int .i64 0) (.int .i64 0); have hsz : (w1.alloc (.cells #[.slice (some ⟨q, 0, none⟩) 13 cap, .int .i64 12] 25)).heap.size = w1.heap.size + 1 := (by simp); rw [hsz] at hDD; have D2 := hidb hDD; clear h1 hb hX hDD hsz)
    | (go_at_call 10; refine (Parse_any src2 ((w1.alloc (.cells #[.slice (some ⟨q, 0, none⟩) 13 cap, .int .i64 12] 25)).alloc (.cells #[.int .i64 0, .int .i64 0] 28)) (GT (HB.out.trans (HX.out.mono HB.out.size)))).mono ?_; rintro e w2 h2; obtain ⟨rfl, hb2⟩ := known2 h2; have HB2 := hidb hb2; have hc : ∀ j, w2.cell? ⟨q, j, none⟩ = w1.cell? ⟨q, j, none⟩ := (fun j => (hb2.cell (p := ⟨q, j, none⟩) (Nat.lt_of_lt_of_le HQ.out HX.out.size)).trans (HX.out.cell (p := ⟨q, j, none⟩) HQ.out)); have hY : Below w2.heap.size w2 ((w2.alloc (.cells #[.slice none 0 0, .int .i64 0] 25)).alloc (.cells #[.int .i64 24, .int .i64 22] 28)) := (((Below.refl _ _).alloc (Nat.le_refl _) _).alloc (by simp) _); have hqY : q < w2.heap.size := Nat.lt_of_lt_of_le HQ.out (Nat.le_trans HX.out.size hb2.size); have hcY : ∀ j, ((w2.alloc (.cells #[.slice none 0 0, .int .i64 0] 25)).alloc (.cells #[.int .i64 24, .int .i64 22] 28)).cell? ⟨q, j, none⟩ = w1.cell? ⟨q, j, none⟩ := (fun j => (hY.cell (p := ⟨q, j, none⟩) hqY).trans (hc j)); have HY := hidb hY; have m0 := (hcY 18).trans k0; have m1 := (hcY 19).trans k1; have m2 := (hcY 72).trans k2; have m3 := (hcY 73).trans k3; obtain ⟨a0, a1, b0, b1, -⟩ := (D1.out.keep hb2).keep hY; obtain ⟨a2, a3, b2, b3, -⟩ := (D2.out.keep hb2).keep hY; clear h2 hb2 hc hcY hY hqY k0 k1 k2 k3))
  have z1 := HB.out.size
  have z2 := HX.out.size
  have z3 := HB2.out.size
  exact bodyPost_ret (v := .bool true) (by simp [results, Tryz.results9, go_sem]) rfl ⟨rfl, ((HB.out.trans (HX.out.mono z1)).trans (HB2.out.mono (by omega))).trans (HY.out.mono (by omega))⟩
end Go.Proofs.YthdljnakmekhkaaGreatDoor


