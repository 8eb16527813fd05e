import Derived.Test.YtpcpdehnppfbfaaGreatG19
import Derived.Test.YtpcpdehnppfbfaaGreatG06
/- Where a tree lies. -/
namespace Go.Proofs.YtpcpdehnppfbfaaGreat
open Go.RowKit Go.Deep

theorem get_lt {α : Type} {l : List α} {i : Nat} {x : α} (h : l[i]? = some x) : i < l.length := by
  rcases Nat.lt_or_ge i l.length with q | q
  · exact q
  · rw [List.getElem?_eq_none q] at h; cases h


mutual
/-- All of a tree lies in blocks of P. -/
def Tr.On (P : Nat → Prop) : Tr → Prop
  | .mk _ _ _ _ a _ kids => (0 < kids.length → ∀ ad, a = some ad → P ad.block) ∧ Tr.OnAll P kids
def Tr.OnAll (P : Nat → Prop) : List Tr → Prop
  | [] => True
  | t :: r => Tr.On P t ∧ Tr.OnAll P r
end

theorem onAll_get {P : Nat → Prop} {kids : List Tr} (h : Tr.OnAll P kids) {t : Tr} (ht : t ∈ kids) : t.On P := by
  induction kids with
  | nil => simp at ht
  | cons u r ih =>
    unfold Tr.OnAll at h
    rcases List.mem_cons.1 ht with rfl | ht
    · exact h.1
    · exact ih h.2 ht

/-- What lies in a world lies in its blocks. -/
theorem on_all {w : World} {base : Nat} : ∀ t : Tr, t.In w base → t.On (fun k => k < w.heap.size) := by
  refine Tr.ind fun k n f s a c kids hk h => ?_
  unfold Tr.In at h
  unfold Tr.On
  refine ⟨fun h0 ad had => ?_, ?_⟩
  · obtain ⟨u, hu⟩ : ∃ u, kids[0]? = some u := ⟨_, List.getElem?_eq_getElem h0⟩
    have q := (inAll_get (h.2 ad had).2 0 u hu).1 0 (by omega)
    cases u with
    | mk =>
      have e : ad.add (0 * 5 + 0) = ad := by unfold Addr.add; simp
      rw [e] at q
      exact World.block_lt_of_cell? w ad (q.trans rfl)
  · have : ∀ l : List Tr, (∀ t, t ∈ l → t ∈ kids) → Tr.OnAll (fun k => k < w.heap.size) l := by
      intro l
      induction l with
      | nil => intro _; unfold Tr.OnAll; trivial
      | cons t r ih =>
        intro hl
        unfold Tr.OnAll
        refine ⟨?_, ih fun u hu => hl u (List.mem_cons_of_mem _ hu)⟩
        have ht := hl t (List.mem_cons_self ..)
        obtain ⟨j, hj⟩ := List.getElem?_of_mem ht
        refine hk t ht ?_
        cases a with
        | none =>
          have h0 := h.1.2.2.2.2.2.2 rfl
          have h1 := h.1.2.2.2.2.1
          have : j < kids.length := by
            rcases Nat.lt_or_ge j kids.length with h | h
            · exact h
            · rw [List.getElem?_eq_none h] at hj; simp at hj
          omega
        | some ad => exact (inAll_get (h.2 ad rfl).2 j t hj).2
    exact this kids fun t h => h


theorem in_on {w w' : World} {base : Nat} {S : Nat → Prop} (hs : ∀ b, S b → w'.heap[b]? = w.heap[b]?) : ∀ t : Tr, t.In w base → t.On S → t.In w' base := by
  refine Tr.ind fun k n f s a c kids hk h ho => ?_
  unfold Tr.In at h ⊢
  unfold Tr.On at ho
  refine ⟨h.1, fun ad had => ⟨(h.2 ad had).1, inAll_of fun j t hj => ?_⟩⟩
  have g := inAll_get (h.2 ad had).2 j t hj
  have hpos : 0 < kids.length := by have := get_lt hj; omega
  have hS := ho.1 hpos ad had
  refine ⟨fun i hi => ?_, hk t (List.mem_of_getElem? hj) g.2 (onAll_get ho.2 (List.mem_of_getElem? hj))⟩
  rw [add_add]
  rw [← g.1 i hi]
  refine World.cell?_of_block (w := w) ?_
  have e : (ad.add (j * 5 + i)).block = ad.block := by unfold Addr.add; split <;> rfl
  rw [e]
  exact hs _ hS

theorem on_mono {S S' : Nat → Prop} (h : ∀ b, S b → S' b) : ∀ t : Tr, t.On S → t.On S' := by
  refine Tr.ind fun k n f s a c kids hk ho => ?_
  unfold Tr.On at ho ⊢
  refine ⟨fun h0 ad had => h _ (ho.1 h0 ad had), ?_⟩
  have : ∀ l : List Tr, (∀ t, t ∈ l → t ∈ kids) → Tr.OnAll S l → Tr.OnAll S' l := by
    intro l
    induction l with
    | nil => intro _ _; unfold Tr.OnAll; trivial
    | cons t r ih =>
      intro hl hx
      unfold Tr.OnAll at hx ⊢
      exact ⟨hk t (hl t (List.mem_cons_self ..)) hx.1, ih (fun u hu => hl u (List.mem_cons_of_mem _ hu)) hx.2⟩
  exact this kids (fun t h => h) ho.2


theorem on_from {w : World} {base : Nat} : ∀ t : Tr, t.In w base → t.On (fun k => base ≤ k) := by
  refine Tr.ind fun k n f s a c kids hk h => ?_
  unfold Tr.In at h
  unfold Tr.On
  refine ⟨fun h0 ad had => (h.2 ad had).1, ?_⟩
  cases a with
  | none =>
    have h0 := h.1.2.2.2.2.2.2 rfl
    have h1 := h.1.2.2.2.2.1
    have hz : kids = [] := List.length_eq_zero_iff.1 (by omega)
    subst hz
    unfold Tr.OnAll
    trivial
  | some ad =>
    have hin := (h.2 ad rfl).2
    have : ∀ l : List Tr, (∀ t, t ∈ l → t ∈ kids) → Tr.OnAll (fun k => base ≤ k) l := by
      intro l
      induction l with
      | nil => intro _; unfold Tr.OnAll; trivial
      | cons t r ih =>
        intro hl
        unfold Tr.OnAll
        refine ⟨?_, ih fun u hu => hl u (List.mem_cons_of_mem _ hu)⟩
        obtain ⟨j, hj⟩ := List.getElem?_of_mem (hl t (List.mem_cons_self ..))
        exact hk t (hl t (List.mem_cons_self ..)) (inAll_get hin j t hj).2
    exact this kids (fun t h => h)

theorem on_and {S S' : Nat → Prop} : ∀ t : Tr, t.On S → t.On S' → t.On (fun k => S k ∧ S' k) := by
  refine Tr.ind fun k n f s a c kids hk h h' => ?_
  unfold Tr.On at h h' ⊢
  refine ⟨fun h0 ad had => ⟨h.1 h0 ad had, h'.1 h0 ad had⟩, ?_⟩
  have : ∀ l : List Tr, (∀ t, t ∈ l → t ∈ kids) → Tr.OnAll S l → Tr.OnAll S' l → Tr.OnAll (fun k => S k ∧ S' k) l := by
    intro l
    induction l with
    | nil => intro _ _ _; unfold Tr.OnAll; trivial
    | cons t r ih =>
      intro hl hx hy
      unfold Tr.OnAll at hx hy ⊢
      exact ⟨hk t (hl t (List.mem_cons_self ..)) hx.1 hy.1, ih (fun u hu => hl u (List.mem_cons_of_mem _ hu)) hx.2 hy.2⟩
  exact this kids (fun t h => h) h.2 h'.2
end Go.Proofs.YtpcpdehnppfbfaaGreat


/- Put of any signal that may be. -/
namespace Go.Proofs.YtpcpdehnppfbfaaGreat
open Go.RowKit Go.Lib Go.Maps
attribute [local go_sem] store_float f64bits
attribute [local go_sem ↓] Go.wp_at_zero Go.wp_at_succ

variable {w0 w : World} {eb all N : Nat} {mv : Value} {f : Int → Int → Option Lane}

abbrev sgr (x0 x1 x2 x3 x4 : Int) (lk : Bool) (nm : ByteArray) (tk tn : Int) (tf : Nat) (ts : ByteArray) (ta : Option Addr) (tl tc : Nat) : List Value := [.int .i64 x0, .int .i64 x1, .int .i64 x2, .int .i64 x3, .int .i64 x4, .bool lk, .string nm, .int .i64 tk, .int .i64 tn, .float .f64 tf, .string ts, .slice ta tl tc]
/-- A signal's cells. -/
def sgc (x0 x1 x2 x3 x4 : Int) (lk : Bool) (nm : ByteArray) : Tr → List Value
  | .mk k n f s a c ks => sgr x0 x1 x2 x3 x4 lk nm k n f s a ks.length c
theorem in_set1 {w : World} {t : Tr} {R : Nat → Prop} (h : t.In w 0) (ho : t.On R) {p : Addr} (hp : ¬ R p.block) (v : Value) : t.In (w.setCell p v) 0 :=
  in_on (S := R) (fun b hb => by
    have : p.block ≠ b := fun e => hp (e ▸ hb)
    simp [World.setCell, Array.getElem?_modify, this]) _ h ho

set_option maxHeartbeats 4000000 in
set_option maxRecDepth 100000 in
theorem put_sig {x0 x1 x2 x3 x4 : Int} {lk : Bool} {nm : ByteArray} {tk tn : Int} {tf : Nat} {ts : ByteArray} {ta : Option Addr} {tc : Nat} {tks : List Tr} (hi : wfi x0) (hj : wfi x1) (h : EO w0 w eb mv f all N) (hN : N ≤ 100000) (hA : all ≤ 100000)
    (hin : (Tr.mk tk tn tf ts ta tc tks).In w 0) (hsm : Small (.mk tk tn tf ts ta tc tks)) (hcn : cnT (.mk tk tn tf ts ta tc tks) ≤ 1000000000) (hfar : (Tr.mk tk tn tf ts ta tc tks).On (fun q => q ≠ eb ∧ mv ≠ .map (some q)))
    (CK0 : ∀ W, Below w.heap.size w W → Calls Tryz.prog 18 #[.agg #[.int .i64 x0, .int .i64 x1, .int .i64 x2, .int .i64 x3, .int .i64 x4, .bool lk, .string nm, .int .i64 tk, .int .i64 tn, .float .f64 tf, .string ts, .slice ta tks.length tc]] W fun e w' => e = .returned (.int .i64 0) ∧ Below W.heap.size W w') :
    Calls Tryz.prog 8 #[.pointer (some ⟨eb, 0, none⟩), .agg #[.int .i64 x0, .int .i64 x1, .int .i64 x2, .int .i64 x3, .int .i64 x4, .bool lk, .string nm, .int .i64 tk, .int .i64 tn, .float .f64 tf, .string ts, .slice ta tks.length tc]] w fun e w' => e = .returned (.int .i64 0) ∧
      ∃ mv' l t', EO w0 w' eb mv' (updL f x0 x1 (some l)) (all + 1) (N + 2) ∧ l.xs = oldx f x0 x1 ++ sgc x0 x1 x2 x3 x4 lk nm t' ∧ l.k = oldk f x0 x1 + 1 ∧ But (putS mv f eb x0 x1) w w' ∧ (∀ k, mv' = .map (some k) → mv = .map (some k) ∨ w.heap.size ≤ k) ∧ (∀ q, foot l q → (∃ l0, f x0 x1 = some l0 ∧ foot l0 q) ∨ w.heap.size ≤ q)
        ∧ Sm (.mk tk tn tf ts ta tc tks) t' ∧ t'.In w' 0 ∧ t'.On (fun q => w.heap.size ≤ q ∧ ¬ foot l q ∧ q ≠ eb ∧ mv' ≠ .map (some q)) := by
  have ON := hidb (on_and _ hfar (on_all _ hin))
  have HIN := hidb hin
  have HWS : Hid (w.heap.size ≤ w.heap.size) := hidb (Nat.le_refl _)
  have HEB := hidb h.duo.lt
  have OW := hidb (fun W (h9 : (Tr.mk tk tn tf ts ta tc tks).In W 0) => own_any x0 x1 x2 x3 x4 lk nm tk tn tf ts ta tc tks W h9 hsm hcn)
  obtain ⟨L, hL⟩ : ∃ L, tks.length = L := ⟨_, rfl⟩
  rw [hL] at OW CK0 ⊢
  clear hL hin hsm hcn hfar HWS
  have CK := hidb CK0
  have HE := hidb h
  have HS := hidb (at_new w (.cells #[.int .i64 x0, .int .i64 x1, .int .i64 x2, .int .i64 x3, .int .i64 x4, .bool lk, .string nm, .int .i64 tk, .int .i64 tn, .float .f64 tf, .string ts, .slice ta L tc] ST))
  have hmlt : ∀ k, (k = eb ∨ mv = .map (some k)) → k < w.heap.size := by
    rintro k (rfl | e)
    · exact h.duo.lt
    · rcases h.map with ⟨e2, _⟩ | ⟨mb, n, e2, he, _⟩
      · rw [e2] at e; cases e
      · rw [e2] at e; obtain rfl : mb = k := by simpa using e
        exact he.lt
  have HML := hidb hmlt
  clear h CK0 hmlt
  go_enter Tryz.func8, Tryz.ntmps8
  go_wp2_with (go_at_call 18; refine (CK.out _ (below_new w _)).mono ?_; rintro e w1 ⟨rfl, hb1⟩; have HE1 := hidb ((HE.out.keep (below_new w _)).keep hb1); have HS1 := hidb (at_keep HS.out hb1); obtain ⟨s0, s1, s2, s3, s4, s5, s6, s7, s8, s9, s10, s11⟩ := box12 HS1.out; have HF1 : Hid (Below w.heap.size w w1) := hidb ((below_new w _).trans (hb1.mono (by simp))); clear hb1)
  have HE1D := hidb (HE1.out.keep ((Below.refl _ _).drew))
  have OP := hidb (open_any hi hj HE1D.out (by omega))
  have HLT := hidb (show w.heap.size < w1.heap.size from (Array.getElem?_eq_some_iff.1 HS1.out).1)
  have HFO : Hid (∀ l q, f x0 x1 = some l → foot l q → q < w.heap.size) := hidb (fun l q hl hq => (HE.out.foot_lt hl hq).1)
  clear HE CK HE1 HS
  go_region_held3 (fun w' => w'.cell? ⟨w.heap.size, 0, none⟩ = some (.int .i64 x0) ∧ w'.cell? ⟨w.heap.size, 1, none⟩ = some (.int .i64 x1) ∧ w'.cell? ⟨w.heap.size, 2, none⟩ = some (.int .i64 x2) ∧ w'.cell? ⟨w.heap.size, 3, none⟩ = some (.int .i64 x3) ∧ w'.cell? ⟨w.heap.size, 4, none⟩ = some (.int .i64 x4) ∧ w'.cell? ⟨w.heap.size, 5, none⟩ = some (.bool lk) ∧ w'.cell? ⟨w.heap.size, 6, none⟩ = some (.string nm) ∧ w'.cell? ⟨w.heap.size, 7, none⟩ = some (.int .i64 tk) ∧ w'.cell? ⟨w.heap.size, 8, none⟩ = some (.int .i64 tn) ∧ w'.cell? ⟨w.heap.size, 9, none⟩ = some (.float .f64 tf) ∧ w'.cell? ⟨w.heap.size, 10, none⟩ = some (.string ts) ∧ w'.cell? ⟨w.heap.size, 11, none⟩ = some (.slice ta L tc))
    (first | with_reducible exact ⟨s0, s1, s2, s3, s4, s5, s6, s7, s8, s9, s10, s11⟩ | with_reducible exact ⟨t0, t1, t2, t3, t4, t5, t6, t7, t8, t9, t10, t11⟩ | with_reducible exact ⟨u0, u1, u2, u3, u4, u5, u6, u7, u8, u9, u10, u11⟩ | with_reducible exact ⟨v0, v1, v2, v3, v4, v5, v6, v7, v8, v9, v10, v11⟩ | go_keep)
    (first
      | (go_at_call 19; refine OP.out.mono ?_; rintro e w2 ⟨mv', l, rfl, hE2, hx2, hk2, hor, hb2, hmv2⟩; have HMV : Hid (∀ k, mv' = .map (some k) → mv = .map (some k) ∨ w.heap.size ≤ k) := hidb (fun k hk => (hmv2 k hk).imp id (fun h => Nat.le_trans HF1.out.size h)); clear hmv2; have HE2 := hidb hE2; have HX2 := hidb hx2; have HK2 := hidb hk2; have HS2 := hidb ((hb2.block w.heap.size HLT.out (fun e => by have := HML.out _ e; omega)).trans HS1.out); obtain ⟨t0, t1, t2, t3, t4, t5, t6, t7, t8, t9, t10, t11⟩ := box12 HS2.out; have HNF := hidb (put_far HE2.out (updL_same _ _ _ _) (hor.imp id And.left) HFO.out HS2.out); have HOR := hidb hor; have HF2 := hidb hb2; have HI2 := hidb (in_on (w' := w2) (fun q hq => by have h1 := HF1.out; exact (hb2.block q (show q < w1.heap.size by have := h1.size; have := hq.2; omega) (fun e => e.elim hq.1.1 hq.1.2)).trans (h1.block q hq.2)) _ HIN.out ON.out); clear hE2 hx2 hk2 hor hb2 OP)
      | (go_at_call 21; refine (OW.out _ HI2.out).mono ?_; rintro e w3 ⟨k', n', f', s', a', c', ks', rfl, hsm', hin', hb3⟩; obtain ⟨L', hL'⟩ : ∃ L', ks'.length = L' := ⟨_, rfl⟩; rw [hL']; have HL := hidb hL'; have HSM := hidb hsm'; have HI3 := hidb hin'; have HO3 := hidb (on_and _ (on_from _ hin') (on_all _ hin')); clear hL' hsm' hin'; have HE3 := hidb (HE2.out.keep hb3); have HS3 := hidb (at_keep HS2.out hb3); obtain ⟨u0, u1, u2, u3, u4, u5, u6, u7, u8, u9, u10, u11⟩ := box12 HS3.out; have HF3 := hidb hb3; clear hb3 OW)
      | (go_at_call 20; refine (pushS_any x0 x1 x2 x3 x4 lk nm k' n' f' s' a' L' c' (HE3.out.lane _ _ _ (updL_same _ _ _ _)).2.2.1 HE3.out.bel.size (by omega)).mono ?_; rintro e w4 ⟨rfl, V', hr, hb4, hs4⟩; have HE4 := hidb (HE3.out.step (updL_same _ _ _ _) hr hb4 hs4 (Nat.le_succ _)); obtain ⟨v0, v1, v2, v3, v4, v5, v6, v7, v8, v9, v10, v11⟩ := box12 ((hb4.block w.heap.size (Array.getElem?_eq_some_iff.1 HS3.out).1 HNF.out).trans HS3.out); have HB4 := hidb hb4; have HS4 := hidb hs4; have HF4 := hidb (put_frame HF1.out HF2.out HF3.out HOR.out hb4); have HFT := hidb (put_foot (xs := l.xs ++ sgr x0 x1 x2 x3 x4 lk nm k' n' f' s' a' L' c') (k := l.k + 1) HF1.out HF2.out HF3.out HOR.out hs4); clear hr hb4 hs4))
  obtain ⟨c0, c1, f0, f1, hlt4⟩ := HE4.out.duo
  have hw1 : IntKind.i64.wrap ((all : Int) + 1) = (all : Int) + 1 := by rw [IntKind.wrap_i64]; omega
  have HC := hidb (HE4.out.count (all + 1))
  rw [show ((all + 1 : Nat) : Int) = (all : Int) + 1 by omega] at HC
  have HU : Hid (updL (updL f x0 x1 (some l)) x0 x1 (some ⟨l.rb, V', l.xs ++ sgr x0 x1 x2 x3 x4 lk nm k' n' f' s' a' L' c', l.k + 1⟩) = updL f x0 x1 (some ⟨l.rb, V', l.xs ++ sgr x0 x1 x2 x3 x4 lk nm k' n' f' s' a' L' c', l.k + 1⟩)) := hidb (by
    funext a b
    unfold updL
    split <;> rfl)
  clear s0 s1 s2 s3 s4 s5 s6 s7 s8 s9 s10 s11 t0 t1 t2 t3 t4 t5 t6 t7 t8 t9 t10 t11 u0 u1 u2 u3 u4 u5 u6 u7 u8 u9 u10 u11 v0 v1 v2 v3 v4 v5 v6 v7 v8 v9 v10 v11
  go_wp2_with fail
  go_ret
  have hlt3 : ∀ q, foot l q → q < w2.heap.size := fun q hq => (HE2.out.foot_lt (updL_same _ _ _ _) hq).1
  have h23 := HF3.out.size
  have h12 : w1.heap.size ≤ w2.heap.size := HF2.out.size
  have h01 := HF1.out.size
  have hOn : (Tr.mk k' n' f' s' a' c' ks').On (fun q => w2.heap.size ≤ q ∧ q < w3.heap.size) := HO3.out
  refine ⟨rfl, mv', ⟨l.rb, V', l.xs ++ sgr x0 x1 x2 x3 x4 lk nm k' n' f' s' a' L' c', l.k + 1⟩, .mk k' n' f' s' a' c' ks', ?_, ?_, ?_, HF4.out.setCell (p := ⟨eb, 1, none⟩) (fun _ => .inl rfl) _, HMV.out, HFT.out, HSM.out, ?_, ?_⟩
  · have := HC.out
    rw [HU.out] at this
    exact this
  · show l.xs ++ _ = _
    rw [HX2.out, ← HL.out]
    rfl
  · show l.k + 1 = _
    rw [HK2.out]
  · refine in_set1 (R := fun q => w2.heap.size ≤ q ∧ q < w3.heap.size) (in_on (fun q hq => HB4.out.block q hq.2 (fun e => by have := hlt3 q e; omega)) _ (in_base (Nat.zero_le _) _ HI3.out) hOn) hOn (fun hq => by have h8 : w2.heap.size ≤ eb := hq.1; have := HEB.out; omega) _
  · refine on_mono (fun q hq => ⟨by omega, fun e => ?_, fun e => by have := HEB.out; omega, fun e => ?_⟩) _ hOn
    · rcases e with e | e
      · have := hlt3 q (.inl e); omega
      · rcases HS4.out with s | s
        · have := hlt3 q (.inr (by rw [← s]; exact e)); omega
        · have := s q e; omega
    · have h9 := HE2.out.map
      rcases h9 with ⟨h9, -⟩ | ⟨mb, n, h9, he, -⟩
      · rw [h9] at e; cases e
      · rw [h9] at e
        obtain rfl : mb = q := by simpa using e
        have := he.lt
        omega
end Go.Proofs.YtpcpdehnppfbfaaGreat


