/- The document's halves of monitors: the table. -/
import Derived.Test.YtmnglaeaicicnaaRm1
namespace Go.Proofs.Ytmnglaeaicicnaa
open Go.RowKit Go.Lib
open MV (Hf hf0 getL insL delL Rise Wfk TB Nw Rst KV MnT mvs)
attribute [local go_sem ↓] Go.wp_at_zero Go.wp_at_succ

/-- The document's table at rb: its rows lie in blocks of E. -/
def RM (w : World) (rb : Nat) (E : Nat → Prop) (O T : List KV) : Prop :=
  ∃ VO VT, Duo w rb VO VT ∧ w.ownsRow 0 MnT 3 VO O.length (mvs O) ∧ w.ownsRow 0 MnT 3 VT T.length (mvs T) ∧ (∀ g, VO.ownBlock = some g → E g ∧ g ≠ rb) ∧ (∀ g, VT.ownBlock = some g → E g ∧ g ≠ rb)

theorem RM.but {S E : Nat → Prop} {w w' : World} {rb : Nat} {O T : List KV} (h : RM w rb E O T) (hb : But S w w') (hr : ¬ S rb) (he : ∀ k, E k → ¬ S k) : RM w' rb E O T := by
  obtain ⟨VO, VT, h1, h2, h3, h4, h5⟩ := h
  exact ⟨VO, VT, h1.but hb hr, MV.row_but h2 hb (fun g e => he g (h4 g e).1), MV.row_but h3 hb (fun g e => he g (h5 g e).1), h4, h5⟩
theorem RM.keep {E : Nat → Prop} {w w' : World} {rb : Nat} {O T : List KV} (h : RM w rb E O T) (hb : Below w.heap.size w w') : RM w' rb E O T := h.but (S := fun _ => False) (But.of_below hb) id (fun _ _ h => h)
theorem RM.lt {E : Nat → Prop} {w : World} {rb : Nat} {O T : List KV} (h : RM w rb E O T) : rb < w.heap.size := by obtain ⟨_, _, h, _⟩ := h; exact h.lt
theorem RM.mono {E E' : Nat → Prop} {w : World} {rb : Nat} {O T : List KV} (h : RM w rb E O T) (he : ∀ k, k < w.heap.size → E k → E' k) : RM w rb E' O T := by
  obtain ⟨VO, VT, h1, h2, h3, h4, h5⟩ := h
  exact ⟨VO, VT, h1, h2, h3, fun g e => ⟨he g (h2.lt g e).2 (h4 g e).1, (h4 g e).2⟩, fun g e => ⟨he g (h3.lt g e).2 (h5 g e).1, (h5 g e).2⟩⟩

/-- The document's table behind a method. -/
structure RW (w w' : World) (rb : Nat) (E : Nat → Prop) (O T : List KV) : Prop where
  rt : RM w' rb (Nw E w w') O T
  bt : But (fun k => k = rb) w w'

theorem RW.pre {E : Nat → Prop} {w w1 w' : World} {rb : Nat} {O T : List KV} (hb : Below w.heap.size w w1) (h : RW w1 w' rb E O T) : RW w w' rb E O T :=
  ⟨h.rt.mono (fun _ _ hk => hk.elim .inl (fun h => .inr ⟨Nat.le_trans hb.size h.1, h.2⟩)), (But.of_below hb).trans h.bt⟩
theorem RW.same {E : Nat → Prop} {w w' : World} {rb : Nat} {O T : List KV} (h : RM w rb E O T) (hb : Below w.heap.size w w') : RW w w' rb E O T :=
  ⟨(h.keep hb).mono (fun _ _ hk => .inl hk), But.of_below hb⟩
/-- A new row of origins, of targets. -/
theorem RM.newO {w Y : World} {rb : Nat} {E : Nat → Prop} {O T O' : List KV} {V' : Value} (h : RM w rb E O T) (hb : Below w.heap.size w Y) (ho : Y.ownsRow w.heap.size MnT 3 V' O'.length (mvs O')) :
    RW w (Y.setCell ⟨rb, 0, none⟩ V') rb E O' T := by
  obtain ⟨VO, VT, h1, h2, h3, h4, h5⟩ := h.keep hb
  have hl := h.lt
  have hg : ∀ g, V'.ownBlock = some g → w.heap.size ≤ g ∧ g < Y.heap.size := fun g e => ho.lt g e
  have hs : But (fun k => k = rb) Y (Y.setCell ⟨rb, 0, none⟩ V') := (But.refl (fun k => k = rb) Y).setCell (p := ⟨rb, 0, none⟩) (fun _ => rfl) _
  have hss := hs.size
  refine ⟨⟨V', VT, h1.set0 V', MV.row_lift (MV.row_but ho hs (fun g e e' => by have := hg g e; omega)) (fun _ _ => Nat.zero_le _), MV.row_but h3 hs (fun g e e' => (h5 g e).2 e'), fun g e => ⟨.inr ⟨(hg g e).1, Nat.lt_of_lt_of_le (hg g e).2 hss⟩, by have := hg g e; omega⟩, fun g e => ⟨.inl (h5 g e).1, (h5 g e).2⟩⟩, (But.of_below hb).trans hs⟩
theorem RM.newT {w Y : World} {rb : Nat} {E : Nat → Prop} {O T T' : List KV} {V' : Value} (h : RM w rb E O T) (hb : Below w.heap.size w Y) (ho : Y.ownsRow w.heap.size MnT 3 V' T'.length (mvs T')) :
    RW w (Y.setCell ⟨rb, 1, none⟩ V') rb E O T' := by
  obtain ⟨VO, VT, h1, h2, h3, h4, h5⟩ := h.keep hb
  have hl := h.lt
  have hg : ∀ g, V'.ownBlock = some g → w.heap.size ≤ g ∧ g < Y.heap.size := fun g e => ho.lt g e
  have hs : But (fun k => k = rb) Y (Y.setCell ⟨rb, 1, none⟩ V') := (But.refl (fun k => k = rb) Y).setCell (p := ⟨rb, 1, none⟩) (fun _ => rfl) _
  have hss := hs.size
  refine ⟨⟨VO, V', h1.set1 V', MV.row_but h2 hs (fun g e e' => (h4 g e).2 e'), MV.row_lift (MV.row_but ho hs (fun g e e' => by have := hg g e; omega)) (fun _ _ => Nat.zero_le _), fun g e => ⟨.inl (h4 g e).1, (h4 g e).2⟩, fun g e => ⟨.inr ⟨(hg g e).1, Nat.lt_of_lt_of_le (hg g e).2 hss⟩, by have := hg g e; omega⟩⟩, (But.of_below hb).trans hs⟩

set_option maxRecDepth 100000 in
set_option maxHeartbeats 8000000 in
theorem rwatch_any {w : World} {rb : Nat} {E : Nat → Prop} {O T : List KV} (h : RM w rb E O T) (hr : Rise O) (hk : MOk O) (ref pid : Int) (name : ByteArray) (hN : O.length ≤ 90000) :
    Calls Try.prog 19 #[.pointer (some ⟨rb, 0, none⟩), .int .i64 ref, .int .i64 pid, .string name] w fun e w' => e = .returned (.int .i64 (putE 0 ⟨ref, pid, name⟩ O)) ∧ RW w w' rb E (putL 0 ⟨ref, pid, name⟩ O) T := by
  obtain ⟨A, B, hAB, h1, h2⟩ := MV.split_at (key := ref) hr
  have HM := hidb h
  obtain ⟨VO, VT, hd, ho, ht, -⟩ := h
  have d0 := hd.c0
  have HF : Hid (∀ W, Below w.heap.size w W → Calls Try.prog 31 #[VO, .int .i64 ref] W fun e w' => e = .returned (.tuple #[.int .i64 (A.length : Int), .bool (getL ref O).isSome]) ∧ w'.cell? ⟨rb, 0, none⟩ = some VO ∧ w'.frozen? ⟨rb, 0, none⟩ = false ∧ Hid (Below w.heap.size w w')) := hidb (fun W hW => by
    have h9 := MV.row_but ho (But.of_below (S := fun _ => False) hW) (fun _ _ h => h)
    rw [hAB] at h9 hr hk hN ⊢
    refine (MV.rfind_any h9 hr hk ref h1 h2 (by omega)).mono ?_
    rintro e w' ⟨rfl, hb⟩
    have hb9 := hW.trans (hb.mono hW.size)
    exact ⟨rfl, (hd.keep hb9).c0, (hd.keep hb9).f0, hidb hb9⟩)
  have HW : Hid (∀ W, Below w.heap.size w W → (getL ref O).isSome = false → Calls Try.prog 32 #[VO, .int .i64 (A.length : Int), .agg #[.int .i64 ref, .int .i64 pid, .string name]] W fun e w' => ∃ a c, e = .returned (.slice a (O.length + 1) c) ∧ w'.cell? ⟨rb, 0, none⟩ = some VO ∧ w'.frozen? ⟨rb, 0, none⟩ = false ∧ Hid (RW w (w'.setCell ⟨rb, 0, none⟩ (.slice a (O.length + 1) c)) rb E (insL ref ⟨ref, pid, name⟩ O) T)) := hidb (fun W hW hgn => by
    have h9 := MV.row_but ho (But.of_below (S := fun _ => False) hW) (fun _ _ h => h)
    have hin : insL ref ⟨ref, pid, name⟩ O = A ++ (ref, ⟨ref, pid, name⟩) :: B := by
      rw [hAB] at hr hgn ⊢
      have his := MV.ins_split (v := ⟨ref, pid, name⟩) hr h1 h2
      have hgs := MV.getL_split hr h1 h2
      rw [his]
      cases B with
      | nil => rfl
      | cons x r =>
        by_cases e : x.1 = ref
        · rw [hgs] at hgn; simp [e] at hgn
        · simp [e]
    have hll : (A ++ (ref, (⟨ref, pid, name⟩ : Hf)) :: B).length = O.length + 1 := by rw [hAB]; simp; omega
    rw [hAB] at h9 hN
    refine (MV.rwith_any ⟨ref, pid, name⟩ ref h9 hN).mono ?_
    rintro e w' ⟨V', rfl, hb, hw⟩
    have hb9 := hW.trans (hb.mono hW.size)
    obtain ⟨a, c, rfl⟩ := MV.own_sl hw
    rw [hll] at hw
    refine ⟨a, c, by rw [hll], (hd.keep hb9).c0, (hd.keep hb9).f0, hidb ?_⟩
    have hfin := RM.newO (O' := A ++ (ref, ⟨ref, pid, name⟩) :: B) HM.out hb9 (V' := .slice a (O.length + 1) c) (by rw [hll]; exact MV.row_lift hw (fun g e => by have h8 := (hw.lt g e).1; have := hW.size; omega))
    rw [hin]
    exact hfin)
  clear hr hk hN hAB h1 h2 hd ho ht
  by_cases e1 : ref < 1
  · clear HW
    generalize (getL ref O).isSome = bb at *
    rw [show putE 0 ⟨ref, pid, name⟩ O = 1 from by simp [putE, refB, e1], show putL 0 ⟨ref, pid, name⟩ O = O from by simp [putL, refB, e1]]
    go_enter Try.func19, Try.ntmps19
    go_wp2_with (go_at_call 31; refine (HF.out _ (by (repeat (first | exact Below.refl _ _ | assumption | refine Below.drew ?_ | refine below_drewN ?_ _ | refine Below.setCell ?_ (by simp) _ | refine Below.alloc ?_ (by (first | exact Nat.le_refl _ | (simp; done) | (simp; omega) | omega)) _ | refine Below.trans ?_ (Below.mono (by assumption) (by first | exact Nat.le_refl _ | (simp; done) | (simp; omega) | omega)))))).mono ?_; clear HF; rintro e w1 ⟨rfl, k0, k1, HB⟩)
    all_goals go_ret
    all_goals exact ⟨rfl, RW.same HM.out (by have hb := HB.out; (repeat (first | exact Below.refl _ _ | assumption | refine Below.drew ?_ | refine below_drewN ?_ _ | refine Below.setCell ?_ (by simp) _ | refine Below.alloc ?_ (by (first | exact Nat.le_refl _ | (simp; done) | (simp; omega) | omega)) _ | refine Below.trans ?_ (Below.mono (by assumption) (by first | exact Nat.le_refl _ | (simp; done) | (simp; omega) | omega)))))⟩
  by_cases e2 : pid < 0
  · clear HW
    generalize (getL ref O).isSome = bb at *
    rw [show putE 0 ⟨ref, pid, name⟩ O = 1 from by simp [putE, refB, e1, e2], show putL 0 ⟨ref, pid, name⟩ O = O from by simp [putL, refB, e1, e2]]
    go_enter Try.func19, Try.ntmps19
    go_wp2_with (go_at_call 31; refine (HF.out _ (by (repeat (first | exact Below.refl _ _ | assumption | refine Below.drew ?_ | refine below_drewN ?_ _ | refine Below.setCell ?_ (by simp) _ | refine Below.alloc ?_ (by (first | exact Nat.le_refl _ | (simp; done) | (simp; omega) | omega)) _ | refine Below.trans ?_ (Below.mono (by assumption) (by first | exact Nat.le_refl _ | (simp; done) | (simp; omega) | omega)))))).mono ?_; clear HF; rintro e w1 ⟨rfl, k0, k1, HB⟩)
    all_goals go_ret
    all_goals exact ⟨rfl, RW.same HM.out (by have hb := HB.out; (repeat (first | exact Below.refl _ _ | assumption | refine Below.drew ?_ | refine below_drewN ?_ _ | refine Below.setCell ?_ (by simp) _ | refine Below.alloc ?_ (by (first | exact Nat.le_refl _ | (simp; done) | (simp; omega) | omega)) _ | refine Below.trans ?_ (Below.mono (by assumption) (by first | exact Nat.le_refl _ | (simp; done) | (simp; omega) | omega)))))⟩
  cases hs : (getL ref O).isSome with
  | true =>
    rw [show putE 0 ⟨ref, pid, name⟩ O = 1 from put_had hs, show putL 0 ⟨ref, pid, name⟩ O = O by simp [putL, refB, e1, e2, addL, hs]]
    rw [hs] at HF
    clear HW hs
    go_enter Try.func19, Try.ntmps19
    go_wp2_with (go_at_call 31; refine (HF.out _ (by (repeat (first | exact Below.refl _ _ | assumption | refine Below.drew ?_ | refine below_drewN ?_ _ | refine Below.setCell ?_ (by simp) _ | refine Below.alloc ?_ (by (first | exact Nat.le_refl _ | (simp; done) | (simp; omega) | omega)) _ | refine Below.trans ?_ (Below.mono (by assumption) (by first | exact Nat.le_refl _ | (simp; done) | (simp; omega) | omega)))))).mono ?_; clear HF; rintro e w1 ⟨rfl, k0, k1, HB⟩)
    all_goals go_ret
    all_goals exact ⟨rfl, RW.same HM.out (by have hb := HB.out; (repeat (first | exact Below.refl _ _ | assumption | refine Below.drew ?_ | refine below_drewN ?_ _ | refine Below.setCell ?_ (by simp) _ | refine Below.alloc ?_ (by (first | exact Nat.le_refl _ | (simp; done) | (simp; omega) | omega)) _ | refine Below.trans ?_ (Below.mono (by assumption) (by first | exact Nat.le_refl _ | (simp; done) | (simp; omega) | omega)))))⟩
  | false =>
    rw [show putE 0 ⟨ref, pid, name⟩ O = 0 by simp [putE, refB, e1, e2, addE, hs], show putL 0 ⟨ref, pid, name⟩ O = insL ref ⟨ref, pid, name⟩ O by simp [putL, refB, e1, e2, addL, hs]]
    rw [hs] at HF HW
    clear hs
    generalize O.length + 1 = LL at *
    go_enter Try.func19, Try.ntmps19
    go_wp2_with (first
      | (go_at_call 31; refine (HF.out _ (by (repeat (first | exact Below.refl _ _ | assumption | refine Below.drew ?_ | refine below_drewN ?_ _ | refine Below.setCell ?_ (by simp) _ | refine Below.alloc ?_ (by (first | exact Nat.le_refl _ | (simp; done) | (simp; omega) | omega)) _ | refine Below.trans ?_ (Below.mono (by assumption) (by first | exact Nat.le_refl _ | (simp; done) | (simp; omega) | omega)))))).mono ?_; clear HF; rintro e w1 ⟨rfl, k0, k1, HB⟩)
      | (go_at_call 32; refine (HW.out _ HB.out (by first | trivial | rfl)).mono ?_; clear HW; rintro e w2 ⟨a, c, rfl, j0, j1, HR⟩))
    go_ret
    exact ⟨rfl, HR.out⟩

set_option maxRecDepth 100000 in
set_option maxHeartbeats 8000000 in
theorem ronm_any {w : World} {rb : Nat} {E : Nat → Prop} {O T : List KV} (h : RM w rb E O T) (hr : Rise T) (hk : MOk T) (ref org : Int) (hN : T.length ≤ 90000) :
    Calls Try.prog 21 #[.pointer (some ⟨rb, 0, none⟩), .int .i64 ref, .int .i64 org] w fun e w' => e = .returned (.int .i64 (putE 1 ⟨ref, org, ⟨#[]⟩⟩ T)) ∧ RW w w' rb E O (putL 1 ⟨ref, org, ⟨#[]⟩⟩ T) := by
  obtain ⟨A, B, hAB, h1, h2⟩ := MV.split_at (key := ref) hr
  have HM := hidb h
  obtain ⟨VO, VT, hd, ho, ht, -⟩ := h
  have d0 := hd.c1
  have HF : Hid (∀ W, Below w.heap.size w W → Calls Try.prog 31 #[VT, .int .i64 ref] W fun e w' => e = .returned (.tuple #[.int .i64 (A.length : Int), .bool (getL ref T).isSome]) ∧ w'.cell? ⟨rb, 1, none⟩ = some VT ∧ w'.frozen? ⟨rb, 1, none⟩ = false ∧ Hid (Below w.heap.size w w')) := hidb (fun W hW => by
    have h9 := MV.row_but ht (But.of_below (S := fun _ => False) hW) (fun _ _ h => h)
    rw [hAB] at h9 hr hk hN ⊢
    refine (MV.rfind_any h9 hr hk ref h1 h2 (by omega)).mono ?_
    rintro e w' ⟨rfl, hb⟩
    have hb9 := hW.trans (hb.mono hW.size)
    exact ⟨rfl, (hd.keep hb9).c1, (hd.keep hb9).f1, hidb hb9⟩)
  have HW : Hid (∀ W, Below w.heap.size w W → (getL ref T).isSome = false → Calls Try.prog 32 #[VT, .int .i64 (A.length : Int), .agg #[.int .i64 ref, .int .i64 org, .string ⟨#[]⟩]] W fun e w' => ∃ a c, e = .returned (.slice a (T.length + 1) c) ∧ w'.cell? ⟨rb, 1, none⟩ = some VT ∧ w'.frozen? ⟨rb, 1, none⟩ = false ∧ Hid (RW w (w'.setCell ⟨rb, 1, none⟩ (.slice a (T.length + 1) c)) rb E O (insL ref ⟨ref, org, ⟨#[]⟩⟩ T))) := hidb (fun W hW hgn => by
    have h9 := MV.row_but ht (But.of_below (S := fun _ => False) hW) (fun _ _ h => h)
    have hin : insL ref ⟨ref, org, ⟨#[]⟩⟩ T = A ++ (ref, ⟨ref, org, ⟨#[]⟩⟩) :: B := by
      rw [hAB] at hr hgn ⊢
      have his := MV.ins_split (v := ⟨ref, org, ⟨#[]⟩⟩) hr h1 h2
      have hgs := MV.getL_split hr h1 h2
      rw [his]
      cases B with
      | nil => rfl
      | cons x r =>
        by_cases e : x.1 = ref
        · rw [hgs] at hgn; simp [e] at hgn
        · simp [e]
    have hll : (A ++ (ref, (⟨ref, org, ⟨#[]⟩⟩ : Hf)) :: B).length = T.length + 1 := by rw [hAB]; simp; omega
    rw [hAB] at h9 hN
    refine (MV.rwith_any ⟨ref, org, ⟨#[]⟩⟩ ref h9 hN).mono ?_
    rintro e w' ⟨V', rfl, hb, hw⟩
    have hb9 := hW.trans (hb.mono hW.size)
    obtain ⟨a, c, rfl⟩ := MV.own_sl hw
    rw [hll] at hw
    refine ⟨a, c, by rw [hll], (hd.keep hb9).c1, (hd.keep hb9).f1, hidb ?_⟩
    have hfin := RM.newT (T' := A ++ (ref, ⟨ref, org, ⟨#[]⟩⟩) :: B) HM.out hb9 (V' := .slice a (T.length + 1) c) (by rw [hll]; exact MV.row_lift hw (fun g e => by have h8 := (hw.lt g e).1; have := hW.size; omega))
    rw [hin]
    exact hfin)
  clear hr hk hN hAB h1 h2 hd ho ht
  by_cases e1 : ref < 1
  · clear HW
    generalize (getL ref T).isSome = bb at *
    rw [show putE 1 ⟨ref, org, ⟨#[]⟩⟩ T = 1 from by simp [putE, refB, e1], show putL 1 ⟨ref, org, ⟨#[]⟩⟩ T = T from by simp [putL, refB, e1]]
    go_enter Try.func21, Try.ntmps21
    go_wp2_with (go_at_call 31; refine (HF.out _ (by (repeat (first | exact Below.refl _ _ | assumption | refine Below.drew ?_ | refine below_drewN ?_ _ | refine Below.setCell ?_ (by simp) _ | refine Below.alloc ?_ (by (first | exact Nat.le_refl _ | (simp; done) | (simp; omega) | omega)) _ | refine Below.trans ?_ (Below.mono (by assumption) (by first | exact Nat.le_refl _ | (simp; done) | (simp; omega) | omega)))))).mono ?_; clear HF; rintro e w1 ⟨rfl, k0, k1, HB⟩)
    all_goals go_ret
    all_goals exact ⟨rfl, RW.same HM.out (by have hb := HB.out; (repeat (first | exact Below.refl _ _ | assumption | refine Below.drew ?_ | refine below_drewN ?_ _ | refine Below.setCell ?_ (by simp) _ | refine Below.alloc ?_ (by (first | exact Nat.le_refl _ | (simp; done) | (simp; omega) | omega)) _ | refine Below.trans ?_ (Below.mono (by assumption) (by first | exact Nat.le_refl _ | (simp; done) | (simp; omega) | omega)))))⟩
  by_cases e2 : org < 1
  · clear HW
    generalize (getL ref T).isSome = bb at *
    rw [show putE 1 ⟨ref, org, ⟨#[]⟩⟩ T = 1 from by simp [putE, refB, e1, e2], show putL 1 ⟨ref, org, ⟨#[]⟩⟩ T = T from by simp [putL, refB, e1, e2]]
    go_enter Try.func21, Try.ntmps21
    go_wp2_with (go_at_call 31; refine (HF.out _ (by (repeat (first | exact Below.refl _ _ | assumption | refine Below.drew ?_ | refine below_drewN ?_ _ | refine Below.setCell ?_ (by simp) _ | refine Below.alloc ?_ (by (first | exact Nat.le_refl _ | (simp; done) | (simp; omega) | omega)) _ | refine Below.trans ?_ (Below.mono (by assumption) (by first | exact Nat.le_refl _ | (simp; done) | (simp; omega) | omega)))))).mono ?_; clear HF; rintro e w1 ⟨rfl, k0, k1, HB⟩)
    all_goals go_ret
    all_goals exact ⟨rfl, RW.same HM.out (by have hb := HB.out; (repeat (first | exact Below.refl _ _ | assumption | refine Below.drew ?_ | refine below_drewN ?_ _ | refine Below.setCell ?_ (by simp) _ | refine Below.alloc ?_ (by (first | exact Nat.le_refl _ | (simp; done) | (simp; omega) | omega)) _ | refine Below.trans ?_ (Below.mono (by assumption) (by first | exact Nat.le_refl _ | (simp; done) | (simp; omega) | omega)))))⟩
  cases hs : (getL ref T).isSome with
  | true =>
    rw [show putE 1 ⟨ref, org, ⟨#[]⟩⟩ T = 1 from put_had hs, show putL 1 ⟨ref, org, ⟨#[]⟩⟩ T = T by simp [putL, refB, e1, e2, addL, hs]]
    rw [hs] at HF
    clear HW hs
    go_enter Try.func21, Try.ntmps21
    go_wp2_with (go_at_call 31; refine (HF.out _ (by (repeat (first | exact Below.refl _ _ | assumption | refine Below.drew ?_ | refine below_drewN ?_ _ | refine Below.setCell ?_ (by simp) _ | refine Below.alloc ?_ (by (first | exact Nat.le_refl _ | (simp; done) | (simp; omega) | omega)) _ | refine Below.trans ?_ (Below.mono (by assumption) (by first | exact Nat.le_refl _ | (simp; done) | (simp; omega) | omega)))))).mono ?_; clear HF; rintro e w1 ⟨rfl, k0, k1, HB⟩)
    all_goals go_ret
    all_goals exact ⟨rfl, RW.same HM.out (by have hb := HB.out; (repeat (first | exact Below.refl _ _ | assumption | refine Below.drew ?_ | refine below_drewN ?_ _ | refine Below.setCell ?_ (by simp) _ | refine Below.alloc ?_ (by (first | exact Nat.le_refl _ | (simp; done) | (simp; omega) | omega)) _ | refine Below.trans ?_ (Below.mono (by assumption) (by first | exact Nat.le_refl _ | (simp; done) | (simp; omega) | omega)))))⟩
  | false =>
    rw [show putE 1 ⟨ref, org, ⟨#[]⟩⟩ T = 0 by simp [putE, refB, e1, e2, addE, hs], show putL 1 ⟨ref, org, ⟨#[]⟩⟩ T = insL ref ⟨ref, org, ⟨#[]⟩⟩ T by simp [putL, refB, e1, e2, addL, hs]]
    rw [hs] at HF HW
    clear hs
    generalize T.length + 1 = LL at *
    go_enter Try.func21, Try.ntmps21
    go_wp2_with (first
      | (go_at_call 31; refine (HF.out _ (by (repeat (first | exact Below.refl _ _ | assumption | refine Below.drew ?_ | refine below_drewN ?_ _ | refine Below.setCell ?_ (by simp) _ | refine Below.alloc ?_ (by (first | exact Nat.le_refl _ | (simp; done) | (simp; omega) | omega)) _ | refine Below.trans ?_ (Below.mono (by assumption) (by first | exact Nat.le_refl _ | (simp; done) | (simp; omega) | omega)))))).mono ?_; clear HF; rintro e w1 ⟨rfl, k0, k1, HB⟩)
      | (go_at_call 32; refine (HW.out _ HB.out (by first | trivial | rfl)).mono ?_; clear HW; rintro e w2 ⟨a, c, rfl, j0, j1, HR⟩))
    go_ret
    exact ⟨rfl, HR.out⟩

end Go.Proofs.Ytmnglaeaicicnaa
