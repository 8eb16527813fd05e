import Derived.Test.YtajadhkpadkikaaGreatDoorG40
import Derived.Test.YtajadhkpadkikaaGreatDoorG20
import Derived.Test.YtajadhkpadkikaaGreatDoorG30
import Derived.Test.YtajadhkpadkikaaGreatDoorG32
import Derived.Test.YtajadhkpadkikaaGreatDoorG36
import Derived.Maps.AppendAt
/- BifPlaces: what its calls tell, in one form. -/
namespace Go.Proofs.YtajadhkpadkikaaGreatDoor
open Go.RowKit Go.Lib Go.Deep
attribute [local go_sem] store_float f64bits store_func store_nilFunc
attribute [local go_sem ↓] Go.wp_at_zero Go.wp_at_succ

theorem wpAnyD_twoL {P : Program} {md : Region.Mode} {Q : Exit → Act → World → Prop} {S : World → Prop} {D : List Nat} {l : List Oper} {i j : Nat} {oi oj : Oper} {fuel : Nat} {listed : Array Bool} {a : Act} {w : World} (hr : Region.ready md l.toArray listed = [i, j]) (hi : l[i]? = some oi) (hj : l[j]? = some oj)
    (h1 : ∀ K : Act → World → Prop, (∀ a' w', (i ∉ D → S w') → wpAnyD P md l.toArray Q S D fuel (listed.setIfInBounds i true) a' w' → K a' w') → if Region.wanted oi (yielded l.toArray a.tmps) = true then Oper.wp P oi a w K Q else K (a.put oi.dst undef) w)
    (h2 : ∀ K : Act → World → Prop, (∀ a' w', (j ∉ D → S w') → wpAnyD P md l.toArray Q S D fuel (listed.setIfInBounds j true) a' w' → K a' w') → if Region.wanted oj (yielded l.toArray a.tmps) = true then Oper.wp P oj a w K Q else K (a.put oj.dst undef) w) : wpAnyD P md l.toArray Q S D (fuel + 1) listed a w := by
  refine ⟨fun h0 => (by rw [hr] at h0; cases h0), fun k hk => ?_⟩
  rw [hr] at hk
  rcases List.mem_cons.1 hk with rfl | hk
  · have := h1 (fun a' w' => (k ∉ D → S w') ∧ wpAnyD P md l.toArray Q S D fuel (listed.setIfInBounds k true) a' w') (fun a' w' h1 h2 => ⟨h1, h2⟩)
    have hi' : l.toArray[k]? = some oi := by simpa using hi
    unfold wpOp
    simp only [hi']
    split
    · rename_i hw; rw [if_pos hw] at this; exact .inl this
    · rename_i hw; rw [if_neg hw] at this; exact this
  · obtain rfl : k = j := by simpa using hk
    have := h2 (fun a' w' => (k ∉ D → S w') ∧ wpAnyD P md l.toArray Q S D fuel (listed.setIfInBounds k true) a' w') (fun a' w' h1 h2 => ⟨h1, h2⟩)
    have hj' : l.toArray[k]? = some oj := by simpa using hj
    unfold wpOp
    simp only [hj']
    split
    · rename_i hw; rw [if_pos hw] at this; exact .inl this
    · rename_i hw; rw [if_neg hw] at this; exact this

theorem wp_via {P : Program} {c : Code} {Q' : Exit → Act → World → Prop} {a : Act} {w : World} (R : Act → Exit → Act → World → Prop) (h1 : c.wp P (R a) a w) (h2 : ∀ e a' w', R a e a' w' → Q' e a' w') : c.wp P Q' a w := Code.wp_mono h2 h1
theorem sm_symm : ∀ t t' : Tr, Sm t t' → Sm t' t := by
  refine Tr.ind fun k n f s a c kids hk => ?_
  rintro ⟨k', n', f', s', a', c', kids'⟩ h
  unfold Sm at h ⊢
  obtain ⟨rfl, rfl, rfl, rfl, h⟩ := h
  refine ⟨rfl, rfl, rfl, rfl, ?_⟩
  have hall : ∀ (l l' : List Tr), (∀ t, t ∈ l → t ∈ kids) → SmA l l' → SmA l' l := by
    intro l
    induction l with
    | nil =>
      intro l' _ h
      cases l' with
      | nil => exact h
      | cons => unfold SmA at h; exact h.elim
    | cons t r ih =>
      intro l' hm h
      cases l' with
      | nil => unfold SmA at h; exact h.elim
      | cons t' r' =>
        unfold SmA at h ⊢
        exact ⟨hk t (hm t (by simp)) t' h.1, ih r' (fun u hu => hm u (by simp [hu])) h.2⟩
  exact hall kids kids' (fun t h => h) h
theorem ent_lawcall : Ent 9 := by
  intro args w
  kernel_rfl
theorem ent_i9 : Ent 19 := by
  intro args w
  kernel_rfl
/-- What a call has told: a term, that lies from block B on, and true; or false. -/
def ResQ (P : Tr → Prop) (E : Int → Prop) (B : Nat) (sk sn : Int) (sf : Nat) (ss : ByteArray) (sa : Option Addr) (sl sc : Nat) (ok : Bool) (w : World) : Prop :=
  (ok = true ∧ ∃ t ks', sl = ks'.length ∧ P t ∧ errT t = 0 ∧ Sm t (.mk sk sn sf ss sa sc ks') ∧ (Tr.mk sk sn sf ss sa sc ks').In w 0 ∧ (Tr.mk sk sn sf ss sa sc ks').On (fun k => B ≤ k)) ∨ (ok = false ∧ ((∃ er, E er) ∨ ∃ t, P t ∧ errT t ≠ 0))
def ResP (P : Tr → Prop) (E : Int → Prop) (sk sn : Int) (sf : Nat) (ss : ByteArray) (sa : Option Addr) (sl sc : Nat) (ok : Bool) (w : World) : Prop :=
  (ok = true ∧ ∃ t ks', sl = ks'.length ∧ P t ∧ errT t = 0 ∧ Sm t (.mk sk sn sf ss sa sc ks') ∧ (Tr.mk sk sn sf ss sa sc ks').In w 0) ∨ (ok = false ∧ ((∃ er, E er) ∨ ∃ t, P t ∧ errT t ≠ 0))
theorem law_one {P : Tr → Prop} {E : Int → Prop} {w : World} {e : Ending} {w' : World} (h : LawA P E w e w') : ∃ sk sn sf ss sa sl sc ok, e = .returned (.tuple #[.agg #[.int .i64 sk, .int .i64 sn, .float .f64 sf, .string ss, .slice sa sl sc], .bool ok]) ∧ Below w.heap.size w w' ∧ ResQ P E w.heap.size sk sn sf ss sa sl sc ok w' := by
  obtain ⟨hb, ⟨t, ⟨k', n', f', s', a', c', ks'⟩, hP, he, hs, hin, hon, rfl⟩ | ⟨hE, rfl⟩⟩ := h
  · exact ⟨k', n', f', s', a', ks'.length, c', true, rfl, hb, .inl ⟨rfl, t, ks', rfl, hP, he, hs, hin, hon⟩⟩
  · exact ⟨0, 0, 0, ⟨#[]⟩, none, 0, 0, false, rfl, hb, .inr ⟨rfl, hE⟩⟩
theorem res_on5 {P : Tr → Prop} {E : Int → Prop} {B xb : Nat} {sk sn : Int} {sf : Nat} {ss : ByteArray} {sa : Option Addr} {sl sc : Nat} {ok : Bool} {w6 W : World} (h : ResQ P E B sk sn sf ss sa sl sc ok w6) (hto : ∀ t' : Tr, t'.In w6 0 → t'.On (fun k => B ≤ k) → t'.In W 0) (hnx : ∀ t' : Tr, t'.In w6 0 → t'.On (fun k => B ≤ k) → t'.On (fun k => k < xb ∨ xb + 1 ≤ k)) (u0 u1 u2 u3 u4 : Value) : ResP P E sk sn sf ss sa sl sc ok (set5 W xb u0 u1 u2 u3 u4) := by
  rcases h with ⟨h0, t, ks', hl, hP, he, hs, hin, hon⟩ | h
  · exact .inl ⟨h0, t, ks', hl, hP, he, hs, in_on5 (B := xb) (c := xb + 1) (hto _ hin hon) (hnx _ hin hon) (Nat.le_refl _) (by omega) _ _ _ _ _⟩
  · exact .inr h
theorem ResP.keep {P : Tr → Prop} {E : Int → Prop} {sk sn : Int} {sf : Nat} {ss : ByteArray} {sa : Option Addr} {sl sc : Nat} {ok : Bool} {w w' : World} (h : ResP P E sk sn sf ss sa sl sc ok w) (hb : Below w.heap.size w w') : ResP P E sk sn sf ss sa sl sc ok w' := by
  rcases h with ⟨h0, t, ks', hl, hP, he, hs, hin⟩ | h
  · exact .inl ⟨h0, t, ks', hl, hP, he, hs, in_below hb hin⟩
  · exact .inr h
end Go.Proofs.YtajadhkpadkikaaGreatDoor


/- BifOrders: what its calls tell. -/
namespace Go.Proofs.YtajadhkpadkikaaGreatDoor
open Go.RowKit Go.Lib Go.Deep
attribute [local go_sem] store_float f64bits store_func store_nilFunc
attribute [local go_sem ↓] Go.wp_at_zero Go.wp_at_succ

/-- What is known of the two terms of a call. -/
structure Pr2 (t t' : Tr) : Prop where
  s0 : Small t ∧ cnT t ≤ 1000000000
  s1 : Small t' ∧ cnT t' ≤ 1000000000
  e0 : errT t = 0
  e1 : errT t' = 0
def sgn : List ByteArray := [⟨#[60]⟩, ⟨#[61, 61]⟩, ⟨#[62]⟩, ⟨#[61, 60]⟩, ⟨#[62, 61]⟩, ⟨#[47, 61]⟩, ⟨#[61, 58, 61]⟩, ⟨#[61, 47, 61]⟩]
def sgv (r : Int) (i : Bool) : List Bool := [decide (r < 0), decide (r = 0), decide (0 < r), decide (r ≤ 0), decide (0 ≤ r), decide (¬ r = 0), i, !i]

set_option maxRecDepth 100000 in
theorem oc_0 {W : World} {a : Option Addr} {c : Nat} {t t' : Tr} (hin : ArgsIn W a c [t, t']) (h0 : t.In W 0) (h1 : t'.In W 0) (hp : Pr2 t t') : Calls Tryz.prog 12 #[.string ⟨#[60]⟩, .slice a 2 c] W (ToldB (decide (cmpT t t' < 0)) W) := by
  have hf : bfnd opsL ⟨#[60]⟩ ((2 : Nat) : Int) = some (⟨#[60]⟩, 2, 39) := by kernel_rfl
  refine (op_any (P := fun x => x = bolT (decide (cmpT t t' < 0))) (E := fun _ => False) (n := 2) (fun r hr => ?_) (fun h => ?_)).mono (fun e w' h => toldB h)
  · rw [hf] at hr
    obtain rfl := Option.some.inj hr
    exact below_tc hin (fun W2 hb => Cmp_any t t' W2 (in_below hb h0) (in_below hb h1) hp.s0.1 hp.s1.1 hp.e0 hp.e1) rfl
  · rw [hf] at h
    cases h

set_option maxRecDepth 100000 in
theorem oc_1 {W : World} {a : Option Addr} {c : Nat} {t t' : Tr} (hin : ArgsIn W a c [t, t']) (h0 : t.In W 0) (h1 : t'.In W 0) (hp : Pr2 t t') : Calls Tryz.prog 12 #[.string ⟨#[61, 61]⟩, .slice a 2 c] W (ToldB (decide (cmpT t t' = 0)) W) := by
  have hf : bfnd opsL ⟨#[61, 61]⟩ ((2 : Nat) : Int) = some (⟨#[61, 61]⟩, 2, 36) := by kernel_rfl
  refine (op_any (P := fun x => x = bolT (decide (cmpT t t' = 0))) (E := fun _ => False) (n := 2) (fun r hr => ?_) (fun h => ?_)).mono (fun e w' h => toldB h)
  · rw [hf] at hr
    obtain rfl := Option.some.inj hr
    exact equal_tc hin (fun W2 hb => Cmp_any t t' W2 (in_below hb h0) (in_below hb h1) hp.s0.1 hp.s1.1 hp.e0 hp.e1) rfl
  · rw [hf] at h
    cases h

set_option maxRecDepth 100000 in
theorem oc_2 {W : World} {a : Option Addr} {c : Nat} {t t' : Tr} (hin : ArgsIn W a c [t, t']) (h0 : t.In W 0) (h1 : t'.In W 0) (hp : Pr2 t t') : Calls Tryz.prog 12 #[.string ⟨#[62]⟩, .slice a 2 c] W (ToldB (decide (0 < cmpT t t')) W) := by
  have hf : bfnd opsL ⟨#[62]⟩ ((2 : Nat) : Int) = some (⟨#[62]⟩, 2, 41) := by kernel_rfl
  refine (op_any (P := fun x => x = bolT (decide (0 < cmpT t t'))) (E := fun _ => False) (n := 2) (fun r hr => ?_) (fun h => ?_)).mono (fun e w' h => toldB h)
  · rw [hf] at hr
    obtain rfl := Option.some.inj hr
    exact above_tc hin (fun W2 hb => Cmp_any t t' W2 (in_below hb h0) (in_below hb h1) hp.s0.1 hp.s1.1 hp.e0 hp.e1) rfl
  · rw [hf] at h
    cases h

set_option maxRecDepth 100000 in
theorem oc_3 {W : World} {a : Option Addr} {c : Nat} {t t' : Tr} (hin : ArgsIn W a c [t, t']) (h0 : t.In W 0) (h1 : t'.In W 0) (hp : Pr2 t t') : Calls Tryz.prog 12 #[.string ⟨#[61, 60]⟩, .slice a 2 c] W (ToldB (decide (cmpT t t' ≤ 0)) W) := by
  have hf : bfnd opsL ⟨#[61, 60]⟩ ((2 : Nat) : Int) = some (⟨#[61, 60]⟩, 2, 38) := by kernel_rfl
  refine (op_any (P := fun x => x = bolT (decide (cmpT t t' ≤ 0))) (E := fun _ => False) (n := 2) (fun r hr => ?_) (fun h => ?_)).mono (fun e w' h => toldB h)
  · rw [hf] at hr
    obtain rfl := Option.some.inj hr
    exact notAbove_tc hin (fun W2 hb => Cmp_any t t' W2 (in_below hb h0) (in_below hb h1) hp.s0.1 hp.s1.1 hp.e0 hp.e1) rfl
  · rw [hf] at h
    cases h

set_option maxRecDepth 100000 in
theorem oc_4 {W : World} {a : Option Addr} {c : Nat} {t t' : Tr} (hin : ArgsIn W a c [t, t']) (h0 : t.In W 0) (h1 : t'.In W 0) (hp : Pr2 t t') : Calls Tryz.prog 12 #[.string ⟨#[62, 61]⟩, .slice a 2 c] W (ToldB (decide (0 ≤ cmpT t t')) W) := by
  have hf : bfnd opsL ⟨#[62, 61]⟩ ((2 : Nat) : Int) = some (⟨#[62, 61]⟩, 2, 40) := by kernel_rfl
  refine (op_any (P := fun x => x = bolT (decide (0 ≤ cmpT t t'))) (E := fun _ => False) (n := 2) (fun r hr => ?_) (fun h => ?_)).mono (fun e w' h => toldB h)
  · rw [hf] at hr
    obtain rfl := Option.some.inj hr
    exact notBelow_tc hin (fun W2 hb => Cmp_any t t' W2 (in_below hb h0) (in_below hb h1) hp.s0.1 hp.s1.1 hp.e0 hp.e1) rfl
  · rw [hf] at h
    cases h

set_option maxRecDepth 100000 in
theorem oc_5 {W : World} {a : Option Addr} {c : Nat} {t t' : Tr} (hin : ArgsIn W a c [t, t']) (h0 : t.In W 0) (h1 : t'.In W 0) (hp : Pr2 t t') : Calls Tryz.prog 12 #[.string ⟨#[47, 61]⟩, .slice a 2 c] W (ToldB (decide (¬ cmpT t t' = 0)) W) := by
  have hf : bfnd opsL ⟨#[47, 61]⟩ ((2 : Nat) : Int) = some (⟨#[47, 61]⟩, 2, 37) := by kernel_rfl
  refine (op_any (P := fun x => x = bolT (decide (¬ cmpT t t' = 0))) (E := fun _ => False) (n := 2) (fun r hr => ?_) (fun h => ?_)).mono (fun e w' h => toldB h)
  · rw [hf] at hr
    obtain rfl := Option.some.inj hr
    exact unequal_tc hin (fun W2 hb => Cmp_any t t' W2 (in_below hb h0) (in_below hb h1) hp.s0.1 hp.s1.1 hp.e0 hp.e1) rfl
  · rw [hf] at h
    cases h

set_option maxRecDepth 100000 in
theorem oc_6 {W : World} {a : Option Addr} {c : Nat} {t t' : Tr} (hin : ArgsIn W a c [t, t']) (h0 : t.In W 0) (h1 : t'.In W 0) (hp : Pr2 t t') : Calls Tryz.prog 12 #[.string ⟨#[61, 58, 61]⟩, .slice a 2 c] W (ToldB ((idP t t')) W) := by
  have hf : bfnd opsL ⟨#[61, 58, 61]⟩ ((2 : Nat) : Int) = some (⟨#[61, 58, 61]⟩, 2, 42) := by kernel_rfl
  refine (op_any (P := fun x => x = bolT ((idP t t'))) (E := fun _ => False) (n := 2) (fun r hr => ?_) (fun h => ?_)).mono (fun e w' h => toldB h)
  · rw [hf] at hr
    obtain rfl := Option.some.inj hr
    exact identical_tc hin (fun W2 hb => Same_any t t' W2 (in_below hb h0) (in_below hb h1) hp.s0.1 hp.s1.1 hp.e0 hp.e1) rfl
  · rw [hf] at h
    cases h

set_option maxRecDepth 100000 in
theorem oc_7 {W : World} {a : Option Addr} {c : Nat} {t t' : Tr} (hin : ArgsIn W a c [t, t']) (h0 : t.In W 0) (h1 : t'.In W 0) (hp : Pr2 t t') : Calls Tryz.prog 12 #[.string ⟨#[61, 47, 61]⟩, .slice a 2 c] W (ToldB (!(idP t t')) W) := by
  have hf : bfnd opsL ⟨#[61, 47, 61]⟩ ((2 : Nat) : Int) = some (⟨#[61, 47, 61]⟩, 2, 43) := by kernel_rfl
  refine (op_any (P := fun x => x = bolT (!(idP t t'))) (E := fun _ => False) (n := 2) (fun r hr => ?_) (fun h => ?_)).mono (fun e w' h => toldB h)
  · rw [hf] at hr
    obtain rfl := Option.some.inj hr
    exact different_tc hin (fun W2 hb => Same_any t t' W2 (in_below hb h0) (in_below hb h1) hp.s0.1 hp.s1.1 hp.e0 hp.e1) rfl
  · rw [hf] at h
    cases h

theorem oc_all : ∀ (i : Nat) (nm : ByteArray) (b : Bool), sgn[i]? = some nm → ∀ {t t' : Tr}, (sgv (cmpT t t') (idP t t'))[i]? = some b → ∀ {W : World} {a : Option Addr} {c : Nat}, ArgsIn W a c [t, t'] → t.In W 0 → t'.In W 0 → Pr2 t t' → Calls Tryz.prog 12 #[.string nm, .slice a 2 c] W (ToldB b W)
  | 0, nm, b, h1, t, t', h2, W, a, c, hin, i0, i1, hp => by
    obtain rfl : _ = nm := Option.some.inj h1
    obtain rfl : _ = b := Option.some.inj h2
    exact oc_0 hin i0 i1 hp
  | 1, nm, b, h1, t, t', h2, W, a, c, hin, i0, i1, hp => by
    obtain rfl : _ = nm := Option.some.inj h1
    obtain rfl : _ = b := Option.some.inj h2
    exact oc_1 hin i0 i1 hp
  | 2, nm, b, h1, t, t', h2, W, a, c, hin, i0, i1, hp => by
    obtain rfl : _ = nm := Option.some.inj h1
    obtain rfl : _ = b := Option.some.inj h2
    exact oc_2 hin i0 i1 hp
  | 3, nm, b, h1, t, t', h2, W, a, c, hin, i0, i1, hp => by
    obtain rfl : _ = nm := Option.some.inj h1
    obtain rfl : _ = b := Option.some.inj h2
    exact oc_3 hin i0 i1 hp
  | 4, nm, b, h1, t, t', h2, W, a, c, hin, i0, i1, hp => by
    obtain rfl : _ = nm := Option.some.inj h1
    obtain rfl : _ = b := Option.some.inj h2
    exact oc_4 hin i0 i1 hp
  | 5, nm, b, h1, t, t', h2, W, a, c, hin, i0, i1, hp => by
    obtain rfl : _ = nm := Option.some.inj h1
    obtain rfl : _ = b := Option.some.inj h2
    exact oc_5 hin i0 i1 hp
  | 6, nm, b, h1, t, t', h2, W, a, c, hin, i0, i1, hp => by
    obtain rfl : _ = nm := Option.some.inj h1
    obtain rfl : _ = b := Option.some.inj h2
    exact oc_6 hin i0 i1 hp
  | 7, nm, b, h1, t, t', h2, W, a, c, hin, i0, i1, hp => by
    obtain rfl : _ = nm := Option.some.inj h1
    obtain rfl : _ = b := Option.some.inj h2
    exact oc_7 hin i0 i1 hp
  | i + 8, nm, b, h1, _, _, _, _, _, _, _, _, _, _ => by simp [sgn] at h1

abbrev minN : ByteArray := ⟨#[109, 105, 110]⟩
set_option maxRecDepth 100000 in
theorem min_law {W : World} {a : Option Addr} {c : Nat} {t t' : Tr} (hin : ArgsIn W a c [t, t']) (h0 : t.In W 0) (h1 : t'.In W 0) (hp : Pr2 t t') :
    Calls Tryz.prog 9 #[.string minN, .slice a 2 c] W (LawA (fun x => x = if cmpT t t' ≤ 0 then t else t') (fun _ => False) W) := by
  have hf : (bfnd grdL minN ((2 : Nat) : Int)).or (bfnd othL minN ((2 : Nat) : Int)) = some (minN, 2, 66) := by kernel_rfl
  refine lawcallA (fun er h => h.elim) fun W1 hb => ?_
  refine call_any (P := fun x => x = if cmpT t t' ≤ 0 then t else t') (E := fun _ => False) (n := 2) (fun r hr => ?_) (fun h => ?_)
  · rw [hf] at hr
    obtain rfl := Option.some.inj hr
    exact least_tc (in_below hb hin) hp.s0 hp.s1 (fun W2 hb2 => Cmp_any t t' W2 (in_below (hb.trans (hb2.mono hb.size)) h0) (in_below (hb.trans (hb2.mono hb.size)) h1) hp.s0.1 hp.s1.1 hp.e0 hp.e1) (fun h => by rw [if_pos h]) (fun h => by rw [if_neg h])
  · rw [hf] at h
    cases h

abbrev maxN : ByteArray := ⟨#[109, 97, 120]⟩
set_option maxRecDepth 100000 in
theorem max_law {W : World} {a : Option Addr} {c : Nat} {t t' : Tr} (hin : ArgsIn W a c [t, t']) (h0 : t.In W 0) (h1 : t'.In W 0) (hp : Pr2 t t') :
    Calls Tryz.prog 9 #[.string maxN, .slice a 2 c] W (LawA (fun x => x = if 0 ≤ cmpT t t' then t else t') (fun _ => False) W) := by
  have hf : (bfnd grdL maxN ((2 : Nat) : Int)).or (bfnd othL maxN ((2 : Nat) : Int)) = some (maxN, 2, 67) := by kernel_rfl
  refine lawcallA (fun er h => h.elim) fun W1 hb => ?_
  refine call_any (P := fun x => x = if 0 ≤ cmpT t t' then t else t') (E := fun _ => False) (n := 2) (fun r hr => ?_) (fun h => ?_)
  · rw [hf] at hr
    obtain rfl := Option.some.inj hr
    exact greatest_tc (in_below hb hin) hp.s0 hp.s1 (fun W2 hb2 => Cmp_any t t' W2 (in_below (hb.trans (hb2.mono hb.size)) h0) (in_below (hb.trans (hb2.mono hb.size)) h1) hp.s0.1 hp.s1.1 hp.e0 hp.e1) (fun h => by rw [if_pos h]) (fun h => by rw [if_neg h])
  · rw [hf] at h
    cases h
end Go.Proofs.YtajadhkpadkikaaGreatDoor


