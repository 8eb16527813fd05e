import Derived.Test.YtajadhkpadkikaaGreatDoorG36
import Derived.Test.YtajadhkpadkikaaGreatDoorG31
/- BifPlaces: what its calls tell, in one form. -/
namespace Go.Proofs.YtajadhkpadkikaaGreatDoor
open Go.RowKit Go.Lib Go.Deep
attribute [local go_sem] store_float f64bits store_func store_nilFunc
attribute [local go_sem ↓] Go.wp_at_zero Go.wp_at_succ

theorem wpAnyD_twoL {P : Program} {md : Region.Mode} {Q : Exit → Act → World → Prop} {S : World → Prop} {D : List Nat} {l : List Oper} {i j : Nat} {oi oj : Oper} {fuel : Nat} {listed : Array Bool} {a : Act} {w : World} (hr : Region.ready md l.toArray listed = [i, j]) (hi : l[i]? = some oi) (hj : l[j]? = some oj)
    (h1 : ∀ K : Act → World → Prop, (∀ a' w', (i ∉ D → S w') → wpAnyD P md l.toArray Q S D fuel (listed.setIfInBounds i true) a' w' → K a' w') → if Region.wanted oi (yielded l.toArray a.tmps) = true then Oper.wp P oi a w K Q else K (a.put oi.dst undef) w)
    (h2 : ∀ K : Act → World → Prop, (∀ a' w', (j ∉ D → S w') → wpAnyD P md l.toArray Q S D fuel (listed.setIfInBounds j true) a' w' → K a' w') → if Region.wanted oj (yielded l.toArray a.tmps) = true then Oper.wp P oj a w K Q else K (a.put oj.dst undef) w) : wpAnyD P md l.toArray Q S D (fuel + 1) listed a w := by
  refine ⟨fun h0 => (by rw [hr] at h0; cases h0), fun k hk => ?_⟩
  rw [hr] at hk
  rcases List.mem_cons.1 hk with rfl | hk
  · have := h1 (fun a' w' => (k ∉ D → S w') ∧ wpAnyD P md l.toArray Q S D fuel (listed.setIfInBounds k true) a' w') (fun a' w' h1 h2 => ⟨h1, h2⟩)
    have hi' : l.toArray[k]? = some oi := by simpa using hi
    unfold wpOp
    simp only [hi']
    split
    · rename_i hw; rw [if_pos hw] at this; exact .inl this
    · rename_i hw; rw [if_neg hw] at this; exact this
  · obtain rfl : k = j := by simpa using hk
    have := h2 (fun a' w' => (k ∉ D → S w') ∧ wpAnyD P md l.toArray Q S D fuel (listed.setIfInBounds k true) a' w') (fun a' w' h1 h2 => ⟨h1, h2⟩)
    have hj' : l.toArray[k]? = some oj := by simpa using hj
    unfold wpOp
    simp only [hj']
    split
    · rename_i hw; rw [if_pos hw] at this; exact .inl this
    · rename_i hw; rw [if_neg hw] at this; exact this

theorem wp_via {P : Program} {c : Code} {Q' : Exit → Act → World → Prop} {a : Act} {w : World} (R : Act → Exit → Act → World → Prop) (h1 : c.wp P (R a) a w) (h2 : ∀ e a' w', R a e a' w' → Q' e a' w') : c.wp P Q' a w := Code.wp_mono h2 h1
theorem sm_symm : ∀ t t' : Tr, Sm t t' → Sm t' t := by
  refine Tr.ind fun k n f s a c kids hk => ?_
  rintro ⟨k', n', f', s', a', c', kids'⟩ h
  unfold Sm at h ⊢
  obtain ⟨rfl, rfl, rfl, rfl, h⟩ := h
  refine ⟨rfl, rfl, rfl, rfl, ?_⟩
  have hall : ∀ (l l' : List Tr), (∀ t, t ∈ l → t ∈ kids) → SmA l l' → SmA l' l := by
    intro l
    induction l with
    | nil =>
      intro l' _ h
      cases l' with
      | nil => exact h
      | cons => unfold SmA at h; exact h.elim
    | cons t r ih =>
      intro l' hm h
      cases l' with
      | nil => unfold SmA at h; exact h.elim
      | cons t' r' =>
        unfold SmA at h ⊢
        exact ⟨hk t (hm t (by simp)) t' h.1, ih r' (fun u hu => hm u (by simp [hu])) h.2⟩
  exact hall kids kids' (fun t h => h) h
theorem ent_lawcall : Ent 9 := by
  intro args w
  kernel_rfl
theorem ent_i9 : Ent 19 := by
  intro args w
  kernel_rfl
/-- What a call has told: a term, that lies from block B on, and true; or false. -/
def ResQ (P : Tr → Prop) (E : Int → Prop) (B : Nat) (sk sn : Int) (sf : Nat) (ss : ByteArray) (sa : Option Addr) (sl sc : Nat) (ok : Bool) (w : World) : Prop :=
  (ok = true ∧ ∃ t ks', sl = ks'.length ∧ P t ∧ errT t = 0 ∧ Sm t (.mk sk sn sf ss sa sc ks') ∧ (Tr.mk sk sn sf ss sa sc ks').In w 0 ∧ (Tr.mk sk sn sf ss sa sc ks').On (fun k => B ≤ k)) ∨ (ok = false ∧ ((∃ er, E er) ∨ ∃ t, P t ∧ errT t ≠ 0))
def ResP (P : Tr → Prop) (E : Int → Prop) (sk sn : Int) (sf : Nat) (ss : ByteArray) (sa : Option Addr) (sl sc : Nat) (ok : Bool) (w : World) : Prop :=
  (ok = true ∧ ∃ t ks', sl = ks'.length ∧ P t ∧ errT t = 0 ∧ Sm t (.mk sk sn sf ss sa sc ks') ∧ (Tr.mk sk sn sf ss sa sc ks').In w 0) ∨ (ok = false ∧ ((∃ er, E er) ∨ ∃ t, P t ∧ errT t ≠ 0))
theorem law_one {P : Tr → Prop} {E : Int → Prop} {w : World} {e : Ending} {w' : World} (h : LawA P E w e w') : ∃ sk sn sf ss sa sl sc ok, e = .returned (.tuple #[.agg #[.int .i64 sk, .int .i64 sn, .float .f64 sf, .string ss, .slice sa sl sc], .bool ok]) ∧ Below w.heap.size w w' ∧ ResQ P E w.heap.size sk sn sf ss sa sl sc ok w' := by
  obtain ⟨hb, ⟨t, ⟨k', n', f', s', a', c', ks'⟩, hP, he, hs, hin, hon, rfl⟩ | ⟨hE, rfl⟩⟩ := h
  · exact ⟨k', n', f', s', a', ks'.length, c', true, rfl, hb, .inl ⟨rfl, t, ks', rfl, hP, he, hs, hin, hon⟩⟩
  · exact ⟨0, 0, 0, ⟨#[]⟩, none, 0, 0, false, rfl, hb, .inr ⟨rfl, hE⟩⟩
theorem res_on5 {P : Tr → Prop} {E : Int → Prop} {B xb : Nat} {sk sn : Int} {sf : Nat} {ss : ByteArray} {sa : Option Addr} {sl sc : Nat} {ok : Bool} {w6 W : World} (h : ResQ P E B sk sn sf ss sa sl sc ok w6) (hto : ∀ t' : Tr, t'.In w6 0 → t'.On (fun k => B ≤ k) → t'.In W 0) (hnx : ∀ t' : Tr, t'.In w6 0 → t'.On (fun k => B ≤ k) → t'.On (fun k => k < xb ∨ xb + 1 ≤ k)) (u0 u1 u2 u3 u4 : Value) : ResP P E sk sn sf ss sa sl sc ok (set5 W xb u0 u1 u2 u3 u4) := by
  rcases h with ⟨h0, t, ks', hl, hP, he, hs, hin, hon⟩ | h
  · exact .inl ⟨h0, t, ks', hl, hP, he, hs, in_on5 (B := xb) (c := xb + 1) (hto _ hin hon) (hnx _ hin hon) (Nat.le_refl _) (by omega) _ _ _ _ _⟩
  · exact .inr h
theorem ResP.keep {P : Tr → Prop} {E : Int → Prop} {sk sn : Int} {sf : Nat} {ss : ByteArray} {sa : Option Addr} {sl sc : Nat} {ok : Bool} {w w' : World} (h : ResP P E sk sn sf ss sa sl sc ok w) (hb : Below w.heap.size w w') : ResP P E sk sn sf ss sa sl sc ok w' := by
  rcases h with ⟨h0, t, ks', hl, hP, he, hs, hin⟩ | h
  · exact .inl ⟨h0, t, ks', hl, hP, he, hs, in_below hb hin⟩
  · exact .inr h
end Go.Proofs.YtajadhkpadkikaaGreatDoor


/- BifPlaces: what setelement and element tell the law. -/
namespace Go.Proofs.YtajadhkpadkikaaGreatDoor
open Go.RowKit Go.Lib Go.Deep
attribute [local go_sem] store_float f64bits store_func store_nilFunc
attribute [local go_sem ↓] Go.wp_at_zero Go.wp_at_succ

abbrev seN : ByteArray := ⟨#[115, 101, 116, 101, 108, 101, 109, 101, 110, 116]⟩
abbrev elN : ByteArray := ⟨#[101, 108, 101, 109, 101, 110, 116]⟩
abbrev nuT (n : Int) : Tr := .mk 1 n 0 ⟨#[]⟩ none 0 []
abbrev SeP (n : Int) (ks : List Tr) (x : Tr) (t : Tr) : Prop := plB 1 n ks.length = true ∧ ∃ a' c', t = .mk 7 0 0 ⟨#[]⟩ a' c' (ks.set (n - 1).toNat x)
abbrev ElP (n : Int) (ks : List Tr) (t : Tr) : Prop := plB 1 n ks.length = true ∧ ks[(n - 1).toNat]? = some t
abbrev ElE (n : Int) (ks : List Tr) (er : Int) : Prop := er = 13 ∧ plB 1 n ks.length = false

set_option maxRecDepth 100000 in
theorem se_law {W : World} {a : Option Addr} {c : Nat} {n : Int} {a1 : Option Addr} {c1 : Nat} {ks : List Tr} {x : Tr} (hin : ArgsIn W a c [nuT n, .mk 7 0 0 ⟨#[]⟩ a1 c1 ks, x]) (hsm : ∀ t ∈ x :: ks, Small t ∧ cnT t ≤ 1000000) (hlen : ks.length ≤ 200) :
    Calls Tryz.prog 9 #[.string seN, .slice a 3 c] W (LawA (SeP n ks x) (fun er => er = 13) W) := by
  have hf : (bfnd grdL seN ((3 : Nat) : Int)).or (bfnd othL seN ((3 : Nat) : Int)) = some (seN, 3, 68) := by kernel_rfl
  refine lawcallA (fun er h => by omega) fun W1 hb => ?_
  refine call_any (P := SeP n ks x) (E := fun er => er = 13) (n := 3) (fun r hr => ?_) (fun h => ?_)
  · rw [hf] at hr
    obtain rfl := Option.some.inj hr
    exact setElement_tc (in_below hb hin) hsm hlen (fun _ h a' c' => ⟨h, a', c', rfl⟩) (fun _ => rfl)
  · rw [hf] at h
    cases h
set_option maxRecDepth 100000 in
theorem el_law {W : World} {a : Option Addr} {c : Nat} {n : Int} {a1 : Option Addr} {c1 : Nat} {ks : List Tr} (hin : ArgsIn W a c [nuT n, .mk 7 0 0 ⟨#[]⟩ a1 c1 ks]) (hsm : ∀ t ∈ ks, Small t ∧ cnT t ≤ 1000000) (hlen : ks.length ≤ 200) :
    Calls Tryz.prog 9 #[.string elN, .slice a 2 c] W (LawA (ElP n ks) (ElE n ks) W) := by
  refine lawcallA (fun er h => by have := h.1; omega) fun W1 hb => ?_
  refine call_any (P := ElP n ks) (E := ElE n ks) (n := 2) (fun r hr => ?_) (fun h => ?_)
  · rw [el_find] at hr
    obtain rfl := Option.some.inj hr
    exact element_tc (in_below hb hin) (fun t ht => ⟨(hsm t ht).1, by have := (hsm t ht).2; omega⟩) (by omega) (fun _ h t ht => ⟨h, ht⟩) (fun h => ⟨rfl, h.resolve_left (fun h => h rfl)⟩)
  · rw [el_find] at h
    cases h
theorem nu_in (n : Int) (h : Lit.wf (.int .i64 n) = true) (w : World) : (nuT n).In w 0 := by
  unfold Tr.In
  exact ⟨⟨by decide, h, by decide, by show 0 ≤ maxLen; omega, by simp, by simp, fun _ => rfl⟩, fun ad h => by simp at h⟩

theorem cn_kid {kids : List Tr} {t : Tr} (ht : t ∈ kids) : cnT t ≤ cnA kids := by
  induction kids with
  | nil => simp at ht
  | cons u r ih =>
    unfold cnA
    rcases List.mem_cons.1 ht with rfl | h
    · omega
    · have := ih h; omega
end Go.Proofs.YtajadhkpadkikaaGreatDoor


