import Derived.Test.YtajadhkpadkikaaGreatDoorG32
import Derived.Test.YtajadhkpadkikaaGreatDoorG35
import Derived.Test.YtajadhkpadkikaaGreatDoorG24
import Derived.Lib.SmallJoins
/- The kinds' tests as the law calls them. -/
namespace Go.Proofs.YtajadhkpadkikaaGreatDoor
open Go.RowKit Go.Lib Go.Deep
attribute [local go_sem] store_float f64bits store_func store_nilFunc
attribute [local go_sem ↓] Go.wp_at_zero Go.wp_at_succ

def ToldB (b : Bool) (w : World) (e : Ending) (w' : World) : Prop := (∃ a c, e = .returned (.tuple #[.agg #[.int .i64 3, .int .i64 0, .float .f64 0, .string (bolS b), .slice a 0 c], .int .i64 0])) ∧ Below w.heap.size w w'
def LawB (b : Bool) (w : World) (e : Ending) (w' : World) : Prop := (∃ a c, e = .returned (.tuple #[.agg #[.int .i64 3, .int .i64 0, .float .f64 0, .string (bolS b), .slice a 0 c], .bool true])) ∧ Below w.heap.size w w'
theorem toldB {b : Bool} {w : World} {e : Ending} {w' : World} (h : Ans (fun x => x = bolT b) (fun _ => False) w e w') : ToldB b w e w' := by
  obtain ⟨a, c, rfl, hb, -⟩ := ans_bool h
  exact ⟨⟨a, c, rfl⟩, hb⟩

set_option maxRecDepth 100000 in
theorem kc_0 {W : World} {a : Option Addr} {c : Nat} {t : Tr} (hin : ArgsIn W a c [t]) : Calls Tryz.prog 16 #[.string ⟨#[105, 115, 95, 97, 116, 111, 109]⟩, .slice a 1 c, noneF] W (ToldB (decide (t.kd ∈ ([3] : List Int))) W) := by
  have hf : (bfnd grdL ⟨#[105, 115, 95, 97, 116, 111, 109]⟩ ((1 : Nat) : Int)).or (bfnd othL ⟨#[105, 115, 95, 97, 116, 111, 109]⟩ ((1 : Nat) : Int)) = some (⟨#[105, 115, 95, 97, 116, 111, 109]⟩, 1, 55) := by kernel_rfl
  refine (call_any (P := fun x => x = bolT (decide (t.kd ∈ ([3] : List Int)))) (E := fun _ => False) (n := 1) (fun r hr => ?_) (fun h => ?_)).mono (fun e w' h => toldB h)
  · rw [hf] at hr
    obtain rfl := Option.some.inj hr
    exact isAtom_tc hin rfl
  · rw [hf] at h
    cases h

set_option maxRecDepth 100000 in
theorem kc_1 {W : World} {a : Option Addr} {c : Nat} {t : Tr} (hin : ArgsIn W a c [t]) : Calls Tryz.prog 16 #[.string ⟨#[105, 115, 95, 105, 110, 116, 101, 103, 101, 114]⟩, .slice a 1 c, noneF] W (ToldB (decide (t.kd ∈ ([1] : List Int))) W) := by
  have hf : (bfnd grdL ⟨#[105, 115, 95, 105, 110, 116, 101, 103, 101, 114]⟩ ((1 : Nat) : Int)).or (bfnd othL ⟨#[105, 115, 95, 105, 110, 116, 101, 103, 101, 114]⟩ ((1 : Nat) : Int)) = some (⟨#[105, 115, 95, 105, 110, 116, 101, 103, 101, 114]⟩, 1, 56) := by kernel_rfl
  refine (call_any (P := fun x => x = bolT (decide (t.kd ∈ ([1] : List Int)))) (E := fun _ => False) (n := 1) (fun r hr => ?_) (fun h => ?_)).mono (fun e w' h => toldB h)
  · rw [hf] at hr
    obtain rfl := Option.some.inj hr
    exact isInteger_tc hin rfl
  · rw [hf] at h
    cases h

set_option maxRecDepth 100000 in
theorem kc_2 {W : World} {a : Option Addr} {c : Nat} {t : Tr} (hin : ArgsIn W a c [t]) : Calls Tryz.prog 16 #[.string ⟨#[105, 115, 95, 102, 108, 111, 97, 116]⟩, .slice a 1 c, noneF] W (ToldB (decide (t.kd ∈ ([2] : List Int))) W) := by
  have hf : (bfnd grdL ⟨#[105, 115, 95, 102, 108, 111, 97, 116]⟩ ((1 : Nat) : Int)).or (bfnd othL ⟨#[105, 115, 95, 102, 108, 111, 97, 116]⟩ ((1 : Nat) : Int)) = some (⟨#[105, 115, 95, 102, 108, 111, 97, 116]⟩, 1, 57) := by kernel_rfl
  refine (call_any (P := fun x => x = bolT (decide (t.kd ∈ ([2] : List Int)))) (E := fun _ => False) (n := 1) (fun r hr => ?_) (fun h => ?_)).mono (fun e w' h => toldB h)
  · rw [hf] at hr
    obtain rfl := Option.some.inj hr
    exact isFloat_tc hin rfl
  · rw [hf] at h
    cases h

set_option maxRecDepth 100000 in
theorem kc_3 {W : World} {a : Option Addr} {c : Nat} {t : Tr} (hin : ArgsIn W a c [t]) : Calls Tryz.prog 16 #[.string ⟨#[105, 115, 95, 108, 105, 115, 116]⟩, .slice a 1 c, noneF] W (ToldB (decide (t.kd ∈ ([8] : List Int))) W) := by
  have hf : (bfnd grdL ⟨#[105, 115, 95, 108, 105, 115, 116]⟩ ((1 : Nat) : Int)).or (bfnd othL ⟨#[105, 115, 95, 108, 105, 115, 116]⟩ ((1 : Nat) : Int)) = some (⟨#[105, 115, 95, 108, 105, 115, 116]⟩, 1, 59) := by kernel_rfl
  refine (call_any (P := fun x => x = bolT (decide (t.kd ∈ ([8] : List Int)))) (E := fun _ => False) (n := 1) (fun r hr => ?_) (fun h => ?_)).mono (fun e w' h => toldB h)
  · rw [hf] at hr
    obtain rfl := Option.some.inj hr
    exact isList_tc hin rfl
  · rw [hf] at h
    cases h

set_option maxRecDepth 100000 in
theorem kc_4 {W : World} {a : Option Addr} {c : Nat} {t : Tr} (hin : ArgsIn W a c [t]) : Calls Tryz.prog 16 #[.string ⟨#[105, 115, 95, 116, 117, 112, 108, 101]⟩, .slice a 1 c, noneF] W (ToldB (decide (t.kd ∈ ([7] : List Int))) W) := by
  have hf : (bfnd grdL ⟨#[105, 115, 95, 116, 117, 112, 108, 101]⟩ ((1 : Nat) : Int)).or (bfnd othL ⟨#[105, 115, 95, 116, 117, 112, 108, 101]⟩ ((1 : Nat) : Int)) = some (⟨#[105, 115, 95, 116, 117, 112, 108, 101]⟩, 1, 60) := by kernel_rfl
  refine (call_any (P := fun x => x = bolT (decide (t.kd ∈ ([7] : List Int)))) (E := fun _ => False) (n := 1) (fun r hr => ?_) (fun h => ?_)).mono (fun e w' h => toldB h)
  · rw [hf] at hr
    obtain rfl := Option.some.inj hr
    exact isTuple_tc hin rfl
  · rw [hf] at h
    cases h

set_option maxRecDepth 100000 in
theorem kc_5 {W : World} {a : Option Addr} {c : Nat} {t : Tr} (hin : ArgsIn W a c [t]) : Calls Tryz.prog 16 #[.string ⟨#[105, 115, 95, 112, 105, 100]⟩, .slice a 1 c, noneF] W (ToldB (decide (t.kd ∈ ([6] : List Int))) W) := by
  have hf : (bfnd grdL ⟨#[105, 115, 95, 112, 105, 100]⟩ ((1 : Nat) : Int)).or (bfnd othL ⟨#[105, 115, 95, 112, 105, 100]⟩ ((1 : Nat) : Int)) = some (⟨#[105, 115, 95, 112, 105, 100]⟩, 1, 61) := by kernel_rfl
  refine (call_any (P := fun x => x = bolT (decide (t.kd ∈ ([6] : List Int)))) (E := fun _ => False) (n := 1) (fun r hr => ?_) (fun h => ?_)).mono (fun e w' h => toldB h)
  · rw [hf] at hr
    obtain rfl := Option.some.inj hr
    exact isPid_tc hin rfl
  · rw [hf] at h
    cases h

set_option maxRecDepth 100000 in
theorem kc_6 {W : World} {a : Option Addr} {c : Nat} {t : Tr} (hin : ArgsIn W a c [t]) : Calls Tryz.prog 16 #[.string ⟨#[105, 115, 95, 114, 101, 102, 101, 114, 101, 110, 99, 101]⟩, .slice a 1 c, noneF] W (ToldB (decide (t.kd ∈ ([4] : List Int))) W) := by
  have hf : (bfnd grdL ⟨#[105, 115, 95, 114, 101, 102, 101, 114, 101, 110, 99, 101]⟩ ((1 : Nat) : Int)).or (bfnd othL ⟨#[105, 115, 95, 114, 101, 102, 101, 114, 101, 110, 99, 101]⟩ ((1 : Nat) : Int)) = some (⟨#[105, 115, 95, 114, 101, 102, 101, 114, 101, 110, 99, 101]⟩, 1, 62) := by kernel_rfl
  refine (call_any (P := fun x => x = bolT (decide (t.kd ∈ ([4] : List Int)))) (E := fun _ => False) (n := 1) (fun r hr => ?_) (fun h => ?_)).mono (fun e w' h => toldB h)
  · rw [hf] at hr
    obtain rfl := Option.some.inj hr
    exact isReference_tc hin rfl
  · rw [hf] at h
    cases h

set_option maxRecDepth 100000 in
theorem kc_7 {W : World} {a : Option Addr} {c : Nat} {t : Tr} (hin : ArgsIn W a c [t]) : Calls Tryz.prog 16 #[.string ⟨#[105, 115, 95, 102, 117, 110, 99, 116, 105, 111, 110]⟩, .slice a 1 c, noneF] W (ToldB (decide (t.kd ∈ ([5] : List Int))) W) := by
  have hf : (bfnd grdL ⟨#[105, 115, 95, 102, 117, 110, 99, 116, 105, 111, 110]⟩ ((1 : Nat) : Int)).or (bfnd othL ⟨#[105, 115, 95, 102, 117, 110, 99, 116, 105, 111, 110]⟩ ((1 : Nat) : Int)) = some (⟨#[105, 115, 95, 102, 117, 110, 99, 116, 105, 111, 110]⟩, 1, 63) := by kernel_rfl
  refine (call_any (P := fun x => x = bolT (decide (t.kd ∈ ([5] : List Int)))) (E := fun _ => False) (n := 1) (fun r hr => ?_) (fun h => ?_)).mono (fun e w' h => toldB h)
  · rw [hf] at hr
    obtain rfl := Option.some.inj hr
    exact isFunction_tc hin rfl
  · rw [hf] at h
    cases h

set_option maxRecDepth 100000 in
theorem kc_8 {W : World} {a : Option Addr} {c : Nat} {t : Tr} (hin : ArgsIn W a c [t]) : Calls Tryz.prog 16 #[.string ⟨#[105, 115, 95, 110, 117, 109, 98, 101, 114]⟩, .slice a 1 c, noneF] W (ToldB (decide (t.kd ∈ ([1, 2] : List Int))) W) := by
  have hf : (bfnd grdL ⟨#[105, 115, 95, 110, 117, 109, 98, 101, 114]⟩ ((1 : Nat) : Int)).or (bfnd othL ⟨#[105, 115, 95, 110, 117, 109, 98, 101, 114]⟩ ((1 : Nat) : Int)) = some (⟨#[105, 115, 95, 110, 117, 109, 98, 101, 114]⟩, 1, 58) := by kernel_rfl
  refine (call_any (P := fun x => x = bolT (decide (t.kd ∈ ([1, 2] : List Int)))) (E := fun _ => False) (n := 1) (fun r hr => ?_) (fun h => ?_)).mono (fun e w' h => toldB h)
  · rw [hf] at hr
    obtain rfl := Option.some.inj hr
    exact isNumber_tc hin rfl
  · rw [hf] at h
    cases h

set_option maxRecDepth 100000 in
theorem kc_b {W : World} {a : Option Addr} {c : Nat} {t : Tr} (hin : ArgsIn W a c [t]) : Calls Tryz.prog 16 #[.string ⟨#[105, 115, 95, 98, 111, 111, 108, 101, 97, 110]⟩, .slice a 1 c, noneF] W (ToldB (isBol t) W) := by
  have hf : (bfnd grdL ⟨#[105, 115, 95, 98, 111, 111, 108, 101, 97, 110]⟩ ((1 : Nat) : Int)).or (bfnd othL ⟨#[105, 115, 95, 98, 111, 111, 108, 101, 97, 110]⟩ ((1 : Nat) : Int)) = some (⟨#[105, 115, 95, 98, 111, 111, 108, 101, 97, 110]⟩, 1, 64) := by kernel_rfl
  refine (call_any (P := fun x => x = bolT (isBol t)) (E := fun _ => False) (n := 1) (fun r hr => ?_) (fun h => ?_)).mono (fun e w' h => toldB h)
  · rw [hf] at hr
    obtain rfl := Option.some.inj hr
    exact isBoolean_tc hin rfl
  · rw [hf] at h
    cases h
set_option maxHeartbeats 1600000 in
set_option maxRecDepth 100000 in
theorem lawcall {W : World} {a : Option Addr} {c : Nat} {nm : ByteArray} {b : Bool} (hC : ∀ W1, Below W.heap.size W W1 → Calls Tryz.prog 16 #[.string nm, .slice a 1 c, noneF] W1 (ToldB b W1)) :
    Calls Tryz.prog 9 #[.string nm, .slice a 1 c] W (LawB b W) := by
  have HX0 := hidb (Box.new W 25 (.int .i64 0) (.int .i64 0) (.float .f64 0) (.string ⟨#[]⟩) (.slice none 0 0))
  have HC := hidb hC
  obtain ⟨PP, hPP⟩ : ∃ PP : Ending → World → Prop, LawB b W = PP := ⟨_, rfl⟩
  have HPP := hidb hPP
  rw [hPP]
  clear hC hPP
  go_enter Tryz.func9, Tryz.ntmps9
  go_wp2_with fail
  refine (HC.out _ (below_new _ _)).mono ?_
  rintro e w2 ⟨⟨a2, c2, rfl⟩, hb2⟩
  have HX2 := hidb (HX0.out.keep hb2)
  have HB2 := hidb ((below_new W _).trans (hb2.mono (by simp)))
  obtain ⟨S, hS⟩ : ∃ S, bolS b = S := ⟨_, rfl⟩
  have HS := hidb hS
  rw [hS]
  obtain ⟨⟨x0, x1, x2, x3, x4⟩, ⟨y0, y1, y2, y3, y4⟩, xl⟩ := Box.six HX2.out
  clear hb2 hS
  go_wp2_with fail
  have bx9 := (HX2.out.set (.int .i64 3) (.int .i64 0) (.float .f64 0) (.string S) (.slice a2 0 c2)).keep (below_new _ (.cells #[.int .i64 3, .int .i64 0, .float .f64 0, .string S, .slice a2 0 c2] 25))
  obtain ⟨⟨k0, k1', k2, k3, k4⟩, -, -⟩ := Box.six bx9
  simp only [set5] at k0 k1' k2 k3 k4
  refine bodyPost_ret (v := .tuple #[.agg #[.int .i64 3, .int .i64 0, .float .f64 0, .string S, .slice a2 0 c2], .bool true]) (by simp [results, Tryz.results9, go_sem, k0, k1', k2, k3, k4]) rfl ?_
  rw [← HPP.out]
  refine ⟨⟨a2, c2, by rw [HS.out]⟩, ?_⟩
  exact (((((HB2.out.setCell (by simp) _).setCell (by simp) _).setCell (by simp) _).setCell (by simp) _).setCell (by simp) _).alloc (by have := HB2.out.size; simpa using this) _
end Go.Proofs.YtajadhkpadkikaaGreatDoor


/- TRows of terms that are a call's own. -/
namespace Go.Proofs.YtajadhkpadkikaaGreatDoor
open Go.RowKit Go.Deep

/-- A row of terms that is the call's own; none of them lies in the row's own block. -/
def TRows (w : World) (base : Nat) (v : Value) (ds : List Tr) : Prop :=
  w.ownsRow base 25 5 v ds.length (ds.flatMap Tr.cells) ∧ ∀ t, t ∈ ds → t.In w base ∧ t.On (fun b => v.ownBlock ≠ some b ∧ b < w.heap.size ∧ base ≤ b)


theorem flat_get : ∀ (ds : List Tr) (j : Nat) (t : Tr), ds[j]? = some t → ∀ i, i < 5 → (ds.flatMap Tr.cells)[j * 5 + i]? = t.cells[i]? := by
  intro ds
  induction ds with
  | nil => intro j t h; simp at h
  | cons u r ih =>
    intro j t h i hi
    have hu : u.cells.length = 5 := by cases u; rfl
    simp only [List.flatMap_cons]
    rcases j with _ | j
    · obtain rfl : u = t := by simpa using h
      rw [List.getElem?_append_left (by omega)]
      simp
    · rw [List.getElem?_append_right (by omega), hu]
      have e : (j + 1) * 5 + i - 5 = j * 5 + i := by omega
      rw [e]
      exact ih j t (by simpa using h) i hi


theorem flat_len (ds : List Tr) : (ds.flatMap Tr.cells).length = ds.length * 5 := by
  induction ds with
  | nil => rfl
  | cons u r ih =>
    have hu : u.cells.length = 5 := by cases u; rfl
    simp only [List.flatMap_cons, List.length_append, List.length_cons, ih, hu]
    omega


/-- A term of such a row. -/
theorem rows_tree {w : World} {base : Nat} {v : Value} {ds : List Tr} (h : TRows w base v ds) (k n : Int) (f : Nat) (s : ByteArray) (hk : (Lit.int .i64 k).wf = true) (hn : (Lit.int .i64 n).wf = true) (hf : (Lit.float .f64 f).wf = true) (hs : s.size ≤ maxLen) :
    ∃ a c, v = .slice a ds.length c ∧ (Tr.mk k n f s a c ds).In w base := by
  obtain ⟨⟨hlen, ⟨rfl, h0⟩ | ⟨g, cap, cur, rfl, hbg, hobj, hnc, hcm, hcs, htk⟩⟩, hin⟩ := h
  · have e : ds = [] := List.length_eq_zero_iff.1 h0
    subst e
    refine ⟨none, 0, rfl, ?_⟩
    unfold Tr.In
    exact ⟨⟨hk, hn, hf, hs, by simp, by omega, fun _ => rfl⟩, fun ad h => by simp at h⟩
  · refine ⟨some ⟨g, 0, none⟩, cap, rfl, ?_⟩
    unfold Tr.In
    refine ⟨⟨hk, hn, hf, hs, hnc, hcm, fun h => by simp at h⟩, fun ad had => ?_⟩
    obtain rfl : (⟨g, 0, none⟩ : Addr) = ad := by simpa using had
    refine ⟨hbg, inAll_of fun j t hj => ⟨fun i hi => ?_, (hin t (List.mem_of_getElem? hj)).1⟩⟩
    have e : ((⟨g, 0, none⟩ : Addr).add (j * 5)).add i = ⟨g, j * 5 + i, none⟩ := by
      rw [add_add]
      unfold Addr.add
      split
      · rename_i h0; rw [h0]
      · simp
    rw [e, Joins.cell_of_block hobj, ← flat_get ds j t hj i hi, ← htk]
    have hjl := get_lt hj
    rw [List.getElem?_take]
    rw [if_pos (by omega)]
    simp

/-- What lies there lies in its blocks, from the base on. -/
theorem on_in {w : World} {base : Nat} : ∀ t : Tr, t.In w base → t.On (fun b => b < w.heap.size ∧ base ≤ b) := by
  refine Tr.ind fun k n f s a c kids hk h => ?_
  have hall := on_all (.mk k n f s a c kids) h
  unfold Tr.On at hall ⊢
  have h' := h
  unfold Tr.In at h'
  refine ⟨fun h0 ad had => ⟨hall.1 h0 ad had, (h'.2 ad had).1⟩, ?_⟩
  have : ∀ l : List Tr, (∀ t, t ∈ l → t ∈ kids) → Tr.OnAll (fun b => b < w.heap.size ∧ base ≤ b) l := by
    intro l
    induction l with
    | nil => intro _; unfold Tr.OnAll; trivial
    | cons t r ih =>
      intro hl
      unfold Tr.OnAll
      refine ⟨?_, ih fun u hu => hl u (List.mem_cons_of_mem _ hu)⟩
      have ht := hl t (List.mem_cons_self ..)
      obtain ⟨j, hj⟩ := List.getElem?_of_mem ht
      refine hk t ht ?_
      cases a with
      | none =>
        have h0 := h'.1.2.2.2.2.2.2 rfl
        have h1 := h'.1.2.2.2.2.1
        have := get_lt hj
        omega
      | some ad => exact (inAll_get (h'.2 ad rfl).2 j t hj).2
  exact this kids fun t h => h


theorem in_mono {w : World} {base base' : Nat} (hb : base' ≤ base) : ∀ t : Tr, t.In w base → t.In w base' := by
  refine Tr.ind fun k n f s a c kids hk h => ?_
  unfold Tr.In at h ⊢
  refine ⟨h.1, fun ad had => ⟨Nat.le_trans hb (h.2 ad had).1, inAll_of fun j t hj => ?_⟩⟩
  have g := inAll_get (h.2 ad had).2 j t hj
  refine ⟨fun i hi => ?_, hk t (List.mem_of_getElem? hj) g.2⟩
  rw [add_add]
  exact g.1 i hi


theorem rows_nil (w : World) (base : Nat) : TRows w base (.slice none 0 0) [] := ⟨⟨rfl, Or.inl ⟨rfl, rfl⟩⟩, fun t h => by simp at h⟩


theorem ownsRow_block {w w' : World} {base : Nat} {e : TypeId} {v : Value} {n : Nat} {xs : List Value} (h : w.ownsRow base e 5 v n xs) (hb : ∀ g, v.ownBlock = some g → w'.heap[g]? = w.heap[g]?) : w'.ownsRow base e 5 v n xs := by
  obtain ⟨hl, h | ⟨g, cap, cur, rfl, h1, h2, h3, h4, h5, h6⟩⟩ := h
  · exact ⟨hl, Or.inl h⟩
  · exact ⟨hl, Or.inr ⟨g, cap, cur, rfl, h1, (hb g rfl).trans h2, h3, h4, h5, h6⟩⟩


theorem ownsRow_lt {w : World} {base : Nat} {e : TypeId} {v : Value} {n : Nat} {xs : List Value} (h : w.ownsRow base e 5 v n xs) (g : Nat) (hg : v.ownBlock = some g) : base ≤ g ∧ g < w.heap.size := by
  obtain ⟨_, ⟨rfl, _⟩ | ⟨g', cap, cur, rfl, h1, h2, _⟩⟩ := h
  · simp [Value.ownBlock] at hg
  · obtain rfl : g' = g := by simpa [Value.ownBlock] using hg
    refine ⟨h1, ?_⟩
    rcases Nat.lt_or_ge g' w.heap.size with q | q
    · exact q
    · rw [Array.getElem?_eq_none q] at h2; cases h2


/-- Behind a change of blocks ahead of the base, and new ones. -/
theorem TRows.low {w w' : World} {base : Nat} {v : Value} {ds : List Tr} (h : TRows w base v ds) (hs : w.heap.size ≤ w'.heap.size) (hb : ∀ b, base ≤ b → b < w.heap.size → w'.heap[b]? = w.heap[b]?) : TRows w' base v ds := by
  refine ⟨ownsRow_block h.1 (fun g hg => by have := ownsRow_lt h.1 g hg; exact hb g this.1 this.2), fun t ht => ?_⟩
  obtain ⟨h1, h2⟩ := h.2 t ht
  exact ⟨in_on (fun b hS => hb b hS.2.2 hS.2.1) t h1 h2, on_mono (fun b hS => ⟨hS.1, by omega, hS.2.2⟩) t h2⟩


theorem TRows.keep {w w' : World} {base : Nat} {v : Value} {ds : List Tr} (h : TRows w base v ds) (hb : Below w.heap.size w w') : TRows w' base v ds := h.low hb.size (fun b _ hl => hb.block b hl)


theorem TRows.set {w : World} {base : Nat} {v : Value} {ds : List Tr} (h : TRows w base v ds) {p : Addr} (hp : p.block < base) (u : Value) : TRows (w.setCell p u) base v ds :=
  h.low (by simp [World.setCell]) (fun b hb _ => Below.heap_setCell _ _ _ _ (by omega))


/-- Behind an append of one more. -/
theorem TRows.append {w w' : World} {base : Nat} {v v' : Value} {ds : List Tr} {t : Tr} (h : TRows w base v ds) (ho : w'.ownsRow base 25 5 v' (ds.length + 1) (ds.flatMap Tr.cells ++ t.cells)) (hg : w.grownBy w' v.ownBlock) (hv : v'.ownBlock = v.ownBlock ∨ v'.ownBlock = some w.heap.size) (ht : t.In w base) (hn : t.On (fun b => v.ownBlock ≠ some b ∧ b < w.heap.size ∧ base ≤ b)) : TRows w' base v' (ds ++ [t]) := by
  have hall : ∀ u, u ∈ ds ++ [t] → u.In w base ∧ u.On (fun b => v.ownBlock ≠ some b ∧ b < w.heap.size ∧ base ≤ b) := by
    intro u hu
    rcases List.mem_append.1 hu with hu | hu
    · exact h.2 u hu
    · obtain rfl : u = t := by simpa using hu
      exact ⟨ht, hn⟩
  refine ⟨?_, fun u hu => ?_⟩
  · rw [List.length_append, List.flatMap_append]
    simpa using ho
  · obtain ⟨h1, h2⟩ := hall u hu
    refine ⟨in_on (fun b hS => hg.block b hS.2.1 (fun e => hS.1 e.symm)) u h1 h2, on_mono (fun b hS => ⟨?_, by have := hg.size; omega, hS.2.2⟩) u h2⟩
    rcases hv with e | e
    · rw [e]; exact hS.1
    · rw [e]; intro q; have := Option.some.inj q; omega

theorem infoT5 : (Tryz.prog.info? 25).map (fun i => (i.zero, i.size, i.bytes)) = some (some (.agg #[.int .i64 0, .int .i64 0, .float .f64 0, .string ⟨#[]⟩, .slice none 0 0]), 5, 64) := by kernel_rfl


theorem tr_one (t : Tr) : ∀ u ∈ t.cells, u.oneCell' = true := by
  obtain ⟨k, n, f, s, a, c, kids⟩ := t
  intro y hy
  simp only [Tr.cells, List.mem_cons, List.not_mem_nil, or_false] at hy
  rcases hy with rfl | rfl | rfl | rfl | rfl <;> rfl


theorem tr_len (t : Tr) : t.cells.length = 5 := by cases t; rfl


/-- A term that was told lies in no block of a row that was there. -/
theorem told_off {w w' : World} {base : Nat} {v : Value} {ds : List Tr} {t : Tr} (h : TRows w base v ds) (hb : base ≤ w.heap.size) (ht : t.In w' w.heap.size) : t.In w' base ∧ t.On (fun b => v.ownBlock ≠ some b ∧ b < w'.heap.size ∧ base ≤ b) := by
  refine ⟨in_mono hb t ht, on_mono (fun b hS => ⟨fun e => ?_, hS.1, by omega⟩) t (on_in t ht)⟩
  have := ownsRow_lt h.1 b e
  omega


end Go.Proofs.YtajadhkpadkikaaGreatDoor


