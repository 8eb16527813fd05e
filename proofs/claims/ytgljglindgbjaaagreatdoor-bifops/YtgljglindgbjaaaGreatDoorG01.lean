import Derived.Test.YtgljglindgbjaaaGreatDoorG00
import Derived.Deep.DrawnRows
/- The count of parts, walked: by induction on the tree. -/
namespace Go.Proofs.YtgljglindgbjaaaGreatDoor
open Go.RowKit Go.Deep
attribute [local go_sem ↓] Go.wp_at_zero Go.wp_at_succ

/-- Element j of a term that lies there: where it lies, and its five cells. -/
theorem kid_at {w : World} {k n : Int} {f : Nat} {s : ByteArray} {a : Option Addr} {c : Nat} {kids : List Tr} (h : (Tr.mk k n f s a c kids).In w 0) (h0 : 0 < kids.length) :
    ∃ b o, a = some ⟨b, o, none⟩ ∧ ∀ j, j < kids.length → ∃ (k' n' : Int) (f' : Nat) (s' : ByteArray) (a' : Option Addr) (c' : Nat) (kids' : List Tr), kids[j]? = some (.mk k' n' f' s' a' c' kids') ∧ (Tr.mk k' n' f' s' a' c' kids').In w 0 ∧
      w.cell? ⟨b, o + j * 5, none⟩ = some (.int .i64 k') ∧ w.cell? ⟨b, o + j * 5 + 1, none⟩ = some (.int .i64 n') ∧ w.cell? ⟨b, o + j * 5 + 2, none⟩ = some (.float .f64 f') ∧ w.cell? ⟨b, o + j * 5 + 3, none⟩ = some (.string s') ∧ w.cell? ⟨b, o + j * 5 + 4, none⟩ = some (.slice a' kids'.length c') := by
  unfold Tr.In at h
  obtain ⟨⟨_, _, _, _, hl, _, hn⟩, hin⟩ := h
  cases a with
  | none => have := hn rfl; omega
  | some ad =>
    have g := (hin ad rfl).2
    obtain ⟨b, o, sp⟩ := ad
    have hsp : sp = none := by
      have e := (inAll_get g 0 (kids[0]) (List.getElem?_eq_getElem h0)).1 0 (by omega)
      cases hk : kids[0] with
      | mk => rw [hk] at e; simpa [Addr.add] using World.cell?_spot (e.trans rfl)
    subst hsp
    refine ⟨b, o, rfl, fun j hj => ?_⟩
    obtain ⟨u, hu⟩ : ∃ u, kids[j]? = some u := ⟨_, List.getElem?_eq_getElem hj⟩
    have q := inAll_get g j u hu
    cases u with
    | mk k' n' f' s' a' c' kids' =>
      have ea : ∀ i, (⟨b, o, none⟩ : Addr).add (j * 5 + i) = ⟨b, o + j * 5 + i, none⟩ := by
        intro i; unfold Addr.add; split
        · have : j * 5 + i = 0 := by assumption
          have h1 : o + j * 5 + i = o := by omega
          rw [h1]
        · simp [Nat.add_assoc]
      refine ⟨k', n', f', s', a', c', kids', hu, q.2, ?_, ?_, ?_, ?_, ?_⟩
      · have := q.1 0 (by omega); rw [ea] at this; exact this
      · have := q.1 1 (by omega); rw [ea] at this; exact this
      · have := q.1 2 (by omega); rw [ea] at this; exact this
      · have := q.1 3 (by omega); rw [ea] at this; exact this
      · have := q.1 4 (by omega); rw [ea] at this; exact this

theorem drop_one {kids : List Tr} {m : Nat} {t : Tr} (h : kids[m]? = some t) : kids.drop m = t :: kids.drop (m + 1) := by
  obtain ⟨hm, rfl⟩ := List.getElem?_eq_some_iff.1 h
  exact List.drop_eq_getElem_cons hm

theorem len_small {w : World} {k n : Int} {f : Nat} {s : ByteArray} {a : Option Addr} {c : Nat} {kids : List Tr} (h : (Tr.mk k n f s a c kids).In w 0) : kids.length ≤ 9223372036854775807 := by
  unfold Tr.In at h
  obtain ⟨⟨_, _, _, _, hl, hm, _⟩, _⟩ := h
  unfold maxLen at hm
  omega

theorem fewAll_stop (kids : List Tr) (deep left : Int) (h : left < 0) : fewAll kids left deep = left := by
  cases kids <;> simp [fewAll, h]

set_option maxHeartbeats 1600000 in
set_option maxRecDepth 100000 in
theorem few_any : ∀ (t : Tr) (left deep : Int) (w : World), t.In w 0 → -1 ≤ left → left ≤ 300000 → -1 ≤ deep → deep ≤ 1000 →
    Calls Tryz.prog 12 #[t.val, .int .i64 left, .int .i64 deep] w fun e w' => e = .returned (.int .i64 (fewT t left deep)) ∧ Below w.heap.size w w' := by
  refine Tr.ind fun k n f s a c kids hk => ?_
  intro left deep w hin h1 h2 h3 h4
  show Calls Tryz.prog 12 #[.agg #[.int .i64 k, .int .i64 n, .float .f64 f, .string s, .slice a kids.length c], .int .i64 left, .int .i64 deep] w _
  simp only [fewT]
  have HK : Hid (∀ t, t ∈ kids → ∀ (left deep : Int) (w : World), t.In w 0 → -1 ≤ left → left ≤ 300000 → -1 ≤ deep → deep ≤ 1000 →
    Calls Tryz.prog 12 #[t.val, .int .i64 left, .int .i64 deep] w fun e w' => e = .returned (.int .i64 (fewT t left deep)) ∧ Below w.heap.size w w') := hk
  have HIN : Hid ((Tr.mk k n f s a c kids).In w 0) := hin
  have hlen := len_small hin
  clear hk hin
  by_cases hl : left < 0
  · rw [if_pos (Or.inl hl)]
    go_enter Tryz.func12, Tryz.ntmps12
    go_wp2
    go_ret
    exact ⟨rfl, (Below.refl _ _).alloc (Nat.le_refl _) _⟩
  by_cases hd : deep < 0
  · rw [if_pos (Or.inr hd)]
    go_enter Tryz.func12, Tryz.ntmps12
    go_wp2
    go_ret
    exact ⟨rfl, (Below.refl _ _).alloc (Nat.le_refl _) _⟩
  rw [if_neg (by omega)]
  have hlw : wrap64 (left - 1) = left - 1 := by unfold wrap64; omega
  have hdw : wrap64 (deep - 1) = deep - 1 := by unfold wrap64; omega
  have hdw' : IntKind.i64.wrap (deep - 1) = deep - 1 := by rw [IntKind.wrap_i64]; omega
  go_enter Tryz.func12, Tryz.ntmps12
  go_wp2_with fail
  go_loopw [1, 7] (fun lv iv wr => ∃ (m : Nat) (l : Int), m ≤ kids.length ∧ iv = .int .i64 m ∧ lv = .int .i64 l ∧ -1 ≤ l ∧ l ≤ 300000 ∧ fewAll (kids.drop m) l (deep - 1) = fewAll kids (left - 1) (deep - 1) ∧ Below (w.heap.size + 1) (w.alloc (.cells #[.int .i64 k, .int .i64 n, .float .f64 f, .string s, .slice a kids.length c] 27)) wr) (fun _ iv _ => kids.length - (intOf iv).toNat)
  case atStart => exact ⟨0, left - 1, by omega, rfl, by simp, by omega, by omega, by simp, Below.refl _ _⟩
  case round =>
    obtain ⟨m, l, hm, rfl, rfl, hl1, hl2, hrest, hbel⟩ := hrel
    have HR : Hid (fewAll (kids.drop m) l (deep - 1) = fewAll kids (left - 1) (deep - 1)) := hrest
    have HB : Hid (Below w.heap.size w wr) := ((Below.refl _ _).alloc (Nat.le_refl _) _).trans (hbel.mono (Nat.le_succ _))
    have HB1 : Hid (Below (w.heap.size + 1) (w.alloc (.cells #[.int .i64 k, .int .i64 n, .float .f64 f, .string s, .slice a kids.length c] 27)) wr) := hbel
    have d4 : wr.cell? ⟨w.heap.size, 4, none⟩ = some (.slice a kids.length c) := by rw [hbel.cell (by simp), World.cell?_alloc_new]; rfl
    clear hrest hbel
    by_cases hml : m < kids.length
    · have hmb : (m : Int) < (kids.length : Int) := by omega
      by_cases hlz : l < 0
      · go_wp2
        go_ret
        refine ⟨?_, HB.out⟩
        have e := HR.out
        rw [fewAll_stop _ _ _ hlz] at e
        rw [e]
        rfl
      · obtain ⟨b, o, rfl, hat⟩ := kid_at (in_below HB.out HIN.out) (by omega)
        obtain ⟨k', n', f', s', a', c', kids', hu, hin', c0, c1, c2, c3, c4⟩ := hat m hml
        have IH := HK.out _ (List.mem_of_getElem? hu) l (deep - 1) wr hin' hl1 hl2 (by omega) (by omega)
        have HU : Hid (kids[m]? = some (.mk k' n' f' s' a' c' kids')) := hu
        clear hu hin' hat
        have hmz : (0 : Int) ≤ (m : Int) := by omega
        go_wp2_with fail
        have hstep : fewAll (kids.drop (m + 1)) (fewT (.mk k' n' f' s' a' c' kids') l (deep - 1)) (deep - 1) = fewAll kids (left - 1) (deep - 1) := by
          have e := HR.out
          rw [drop_one HU.out] at e
          simp only [fewAll] at e
          rwa [if_neg (by omega)] at e
        have hle := fewT_le (.mk k' n' f' s' a' c' kids') l (deep - 1) hl1
        generalize fewT (.mk k' n' f' s' a' c' kids') l (deep - 1) = l' at IH hstep hle
        have HS : Hid (fewAll (kids.drop (m + 1)) l' (deep - 1) = fewAll kids (left - 1) (deep - 1)) := hstep
        clear hstep
        refine IH.mono ?_
        rintro e wz ⟨rfl, hbz⟩
        have HZ : Hid (Below (w.heap.size + 1) (w.alloc (.cells #[.int .i64 k, .int .i64 n, .float .f64 f, .string s, .slice (some ⟨b, o, none⟩) kids.length c] 27)) wz) := HB1.out.trans (hbz.mono (by have := HB1.out.size; simpa using this))
        clear hbz IH
        go_wp2
        go_roundw
        case rel => exact ⟨m + 1, l', by omega, by go_num, rfl, hle.1, by omega, HS.out, HZ.out⟩
        case measure => simp [intOf]; omega
    · have hmn : ¬ (m : Int) < (kids.length : Int) := by omega
      go_wp2
      go_ret
      refine ⟨?_, HB.out⟩
      have e := HR.out
      rw [List.drop_of_length_le (by omega)] at e
      simp only [fewAll] at e
      rw [e]
      rfl
end Go.Proofs.YtgljglindgbjaaaGreatDoor


/- The document's measure of a term, walked: by induction on the tree. -/
namespace Go.Proofs.YtgljglindgbjaaaGreatDoor
open Go.RowKit Go.Deep
attribute [local go_sem ↓] Go.wp_at_zero Go.wp_at_succ

mutual
/-- No term in it has very many elements. -/
def Small : Tr → Prop
  | .mk _ _ _ _ _ _ kids => kids.length ≤ 400000 ∧ SmallAll kids
def SmallAll : List Tr → Prop
  | [] => True
  | t :: r => Small t ∧ SmallAll r
end

theorem smallAll_get {kids : List Tr} (h : SmallAll kids) {t : Tr} (ht : t ∈ kids) : Small t := by
  induction kids with
  | nil => simp at ht
  | cons u r ih =>
    unfold SmallAll at h
    rcases List.mem_cons.1 ht with rfl | ht
    · exact h.1
    · exact ih h.2 ht

/-- What is counted to its end has few parts everywhere. -/
theorem few_small : ∀ (t : Tr) (left deep : Int), left ≤ 300000 → 0 ≤ fewT t left deep → Small t ∧ fewT t left deep ≤ left - 1 := by
  refine Tr.ind fun k n f s a c kids hk => ?_
  have hall : ∀ left deep, left ≤ 300000 → 0 ≤ fewAll kids left deep → SmallAll kids ∧ fewAll kids left deep ≤ left - kids.length := by
    induction kids with
    | nil => intro left deep h h0; simp only [fewAll, SmallAll, List.length_nil] at *; exact ⟨trivial, by omega⟩
    | cons t r ih =>
      intro left deep h h0
      simp only [fewAll] at h0 ⊢
      by_cases hl : left < 0
      · rw [if_pos hl] at h0; omega
      · rw [if_neg hl] at h0 ⊢
        have hn : 0 ≤ fewT t left deep := by
          by_cases hz : fewT t left deep < 0
          · rw [fewAll_stop _ _ _ hz] at h0; omega
          · omega
        have g := hk t (List.mem_cons_self ..) left deep h hn
        have q := ih (fun u hu => hk u (List.mem_cons_of_mem _ hu)) (fewT t left deep) deep (by omega) h0
        simp only [SmallAll, List.length_cons]
        exact ⟨⟨g.1, q.1⟩, by omega⟩
  intro left deep h h0
  simp only [fewT] at h0 ⊢
  by_cases hc : left < 0 ∨ deep < 0
  · rw [if_pos hc] at h0; omega
  · rw [if_neg hc] at h0 ⊢
    have q := hall (left - 1) (deep - 1) (by omega) h0
    simp only [Small]
    exact ⟨⟨by omega, q.1⟩, by omega⟩

set_option maxHeartbeats 800000 in
set_option maxRecDepth 100000 in
theorem own_any (k n : Int) (f : Nat) (s : ByteArray) (a : Option Addr) (l c : Nat) (hl : l ≤ 400000) (w : World) :
    Calls Tryz.prog 138 #[.agg #[.int .i64 k, .int .i64 n, .float .f64 f, .string s, .slice a l c]] w fun e w' => e = .returned (.int .i64 (own k l)) ∧ Below w.heap.size w w' := by
  by_cases h1 : k = 1
  · subst h1; go_enter Tryz.func138, Tryz.ntmps138; go_wp2; go_ret; exact ⟨rfl, (Below.refl _ _).alloc (Nat.le_refl _) _⟩
  by_cases h3 : k = 3
  · subst h3; go_enter Tryz.func138, Tryz.ntmps138; go_wp2; go_ret; exact ⟨rfl, (Below.refl _ _).alloc (Nat.le_refl _) _⟩
  by_cases h6 : k = 6
  · subst h6; go_enter Tryz.func138, Tryz.ntmps138; go_wp2; go_ret; exact ⟨rfl, (Below.refl _ _).alloc (Nat.le_refl _) _⟩
  by_cases h2 : k = 2
  · subst h2; go_enter Tryz.func138, Tryz.ntmps138; go_wp2; go_ret; exact ⟨rfl, (Below.refl _ _).alloc (Nat.le_refl _) _⟩
  by_cases h4 : k = 4
  · subst h4; go_enter Tryz.func138, Tryz.ntmps138; go_wp2; go_ret; exact ⟨rfl, (Below.refl _ _).alloc (Nat.le_refl _) _⟩
  have w2 : wrap64 (2 * (l : Int)) = 2 * l := by unfold wrap64; omega
  have w3 : wrap64 (2 + (l : Int)) = 2 + l := by unfold wrap64; omega
  have w4 : wrap64 (1 + (l : Int)) = 1 + l := by unfold wrap64; omega
  by_cases h8 : k = 8
  · subst h8
    go_enter Tryz.func138, Tryz.ntmps138; go_wp2; go_ret
    refine ⟨?_, (Below.refl _ _).alloc (Nat.le_refl _) _⟩
    simp [own]
  by_cases h5 : k = 5
  · subst h5
    go_enter Tryz.func138, Tryz.ntmps138; go_wp2; go_ret
    refine ⟨?_, (Below.refl _ _).alloc (Nat.le_refl _) _⟩
    simp [own]
  go_enter Tryz.func138, Tryz.ntmps138; go_wp2; go_ret
  refine ⟨?_, (Below.refl _ _).alloc (Nat.le_refl _) _⟩
  simp [own, h1, h2, h3, h4, h5, h6, h8]
end Go.Proofs.YtgljglindgbjaaaGreatDoor


/- A term's kind, asked by the program through an interface: which type it is, the words of a term itself, whether it is right by itself. -/
namespace Go.Proofs.YtgljglindgbjaaaGreatDoor
open Go.RowKit Go.Deep
attribute [local go_sem ↓] Go.wp_at_zero Go.wp_at_succ

/-- The type that stands for a kind. -/
def kt (k : Int) : TypeId :=
  if k = 1 then 203 else if k = 2 then 204 else if k = 3 then 205 else if k = 4 then 208 else if k = 5 then 209 else if k = 6 then 210 else if k = 7 then 211 else if k = 8 then 212 else 214

/-- Its methods words and right. -/
def fwords (k : Int) : FuncId :=
  if k = 1 then 287 else if k = 2 then 288 else if k = 3 then 292 else if k = 4 then 301 else if k = 5 then 306 else if k = 6 then 311 else if k = 7 then 316 else if k = 8 then 321 else 316
def fright (k : Int) : FuncId :=
  if k = 1 then 284 else if k = 2 then 284 else if k = 3 then 291 else if k = 4 then 299 else if k = 5 then 305 else if k = 6 then 299 else if k = 7 then 315 else if k = 8 then 320 else 323

theorem by_kind {Q : Int → Prop} (k : Int) (h1 : Q 1) (h2 : Q 2) (h3 : Q 3) (h4 : Q 4) (h5 : Q 5) (h6 : Q 6) (h7 : Q 7) (h8 : Q 8) (h9 : ∀ k, k ≠ 1 → k ≠ 2 → k ≠ 3 → k ≠ 4 → k ≠ 5 → k ≠ 6 → k ≠ 7 → k ≠ 8 → Q k) : Q k := by
  by_cases e1 : k = 1
  · exact e1 ▸ h1
  by_cases e2 : k = 2
  · exact e2 ▸ h2
  by_cases e3 : k = 3
  · exact e3 ▸ h3
  by_cases e4 : k = 4
  · exact e4 ▸ h4
  by_cases e5 : k = 5
  · exact e5 ▸ h5
  by_cases e6 : k = 6
  · exact e6 ▸ h6
  by_cases e7 : k = 7
  · exact e7 ▸ h7
  by_cases e8 : k = 8
  · exact e8 ▸ h8
  exact h9 k e1 e2 e3 e4 e5 e6 e7 e8

set_option maxHeartbeats 800000 in
set_option maxRecDepth 100000 in
theorem kindOf_any (k n : Int) (f : Nat) (s : ByteArray) (a : Option Addr) (l c : Nat) (w : World) :
    Calls Tryz.prog 209 #[.agg #[.int .i64 k, .int .i64 n, .float .f64 f, .string s, .slice a l c]] w fun e w' => e = .returned (.iface (kt k) (.agg #[])) ∧ Below w.heap.size w w' := by
  refine by_kind (Q := fun k => Calls Tryz.prog 209 #[.agg #[.int .i64 k, .int .i64 n, .float .f64 f, .string s, .slice a l c]] w fun e w' => e = .returned (.iface (kt k) (.agg #[])) ∧ Below w.heap.size w w') k ?_ ?_ ?_ ?_ ?_ ?_ ?_ ?_ ?_
  iterate 8
    · go_enter Tryz.func209, Tryz.ntmps209; go_wp2; go_ret; exact ⟨rfl, (Below.refl _ _).alloc (Nat.le_refl _) _⟩
  · intro k h1 h2 h3 h4 h5 h6 h7 h8
    go_enter Tryz.func209, Tryz.ntmps209; go_wp2; go_ret
    refine ⟨?_, (Below.refl _ _).alloc (Nat.le_refl _) _⟩
    simp [kt, h1, h2, h3, h4, h5, h6, h7, h8]

theorem method_words (k : Int) (w : World) : (method 354 (kt k) (.agg #[]) "exitwave/term.words").run Tryz.prog w = .ok (fwords k, .agg #[]) w := by
  refine by_kind (Q := fun k => (method 354 (kt k) (.agg #[]) "exitwave/term.words").run Tryz.prog w = .ok (fwords k, .agg #[]) w) k ?_ ?_ ?_ ?_ ?_ ?_ ?_ ?_ ?_
  iterate 8
    · kernel_rfl
  · intro k h1 h2 h3 h4 h5 h6 h7 h8
    simp only [kt, fwords, h1, h2, h3, h4, h5, h6, h7, h8, if_false]
    kernel_rfl

theorem method_right (k : Int) (w : World) : (method 354 (kt k) (.agg #[]) "exitwave/term.right").run Tryz.prog w = .ok (fright k, .agg #[]) w := by
  refine by_kind (Q := fun k => (method 354 (kt k) (.agg #[]) "exitwave/term.right").run Tryz.prog w = .ok (fright k, .agg #[]) w) k ?_ ?_ ?_ ?_ ?_ ?_ ?_ ?_ ?_
  iterate 8
    · kernel_rfl
  · intro k h1 h2 h3 h4 h5 h6 h7 h8
    simp only [kt, fright, h1, h2, h3, h4, h5, h6, h7, h8, if_false]
    kernel_rfl

theorem call_words (k : Int) (args : Array Value) (w : World) : (callFunc (fwords k) args).run Tryz.prog w = .ok (.enter (fwords k) args) w := by
  refine by_kind (Q := fun k => (callFunc (fwords k) args).run Tryz.prog w = .ok (.enter (fwords k) args) w) k ?_ ?_ ?_ ?_ ?_ ?_ ?_ ?_ ?_
  · exact Tryz.call287 args w
  · exact Tryz.call288 args w
  · exact Tryz.call292 args w
  · exact Tryz.call301 args w
  · exact Tryz.call306 args w
  · exact Tryz.call311 args w
  · exact Tryz.call316 args w
  · exact Tryz.call321 args w
  · intro k h1 h2 h3 h4 h5 h6 h7 h8
    simp only [fwords, h1, h2, h3, h4, h5, h6, h7, h8, if_false]
    exact Tryz.call316 args w

theorem call_right (k : Int) (args : Array Value) (w : World) : (callFunc (fright k) args).run Tryz.prog w = .ok (.enter (fright k) args) w := by
  refine by_kind (Q := fun k => (callFunc (fright k) args).run Tryz.prog w = .ok (.enter (fright k) args) w) k ?_ ?_ ?_ ?_ ?_ ?_ ?_ ?_ ?_
  · exact Tryz.call284 args w
  · exact Tryz.call284 args w
  · exact Tryz.call291 args w
  · exact Tryz.call299 args w
  · exact Tryz.call305 args w
  · exact Tryz.call299 args w
  · exact Tryz.call315 args w
  · exact Tryz.call320 args w
  · intro k h1 h2 h3 h4 h5 h6 h7 h8
    simp only [fright, h1, h2, h3, h4, h5, h6, h7, h8, if_false]
    exact Tryz.call323 args w

set_option maxHeartbeats 800000 in
set_option maxRecDepth 100000 in
theorem words_any (k n : Int) (f : Nat) (s : ByteArray) (a : Option Addr) (l c : Nat) (hl : l ≤ 4611686018427387900) (w : World) :
    Calls Tryz.prog (fwords k) #[.agg #[], .agg #[.int .i64 k, .int .i64 n, .float .f64 f, .string s, .slice a l c]] w fun e w' => e = .returned (.int .i64 (own k l)) ∧ Below w.heap.size w w' := by
  have w2 : wrap64 (2 * (l : Int)) = 2 * l := by unfold wrap64; omega
  have w3 : wrap64 (2 + (l : Int)) = 2 + l := by unfold wrap64; omega
  have w4 : wrap64 (1 + (l : Int)) = 1 + l := by unfold wrap64; omega
  refine by_kind (Q := fun k => Calls Tryz.prog (fwords k) #[.agg #[], .agg #[.int .i64 k, .int .i64 n, .float .f64 f, .string s, .slice a l c]] w fun e w' => e = .returned (.int .i64 (own k l)) ∧ Below w.heap.size w w') k ?_ ?_ ?_ ?_ ?_ ?_ ?_ ?_ ?_
  · show Calls Tryz.prog 287 _ _ _
    go_enter Tryz.func287, Tryz.ntmps287; go_wp2; go_ret; exact ⟨rfl, by (repeat (first | exact Below.refl _ _ | assumption | refine Below.drew ?_ | refine below_drewN ?_ _ | refine Below.setCell ?_ (by simp) _ | refine Below.alloc ?_ (by (first | exact Nat.le_refl _ | (simp; done) | (simp; omega) | omega)) _ | refine Below.trans ?_ (Below.mono (by assumption) (by first | exact Nat.le_refl _ | (simp; done) | (simp; omega) | omega))))⟩
  · show Calls Tryz.prog 288 _ _ _
    go_enter Tryz.func288, Tryz.ntmps288; go_wp2; go_ret; exact ⟨rfl, by (repeat (first | exact Below.refl _ _ | assumption | refine Below.drew ?_ | refine below_drewN ?_ _ | refine Below.setCell ?_ (by simp) _ | refine Below.alloc ?_ (by (first | exact Nat.le_refl _ | (simp; done) | (simp; omega) | omega)) _ | refine Below.trans ?_ (Below.mono (by assumption) (by first | exact Nat.le_refl _ | (simp; done) | (simp; omega) | omega))))⟩
  · show Calls Tryz.prog 292 _ _ _
    go_enter Tryz.func292, Tryz.ntmps292; go_wp2; go_ret; exact ⟨rfl, by (repeat (first | exact Below.refl _ _ | assumption | refine Below.drew ?_ | refine below_drewN ?_ _ | refine Below.setCell ?_ (by simp) _ | refine Below.alloc ?_ (by (first | exact Nat.le_refl _ | (simp; done) | (simp; omega) | omega)) _ | refine Below.trans ?_ (Below.mono (by assumption) (by first | exact Nat.le_refl _ | (simp; done) | (simp; omega) | omega))))⟩
  · show Calls Tryz.prog 301 _ _ _
    go_enter Tryz.func301, Tryz.ntmps301; go_wp2; go_ret; exact ⟨rfl, by (repeat (first | exact Below.refl _ _ | assumption | refine Below.drew ?_ | refine below_drewN ?_ _ | refine Below.setCell ?_ (by simp) _ | refine Below.alloc ?_ (by (first | exact Nat.le_refl _ | (simp; done) | (simp; omega) | omega)) _ | refine Below.trans ?_ (Below.mono (by assumption) (by first | exact Nat.le_refl _ | (simp; done) | (simp; omega) | omega))))⟩
  · show Calls Tryz.prog 306 _ _ _
    go_enter Tryz.func306, Tryz.ntmps306; go_wp2; go_ret; exact ⟨by simp [own], by (repeat (first | exact Below.refl _ _ | assumption | refine Below.drew ?_ | refine below_drewN ?_ _ | refine Below.setCell ?_ (by simp) _ | refine Below.alloc ?_ (by (first | exact Nat.le_refl _ | (simp; done) | (simp; omega) | omega)) _ | refine Below.trans ?_ (Below.mono (by assumption) (by first | exact Nat.le_refl _ | (simp; done) | (simp; omega) | omega))))⟩
  · show Calls Tryz.prog 311 _ _ _
    go_enter Tryz.func311, Tryz.ntmps311; go_wp2; go_ret; exact ⟨rfl, by (repeat (first | exact Below.refl _ _ | assumption | refine Below.drew ?_ | refine below_drewN ?_ _ | refine Below.setCell ?_ (by simp) _ | refine Below.alloc ?_ (by (first | exact Nat.le_refl _ | (simp; done) | (simp; omega) | omega)) _ | refine Below.trans ?_ (Below.mono (by assumption) (by first | exact Nat.le_refl _ | (simp; done) | (simp; omega) | omega))))⟩
  · show Calls Tryz.prog 316 _ _ _
    go_enter Tryz.func316, Tryz.ntmps316; go_wp2; go_ret; exact ⟨by simp [own], by (repeat (first | exact Below.refl _ _ | assumption | refine Below.drew ?_ | refine below_drewN ?_ _ | refine Below.setCell ?_ (by simp) _ | refine Below.alloc ?_ (by (first | exact Nat.le_refl _ | (simp; done) | (simp; omega) | omega)) _ | refine Below.trans ?_ (Below.mono (by assumption) (by first | exact Nat.le_refl _ | (simp; done) | (simp; omega) | omega))))⟩
  · show Calls Tryz.prog 321 _ _ _
    go_enter Tryz.func321, Tryz.ntmps321; go_wp2; go_ret; exact ⟨by simp [own], by (repeat (first | exact Below.refl _ _ | assumption | refine Below.drew ?_ | refine below_drewN ?_ _ | refine Below.setCell ?_ (by simp) _ | refine Below.alloc ?_ (by (first | exact Nat.le_refl _ | (simp; done) | (simp; omega) | omega)) _ | refine Below.trans ?_ (Below.mono (by assumption) (by first | exact Nat.le_refl _ | (simp; done) | (simp; omega) | omega))))⟩
  · intro k h1 h2 h3 h4 h5 h6 h7 h8
    simp only [fwords, h1, h2, h3, h4, h5, h6, h7, h8, if_false]
    go_enter Tryz.func316, Tryz.ntmps316; go_wp2; go_ret; exact ⟨by simp [own, h1, h2, h3, h4, h5, h6, h8], by (repeat (first | exact Below.refl _ _ | assumption | refine Below.drew ?_ | refine below_drewN ?_ _ | refine Below.setCell ?_ (by simp) _ | refine Below.alloc ?_ (by (first | exact Nat.le_refl _ | (simp; done) | (simp; omega) | omega)) _ | refine Below.trans ?_ (Below.mono (by assumption) (by first | exact Nat.le_refl _ | (simp; done) | (simp; omega) | omega))))⟩
end Go.Proofs.YtgljglindgbjaaaGreatDoor


