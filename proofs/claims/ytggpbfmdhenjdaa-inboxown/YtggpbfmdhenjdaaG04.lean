import Derived.Test.YtggpbfmdhenjdaaRows
import Derived.Test.YtggpbfmdhenjdaaG03
import Derived.WalkKit
import Derived.WalkSpells
import Derived.WalkLawsBesides
import Derived.Lib.QuietBelow
import Derived.Deep.DrawnRows
/- How many parts a term has, told by the statements' own count. -/
namespace Go.Proofs.Ytggpbfmdhenjdaa
open Go.RowKit Go.Deep

mutual
def fewT : Tr → Int → Int → Int
  | .mk _ _ _ _ _ _ kids, left, deep => if left < 0 ∨ deep < 0 then -1 else fewAll kids (left - 1) (deep - 1)
def fewAll : List Tr → Int → Int → Int
  | [], left, _ => left
  | t :: r, left, deep => if left < 0 then left else fewAll r (fewT t left deep) deep
end

def Tr.val (t : Tr) : Value := .agg t.cells.toArray

def termType : TermType Try.prog 27 where
  f0 := _
  f1 := _
  f2 := _
  f3 := _
  f4 := _
  under := Try.underlying27
  size := by kernel_rfl
  o0 := rfl
  o1 := rfl
  o2 := rfl
  o3 := rfl
  o4 := rfl
  c0 := by kernel_rfl
  c1 := by kernel_rfl
  c2 := by kernel_rfl
  c3 := by kernel_rfl
  c4 := by kernel_rfl
  u0 := Try.underlying3
  u1 := Try.underlying2
  u2 := Try.underlying25
  u3 := Try.underlying9
  u4 := Try.underlying22

theorem fewT_le : ∀ t left deep, -1 ≤ left → -1 ≤ fewT t left deep ∧ (fewT t left deep ≤ left) := by
  refine Tr.ind fun k n f s a c kids hk => ?_
  have hall : ∀ left deep, -1 ≤ left → -1 ≤ fewAll kids left deep ∧ fewAll kids left deep ≤ left := by
    induction kids with
    | nil => intro left deep h; simp only [fewAll]; omega
    | cons t r ih =>
      intro left deep h
      simp only [fewAll]
      split
      · omega
      · have g := hk t (List.mem_cons_self ..) left deep h
        have q := ih (fun u hu => hk u (List.mem_cons_of_mem _ hu)) (fewT t left deep) deep g.1
        omega
  intro left deep h
  simp only [fewT]
  split
  · omega
  · have := hall (left - 1) (deep - 1) (by omega)
    omega
end Go.Proofs.Ytggpbfmdhenjdaa


/- The count of parts, walked: by induction on the tree. -/
namespace Go.Proofs.Ytggpbfmdhenjdaa
open Go.RowKit Go.Deep
attribute [local go_sem ↓] Go.wp_at_zero Go.wp_at_succ

/-- Element j of a term that lies there: where it lies, and its five cells. -/
theorem kid_at {w : World} {k n : Int} {f : Nat} {s : ByteArray} {a : Option Addr} {c : Nat} {kids : List Tr} (h : (Tr.mk k n f s a c kids).In w 0) (h0 : 0 < kids.length) :
    ∃ b o, a = some ⟨b, o, none⟩ ∧ ∀ j, j < kids.length → ∃ (k' n' : Int) (f' : Nat) (s' : ByteArray) (a' : Option Addr) (c' : Nat) (kids' : List Tr), kids[j]? = some (.mk k' n' f' s' a' c' kids') ∧ (Tr.mk k' n' f' s' a' c' kids').In w 0 ∧
      w.cell? ⟨b, o + j * 5, none⟩ = some (.int .i64 k') ∧ w.cell? ⟨b, o + j * 5 + 1, none⟩ = some (.int .i64 n') ∧ w.cell? ⟨b, o + j * 5 + 2, none⟩ = some (.float .f64 f') ∧ w.cell? ⟨b, o + j * 5 + 3, none⟩ = some (.string s') ∧ w.cell? ⟨b, o + j * 5 + 4, none⟩ = some (.slice a' kids'.length c') := by
  unfold Tr.In at h
  obtain ⟨⟨_, _, _, _, hl, _, hn⟩, hin⟩ := h
  cases a with
  | none => have := hn rfl; omega
  | some ad =>
    have g := (hin ad rfl).2
    obtain ⟨b, o, sp⟩ := ad
    have hsp : sp = none := by
      have e := (inAll_get g 0 (kids[0]) (List.getElem?_eq_getElem h0)).1 0 (by omega)
      cases hk : kids[0] with
      | mk => rw [hk] at e; simpa [Addr.add] using World.cell?_spot (e.trans rfl)
    subst hsp
    refine ⟨b, o, rfl, fun j hj => ?_⟩
    obtain ⟨u, hu⟩ : ∃ u, kids[j]? = some u := ⟨_, List.getElem?_eq_getElem hj⟩
    have q := inAll_get g j u hu
    cases u with
    | mk k' n' f' s' a' c' kids' =>
      have ea : ∀ i, (⟨b, o, none⟩ : Addr).add (j * 5 + i) = ⟨b, o + j * 5 + i, none⟩ := by
        intro i; unfold Addr.add; split
        · have : j * 5 + i = 0 := by assumption
          have h1 : o + j * 5 + i = o := by omega
          rw [h1]
        · simp [Nat.add_assoc]
      refine ⟨k', n', f', s', a', c', kids', hu, q.2, ?_, ?_, ?_, ?_, ?_⟩
      · have := q.1 0 (by omega); rw [ea] at this; exact this
      · have := q.1 1 (by omega); rw [ea] at this; exact this
      · have := q.1 2 (by omega); rw [ea] at this; exact this
      · have := q.1 3 (by omega); rw [ea] at this; exact this
      · have := q.1 4 (by omega); rw [ea] at this; exact this

theorem drop_one {kids : List Tr} {m : Nat} {t : Tr} (h : kids[m]? = some t) : kids.drop m = t :: kids.drop (m + 1) := by
  obtain ⟨hm, rfl⟩ := List.getElem?_eq_some_iff.1 h
  exact List.drop_eq_getElem_cons hm

theorem len_small {w : World} {k n : Int} {f : Nat} {s : ByteArray} {a : Option Addr} {c : Nat} {kids : List Tr} (h : (Tr.mk k n f s a c kids).In w 0) : kids.length ≤ 9223372036854775807 := by
  unfold Tr.In at h
  obtain ⟨⟨_, _, _, _, hl, hm, _⟩, _⟩ := h
  unfold maxLen at hm
  omega

theorem fewAll_stop (kids : List Tr) (deep left : Int) (h : left < 0) : fewAll kids left deep = left := by
  cases kids <;> simp [fewAll, h]

set_option maxHeartbeats 1600000 in
set_option maxRecDepth 100000 in
theorem few_any : ∀ (t : Tr) (left deep : Int) (w : World), t.In w 0 → -1 ≤ left → left ≤ 300000 → -1 ≤ deep → deep ≤ 1000 →
    Calls Try.prog 20 #[t.val, .int .i64 left, .int .i64 deep] w fun e w' => e = .returned (.int .i64 (fewT t left deep)) ∧ Below w.heap.size w w' := by
  refine Tr.ind fun k n f s a c kids hk => ?_
  intro left deep w hin h1 h2 h3 h4
  show Calls Try.prog 20 #[.agg #[.int .i64 k, .int .i64 n, .float .f64 f, .string s, .slice a kids.length c], .int .i64 left, .int .i64 deep] w _
  simp only [fewT]
  have HK : Hid (∀ t, t ∈ kids → ∀ (left deep : Int) (w : World), t.In w 0 → -1 ≤ left → left ≤ 300000 → -1 ≤ deep → deep ≤ 1000 →
    Calls Try.prog 20 #[t.val, .int .i64 left, .int .i64 deep] w fun e w' => e = .returned (.int .i64 (fewT t left deep)) ∧ Below w.heap.size w w') := hk
  have HIN : Hid ((Tr.mk k n f s a c kids).In w 0) := hin
  have hlen := len_small hin
  clear hk hin
  by_cases hl : left < 0
  · rw [if_pos (Or.inl hl)]
    go_enter Try.func20, Try.ntmps20
    go_wp2
    go_ret
    exact ⟨rfl, (Below.refl _ _).alloc (Nat.le_refl _) _⟩
  by_cases hd : deep < 0
  · rw [if_pos (Or.inr hd)]
    go_enter Try.func20, Try.ntmps20
    go_wp2
    go_ret
    exact ⟨rfl, (Below.refl _ _).alloc (Nat.le_refl _) _⟩
  rw [if_neg (by omega)]
  have hlw : wrap64 (left - 1) = left - 1 := by unfold wrap64; omega
  have hdw : wrap64 (deep - 1) = deep - 1 := by unfold wrap64; omega
  have hdw' : IntKind.i64.wrap (deep - 1) = deep - 1 := by rw [IntKind.wrap_i64]; omega
  go_enter Try.func20, Try.ntmps20
  go_wp2_with fail
  go_loopw [1, 7] (fun lv iv wr => ∃ (m : Nat) (l : Int), m ≤ kids.length ∧ iv = .int .i64 m ∧ lv = .int .i64 l ∧ -1 ≤ l ∧ l ≤ 300000 ∧ fewAll (kids.drop m) l (deep - 1) = fewAll kids (left - 1) (deep - 1) ∧ Below (w.heap.size + 1) (w.alloc (.cells #[.int .i64 k, .int .i64 n, .float .f64 f, .string s, .slice a kids.length c] 27)) wr) (fun _ iv _ => kids.length - (intOf iv).toNat)
  case atStart => exact ⟨0, left - 1, by omega, rfl, by simp, by omega, by omega, by simp, Below.refl _ _⟩
  case round =>
    obtain ⟨m, l, hm, rfl, rfl, hl1, hl2, hrest, hbel⟩ := hrel
    have HR : Hid (fewAll (kids.drop m) l (deep - 1) = fewAll kids (left - 1) (deep - 1)) := hrest
    have HB : Hid (Below w.heap.size w wr) := ((Below.refl _ _).alloc (Nat.le_refl _) _).trans (hbel.mono (Nat.le_succ _))
    have HB1 : Hid (Below (w.heap.size + 1) (w.alloc (.cells #[.int .i64 k, .int .i64 n, .float .f64 f, .string s, .slice a kids.length c] 27)) wr) := hbel
    have d4 : wr.cell? ⟨w.heap.size, 4, none⟩ = some (.slice a kids.length c) := by rw [hbel.cell (by simp), World.cell?_alloc_new]; rfl
    clear hrest hbel
    by_cases hml : m < kids.length
    · have hmb : (m : Int) < (kids.length : Int) := by omega
      by_cases hlz : l < 0
      · go_wp2
        go_ret
        refine ⟨?_, HB.out⟩
        have e := HR.out
        rw [fewAll_stop _ _ _ hlz] at e
        rw [e]
        rfl
      · obtain ⟨b, o, rfl, hat⟩ := kid_at (in_below HB.out HIN.out) (by omega)
        obtain ⟨k', n', f', s', a', c', kids', hu, hin', c0, c1, c2, c3, c4⟩ := hat m hml
        have IH := HK.out _ (List.mem_of_getElem? hu) l (deep - 1) wr hin' hl1 hl2 (by omega) (by omega)
        have HU : Hid (kids[m]? = some (.mk k' n' f' s' a' c' kids')) := hu
        clear hu hin' hat
        have hmz : (0 : Int) ≤ (m : Int) := by omega
        go_wp2_with fail
        have hstep : fewAll (kids.drop (m + 1)) (fewT (.mk k' n' f' s' a' c' kids') l (deep - 1)) (deep - 1) = fewAll kids (left - 1) (deep - 1) := by
          have e := HR.out
          rw [drop_one HU.out] at e
          simp only [fewAll] at e
          rwa [if_neg (by omega)] at e
        have hle := fewT_le (.mk k' n' f' s' a' c' kids') l (deep - 1) hl1
        generalize fewT (.mk k' n' f' s' a' c' kids') l (deep - 1) = l' at IH hstep hle
        have HS : Hid (fewAll (kids.drop (m + 1)) l' (deep - 1) = fewAll kids (left - 1) (deep - 1)) := hstep
        clear hstep
        refine IH.mono ?_
        rintro e wz ⟨rfl, hbz⟩
        have HZ : Hid (Below (w.heap.size + 1) (w.alloc (.cells #[.int .i64 k, .int .i64 n, .float .f64 f, .string s, .slice (some ⟨b, o, none⟩) kids.length c] 27)) wz) := HB1.out.trans (hbz.mono (by have := HB1.out.size; simpa using this))
        clear hbz IH
        go_wp2
        go_roundw
        case rel => exact ⟨m + 1, l', by omega, by go_num, rfl, hle.1, by omega, HS.out, HZ.out⟩
        case measure => simp [intOf]; omega
    · have hmn : ¬ (m : Int) < (kids.length : Int) := by omega
      go_wp2
      go_ret
      refine ⟨?_, HB.out⟩
      have e := HR.out
      rw [List.drop_of_length_le (by omega)] at e
      simp only [fewAll] at e
      rw [e]
      rfl
end Go.Proofs.Ytggpbfmdhenjdaa


