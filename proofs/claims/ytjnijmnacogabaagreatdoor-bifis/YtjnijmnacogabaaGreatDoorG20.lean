import Derived.Test.YtjnijmnacogabaaGreatDoorG19
/- isBoolean, not. -/
namespace Go.Proofs.YtjnijmnacogabaaGreatDoor
open Go.RowKit Go.Lib Go.Deep
attribute [local go_sem] store_float f64bits store_func store_nilFunc
attribute [local go_sem ↓] Go.wp_at_zero Go.wp_at_succ

/-- Is a term a boolean? -/
def isBol : Tr → Bool | .mk k _ _ s _ _ _ => decide (k = 3) && (decide (s = trueS) || decide (s = falseS))
theorem lit_ne {s t : ByteArray} {l : List UInt8} (ht : t.data.toList = l) (h : s ≠ t) : (s.toList == l) = false ∧ ¬ s.toList = l := by
  have : ¬ s.toList = l := fun e => h (btl_inj (by rw [e, ByteArray.toList_eq]; exact ht.symm))
  exact ⟨by simpa using this, this⟩

set_option maxHeartbeats 4000000 in
set_option maxRecDepth 100000 in
theorem isBool_any (t : Tr) (w : World) : Calls Tryz.prog 87 #[t.val] w fun e w' => e = .returned (.bool (isBol t)) ∧ Below w.heap.size w w' := by
  obtain ⟨k, n, f, s, a, c, ks⟩ := t
  simp only [Tr.val, Tr.cells]
  by_cases hk : k = 3
  · subst hk
    by_cases h1 : s = trueS
    · subst h1
      have hv : isBol (.mk 3 n f trueS a c ks) = true := by simp [isBol]
      rw [hv]
      go_enter Tryz.func87, Tryz.ntmps87
      go_wp2_with fail
      go_ret
      exact ⟨rfl, below_new _ _⟩
    · by_cases h2 : s = falseS
      · subst h2
        have hv : isBol (.mk 3 n f falseS a c ks) = true := by simp [isBol]
        rw [hv]
        go_enter Tryz.func87, Tryz.ntmps87
        go_wp2_with fail
        go_ret
        exact ⟨rfl, below_new _ _⟩
      · have hv : isBol (.mk 3 n f s a c ks) = false := by simp [isBol, h1, h2]
        rw [hv]
        obtain ⟨g1, g2⟩ := lit_ne (t := trueS) rfl h1
        obtain ⟨g3, g4⟩ := lit_ne (t := falseS) rfl h2
        clear h1 h2 hv
        go_enter Tryz.func87, Tryz.ntmps87
        go_wp2_with fail
        go_ret
        exact ⟨rfl, below_new _ _⟩
  · have hv : isBol (.mk k n f s a c ks) = false := by simp [isBol, hk]
    rw [hv]
    have hk' : (k == 3) = false := by simpa using hk
    clear hk hv
    go_enter Tryz.func87, Tryz.ntmps87
    go_wp2_with fail
    go_ret
    exact ⟨rfl, below_new _ _⟩
end Go.Proofs.YtjnijmnacogabaaGreatDoor


/- Is: the document's names, and the tables'. -/
namespace Go.Proofs.YtjnijmnacogabaaGreatDoor
open Go.RowKit Go.Lib Go.Deep

def rI (nm : ByteArray) (n : Int) : Bool × Bool :=
  if nm.toList == [97, 98, 115] then ((n == 1), (n == 1)) else
  if nm.toList == [102, 108, 111, 97, 116] then ((n == 1), (n == 1)) else
  if nm.toList == [116, 114, 117, 110, 99] then ((n == 1), (n == 1)) else
  if nm.toList == [114, 111, 117, 110, 100] then ((n == 1), (n == 1)) else
  if nm.toList == [102, 108, 111, 111, 114] then ((n == 1), (n == 1)) else
  if nm.toList == [99, 101, 105, 108] then ((n == 1), (n == 1)) else
  if nm.toList == [104, 100] then ((n == 1), (n == 1)) else
  if nm.toList == [116, 108] then ((n == 1), (n == 1)) else
  if nm.toList == [108, 101, 110, 103, 116, 104] then ((n == 1), (n == 1)) else
  if nm.toList == [116, 117, 112, 108, 101, 95, 115, 105, 122, 101] then ((n == 1), (n == 1)) else
  if nm.toList == [105, 115, 95, 97, 116, 111, 109] then ((n == 1), (n == 1)) else
  if nm.toList == [105, 115, 95, 105, 110, 116, 101, 103, 101, 114] then ((n == 1), (n == 1)) else
  if nm.toList == [105, 115, 95, 102, 108, 111, 97, 116] then ((n == 1), (n == 1)) else
  if nm.toList == [105, 115, 95, 110, 117, 109, 98, 101, 114] then ((n == 1), (n == 1)) else
  if nm.toList == [105, 115, 95, 108, 105, 115, 116] then ((n == 1), (n == 1)) else
  if nm.toList == [105, 115, 95, 116, 117, 112, 108, 101] then ((n == 1), (n == 1)) else
  if nm.toList == [105, 115, 95, 112, 105, 100] then ((n == 1), (n == 1)) else
  if nm.toList == [105, 115, 95, 114, 101, 102, 101, 114, 101, 110, 99, 101] then ((n == 1), (n == 1)) else
  if nm.toList == [105, 115, 95, 98, 111, 111, 108, 101, 97, 110] then ((n == 1), (n == 1)) else
  if nm.toList == [105, 115, 95, 102, 117, 110, 99, 116, 105, 111, 110] then ((n == 1 || n == 2), (n == 1 || n == 2)) else
  if nm.toList == [101, 108, 101, 109, 101, 110, 116] then ((n == 2), (n == 2)) else
  if nm.toList == [109, 105, 110] then ((n == 2), (n == 2)) else
  if nm.toList == [109, 97, 120] then ((n == 2), (n == 2)) else
  if nm.toList == [115, 101, 116, 101, 108, 101, 109, 101, 110, 116] then ((n == 3), false) else
  if nm.toList == [116, 117, 112, 108, 101, 95, 116, 111, 95, 108, 105, 115, 116] then ((n == 1), false) else
  if nm.toList == [108, 105, 115, 116, 95, 116, 111, 95, 116, 117, 112, 108, 101] then ((n == 1), false) else
  if nm.toList == [97, 116, 111, 109, 95, 116, 111, 95, 108, 105, 115, 116] then ((n == 1), false) else
  if nm.toList == [108, 105, 115, 116, 95, 116, 111, 95, 97, 116, 111, 109] then ((n == 1), false) else
  if nm.toList == [105, 110, 116, 101, 103, 101, 114, 95, 116, 111, 95, 108, 105, 115, 116] then ((n == 1), false) else
  if nm.toList == [108, 105, 115, 116, 95, 116, 111, 95, 105, 110, 116, 101, 103, 101, 114] then ((n == 1), false) else
  if nm.toList == [102, 108, 111, 97, 116, 95, 116, 111, 95, 108, 105, 115, 116] then ((n == 1), false) else
  if nm.toList == [98, 105, 116, 115] then ((n == 1), false) else
  if nm.toList == [114, 101, 118, 101, 114, 115, 101] then ((n == 1), false) else
  if nm.toList == [115, 111, 114, 116] then ((n == 1), false) else
  if nm.toList == [115, 105, 122, 101] then ((n == 1), false) else
  if nm.toList == [109, 101, 109, 98, 101, 114] then ((n == 2), false) else
  if nm.toList == [110, 116, 104] then ((n == 2), false) else
  (false, false)
def bI (nm : ByteArray) (n : Int) : Bool × Bool := ((bfnd grdL nm n).isSome || (bfnd othL nm n).isSome, (bfnd grdL nm n).isSome)

theorem bfnd_arity {l : List Brw} {nm : ByteArray} {n : Int} (h : ∀ r ∈ l, r.2.1 ≠ n) : bfnd l nm n = none := by
  unfold bfnd
  rw [List.find?_eq_none]
  intro x hx
  simp [bhit, h x hx]
theorem bfnd_name {l : List Brw} {nm : ByteArray} {n : Int} (h : ∀ r ∈ l, r.1 ≠ nm) : bfnd l nm n = none := by
  unfold bfnd
  rw [List.find?_eq_none]
  intro x hx
  simp [bhit, h x hx]
def allN : List ByteArray := [⟨#[97, 98, 115]⟩, ⟨#[102, 108, 111, 97, 116]⟩, ⟨#[116, 114, 117, 110, 99]⟩, ⟨#[114, 111, 117, 110, 100]⟩, ⟨#[102, 108, 111, 111, 114]⟩, ⟨#[99, 101, 105, 108]⟩, ⟨#[104, 100]⟩, ⟨#[116, 108]⟩, ⟨#[108, 101, 110, 103, 116, 104]⟩, ⟨#[116, 117, 112, 108, 101, 95, 115, 105, 122, 101]⟩, ⟨#[105, 115, 95, 97, 116, 111, 109]⟩, ⟨#[105, 115, 95, 105, 110, 116, 101, 103, 101, 114]⟩, ⟨#[105, 115, 95, 102, 108, 111, 97, 116]⟩, ⟨#[105, 115, 95, 110, 117, 109, 98, 101, 114]⟩, ⟨#[105, 115, 95, 108, 105, 115, 116]⟩, ⟨#[105, 115, 95, 116, 117, 112, 108, 101]⟩, ⟨#[105, 115, 95, 112, 105, 100]⟩, ⟨#[105, 115, 95, 114, 101, 102, 101, 114, 101, 110, 99, 101]⟩, ⟨#[105, 115, 95, 98, 111, 111, 108, 101, 97, 110]⟩, ⟨#[105, 115, 95, 102, 117, 110, 99, 116, 105, 111, 110]⟩, ⟨#[101, 108, 101, 109, 101, 110, 116]⟩, ⟨#[109, 105, 110]⟩, ⟨#[109, 97, 120]⟩, ⟨#[115, 101, 116, 101, 108, 101, 109, 101, 110, 116]⟩, ⟨#[116, 117, 112, 108, 101, 95, 116, 111, 95, 108, 105, 115, 116]⟩, ⟨#[108, 105, 115, 116, 95, 116, 111, 95, 116, 117, 112, 108, 101]⟩, ⟨#[97, 116, 111, 109, 95, 116, 111, 95, 108, 105, 115, 116]⟩, ⟨#[108, 105, 115, 116, 95, 116, 111, 95, 97, 116, 111, 109]⟩, ⟨#[105, 110, 116, 101, 103, 101, 114, 95, 116, 111, 95, 108, 105, 115, 116]⟩, ⟨#[108, 105, 115, 116, 95, 116, 111, 95, 105, 110, 116, 101, 103, 101, 114]⟩, ⟨#[102, 108, 111, 97, 116, 95, 116, 111, 95, 108, 105, 115, 116]⟩, ⟨#[98, 105, 116, 115]⟩, ⟨#[114, 101, 118, 101, 114, 115, 101]⟩, ⟨#[115, 111, 114, 116]⟩, ⟨#[115, 105, 122, 101]⟩, ⟨#[109, 101, 109, 98, 101, 114]⟩, ⟨#[110, 116, 104]⟩]
theorem names_all : (∀ r ∈ grdL, r.1 ∈ allN) ∧ (∀ r ∈ othL, r.1 ∈ allN) := by
  have h1 : grdL.all (fun r => allN.any (fun x => decide (x = r.1))) = true := by kernel_rfl
  have h2 : othL.all (fun r => allN.any (fun x => decide (x = r.1))) = true := by kernel_rfl
  constructor
  · intro r hr
    obtain ⟨x, hx, he⟩ := List.any_eq_true.1 (List.all_eq_true.1 h1 r hr)
    have he' : x = r.1 := by simpa using he
    exact he' ▸ hx
  · intro r hr
    obtain ⟨x, hx, he⟩ := List.any_eq_true.1 (List.all_eq_true.1 h2 r hr)
    have he' : x = r.1 := by simpa using he
    exact he' ▸ hx
theorem arity_all : (∀ r ∈ grdL, r.2.1 = 1 ∨ r.2.1 = 2 ∨ r.2.1 = 3) ∧ (∀ r ∈ othL, r.2.1 = 1 ∨ r.2.1 = 2 ∨ r.2.1 = 3) := by decide

set_option maxRecDepth 100000 in
theorem is_other {nm : ByteArray} {n : Int} (h1 : n ≠ 1) (h2 : n ≠ 2) (h3 : n ≠ 3) : bI nm n = rI nm n := by
  have e1 : bfnd grdL nm n = none := bfnd_arity (fun r hr => by rcases arity_all.1 r hr with h | h | h <;> omega)
  have e2 : bfnd othL nm n = none := bfnd_arity (fun r hr => by rcases arity_all.2 r hr with h | h | h <;> omega)
  have g1 : (n == 1) = false := by simpa using h1
  have g2 : (n == 2) = false := by simpa using h2
  have g3 : (n == 3) = false := by simpa using h3
  unfold bI rI
  rw [e1, e2]
  simp only [g1, g2, g3, Bool.or_self, ite_self, Option.isSome_none]
set_option maxRecDepth 100000 in
theorem is_none {nm : ByteArray} {n : Int} (h : nm ∉ allN) : bI nm n = rI nm n := by
  have e1 : bfnd grdL nm n = none := bfnd_name (fun r hr e => h (e ▸ names_all.1 r hr))
  have e2 : bfnd othL nm n = none := bfnd_name (fun r hr e => h (e ▸ names_all.2 r hr))
  unfold bI
  rw [e1, e2]
  simp only [allN, List.mem_cons, List.not_mem_nil, or_false, not_or] at h
  obtain ⟨q0, q1, q2, q3, q4, q5, q6, q7, q8, q9, q10, q11, q12, q13, q14, q15, q16, q17, q18, q19, q20, q21, q22, q23, q24, q25, q26, q27, q28, q29, q30, q31, q32, q33, q34, q35, q36⟩ := h
  unfold rI
  simp only [(lit_ne (l := [97, 98, 115]) rfl q0).1, (lit_ne (l := [102, 108, 111, 97, 116]) rfl q1).1, (lit_ne (l := [116, 114, 117, 110, 99]) rfl q2).1, (lit_ne (l := [114, 111, 117, 110, 100]) rfl q3).1, (lit_ne (l := [102, 108, 111, 111, 114]) rfl q4).1, (lit_ne (l := [99, 101, 105, 108]) rfl q5).1, (lit_ne (l := [104, 100]) rfl q6).1, (lit_ne (l := [116, 108]) rfl q7).1, (lit_ne (l := [108, 101, 110, 103, 116, 104]) rfl q8).1, (lit_ne (l := [116, 117, 112, 108, 101, 95, 115, 105, 122, 101]) rfl q9).1, (lit_ne (l := [105, 115, 95, 97, 116, 111, 109]) rfl q10).1, (lit_ne (l := [105, 115, 95, 105, 110, 116, 101, 103, 101, 114]) rfl q11).1, (lit_ne (l := [105, 115, 95, 102, 108, 111, 97, 116]) rfl q12).1, (lit_ne (l := [105, 115, 95, 110, 117, 109, 98, 101, 114]) rfl q13).1, (lit_ne (l := [105, 115, 95, 108, 105, 115, 116]) rfl q14).1, (lit_ne (l := [105, 115, 95, 116, 117, 112, 108, 101]) rfl q15).1, (lit_ne (l := [105, 115, 95, 112, 105, 100]) rfl q16).1, (lit_ne (l := [105, 115, 95, 114, 101, 102, 101, 114, 101, 110, 99, 101]) rfl q17).1, (lit_ne (l := [105, 115, 95, 98, 111, 111, 108, 101, 97, 110]) rfl q18).1, (lit_ne (l := [105, 115, 95, 102, 117, 110, 99, 116, 105, 111, 110]) rfl q19).1, (lit_ne (l := [101, 108, 101, 109, 101, 110, 116]) rfl q20).1, (lit_ne (l := [109, 105, 110]) rfl q21).1, (lit_ne (l := [109, 97, 120]) rfl q22).1, (lit_ne (l := [115, 101, 116, 101, 108, 101, 109, 101, 110, 116]) rfl q23).1, (lit_ne (l := [116, 117, 112, 108, 101, 95, 116, 111, 95, 108, 105, 115, 116]) rfl q24).1, (lit_ne (l := [108, 105, 115, 116, 95, 116, 111, 95, 116, 117, 112, 108, 101]) rfl q25).1, (lit_ne (l := [97, 116, 111, 109, 95, 116, 111, 95, 108, 105, 115, 116]) rfl q26).1, (lit_ne (l := [108, 105, 115, 116, 95, 116, 111, 95, 97, 116, 111, 109]) rfl q27).1, (lit_ne (l := [105, 110, 116, 101, 103, 101, 114, 95, 116, 111, 95, 108, 105, 115, 116]) rfl q28).1, (lit_ne (l := [108, 105, 115, 116, 95, 116, 111, 95, 105, 110, 116, 101, 103, 101, 114]) rfl q29).1, (lit_ne (l := [102, 108, 111, 97, 116, 95, 116, 111, 95, 108, 105, 115, 116]) rfl q30).1, (lit_ne (l := [98, 105, 116, 115]) rfl q31).1, (lit_ne (l := [114, 101, 118, 101, 114, 115, 101]) rfl q32).1, (lit_ne (l := [115, 111, 114, 116]) rfl q33).1, (lit_ne (l := [115, 105, 122, 101]) rfl q34).1, (lit_ne (l := [109, 101, 109, 98, 101, 114]) rfl q35).1, (lit_ne (l := [110, 116, 104]) rfl q36).1, if_false, Bool.false_eq_true]
  rfl
set_option maxRecDepth 100000 in
theorem is_all (nm : ByteArray) (n : Int) : bI nm n = rI nm n := by
  by_cases h : nm ∈ allN
  · by_cases h1 : n = 1
    · subst h1
      simp only [allN, List.mem_cons, List.not_mem_nil, or_false] at h
      rcases h with rfl | rfl | rfl | rfl | rfl | rfl | rfl | rfl | rfl | rfl | rfl | rfl | rfl | rfl | rfl | rfl | rfl | rfl | rfl | rfl | rfl | rfl | rfl | rfl | rfl | rfl | rfl | rfl | rfl | rfl | rfl | rfl | rfl | rfl | rfl | rfl | rfl <;> (unfold rI; simp only [ByteArray.toList_eq]; kernel_rfl)
    · by_cases h2 : n = 2
      · subst h2
        simp only [allN, List.mem_cons, List.not_mem_nil, or_false] at h
        rcases h with rfl | rfl | rfl | rfl | rfl | rfl | rfl | rfl | rfl | rfl | rfl | rfl | rfl | rfl | rfl | rfl | rfl | rfl | rfl | rfl | rfl | rfl | rfl | rfl | rfl | rfl | rfl | rfl | rfl | rfl | rfl | rfl | rfl | rfl | rfl | rfl | rfl <;> (unfold rI; simp only [ByteArray.toList_eq]; kernel_rfl)
      · by_cases h3 : n = 3
        · subst h3
          simp only [allN, List.mem_cons, List.not_mem_nil, or_false] at h
          rcases h with rfl | rfl | rfl | rfl | rfl | rfl | rfl | rfl | rfl | rfl | rfl | rfl | rfl | rfl | rfl | rfl | rfl | rfl | rfl | rfl | rfl | rfl | rfl | rfl | rfl | rfl | rfl | rfl | rfl | rfl | rfl | rfl | rfl | rfl | rfl | rfl | rfl <;> (unfold rI; simp only [ByteArray.toList_eq]; kernel_rfl)
        · exact is_other h1 h2 h3
  · exact is_none h
end Go.Proofs.YtjnijmnacogabaaGreatDoor


