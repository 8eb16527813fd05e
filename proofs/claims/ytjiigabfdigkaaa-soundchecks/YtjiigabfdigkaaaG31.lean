import Derived.Test.YtjiigabfdigkaaaG28
import Derived.Test.YtjiigabfdigkaaaG29
import Derived.Test.YtjiigabfdigkaaaG30
import Derived.Test.YtjiigabfdigkaaaSdK
/- Two that are linked, one that is linked alone. -/
namespace Go.Proofs.Ytjiigabfdigkaaa
open Go.RowKit
attribute [local go_sem] store_float
theorem own_rowI {w : World} {C : Nat} {e : TypeId} {a : Option Addr} {n c : Nat} {l : List Int} (h : w.ownsRow C e 1 (.slice a n c) n (zX l)) (hl : l.length = n) : RowI w a l := by
  intro j x hj
  rcases h.2 with ⟨-, h0⟩ | ⟨g, cap, cur, hv, hc, hg, h1, h2, h3, h4⟩
  · have := (List.getElem?_eq_some_iff.1 hj).1
    omega
  · simp only [Value.slice.injEq] at hv
    obtain ⟨rfl, -, -⟩ := hv
    refine ⟨g, 0, rfl, (Array.getElem?_eq_some_iff.1 hg).1, fun i hi => ?_⟩
    obtain rfl : i = 0 := by omega
    have hjl := (List.getElem?_eq_some_iff.1 hj).1
    have := h.cellAt j (by omega)
    rw [show (0 + j * 1 + 0) = j by omega, this]
    unfold zX
    rw [List.getElem?_map, hj]
    rfl
theorem flat_at {α β : Type} {enc : α → List β} {sz : Nat} (l : List α) (he : ∀ x ∈ l, (enc x).length = sz) {j i : Nat} {x : α} (hj : l[j]? = some x) (hi : i < sz) : (l.flatMap enc)[j * sz + i]? = (enc x)[i]? := by
  induction l generalizing j with
  | nil => simp at hj
  | cons y r ih =>
    rw [List.flatMap_cons]
    have hy := he y (by simp)
    cases j with
    | zero =>
      simp at hj
      subst hj
      rw [Nat.zero_mul, Nat.zero_add, List.getElem?_append_left (by omega)]
    | succ j =>
      rw [List.getElem?_append_right (by rw [hy, Nat.succ_mul]; omega), hy, show (j + 1) * sz + i - sz = j * sz + i by rw [Nat.succ_mul]; omega]
      exact ih (fun z hz => he z (by simp [hz])) (by simpa using hj)
theorem rowc_at {α : Type} {sz : Nat} {enc : α → List Value} {w : World} {b : Nat} {l : List α} {vs : List Value} (h : At w b vs) (hv : vs = l.flatMap enc) (he : ∀ x ∈ l, (enc x).length = sz) : RowC sz enc w (some ⟨b, 0, none⟩) l := by
  intro j x hj
  refine ⟨b, 0, rfl, h.2, fun i hi => ?_⟩
  have hx := he x (List.mem_of_getElem? hj)
  obtain ⟨v, hvi⟩ : ∃ v, (enc x)[i]? = some v := ⟨_, List.getElem?_eq_getElem (by omega)⟩
  rw [hvi, Nat.zero_add]
  exact (h.1 (j * sz + i) v (by rw [hv, flat_at l he hj hi, hvi])).1
theorem rowc_nil {α : Type} {sz : Nat} {enc : α → List Value} {w : World} {q : Option Addr} : RowC sz enc w q [] := fun j x hj => by simp at hj
/-- A process that has half-links alone. -/
def pcK (pid st : Int) (la : Option Addr) (n : Nat) (hs : List Hf) : Pc := ⟨pid, st, 0, 0, 0, ⟨#[]⟩, none, 0, 0, false, none, 0, 0, la, n, n, hs, none, 0, 0, [], none, 0, 0, [], none, 0, 0, []⟩
theorem pck_in {w : World} {pid st : Int} {la : Option Addr} {n : Nat} {hs : List Hf} (hn : hs.length = n) (hl : n ≤ 5) (h : RowC 3 Hf.cells w la hs) : PcIn w (pcK pid st la n hs) :=
  ⟨h, rowc_nil, rowc_nil, rowc_nil, ⟨hn, by unfold LenOk pcK; simp only; omega⟩, ⟨rfl, by unfold LenOk pcK; simp only; omega⟩, ⟨rfl, by unfold LenOk pcK; simp only; omega⟩, ⟨rfl, by unfold LenOk pcK; simp only; omega⟩, by unfold LenOk pcK; simp only; omega⟩
theorem st_in {w : World} {b : Nat} {vs : List Value} {p q : Pc} (h : At w b vs) (hv : vs = p.cells ++ q.cells) (h1 : PcIn w p) (h2 : PcIn w q) : StIn w (some ⟨b, 0, none⟩) [p, q] none [] :=
  ⟨rowc_at h (by rw [hv]; simp) (fun x _ => rfl), fun x hx => by
    rcases List.mem_cons.1 hx with rfl | hx
    · exact h1
    · rcases List.mem_cons.1 hx with rfl | hx
      · exact h2
      · simp at hx, rowc_nil, fun l hl => by simp at hl, by unfold LenOk; simp, by unfold LenOk; simp⟩
theorem pck_wf {pid st : Int} {la : Option Addr} {n : Nat} {hs : List Hf} (hp : wfi pid) (hh : ∀ h ∈ hs, wfi h.pid) : PcWf (pcK pid st la n hs) :=
  ⟨hp, hh, fun m hm => by simp [pcK] at hm, fun m hm => by simp [pcK] at hm, fun m hm => by simp [pcK] at hm⟩
abbrev psA (a b : Option Addr) : List Pc := [pcK 1 1 a 1 [⟨2, 1, 0⟩], pcK 2 2 b 1 [⟨1, 1, 0⟩]]
abbrev psB (a : Option Addr) : List Pc := [pcK 1 1 a 1 [⟨2, 1, 0⟩], pcK 2 2 none 0 []]
theorem rise_one (x : Int) : Rise [x] := fun i a b _ h => by simp at h
theorem rise_nil : Rise [] := fun i a b h _ => by simp at h
theorem two_at {p q : Pc} {P : Nat → Pc → Prop} (h0 : P 0 p) (h1 : P 1 q) : ∀ (i : Nat) (x : Pc), [p, q][i]? = some x → P i x := by
  intro i x h
  match i with
  | 0 => simp at h; subst h; exact h0
  | 1 => simp at h; subst h; exact h1
  | n + 2 => simp at h
theorem two_all {p q : Pc} {P : Pc → Prop} (h0 : P p) (h1 : P q) : ∀ x ∈ [p, q], P x := all_at.1 (two_at (P := fun _ => P) h0 h1)
theorem ruA (a b : Option Addr) : RuOk (psA a b) [] true true true true true true true true := by
  refine ⟨iff_of_true rfl ⟨two_at ?_ ?_, fun i l h => by simp at h⟩, iff_of_true rfl (two_all ?_ ?_), iff_of_true rfl (two_all ?_ ?_), iff_of_true rfl ⟨two_all ?_ ?_, ?_⟩, iff_of_true rfl fun _ => two_all ?_ ?_, iff_of_true rfl fun _ => two_all ?_ ?_, iff_of_true rfl fun _ => two_all ?_ ?_, iff_of_true rfl fun _ => two_all ?_ ?_⟩
  · exact ⟨rfl, rise_nil, rise_nil, rise_one _⟩
  · exact ⟨rfl, rise_nil, rise_nil, rise_one _⟩
  · exact ⟨by simp [pcK], fun h hh => by simp [pcK] at hh; subst hh; exact ⟨by simp, by simp⟩⟩
  · exact ⟨by simp [pcK], fun h hh => by simp [pcK] at hh; subst hh; exact ⟨by simp, by simp⟩⟩
  · exact ⟨by simp [pcK], by simp [pcK], by simp [pcK]⟩
  · exact ⟨by simp [pcK], by simp [pcK], by simp [pcK]⟩
  · simp [pcK]
  · simp [pcK]
  · simp [pcK]
  · exact fun h hh => by simp [pcK] at hh; subst hh; rfl
  · exact fun h hh => by simp [pcK] at hh; subst hh; rfl
  · exact fun _ h hh => by simp [pcK] at hh; subst hh; exact ⟨1, _, rfl, rfl, ⟨1, 1, 0⟩, by simp [pcK], rfl⟩
  · exact fun _ h hh => by simp [pcK] at hh; subst hh; exact ⟨0, _, rfl, rfl, ⟨2, 1, 0⟩, by simp [pcK], rfl⟩
  · exact fun _ => ⟨fun h hh => by simp [pcK] at hh; subst hh; exact fun hg => by have := hg 1 _ rfl rfl; simp [pcK] at this, fun m hm => by simp [pcK] at hm, fun m hm => by simp [pcK] at hm⟩
  · exact fun _ => ⟨fun h hh => by simp [pcK] at hh; subst hh; exact fun hg => by have := hg 0 _ rfl rfl; simp [pcK] at this, fun m hm => by simp [pcK] at hm, fun m hm => by simp [pcK] at hm⟩
  · exact fun _ => ⟨fun m hm => by simp [pcK] at hm, fun m hm => by simp [pcK] at hm⟩
  · exact fun _ => ⟨fun m hm => by simp [pcK] at hm, fun m hm => by simp [pcK] at hm⟩
theorem calmA (a b : Option Addr) : Calm (psA a b) [] := ⟨fun l hl => by simp at hl, two_all (by simp [pcK]) (by simp [pcK])⟩
theorem calmB (a : Option Addr) : Calm (psB a) [] := ⟨fun l hl => by simp at hl, two_all (by simp [pcK]) (by simp [pcK])⟩
theorem ruB (a : Option Addr) : RuOk (psB a) [] true true true true true false true true := by
  refine ⟨iff_of_true rfl ⟨two_at ?_ ?_, fun i l h => by simp at h⟩, iff_of_true rfl (two_all ?_ ?_), iff_of_true rfl (two_all ?_ ?_), iff_of_true rfl ⟨two_all ?_ ?_, ?_⟩, iff_of_true rfl fun _ => two_all ?_ ?_, iff_of_false (by simp) fun hx => ?_, iff_of_true rfl fun _ => two_all ?_ ?_, iff_of_true rfl fun _ => two_all ?_ ?_⟩
  · exact ⟨rfl, rise_nil, rise_nil, rise_one _⟩
  · exact ⟨rfl, rise_nil, rise_nil, rise_nil⟩
  · exact ⟨by simp [pcK], fun h hh => by simp [pcK] at hh; subst hh; exact ⟨by simp, by simp⟩⟩
  · exact ⟨by simp [pcK], fun h hh => by simp [pcK] at hh⟩
  · exact ⟨by simp [pcK], by simp [pcK], by simp [pcK]⟩
  · exact ⟨by simp [pcK], by simp [pcK], by simp [pcK]⟩
  · simp [pcK]
  · simp [pcK]
  · simp [pcK]
  · exact fun h hh => by simp [pcK] at hh; subst hh; rfl
  · exact fun h hh => by simp [pcK] at hh
  · obtain ⟨m, p, hf, hp, h, hh, he⟩ := hx (calmB a) (pcK 1 1 a 1 [⟨2, 1, 0⟩]) (by simp) (.inl rfl) ⟨2, 1, 0⟩ (by simp [pcK])
    have : (1 : Int) = (m : Int) := hf
    obtain rfl : m = 1 := by omega
    simp at hp
    subst hp
    simp [pcK] at hh
  · exact fun _ => ⟨fun h hh => by simp [pcK] at hh; subst hh; exact fun hg => by have := hg 1 _ rfl rfl; simp [pcK] at this, fun m hm => by simp [pcK] at hm, fun m hm => by simp [pcK] at hm⟩
  · exact fun _ => ⟨fun h hh => by simp [pcK] at hh, fun m hm => by simp [pcK] at hm, fun m hm => by simp [pcK] at hm⟩
  · exact fun _ => ⟨fun m hm => by simp [pcK] at hm, fun m hm => by simp [pcK] at hm⟩
  · exact fun _ => ⟨fun m hm => by simp [pcK] at hm, fun m hm => by simp [pcK] at hm⟩
abbrev mem0 (w : World) : World :=
  (((((((w.alloc (.cells #[.int .i64 2, .int .i64 1, .int .i64 0] 61)).alloc (.cells #[.int .i64 1, .int .i64 1, .int .i64 0] 61)).alloc
    (.cells #[.int .i64 1, .int .i64 1, .int .i64 0, .int .i64 0, .float .f64 0, .string ⟨#[]⟩, .slice none 0 0, .bool false, .slice none 0 0, .slice (some ⟨w.heap.size, 0, none⟩) 1 1, .slice none 0 0, .slice none 0 0, .slice none 0 0, .int .i64 2, .int .i64 2, .int .i64 0, .int .i64 0, .float .f64 0, .string ⟨#[]⟩, .slice none 0 0, .bool false, .slice none 0 0, .slice (some ⟨w.heap.size + 1, 0, none⟩) 1 1, .slice none 0 0, .slice none 0 0, .slice none 0 0] 45)).alloc
    (.cells #[.slice (some ⟨w.heap.size + 1 + 1, 0, none⟩) 2 2, .slice none 0 0, .slice none 0 0] 26)).alloc
    (.cells #[.int .i64 2, .int .i64 1, .int .i64 0] 61)).alloc
    (.cells #[.int .i64 1, .int .i64 1, .int .i64 0, .int .i64 0, .float .f64 0, .string ⟨#[]⟩, .slice none 0 0, .bool false, .slice none 0 0, .slice (some ⟨w.heap.size + 1 + 1 + 1 + 1, 0, none⟩) 1 1, .slice none 0 0, .slice none 0 0, .slice none 0 0, .int .i64 2, .int .i64 2, .int .i64 0, .int .i64 0, .float .f64 0, .string ⟨#[]⟩, .slice none 0 0, .bool false, .slice none 0 0, .slice none 0 0, .slice none 0 0, .slice none 0 0, .slice none 0 0] 45)).alloc
    (.cells #[.slice (some ⟨w.heap.size + 1 + 1 + 1 + 1 + 1, 0, none⟩) 2 2, .slice none 0 0, .slice none 0 0] 26))
theorem at_new {w W : World} {vs : List Value} {t : TypeId} {b : Nat} (h : W = w.alloc (.cells vs.toArray t)) (hb : w.heap.size = b) : At W b vs := by
  subst h hb
  exact At.new w vs t
theorem mem0_has (w : World) : StIn (mem0 w) (some ⟨w.heap.size + 1 + 1, 0, none⟩) (psA (some ⟨w.heap.size, 0, none⟩) (some ⟨w.heap.size + 1, 0, none⟩)) none [] ∧
    StIn (mem0 w) (some ⟨w.heap.size + 1 + 1 + 1 + 1 + 1, 0, none⟩) (psB (some ⟨w.heap.size + 1 + 1 + 1 + 1, 0, none⟩)) none [] ∧
    At (mem0 w) (w.heap.size + 1 + 1 + 1) [.slice (some ⟨w.heap.size + 1 + 1, 0, none⟩) 2 2, .slice none 0 0, .slice none 0 0] ∧
    At (mem0 w) (w.heap.size + 1 + 1 + 1 + 1 + 1 + 1) [.slice (some ⟨w.heap.size + 1 + 1 + 1 + 1 + 1, 0, none⟩) 2 2, .slice none 0 0, .slice none 0 0] ∧ Below w.heap.size w (mem0 w) := by
  unfold mem0
  obtain ⟨g, hg⟩ : ∃ g, w.heap.size = g := ⟨_, rfl⟩
  rw [hg]
  obtain ⟨W1, h1⟩ : ∃ W1, w.alloc (.cells #[.int .i64 2, .int .i64 1, .int .i64 0] 61) = W1 := ⟨_, rfl⟩
  rw [h1]
  have s1 : W1.heap.size = g + 1 := by rw [← h1]; simp [hg]
  have a1 := at_new h1.symm hg
  have b1 : Below g w W1 := by rw [← h1, ← hg]; exact below_new w _
  obtain ⟨W2, h2⟩ : ∃ W2, W1.alloc (.cells #[.int .i64 1, .int .i64 1, .int .i64 0] 61) = W2 := ⟨_, rfl⟩
  rw [h2]
  have s2 : W2.heap.size = g + 1 + 1 := by rw [← h2]; simp [s1]
  have a2 := at_new h2.symm s1
  have k2 : Below W1.heap.size W1 W2 := by rw [← h2]; exact below_new W1 _
  obtain ⟨W3, h3⟩ : ∃ W3, W2.alloc (.cells #[.int .i64 1, .int .i64 1, .int .i64 0, .int .i64 0, .float .f64 0, .string ⟨#[]⟩, .slice none 0 0, .bool false, .slice none 0 0, .slice (some ⟨g, 0, none⟩) 1 1, .slice none 0 0, .slice none 0 0, .slice none 0 0, .int .i64 2, .int .i64 2, .int .i64 0, .int .i64 0, .float .f64 0, .string ⟨#[]⟩, .slice none 0 0, .bool false, .slice none 0 0, .slice (some ⟨g + 1, 0, none⟩) 1 1, .slice none 0 0, .slice none 0 0, .slice none 0 0] 45) = W3 := ⟨_, rfl⟩
  rw [h3]
  have s3 : W3.heap.size = g + 1 + 1 + 1 := by rw [← h3]; simp [s2]
  have a3 := at_new h3.symm s2
  have k3 : Below W2.heap.size W2 W3 := by rw [← h3]; exact below_new W2 _
  obtain ⟨W4, h4⟩ : ∃ W4, W3.alloc (.cells #[.slice (some ⟨g + 1 + 1, 0, none⟩) 2 2, .slice none 0 0, .slice none 0 0] 26) = W4 := ⟨_, rfl⟩
  rw [h4]
  have s4 : W4.heap.size = g + 1 + 1 + 1 + 1 := by rw [← h4]; simp [s3]
  have a4 := at_new h4.symm s3
  have k4 : Below W3.heap.size W3 W4 := by rw [← h4]; exact below_new W3 _
  obtain ⟨W5, h5⟩ : ∃ W5, W4.alloc (.cells #[.int .i64 2, .int .i64 1, .int .i64 0] 61) = W5 := ⟨_, rfl⟩
  rw [h5]
  have s5 : W5.heap.size = g + 1 + 1 + 1 + 1 + 1 := by rw [← h5]; simp [s4]
  have a5 := at_new h5.symm s4
  have k5 : Below W4.heap.size W4 W5 := by rw [← h5]; exact below_new W4 _
  obtain ⟨W6, h6⟩ : ∃ W6, W5.alloc (.cells #[.int .i64 1, .int .i64 1, .int .i64 0, .int .i64 0, .float .f64 0, .string ⟨#[]⟩, .slice none 0 0, .bool false, .slice none 0 0, .slice (some ⟨g + 1 + 1 + 1 + 1, 0, none⟩) 1 1, .slice none 0 0, .slice none 0 0, .slice none 0 0, .int .i64 2, .int .i64 2, .int .i64 0, .int .i64 0, .float .f64 0, .string ⟨#[]⟩, .slice none 0 0, .bool false, .slice none 0 0, .slice none 0 0, .slice none 0 0, .slice none 0 0, .slice none 0 0] 45) = W6 := ⟨_, rfl⟩
  rw [h6]
  have s6 : W6.heap.size = g + 1 + 1 + 1 + 1 + 1 + 1 := by rw [← h6]; simp [s5]
  have a6 := at_new h6.symm s5
  have k6 : Below W5.heap.size W5 W6 := by rw [← h6]; exact below_new W5 _
  obtain ⟨W7, h7⟩ : ∃ W7, W6.alloc (.cells #[.slice (some ⟨g + 1 + 1 + 1 + 1 + 1, 0, none⟩) 2 2, .slice none 0 0, .slice none 0 0] 26) = W7 := ⟨_, rfl⟩
  rw [h7]
  have a7 := at_new h7.symm s6
  have k7 : Below W6.heap.size W6 W7 := by rw [← h7]; exact below_new W6 _
  clear h1 h2 h3 h4 h5 h6 h7
  have j6 : Below W5.heap.size W5 W7 := k6.trans (k7.mono k6.size)
  have j5 : Below W4.heap.size W4 W7 := k5.trans (j6.mono k5.size)
  have j4 : Below W3.heap.size W3 W7 := k4.trans (j5.mono k4.size)
  have j3 : Below W2.heap.size W2 W7 := k3.trans (j4.mono k3.size)
  have j2 : Below W1.heap.size W1 W7 := k2.trans (j3.mono k2.size)
  have z1 := a1.keep j2
  have z2 := a2.keep j3
  have z3 := a3.keep j4
  have z4 := a4.keep j5
  have z5 := a5.keep j6
  have z6 := a6.keep k7
  exact ⟨st_in z3 rfl (pck_in rfl (by omega) (rowc_at z1 rfl (fun _ _ => rfl))) (pck_in rfl (by omega) (rowc_at z2 rfl (fun _ _ => rfl))), st_in z6 rfl (pck_in rfl (by omega) (rowc_at z5 rfl (fun _ _ => rfl))) (pck_in rfl (by omega) rowc_nil), z4, a7, b1.trans (j2.mono (by rw [s1]; omega))⟩
set_option maxHeartbeats 4000000 in
set_option maxRecDepth 10000 in
theorem half_any (w : World) (pid : Int) : Calls Try.prog 14 #[.int .i64 pid] w (fun e w' => e = .returned (.slice (some ⟨w.heap.size, 0, none⟩) 1 1) ∧ w' = w.alloc (.cells #[.int .i64 pid, .int .i64 1, .int .i64 0] 61)) := by
  go_enter Try.func14, Try.ntmps14
  go_wp2_with fail
  go_ret
  exact ⟨rfl, rfl⟩
set_option maxHeartbeats 4000000 in
set_option maxRecDepth 10000 in
theorem known20_any (w : World) : Calls Try.prog 4 #[] w (fun e w' => e = .returned (.bool true) ∧ Below w.heap.size w w') := by
  go_enter Try.func4, Try.ntmps4
  go_wp2_with fail
  refine (half_any _ 2).mono ?_
  rintro e w1 ⟨rfl, hw1⟩
  subst hw1
  go_wp2_with fail
  refine (half_any _ 1).mono ?_
  rintro e w2 ⟨rfl, hw2⟩
  subst hw2
  go_wp2_with fail
  refine (half_any _ 2).mono ?_
  rintro e w3 ⟨rfl, hw3⟩
  subst hw3
  go_wp2_with fail
  obtain ⟨HSA0, HSB0, HAA, HAB, HB0⟩ := mem0_has w
  have HSA := hidb HSA0
  have HSB := hidb HSB0
  have HXA := hidb HAA
  have HXB := hidb HAB
  have HBE := hidb HB0
  clear HSA0 HSB0 HAA HAB HB0
  unfold mem0 at HSA HSB HXA HXB HBE
  obtain ⟨W, hW⟩ : ∃ W, mem0 w = W := ⟨_, rfl⟩
  unfold mem0 at hW
  rw [hW] at HSA HSB HXA HXB HBE ⊢
  clear hW
  obtain ⟨xa0, -⟩ := HXA.out.1 0 _ rfl
  obtain ⟨xa1, -⟩ := HXA.out.1 1 _ rfl
  obtain ⟨xa2, -⟩ := HXA.out.1 2 _ rfl
  refine (check_any _ _ _ 2 0 2 0 _ [] none 0 0 HSA.out rfl rfl (by omega) (two_all (pck_wf rfl (fun h hh => by simp at hh; subst hh; rfl)) (pck_wf rfl (fun h hh => by simp at hh; subst hh; rfl))) ⟨by simp [pcK], by simp [tot, tiesOf, lnkT, monT, pcK]⟩).mono ?_
  rintro e w1 ⟨m1, o1, a1, n1, c1, hm1, hb1, rfl, hl1, hw1, hk1⟩
  have e1 := same_rules (ruA _ _) hm1 hb1
  have e1 : o1 = [] := by rw [← e1]; rfl
  subst e1
  simp only [List.length_nil] at hl1
  subst hl1
  have HSA := hidb (HSA.out.keep hk1)
  have HSB := hidb (HSB.out.keep hk1)
  have HXA := hidb (HXA.out.keep hk1)
  have HXB := hidb (HXB.out.keep hk1)
  have HBE := hidb (HBE.out.trans (hk1.mono HBE.out.size))
  clear hm1 hb1 hw1 hk1 xa0 xa1 xa2
  obtain ⟨xa0, -⟩ := HXA.out.1 0 _ rfl
  obtain ⟨xa1, -⟩ := HXA.out.1 1 _ rfl
  obtain ⟨xa2, -⟩ := HXA.out.1 2 _ rfl
  obtain ⟨xb0, -⟩ := HXB.out.1 0 _ rfl
  obtain ⟨xb1, -⟩ := HXB.out.1 1 _ rfl
  obtain ⟨xb2, -⟩ := HXB.out.1 2 _ rfl
  go_wp2_with fail
  refine (check_any _ _ _ 2 0 2 0 _ [] none 0 0 HSB.out rfl rfl (by omega) (two_all (pck_wf rfl (fun h hh => by simp at hh; subst hh; rfl)) (pck_wf rfl (fun h hh => by simp at hh))) ⟨by simp [pcK], by simp [tot, tiesOf, lnkT, monT, pcK]⟩).mono ?_
  rintro e w2 ⟨m2, o2, a2, n2, c2, hm2, hb2, rfl, hl2, hw2, hk2⟩
  have e2 := same_rules (ruB _) hm2 hb2
  have e2 : o2 = [6] := by rw [← e2]; rfl
  subst e2
  simp only [List.length_cons, List.length_nil] at hl2
  have hl2 : n2 = 1 := by omega
  subst hl2
  have HY := hidb (own_rowI hw2 rfl)
  have HSA := hidb (HSA.out.keep hk2)
  have HSB := hidb (HSB.out.keep hk2)
  have HXA := hidb (HXA.out.keep hk2)
  have HXB := hidb (HXB.out.keep hk2)
  have HBE := hidb (HBE.out.trans (hk2.mono HBE.out.size))
  clear hm2 hb2 hw2 hk2 xa0 xa1 xa2 xb0 xb1 xb2
  obtain ⟨xa0, -⟩ := HXA.out.1 0 _ rfl
  obtain ⟨xa1, -⟩ := HXA.out.1 1 _ rfl
  obtain ⟨xa2, -⟩ := HXA.out.1 2 _ rfl
  go_wp2_with fail
  refine (count_any _ _ _ 2 0 2 0 _ [] none 0 0 HSA.out rfl rfl ⟨by simp [tot], by simp [tot, onN, pcK], by simp [tot, onN, pcK], by simp [tot, onN, pcK]⟩).mono ?_
  rintro e w3 ⟨rfl, hk3⟩
  have HYB := hidb (HY.out.keep hk3)
  have HSA := hidb (HSA.out.keep hk3)
  have HSB := hidb (HSB.out.keep hk3)
  have HXA := hidb (HXA.out.keep hk3)
  have HXB := hidb (HXB.out.keep hk3)
  have HBE := hidb (HBE.out.trans (hk3.mono HBE.out.size))
  clear hk3 xa0 xa1 xa2
  obtain ⟨xa0, -⟩ := HXA.out.1 0 _ rfl
  obtain ⟨xa1, -⟩ := HXA.out.1 1 _ rfl
  obtain ⟨xa2, -⟩ := HXA.out.1 2 _ rfl
  obtain ⟨yb, yo, hy0, hylt, hyc⟩ := HYB.out 0 6 rfl
  subst hy0
  have yc0 : w3.cell? ⟨yb, yo, none⟩ = some (.int .i64 6) := hyc 0 (by omega)
  clear hyc
  rw [show tot Ln.n [] = 0 from rfl, show ∀ a b, tot (onN Pc.ll) (psA a b) = 2 from fun _ _ => rfl, show ∀ a b, tot (onN Pc.tl) (psA a b) = 0 from fun _ _ => rfl, show ∀ a b, tot (onN Pc.ol) (psA a b) = 0 from fun _ _ => rfl]
  go_wp2_with fail
  refine (bound_any _ _ _ 2 0 2 0 _ [] none 0 0 HSA.out rfl rfl ⟨by simp [tot], by simp [tot, onN, pcK], by simp [tot, onN, pcK], by simp [tot, onN, pcK]⟩).mono ?_
  rintro e w4 ⟨rfl, hk4⟩
  have HSA := hidb (HSA.out.keep hk4)
  have HXA := hidb (HXA.out.keep hk4)
  have HBE := hidb (HBE.out.trans (hk4.mono HBE.out.size))
  clear hk4 xa0 xa1 xa2
  obtain ⟨xa0, -⟩ := HXA.out.1 0 _ rfl
  obtain ⟨xa1, -⟩ := HXA.out.1 1 _ rfl
  obtain ⟨xa2, -⟩ := HXA.out.1 2 _ rfl
  rw [show tot Ln.n [] = 0 from rfl, show ∀ a b, tot (onN Pc.ll) (psA a b) = 2 from fun _ _ => rfl, show ∀ a b, tot (onN Pc.tl) (psA a b) = 0 from fun _ _ => rfl, show ∀ a b, tot (onN Pc.ol) (psA a b) = 0 from fun _ _ => rfl]
  go_wp2_with fail
  refine (calmed_any _ _ _ 2 0 2 0 _ [] none 0 0 HSA.out rfl rfl).mono ?_
  rintro e w5 ⟨⟨cb, rfl, hcb⟩, hk5⟩
  have hct := hcb.2 (calmA _ _)
  subst hct
  have HBE := hidb (HBE.out.trans (hk5.mono HBE.out.size))
  clear hcb hk5
  go_wp2_with fail
  go_ret
  exact ⟨rfl, HBE.out⟩
end Go.Proofs.Ytjiigabfdigkaaa


/- SoundChecks, walked. -/
namespace Go.Proofs.Ytjiigabfdigkaaa
open Go.RowKit
attribute [local go_sem] store_float
theorem tot_mono {α : Type} {f g : α → Nat} (l : List α) (h : ∀ x ∈ l, f x ≤ g x) : tot f l ≤ tot g l := by
  unfold tot
  induction l with
  | nil => simp
  | cons x r ih =>
    simp only [List.map_cons, List.sum_cons]
    have := h x (by simp)
    have := ih (fun y hy => h y (by simp [hy]))
    omega
theorem tot_bound {α : Type} {f : α → Nat} {B : Nat} (l : List α) (h : ∀ x ∈ l, f x ≤ B) : tot f l ≤ l.length * B := by
  unfold tot
  induction l with
  | nil => simp
  | cons x r ih =>
    simp only [List.map_cons, List.sum_cons, List.length_cons, Nat.succ_mul]
    have := h x (by simp)
    have := ih (fun y hy => h y (by simp [hy]))
    omega
/-- Rows no longer than the reading's reach. -/
def Reach (ps : List Pc) (ls : List Ln) : Prop := (∀ p ∈ ps, p.ll ≤ 140737488355328 ∧ p.ol ≤ 140737488355328 ∧ p.tl ≤ 140737488355328 ∧ p.nl ≤ 140737488355328 ∧ p.il ≤ 140737488355328) ∧ ∀ l ∈ ls, l.n ≤ 140737488355328
set_option maxHeartbeats 4000000 in
set_option maxRecDepth 10000 in
theorem few_big (w : World) (pa la : Option Addr) (cp cl np nl : Nat) (ps : List Pc) (ls : List Ln) (oa : Option Addr) (no co : Nat) (hnp : ps.length = np) (hnl : ls.length = nl) (h : 300 < np ∨ (np ≤ 300 ∧ 300 < nl)) :
    Calls Try.prog 5 #[stV pa np cp la nl cl oa no co] w (Says (FewOk ps ls) w) := by
  have HN := hidb (show ¬ FewOk ps ls from fun q => by have h1 := q.1; have h2 := q.2.1; omega)
  clear hnp hnl
  have HX0 := hidb (At.new w [.slice pa np cp, .slice la nl cl, .slice oa no co] 26)
  rcases h with h | ⟨h, h2⟩
  · have hb : (300 : Int) < (np : Int) := by omega
    go_enter Try.func5, Try.ntmps5
    go_wp2_with fail
    go_ret
    exact ⟨⟨_, rfl, iff_of_false (by simp) HN.out⟩, below_new _ _⟩
  · have hb : ¬ (300 : Int) < (np : Int) := by omega
    have hb2 : (300 : Int) < (nl : Int) := by omega
    go_enter Try.func5, Try.ntmps5
    go_wp2_with fail
    go_ret
    exact ⟨⟨_, rfl, iff_of_false (by simp) HN.out⟩, below_new _ _⟩
theorem few_all (w : World) (pa la : Option Addr) (cp cl np nl : Nat) (ps : List Pc) (ls : List Ln) (oa : Option Addr) (no co : Nat) (hs : StIn w pa ps la ls) (hnp : ps.length = np) (hnl : ls.length = nl) (hr : Reach ps ls) :
    Calls Try.prog 5 #[stV pa np cp la nl cl oa no co] w (Says (FewOk ps ls) w) := by
  by_cases h1 : 300 < np
  · exact few_big w pa la cp cl np nl ps ls oa no co hnp hnl (.inl h1)
  by_cases h2 : 300 < nl
  · exact few_big w pa la cp cl np nl ps ls oa no co hnp hnl (.inr ⟨by omega, h2⟩)
  refine few_any w pa la cp cl np nl ps ls oa no co hs hnp hnl ?_
  have e1 := tot_bound (f := wgt) (B := 5 * 140737488355328) ps (fun p hp => by obtain ⟨a, b, c, d, e⟩ := hr.1 p hp; unfold wgt; omega)
  have e2 := tot_bound (f := Ln.n) (B := 140737488355328) ls hr.2
  have e3 : ps.length * (5 * 140737488355328) ≤ 300 * (5 * 140737488355328) := Nat.mul_le_mul_right _ (by omega)
  have e4 : ls.length * 140737488355328 ≤ 300 * 140737488355328 := Nat.mul_le_mul_right _ (by omega)
  omega
theorem few_sums {w : World} {pa la : Option Addr} {ps : List Pc} {ls : List Ln} (hs : StIn w pa ps la ls) (h : FewOk ps ls) :
    (tot Ln.n ls ≤ 1000000000 ∧ tot (onN Pc.ll) ps ≤ 1000000000 ∧ tot (onN Pc.tl) ps ≤ 1000000000 ∧ tot (onN Pc.ol) ps ≤ 1000000000) ∧ (ps.flatMap Pc.names).length < 1000000000 ∧ tot (fun p => (tiesOf p).length) ps < 1000000000 := by
  obtain ⟨h1, h2, h3⟩ := h
  have a1 : tot (onN Pc.ll) ps ≤ tot wgt ps := tot_mono ps (fun p _ => by unfold onN wgt; split <;> omega)
  have a2 : tot (onN Pc.tl) ps ≤ tot wgt ps := tot_mono ps (fun p _ => by unfold onN wgt; split <;> omega)
  have a3 : tot (onN Pc.ol) ps ≤ tot wgt ps := tot_mono ps (fun p _ => by unfold onN wgt; split <;> omega)
  have a4 : tot (fun p => (tiesOf p).length) ps ≤ tot wgt ps := tot_mono ps (fun p hp => by
    have i := hs.each p hp
    unfold tiesOf lnkT monT wgt
    simp only [List.length_append, List.length_map]
    have := i.ll.1; have := i.lo.1; have := i.lt.1
    omega)
  have a5 : tot (fun p => p.names.length) ps ≤ tot wgt ps := tot_mono ps (fun p hp => by
    have i := hs.each p hp
    unfold wgt
    have := i.ln.1
    omega)
  have a6 : (ps.flatMap Pc.names).length = tot (fun p => p.names.length) ps := by
    unfold tot
    rw [List.length_flatMap]
  omega
theorem ent_pcheck : Ent 9 := by
  intro args w
  kernel_rfl
theorem ent_rcheck : Ent 10 := by
  intro args w
  kernel_rfl
theorem ent_alike : Ent 8 := by
  intro args w
  kernel_rfl
theorem ent_pcalm : Ent 11 := by
  intro args w
  kernel_rfl
theorem ent_rcalm : Ent 12 := by
  intro args w
  kernel_rfl
theorem ent_pbound : Ent 13 := by
  intro args w
  kernel_rfl
set_option maxHeartbeats 8000000 in
set_option maxRecDepth 10000 in
theorem soundChecks_of (w : World) (pa la : Option Addr) (cp cl np nl : Nat) (ps : List Pc) (ls : List Ln) (oa : Option Addr) (no co : Nat) (hs : StIn w pa ps la ls) (hnp : ps.length = np) (hnl : ls.length = nl) (hwf : ∀ p ∈ ps, PcWf p) (hr : Reach ps ls) :
    Calls Try.prog 3 #[stV pa np cp la nl cl oa no co] w (fun e w' => e = .returned (.bool true) ∧ Below w.heap.size w w') := by
  have HM := hidb hnl
  have HS := hidb hs
  have HN := hidb hnp
  have HWF := hidb hwf
  have HR := hidb hr
  clear hs hnp hnl hwf hr
  have HX0 := hidb (At.new w [.slice pa np cp, .slice la nl cl, .slice oa no co] 26)
  go_enter Try.func3, Try.ntmps3
  go_wp2_with fail
  refine (known20_any _).mono ?_
  rintro e w1 ⟨rfl, hb1⟩
  have HX := hidb (HX0.out.keep hb1)
  have HB := hidb ((below_new w _).trans (hb1.mono (by simp)))
  have HS := hidb (HS.out.keep HB.out)
  clear hb1
  obtain ⟨x0, -⟩ := HX.out.1 0 _ rfl
  obtain ⟨x1, -⟩ := HX.out.1 1 _ rfl
  obtain ⟨x2, -⟩ := HX.out.1 2 _ rfl
  go_wp2_with fail
  refine (few_all _ pa la cp cl np nl ps ls oa no co HS.out HN.out HM.out HR.out).mono ?_
  rintro e w2 ⟨⟨fw, rfl, hfw⟩, hb2⟩
  have HX := hidb (HX.out.keep hb2)
  have HB := hidb (HB.out.trans (hb2.mono HB.out.size))
  have HS := hidb (HS.out.keep hb2)
  have HFW := hidb hfw
  clear hb2 x0 x1 x2 hfw
  obtain ⟨x0, -⟩ := HX.out.1 0 _ rfl
  obtain ⟨x1, -⟩ := HX.out.1 1 _ rfl
  obtain ⟨x2, -⟩ := HX.out.1 2 _ rfl
  cases fw
  · go_wp2_with fail
    go_ret
    exact ⟨rfl, HB.out⟩
  · have HFO := hidb (HFW.out.1 rfl)
    have HSM := hidb (few_sums HS.out HFO.out)
    go_wp2_with fail
    refine (count_any _ pa la cp cl np nl ps ls oa no co HS.out HN.out HM.out HSM.out.1).mono ?_
    rintro e w3 ⟨rfl, hb3⟩
    have HX := hidb (HX.out.keep hb3)
    have HB := hidb (HB.out.trans (hb3.mono HB.out.size))
    have HS := hidb (HS.out.keep hb3)
    clear hb3 x0 x1 x2
    obtain ⟨x0, -⟩ := HX.out.1 0 _ rfl
    obtain ⟨x1, -⟩ := HX.out.1 1 _ rfl
    obtain ⟨x2, -⟩ := HX.out.1 2 _ rfl
    have HC := hidb (fun W' h => rcount_any W' pa la cp cl np nl ps ls oa no co h HN.out HM.out HSM.out.1)
    have HBD := hidb (fun W' h => bound_any W' pa la cp cl np nl ps ls oa no co h HN.out HM.out HSM.out.1)
    unfold CtSays at HC
    have HLE := hidb HSM.out.1
    obtain ⟨F, hF⟩ : ∃ F, tot Ln.n ls = F := ⟨_, rfl⟩
    obtain ⟨L, hL⟩ : ∃ F, tot (onN Pc.ll) ps = F := ⟨_, rfl⟩
    obtain ⟨T, hT⟩ : ∃ F, tot (onN Pc.tl) ps = F := ⟨_, rfl⟩
    obtain ⟨O, hO⟩ : ∃ F, tot (onN Pc.ol) ps = F := ⟨_, rfl⟩
    rw [hF, hL, hT, hO] at HC HBD HLE ⊢
    clear hF hL hT hO
    have hw1 : IntKind.i64.wrap (2 * (F : Int)) = 2 * (F : Int) := by have := HLE.out; rw [IntKind.wrap_i64]; omega
    have hw2 : IntKind.i64.wrap (2 * (F : Int) + (L : Int)) = 2 * (F : Int) + (L : Int) := by have := HLE.out; rw [IntKind.wrap_i64]; omega
    have hw3 : IntKind.i64.wrap (2 * (F : Int) + (L : Int) + (T : Int)) = 2 * (F : Int) + (L : Int) + (T : Int) := by have := HLE.out; rw [IntKind.wrap_i64]; omega
    have hw4 : IntKind.i64.wrap (2 * (F : Int) + (L : Int) + (T : Int) + (O : Int)) = 2 * (F : Int) + (L : Int) + (T : Int) + (O : Int) := by have := HLE.out; rw [IntKind.wrap_i64]; omega
    go_wp2_with fail
    refine (HC.out _ HS.out).mono ?_
    rintro e w4 ⟨rfl, hb4⟩
    have HX := hidb (HX.out.keep hb4)
    have HB := hidb (HB.out.trans (hb4.mono HB.out.size))
    have HS := hidb (HS.out.keep hb4)
    clear hb4 x0 x1 x2
    obtain ⟨x0, -⟩ := HX.out.1 0 _ rfl
    obtain ⟨x1, -⟩ := HX.out.1 1 _ rfl
    obtain ⟨x2, -⟩ := HX.out.1 2 _ rfl
    go_wp2_with fail
    have HSA : Hid (∀ W9, Below w4.heap.size w4 W9 → W9.cell? ⟨w.heap.size, 0, none⟩ = some (.slice pa np cp) ∧ W9.cell? ⟨w.heap.size, 1, none⟩ = some (.slice la nl cl) ∧ W9.cell? ⟨w.heap.size, 2, none⟩ = some (.slice oa no co)) := hidb (fun W9 hb => by
      have h := HX.out.keep hb
      exact ⟨(h.1 0 _ rfl).1, (h.1 1 _ rfl).1, (h.1 2 _ rfl).1⟩)
    clear x0 x1 x2
    refine wp_region_D (fun W9 => W9.cell? ⟨w.heap.size, 0, none⟩ = some (.slice pa np cp) ∧ W9.cell? ⟨w.heap.size, 1, none⟩ = some (.slice la nl cl) ∧ W9.cell? ⟨w.heap.size, 2, none⟩ = some (.slice oa no co)) [] (by kernel_rfl) ?_
    have hbd : Below w4.heap.size w4 w4.drew := (Below.refl _ _).drew
    generalize w4.drew = v0 at hbd ⊢
    have HFv0 := hidb hbd
    have HDv0 := hidb (HB.out.trans (hbd.mono HB.out.size))
    have HT := hidb (HSA.out v0 hbd)
    clear hbd
    refine wpAnyD_takeL (i := 0) (v := ?vv0e) rfl (by kernel_rfl) (by kernel_rfl) (by kernel_rfl) (by kernel_rfl) (fun _ _ _ h => h) HT.out rfl ?hy0e ?_
    case hy0e => intro wy hSw; obtain ⟨q0, q1, q2⟩ := hSw; go_simp; try with_reducible rfl
    simp only [Act.put, List.setIfInBounds_toArray, List.set_cons_zero, List.set_cons_succ]
    refine wpAnyD_takeL (i := 2) (v := ?vv2e) rfl (by kernel_rfl) (by kernel_rfl) (by kernel_rfl) (by kernel_rfl) (fun _ _ _ h => h) HT.out rfl ?hy2e ?_
    case hy2e => intro wy hSw; obtain ⟨q0, q1, q2⟩ := hSw; go_simp; try with_reducible rfl
    simp only [Act.put, List.setIfInBounds_toArray, List.set_cons_zero, List.set_cons_succ]
    refine wpAnyD_stepL (i := 1) (by kernel_rfl) rfl (fun K hK => ?_)
    refine step_call rfl (run_call ent_pcheck #[.tmp 30] _ rfl #[stV pa np cp la nl cl oa no co] rfl) (check_any v0 pa la cp cl np nl ps ls oa no co (HS.out.keep HFv0.out) HN.out HM.out (by have := HFO.out.1; have := HN.out; omega) HWF.out HSM.out.2) ?_
    rintro e v1 ⟨m1, o1, a1, n1, c1, hm1, hbk, rfl, hl1, hown1, hb7⟩
    have HBK := hidb (And.intro hm1 hbk)
    have HO1 := hidb (own_rowI hown1 hl1)
    have HL1 := hidb hl1
    clear hm1 hbk hown1 hl1
    have HDv1 := hidb (HDv0.out.trans (hb7.mono HDv0.out.size))
    have HFv1 := hidb (HFv0.out.trans (hb7.mono HFv0.out.size))
    refine hK _ _ (fun _ => HSA.out _ HFv1.out) ?_
    clear hK K HT
    have HT := hidb (HSA.out _ HFv1.out)
    simp only [Act.put, List.setIfInBounds_toArray, List.set_cons_zero, List.set_cons_succ]
    refine wpAnyD_stepL (i := 3) (by kernel_rfl) rfl (fun K hK => ?_)
    refine step_call rfl (run_call ent_rcheck #[.tmp 32] _ rfl #[stV pa np cp la nl cl oa no co] rfl) (rcheck_any v1 pa la cp cl np nl ps ls oa no co (HS.out.keep HFv1.out) HN.out HM.out (by have := HFO.out.1; have := HN.out; omega)) ?_
    rintro e v2 ⟨r1, r2, r3, r4, r5, r6, r7, r8, a2, n2, c2, hru, rfl, hl2, hown2, hb7⟩
    have HRU := hidb hru
    have HO2 := hidb (own_rowI hown2 hl2)
    have HL2 := hidb hl2
    have HO1 := hidb (HO1.out.keep hb7)
    clear hru hown2 hl2
    have HDv2 := hidb (HDv1.out.trans (hb7.mono HDv1.out.size))
    have HFv2 := hidb (HFv1.out.trans (hb7.mono HFv1.out.size))
    refine hK _ _ (fun _ => HSA.out _ HFv2.out) ?_
    clear hK K HT
    have HT := hidb (HSA.out _ HFv2.out)
    simp only [Act.put, List.setIfInBounds_toArray, List.set_cons_zero, List.set_cons_succ]
    refine wpAnyD_stepL (i := 4) (by kernel_rfl) rfl (fun K hK => ?_)
    refine step_call rfl (run_call ent_alike #[.tmp 31, .tmp 33] _ rfl #[.slice a1 n1 c1, .slice a2 n2 c2] rfl) (alike_any v2 a1 a2 c1 c2 n1 n2 o1 (brk [r1, r2, r3, r4, r5, r6, r7, r8] 8) HO1.out HO2.out HL1.out HL2.out (by have h1 := HBK.out.2.len; have h2 := HBK.out.1; have h3 := HL1.out; omega)) ?_
    rintro e v3 ⟨⟨rk, rfl, hrk⟩, hb7⟩
    have hkt : rk = true := hrk.2 (same_rules HRU.out HBK.out.1 HBK.out.2).symm
    subst hkt
    clear hrk
    have HDv3 := hidb (HDv2.out.trans (hb7.mono HDv2.out.size))
    have HFv3 := hidb (HFv2.out.trans (hb7.mono HFv2.out.size))
    refine hK _ _ (fun _ => HSA.out _ HFv3.out) ?_
    clear hK K HT
    have HT := hidb (HSA.out _ HFv3.out)
    simp only [Act.put, List.setIfInBounds_toArray, List.set_cons_zero, List.set_cons_succ]
    refine wpAnyD_takeL (i := 5) (v := ?vv5e) rfl (by kernel_rfl) (by kernel_rfl) (by kernel_rfl) (by kernel_rfl) (fun _ _ _ h => h) HT.out rfl ?hy5e ?_
    case hy5e => intro wy hSw; obtain ⟨q0, q1, q2⟩ := hSw; go_simp; try with_reducible rfl
    simp only [Act.put, List.setIfInBounds_toArray, List.set_cons_zero, List.set_cons_succ]
    refine wpAnyD_takeG (i := 6) (v := ?vv6e) rfl (by kernel_rfl) (by kernel_rfl) (by kernel_rfl) (by kernel_rfl) (fun _ _ _ h => h) HT.out (by simp [Region.wanted, yielded]) ?hy6e ?_
    case hy6e => intro wy hSw; obtain ⟨q0, q1, q2⟩ := hSw; go_simp; try with_reducible rfl
    simp only [Act.put, List.setIfInBounds_toArray, List.set_cons_zero, List.set_cons_succ]
    refine wpAnyD_takeG (i := 8) (v := ?vv8e) rfl (by kernel_rfl) (by kernel_rfl) (by kernel_rfl) (by kernel_rfl) (fun _ _ _ h => h) HT.out (by simp [Region.wanted, yielded]) ?hy8e ?_
    case hy8e => intro wy hSw; obtain ⟨q0, q1, q2⟩ := hSw; go_simp; try with_reducible rfl
    simp only [Act.put, List.setIfInBounds_toArray, List.set_cons_zero, List.set_cons_succ]
    refine wpAnyD_stepL (i := 7) (by kernel_rfl) rfl (fun K hK => ?_)
    refine step_call (by simp [Region.wanted, yielded]) (run_call ent_pcalm #[.tmp 36] _ rfl #[stV pa np cp la nl cl oa no co] rfl) (calmed_any v3 pa la cp cl np nl ps ls oa no co (HS.out.keep HFv3.out) HN.out HM.out) ?_
    rintro e v4 ⟨⟨c7, rfl, hc7⟩, hb7⟩
    have HDv4 := hidb (HDv3.out.trans (hb7.mono HDv3.out.size))
    have HFv4 := hidb (HFv3.out.trans (hb7.mono HFv3.out.size))
    refine hK _ _ (fun _ => HSA.out _ HFv4.out) ?_
    clear hK K HT
    have HT := hidb (HSA.out _ HFv4.out)
    simp only [Act.put, List.setIfInBounds_toArray, List.set_cons_zero, List.set_cons_succ]
    refine wpAnyD_stepL (i := 9) (by kernel_rfl) rfl (fun K hK => ?_)
    refine step_call (by simp [Region.wanted, yielded]) (run_call ent_rcalm #[.tmp 38] _ rfl #[stV pa np cp la nl cl oa no co] rfl) (rcalmed_any v4 pa la cp cl np nl ps ls oa no co (HS.out.keep HFv4.out) HN.out HM.out) ?_
    rintro e v5 ⟨⟨c9, rfl, hc9⟩, hb7⟩
    have hce : c9 = c7 := bool_iff hc9 hc7
    subst hce
    clear hc7 hc9
    have HDv5 := hidb (HDv4.out.trans (hb7.mono HDv4.out.size))
    have HFv5 := hidb (HFv4.out.trans (hb7.mono HFv4.out.size))
    refine hK _ _ (fun _ => HSA.out _ HFv5.out) ?_
    clear hK K HT
    have HT := hidb (HSA.out _ HFv5.out)
    simp only [Act.put, List.setIfInBounds_toArray, List.set_cons_zero, List.set_cons_succ]
    refine wpAnyD_takeG (i := 10) (v := (.bool true)) rfl (by kernel_rfl) (by kernel_rfl) (by kernel_rfl) (by kernel_rfl) (fun _ _ _ h => h) HT.out (by simp [Region.wanted, yielded]) ?hy10e ?_
    case hy10e => intro wy hSw; obtain ⟨q0, q1, q2⟩ := hSw; go_simp; try with_reducible rfl
    simp only [Act.put, List.setIfInBounds_toArray, List.set_cons_zero, List.set_cons_succ]
    refine wpAnyD_takeL (i := 11) (v := ?vv11e) rfl (by kernel_rfl) (by kernel_rfl) (by kernel_rfl) (by kernel_rfl) (fun _ _ _ h => h) HT.out rfl ?hy11e ?_
    case hy11e => intro wy hSw; obtain ⟨q0, q1, q2⟩ := hSw; go_simp; try with_reducible rfl
    simp only [Act.put, List.setIfInBounds_toArray, List.set_cons_zero, List.set_cons_succ]
    refine wpAnyD_takeL (i := 12) (v := ?vv12e) rfl (by kernel_rfl) (by kernel_rfl) (by kernel_rfl) (by kernel_rfl) (fun _ _ _ h => h) HT.out rfl ?hy12e ?_
    case hy12e => intro wy hSw; obtain ⟨q0, q1, q2⟩ := hSw; go_simp; try with_reducible rfl
    simp only [Act.put, List.setIfInBounds_toArray, List.set_cons_zero, List.set_cons_succ]
    refine wpAnyD_takeG (i := 13) (v := ?vv13e) rfl (by kernel_rfl) (by kernel_rfl) (by kernel_rfl) (by kernel_rfl) (fun _ _ _ h => h) HT.out (by simp [Region.wanted, yielded]) ?hy13e ?_
    case hy13e => intro wy hSw; obtain ⟨q0, q1, q2⟩ := hSw; go_simp; try with_reducible rfl
    simp only [Act.put, List.setIfInBounds_toArray, List.set_cons_zero, List.set_cons_succ]
    refine wpAnyD_takeG (i := 14) (v := ?vv14e) rfl (by kernel_rfl) (by kernel_rfl) (by kernel_rfl) (by kernel_rfl) (fun _ _ _ h => h) HT.out (by simp [Region.wanted, yielded]) ?hy14e ?_
    case hy14e => intro wy hSw; obtain ⟨q0, q1, q2⟩ := hSw; go_simp; try with_reducible rfl
    simp only [Act.put, List.setIfInBounds_toArray, List.set_cons_zero, List.set_cons_succ]
    refine wpAnyD_takeG (i := 15) (v := (.bool true)) rfl (by kernel_rfl) (by kernel_rfl) (by kernel_rfl) (by kernel_rfl) (fun _ _ _ h => h) HT.out (by simp [Region.wanted, yielded]) ?hy15e ?_
    case hy15e => intro wy hSw; obtain ⟨q0, q1, q2⟩ := hSw; go_simp; try with_reducible rfl
    simp only [Act.put, List.setIfInBounds_toArray, List.set_cons_zero, List.set_cons_succ]
    refine wpAnyD_takeL (i := 16) (v := ?vv16e) rfl (by kernel_rfl) (by kernel_rfl) (by kernel_rfl) (by kernel_rfl) (fun _ _ _ h => h) HT.out rfl ?hy16e ?_
    case hy16e => intro wy hSw; obtain ⟨q0, q1, q2⟩ := hSw; go_simp; try with_reducible rfl
    simp only [Act.put, List.setIfInBounds_toArray, List.set_cons_zero, List.set_cons_succ]
    refine wpAnyD_takeL (i := 17) (v := ?vv17e) rfl (by kernel_rfl) (by kernel_rfl) (by kernel_rfl) (by kernel_rfl) (fun _ _ _ h => h) HT.out rfl ?hy17e ?_
    case hy17e => intro wy hSw; obtain ⟨q0, q1, q2⟩ := hSw; go_simp; try with_reducible rfl
    simp only [Act.put, List.setIfInBounds_toArray, List.set_cons_zero, List.set_cons_succ]
    refine wpAnyD_takeG (i := 18) (v := ?vv18e) rfl (by kernel_rfl) (by kernel_rfl) (by kernel_rfl) (by kernel_rfl) (fun _ _ _ h => h) HT.out (by simp [Region.wanted, yielded]) ?hy18e ?_
    case hy18e => intro wy hSw; obtain ⟨q0, q1, q2⟩ := hSw; go_simp; try with_reducible rfl
    simp only [Act.put, List.setIfInBounds_toArray, List.set_cons_zero, List.set_cons_succ]
    refine wpAnyD_takeG (i := 19) (v := ?vv19e) rfl (by kernel_rfl) (by kernel_rfl) (by kernel_rfl) (by kernel_rfl) (fun _ _ _ h => h) HT.out (by simp [Region.wanted, yielded]) ?hy19e ?_
    case hy19e => intro wy hSw; obtain ⟨q0, q1, q2⟩ := hSw; go_simp; try with_reducible rfl
    simp only [Act.put, List.setIfInBounds_toArray, List.set_cons_zero, List.set_cons_succ]
    refine wpAnyD_takeG (i := 20) (v := (.bool true)) rfl (by kernel_rfl) (by kernel_rfl) (by kernel_rfl) (by kernel_rfl) (fun _ _ _ h => h) HT.out (by simp [Region.wanted, yielded]) ?hy20e ?_
    case hy20e => intro wy hSw; obtain ⟨q0, q1, q2⟩ := hSw; go_simp; try with_reducible rfl
    simp only [Act.put, List.setIfInBounds_toArray, List.set_cons_zero, List.set_cons_succ]
    refine wpAnyD_takeL (i := 21) (v := ?vv21e) rfl (by kernel_rfl) (by kernel_rfl) (by kernel_rfl) (by kernel_rfl) (fun _ _ _ h => h) HT.out rfl ?hy21e ?_
    case hy21e => intro wy hSw; obtain ⟨q0, q1, q2⟩ := hSw; go_simp; try with_reducible rfl
    simp only [Act.put, List.setIfInBounds_toArray, List.set_cons_zero, List.set_cons_succ]
    refine wpAnyD_takeL (i := 22) (v := ?vv22e) rfl (by kernel_rfl) (by kernel_rfl) (by kernel_rfl) (by kernel_rfl) (fun _ _ _ h => h) HT.out rfl ?hy22e ?_
    case hy22e => intro wy hSw; obtain ⟨q0, q1, q2⟩ := hSw; go_simp; try with_reducible rfl
    simp only [Act.put, List.setIfInBounds_toArray, List.set_cons_zero, List.set_cons_succ]
    refine wpAnyD_takeG (i := 23) (v := ?vv23e) rfl (by kernel_rfl) (by kernel_rfl) (by kernel_rfl) (by kernel_rfl) (fun _ _ _ h => h) HT.out (by simp [Region.wanted, yielded]) ?hy23e ?_
    case hy23e => intro wy hSw; obtain ⟨q0, q1, q2⟩ := hSw; go_simp; try with_reducible rfl
    simp only [Act.put, List.setIfInBounds_toArray, List.set_cons_zero, List.set_cons_succ]
    refine wpAnyD_takeG (i := 24) (v := ?vv24e) rfl (by kernel_rfl) (by kernel_rfl) (by kernel_rfl) (by kernel_rfl) (fun _ _ _ h => h) HT.out (by simp [Region.wanted, yielded]) ?hy24e ?_
    case hy24e => intro wy hSw; obtain ⟨q0, q1, q2⟩ := hSw; go_simp; try with_reducible rfl
    simp only [Act.put, List.setIfInBounds_toArray, List.set_cons_zero, List.set_cons_succ]
    refine wpAnyD_takeG (i := 25) (v := (.bool true)) rfl (by kernel_rfl) (by kernel_rfl) (by kernel_rfl) (by kernel_rfl) (fun _ _ _ h => h) HT.out (by simp [Region.wanted, yielded]) ?hy25e ?_
    case hy25e => intro wy hSw; obtain ⟨q0, q1, q2⟩ := hSw; go_simp; try with_reducible rfl
    simp only [Act.put, List.setIfInBounds_toArray, List.set_cons_zero, List.set_cons_succ]
    refine wpAnyD_takeL (i := 26) (v := ?vv26e) rfl (by kernel_rfl) (by kernel_rfl) (by kernel_rfl) (by kernel_rfl) (fun _ _ _ h => h) HT.out rfl ?hy26e ?_
    case hy26e => intro wy hSw; obtain ⟨q0, q1, q2⟩ := hSw; go_simp; try with_reducible rfl
    simp only [Act.put, List.setIfInBounds_toArray, List.set_cons_zero, List.set_cons_succ]
    refine wpAnyD_takeL (i := 27) (v := ?vv27e) rfl (by kernel_rfl) (by kernel_rfl) (by kernel_rfl) (by kernel_rfl) (fun _ _ _ h => h) HT.out rfl ?hy27e ?_
    case hy27e => intro wy hSw; obtain ⟨q0, q1, q2⟩ := hSw; go_simp; try with_reducible rfl
    simp only [Act.put, List.setIfInBounds_toArray, List.set_cons_zero, List.set_cons_succ]
    refine wpAnyD_takeG (i := 28) (v := ?vv28e) rfl (by kernel_rfl) (by kernel_rfl) (by kernel_rfl) (by kernel_rfl) (fun _ _ _ h => h) HT.out (by simp [Region.wanted, yielded]) ?hy28e ?_
    case hy28e => intro wy hSw; obtain ⟨q0, q1, q2⟩ := hSw; go_simp; try with_reducible rfl
    simp only [Act.put, List.setIfInBounds_toArray, List.set_cons_zero, List.set_cons_succ]
    refine wpAnyD_takeG (i := 29) (v := ?vv29e) rfl (by kernel_rfl) (by kernel_rfl) (by kernel_rfl) (by kernel_rfl) (fun _ _ _ h => h) HT.out (by simp [Region.wanted, yielded]) ?hy29e ?_
    case hy29e => intro wy hSw; obtain ⟨q0, q1, q2⟩ := hSw; go_simp; try with_reducible rfl
    simp only [Act.put, List.setIfInBounds_toArray, List.set_cons_zero, List.set_cons_succ]
    refine wpAnyD_takeG (i := 30) (v := (.bool true)) rfl (by kernel_rfl) (by kernel_rfl) (by kernel_rfl) (by kernel_rfl) (fun _ _ _ h => h) HT.out (by simp [Region.wanted, yielded]) ?hy30e ?_
    case hy30e => intro wy hSw; obtain ⟨q0, q1, q2⟩ := hSw; go_simp; try with_reducible rfl
    simp only [Act.put, List.setIfInBounds_toArray, List.set_cons_zero, List.set_cons_succ]
    refine wpAnyD_takeL (i := 31) (v := ?vv31e) rfl (by kernel_rfl) (by kernel_rfl) (by kernel_rfl) (by kernel_rfl) (fun _ _ _ h => h) HT.out rfl ?hy31e ?_
    case hy31e => intro wy hSw; obtain ⟨q0, q1, q2⟩ := hSw; go_simp; try with_reducible rfl
    simp only [Act.put, List.setIfInBounds_toArray, List.set_cons_zero, List.set_cons_succ]
    refine wpAnyD_takeL (i := 32) (v := ?vv32e) rfl (by kernel_rfl) (by kernel_rfl) (by kernel_rfl) (by kernel_rfl) (fun _ _ _ h => h) HT.out rfl ?hy32e ?_
    case hy32e => intro wy hSw; obtain ⟨q0, q1, q2⟩ := hSw; go_simp; try with_reducible rfl
    simp only [Act.put, List.setIfInBounds_toArray, List.set_cons_zero, List.set_cons_succ]
    refine wpAnyD_takeG (i := 33) (v := ?vv33e) rfl (by kernel_rfl) (by kernel_rfl) (by kernel_rfl) (by kernel_rfl) (fun _ _ _ h => h) HT.out (by simp [Region.wanted, yielded]) ?hy33e ?_
    case hy33e => intro wy hSw; obtain ⟨q0, q1, q2⟩ := hSw; go_simp; try with_reducible rfl
    simp only [Act.put, List.setIfInBounds_toArray, List.set_cons_zero, List.set_cons_succ]
    refine wpAnyD_takeG (i := 35) (v := ?vv35e) rfl (by kernel_rfl) (by kernel_rfl) (by kernel_rfl) (by kernel_rfl) (fun _ _ _ h => h) HT.out (by simp [Region.wanted, yielded]) ?hy35e ?_
    case hy35e => intro wy hSw; obtain ⟨q0, q1, q2⟩ := hSw; go_simp; try with_reducible rfl
    simp only [Act.put, List.setIfInBounds_toArray, List.set_cons_zero, List.set_cons_succ]
    refine wpAnyD_takeG (i := 36) (v := (.int .i64 (2 * (F : Int)))) rfl (by kernel_rfl) (by kernel_rfl) (by kernel_rfl) (by kernel_rfl) (fun _ _ _ h => h) HT.out (by simp [Region.wanted, yielded]) ?hy36e ?_
    case hy36e => intro wy hSw; obtain ⟨q0, q1, q2⟩ := hSw; go_simp; try with_reducible rfl
    simp only [Act.put, List.setIfInBounds_toArray, List.set_cons_zero, List.set_cons_succ]
    refine wpAnyD_takeG (i := 37) (v := ?vv37e) rfl (by kernel_rfl) (by kernel_rfl) (by kernel_rfl) (by kernel_rfl) (fun _ _ _ h => h) HT.out (by simp [Region.wanted, yielded]) ?hy37e ?_
    case hy37e => intro wy hSw; obtain ⟨q0, q1, q2⟩ := hSw; go_simp; try with_reducible rfl
    simp only [Act.put, List.setIfInBounds_toArray, List.set_cons_zero, List.set_cons_succ]
    refine wpAnyD_takeG (i := 38) (v := (.int .i64 (2 * (F : Int) + (L : Int)))) rfl (by kernel_rfl) (by kernel_rfl) (by kernel_rfl) (by kernel_rfl) (fun _ _ _ h => h) HT.out (by simp [Region.wanted, yielded]) ?hy38e ?_
    case hy38e => intro wy hSw; obtain ⟨q0, q1, q2⟩ := hSw; go_simp; try with_reducible rfl
    simp only [Act.put, List.setIfInBounds_toArray, List.set_cons_zero, List.set_cons_succ]
    refine wpAnyD_takeG (i := 39) (v := ?vv39e) rfl (by kernel_rfl) (by kernel_rfl) (by kernel_rfl) (by kernel_rfl) (fun _ _ _ h => h) HT.out (by simp [Region.wanted, yielded]) ?hy39e ?_
    case hy39e => intro wy hSw; obtain ⟨q0, q1, q2⟩ := hSw; go_simp; try with_reducible rfl
    simp only [Act.put, List.setIfInBounds_toArray, List.set_cons_zero, List.set_cons_succ]
    refine wpAnyD_takeG (i := 40) (v := (.int .i64 (2 * (F : Int) + (L : Int) + (T : Int)))) rfl (by kernel_rfl) (by kernel_rfl) (by kernel_rfl) (by kernel_rfl) (fun _ _ _ h => h) HT.out (by simp [Region.wanted, yielded]) ?hy40e ?_
    case hy40e => intro wy hSw; obtain ⟨q0, q1, q2⟩ := hSw; go_simp; try with_reducible rfl
    simp only [Act.put, List.setIfInBounds_toArray, List.set_cons_zero, List.set_cons_succ]
    refine wpAnyD_takeG (i := 41) (v := ?vv41e) rfl (by kernel_rfl) (by kernel_rfl) (by kernel_rfl) (by kernel_rfl) (fun _ _ _ h => h) HT.out (by simp [Region.wanted, yielded]) ?hy41e ?_
    case hy41e => intro wy hSw; obtain ⟨q0, q1, q2⟩ := hSw; go_simp; try with_reducible rfl
    simp only [Act.put, List.setIfInBounds_toArray, List.set_cons_zero, List.set_cons_succ]
    refine wpAnyD_takeG (i := 42) (v := (.int .i64 (2 * (F : Int) + (L : Int) + (T : Int) + (O : Int)))) rfl (by kernel_rfl) (by kernel_rfl) (by kernel_rfl) (by kernel_rfl) (fun _ _ _ h => h) HT.out (by simp [Region.wanted, yielded]) ?hy42e ?_
    case hy42e => intro wy hSw; obtain ⟨q0, q1, q2⟩ := hSw; go_simp; try with_reducible rfl
    simp only [Act.put, List.setIfInBounds_toArray, List.set_cons_zero, List.set_cons_succ]
    refine wpAnyD_stepL (i := 34) (by kernel_rfl) rfl (fun K hK => ?_)
    refine step_call (by simp [Region.wanted, yielded]) (run_call ent_pbound #[.tmp 63] _ rfl #[stV pa np cp la nl cl oa no co] rfl) (HBD.out v5 (HS.out.keep HFv5.out)) ?_
    rintro e v6 ⟨rfl, hb7⟩
    have HDv6 := hidb (HDv5.out.trans (hb7.mono HDv5.out.size))
    have HFv6 := hidb (HFv5.out.trans (hb7.mono HFv5.out.size))
    refine hK _ _ (fun _ => HSA.out _ HFv6.out) ?_
    clear hK K HT
    have HT := hidb (HSA.out _ HFv6.out)
    simp only [Act.put, List.setIfInBounds_toArray, List.set_cons_zero, List.set_cons_succ]
    refine wpAnyD_takeG (i := 43) (v := (.bool true)) rfl (by kernel_rfl) (by kernel_rfl) (by kernel_rfl) (by kernel_rfl) (fun _ _ _ h => h) HT.out (by simp [Region.wanted, yielded]) ?hy43e ?_
    case hy43e => intro wy hSw; obtain ⟨q0, q1, q2⟩ := hSw; go_simp; try with_reducible rfl
    simp only [Act.put, List.setIfInBounds_toArray, List.set_cons_zero, List.set_cons_succ]
    refine wpAnyD_takeL (i := 44) (v := ?vv44e) rfl (by kernel_rfl) (by kernel_rfl) (by kernel_rfl) (by kernel_rfl) (fun _ _ _ h => h) HT.out rfl ?hy44e ?_
    case hy44e => intro wy hSw; obtain ⟨q0, q1, q2⟩ := hSw; go_simp; try with_reducible rfl
    simp only [Act.put, List.setIfInBounds_toArray, List.set_cons_zero, List.set_cons_succ]
    refine wpAnyD_takeL (i := 45) (v := ?vv45e) rfl (by kernel_rfl) (by kernel_rfl) (by kernel_rfl) (by kernel_rfl) (fun _ _ _ h => h) HT.out rfl ?hy45e ?_
    case hy45e => intro wy hSw; obtain ⟨q0, q1, q2⟩ := hSw; go_simp; try with_reducible rfl
    simp only [Act.put, List.setIfInBounds_toArray, List.set_cons_zero, List.set_cons_succ]
    refine wpAnyD_done (by kernel_rfl) ?_ _
    go_wp2_with fail
    go_ret
    exact ⟨rfl, HDv6.out⟩
end Go.Proofs.Ytjiigabfdigkaaa


