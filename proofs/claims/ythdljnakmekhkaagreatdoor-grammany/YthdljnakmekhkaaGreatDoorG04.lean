import Derived.ScopeJumps
import Derived.WalkMore
import Derived.Test.YthdljnakmekhkaaGreatDoorG03
import Derived.Test.YthdljnakmekhkaaGreatDoorG01
import Derived.Deep.MidRow
/- A scope in which the run jumps to several labels. -/
namespace Go.Proofs.YthdljnakmekhkaaGreatDoor
open Go

/-- By a goto to label l: J l; else as Q. -/
def jumps (J : Nat → Act → World → Prop) (Q : Exit → Act → World → Prop) : Exit → Act → World → Prop
  | .goto l, a, w => J l a w
  | e, a, w => Q e a w

/-- J with a number that falls from jump to jump. -/
theorem wp_scope_ghost {P : Program} {a : Act} {w : World} {Q : Exit → Act → World → Prop} {c : Code} (rest : Nat → Code) (J : Nat → Nat → Act → World → Prop)
    (hf : ∀ n l a w, J n l a w → findLabel c l = some (rest l))
    (first : c.wp P (jumps (fun l a w => ∃ n, J n l a w) Q) a w)
    (pass : ∀ n l a w, J n l a w → (rest l).wp P (jumps (fun l' a' w' => ∃ n', n' < n ∧ J n' l' a' w') Q) a w) : (Code.scope c).wp P Q a w := by
  intro b k cs
  have key : ∀ n l a w, J n l a w → ∃ e a' w', Q e a' w' ∧ Arrives P (lone (b.at a (.code (rest l) :: .inScope c :: k)) cs w) b k cs e a' w' := by
    intro n
    induction n using Nat.strongRecOn with
    | _ n ih =>
      intro l a w hJ
      obtain ⟨e, a₁, w₁, hq, harr⟩ := pass n l a w hJ b (.inScope c :: k) cs
      cases e with
      | goto l' =>
        obtain ⟨n', hlt, hJ'⟩ := hq
        obtain ⟨e₂, a₂, w₂, hq₂, harr₂⟩ := ih n' hlt l' a₁ w₁ hJ'
        have hg : gotoIn l' (.inScope c :: k) = some (.code (rest l') :: .inScope c :: k) := by simp [gotoIn, hf n' l' a₁ w₁ hJ']
        exact ⟨e₂, a₂, w₂, hq₂, .of_steps (harr _ hg) harr₂⟩
      | normal => exact ⟨.normal, a₁, w₁, hq, Steps.trans harr (.one step_inScope)⟩
      | exit id => exact ⟨.exit id, a₁, w₁, hq, fun k' hk => harr k' (by simp [exitTo, hk])⟩
      | ret => exact ⟨_, a₁, w₁, hq, harr⟩
      | panic ch => exact ⟨_, a₁, w₁, hq, harr⟩
      | outgrown => exact ⟨_, a₁, w₁, hq, harr⟩
  obtain ⟨e, a₁, w₁, hq, harr⟩ := first b (.inScope c :: k) cs
  cases e with
  | goto l' =>
    obtain ⟨n', hJ'⟩ := hq
    obtain ⟨e₂, a₂, w₂, hq₂, harr₂⟩ := key n' l' a₁ w₁ hJ'
    have hg : gotoIn l' (.inScope c :: k) = some (.code (rest l') :: .inScope c :: k) := by simp [gotoIn, hf n' l' a₁ w₁ hJ']
    exact ⟨e₂, a₂, w₂, hq₂, .of_steps (.head step_scope (harr _ hg)) harr₂⟩
  | normal => exact ⟨.normal, a₁, w₁, hq, .head step_scope (Steps.trans harr (.one step_inScope))⟩
  | exit id => exact ⟨.exit id, a₁, w₁, hq, fun k' hk => .head step_scope (harr k' (by simp [exitTo, hk]))⟩
  | ret => exact ⟨_, a₁, w₁, hq, .of_steps (.one step_scope) harr⟩
  | panic ch => exact ⟨_, a₁, w₁, hq, .of_steps (.one step_scope) harr⟩
  | outgrown => exact ⟨_, a₁, w₁, hq, .of_steps (.one step_scope) harr⟩

theorem wp_scope2 {P : Program} {a : Act} {w : World} {Q : Exit → Act → World → Prop} {c r0 r1 : Code} (J : Nat → Nat → Act → World → Prop) (hl : ∀ n l a w, J n l a w → l = 0 ∨ l = 1)
    (h0 : findLabel c 0 = some (.seq .skip r0)) (h1 : findLabel c 1 = some (.seq .skip r1))
    (first : (∀ n a w, J n 0 a w → r0.wp P (jumps (fun l a w => ∃ n, J n l a w) Q) a w) → c.wp P (jumps (fun l a w => ∃ n, J n l a w) Q) a w)
    (p0 : ∀ n a w, J n 0 a w → r0.wp P (jumps (fun l' a' w' => ∃ n', n' < n ∧ J n' l' a' w') Q) a w)
    (p1 : ∀ n a w, J n 1 a w → r1.wp P (jumps (fun l' a' w' => ∃ n', n' < n ∧ J n' l' a' w') Q) a w) : (Code.scope c).wp P Q a w := by
  refine wp_scope_ghost (fun l => ((findLabel c l).getD .skip)) J ?_ (first fun n a w hJ => ?_) ?_
  · intro n l a w hJ
    rcases hl n l a w hJ with rfl | rfl
    · simp only [h0, Option.getD_some]
    · simp only [h1, Option.getD_some]
  · refine wp_mono (p0 n a w hJ) ?_
    intro e a' w' h
    cases e with
    | goto l => obtain ⟨n', _, h⟩ := h; exact ⟨n', h⟩
    | normal => exact h
    | exit id => exact h
    | ret => exact h
    | panic ch => exact h
    | outgrown => exact h
  · intro n l a w hJ
    rcases hl n l a w hJ with rfl | rfl
    · simp only [h0, Option.getD_some]; exact wp_seq (wp_skip (p0 n a w hJ))
    · simp only [h1, Option.getD_some]; exact wp_seq (wp_skip (p1 n a w hJ))

theorem jumps_mono {J J' : Nat → Act → World → Prop} {Q : Exit → Act → World → Prop} (h : ∀ l a w, J l a w → J' l a w) : ∀ e a w, jumps J Q e a w → jumps J' Q e a w := by
  intro e a w hq
  cases e with
  | goto l => exact h l a w hq
  | normal => exact hq
  | exit id => exact hq
  | ret => exact hq
  | panic ch => exact hq
  | outgrown => exact hq

theorem wp_scope10 {P : Program} {a : Act} {w : World} {Q : Exit → Act → World → Prop} {c r0 r1 r2 r3 r4 r5 r6 r7 r8 r9 : Code} (J : Nat → Nat → Act → World → Prop) (hl : ∀ n l a w, J n l a w → l = 0 ∨ l = 1 ∨ l = 2 ∨ l = 3 ∨ l = 4 ∨ l = 5 ∨ l = 6 ∨ l = 7 ∨ l = 8 ∨ l = 9)
    (h0 : findLabel c 0 = some (.seq .skip r0)) (h1 : findLabel c 1 = some (.seq .skip r1)) (h2 : findLabel c 2 = some (.seq .skip r2)) (h3 : findLabel c 3 = some (.seq .skip r3)) (h4 : findLabel c 4 = some (.seq .skip r4)) (h5 : findLabel c 5 = some (.seq .skip r5)) (h6 : findLabel c 6 = some (.seq .skip r6)) (h7 : findLabel c 7 = some (.seq .skip r7)) (h8 : findLabel c 8 = some (.seq .skip r8)) (h9 : findLabel c 9 = some (.seq .skip r9))
    (first : (∀ n a w, J n 0 a w → r0.wp P (jumps (fun l a w => ∃ n, J n l a w) Q) a w) → c.wp P (jumps (fun l a w => ∃ n, J n l a w) Q) a w)
    (p0 : ∀ n a w, J n 0 a w → r0.wp P (jumps (fun l' a' w' => ∃ n', n' < n ∧ J n' l' a' w') Q) a w)
    (p1 : ∀ n a w, J n 1 a w → r1.wp P (jumps (fun l' a' w' => ∃ n', n' < n ∧ J n' l' a' w') Q) a w)
    (p2 : ∀ n a w, J n 2 a w → r2.wp P (jumps (fun l' a' w' => ∃ n', n' < n ∧ J n' l' a' w') Q) a w)
    (p3 : ∀ n a w, J n 3 a w → r3.wp P (jumps (fun l' a' w' => ∃ n', n' < n ∧ J n' l' a' w') Q) a w)
    (p4 : ∀ n a w, J n 4 a w → r4.wp P (jumps (fun l' a' w' => ∃ n', n' < n ∧ J n' l' a' w') Q) a w)
    (p5 : ∀ n a w, J n 5 a w → r5.wp P (jumps (fun l' a' w' => ∃ n', n' < n ∧ J n' l' a' w') Q) a w)
    (p6 : ∀ n a w, J n 6 a w → r6.wp P (jumps (fun l' a' w' => ∃ n', n' < n ∧ J n' l' a' w') Q) a w)
    (p7 : ∀ n a w, J n 7 a w → r7.wp P (jumps (fun l' a' w' => ∃ n', n' < n ∧ J n' l' a' w') Q) a w)
    (p8 : (∀ n a w, J n 9 a w → r9.wp P (jumps (fun l' a' w' => ∃ n', n' < n ∧ J n' l' a' w') Q) a w) → ∀ n a w, J n 8 a w → r8.wp P (jumps (fun l' a' w' => ∃ n', n' < n ∧ J n' l' a' w') Q) a w)
    (p9 : ∀ n a w, J n 9 a w → r9.wp P (jumps (fun l' a' w' => ∃ n', n' < n ∧ J n' l' a' w') Q) a w) : (Code.scope c).wp P Q a w := by
  refine wp_scope_ghost (fun l => ((findLabel c l).getD .skip)) J ?_ (first fun n a w hJ => ?_) ?_
  · intro n l a w hJ
    rcases hl n l a w hJ with rfl | rfl | rfl | rfl | rfl | rfl | rfl | rfl | rfl | rfl
    · simp only [h0, Option.getD_some]
    · simp only [h1, Option.getD_some]
    · simp only [h2, Option.getD_some]
    · simp only [h3, Option.getD_some]
    · simp only [h4, Option.getD_some]
    · simp only [h5, Option.getD_some]
    · simp only [h6, Option.getD_some]
    · simp only [h7, Option.getD_some]
    · simp only [h8, Option.getD_some]
    · simp only [h9, Option.getD_some]
  · refine wp_mono (p0 n a w hJ) ?_
    intro e a' w' h
    cases e with
    | goto l => obtain ⟨n', _, h⟩ := h; exact ⟨n', h⟩
    | normal => exact h
    | exit id => exact h
    | ret => exact h
    | panic ch => exact h
    | outgrown => exact h
  · intro n l a w hJ
    rcases hl n l a w hJ with rfl | rfl | rfl | rfl | rfl | rfl | rfl | rfl | rfl | rfl
    · simp only [h0, Option.getD_some]; exact wp_seq (wp_skip (p0 n a w hJ))
    · simp only [h1, Option.getD_some]; exact wp_seq (wp_skip (p1 n a w hJ))
    · simp only [h2, Option.getD_some]; exact wp_seq (wp_skip (p2 n a w hJ))
    · simp only [h3, Option.getD_some]; exact wp_seq (wp_skip (p3 n a w hJ))
    · simp only [h4, Option.getD_some]; exact wp_seq (wp_skip (p4 n a w hJ))
    · simp only [h5, Option.getD_some]; exact wp_seq (wp_skip (p5 n a w hJ))
    · simp only [h6, Option.getD_some]; exact wp_seq (wp_skip (p6 n a w hJ))
    · simp only [h7, Option.getD_some]; exact wp_seq (wp_skip (p7 n a w hJ))
    · simp only [h8, Option.getD_some]; exact wp_seq (wp_skip (p8 p9 n a w hJ))
    · simp only [h9, Option.getD_some]; exact wp_seq (wp_skip (p9 n a w hJ))
end Go.Proofs.YthdljnakmekhkaaGreatDoor


/- Quotations. -/
namespace Go.Proofs.YthdljnakmekhkaaGreatDoor
open Go.RowKit Go.Lib
attribute [local go_sem] store_float f64bits
attribute [local go_sem ↓] Go.wp_at_zero Go.wp_at_succ

/-- What stands in a quotation, and the place behind it. -/
def quotN (s : ByteArray) (m : Nat) : Nat → Nat → List UInt8 → Option (List UInt8 × Nat)
  | 0, _, _ => none
  | k + 1, p, acc =>
    if goes (pIn m) s p < s.size then
      if bt s (goes (pIn m) s p) = m then some (acc ++ (s.extract p (goes (pIn m) s p)).data.toList, goes (pIn m) s p + 1)
      else (escAt s (goes (pIn m) s p + 1)).bind fun x => quotN s m k x.2 (acc ++ (s.extract p (goes (pIn m) s p)).data.toList ++ [UInt8.ofNat x.1])
    else none

def quotE (s : ByteArray) (m k q : Nat) (acc : List UInt8) : Option (List UInt8 × Nat) := (escAt s q).bind fun x => quotN s m k x.2 (acc ++ [UInt8.ofNat x.1])

theorem e_in : ∀ args w, (callFunc 96 args).run Tryz.prog w = .ok (.enter 96 args) w := enters_of Tryz.func96 (by kernel_rfl) rfl

theorem isIn_any (m mk n : Nat) (w : World) (hc : w.cell? ⟨mk, 0, none⟩ = some (.int .i32 (m : Int))) : Calls Tryz.prog 96 #[.int .i32 (n : Int), .pointer (some ⟨mk, 0, none⟩)] w fun e w' => e = .returned (.bool (pIn m n)) ∧ w' = w := by
  unfold pIn
  by_cases h1 : n = m
  · subst h1
    go_enter Tryz.func96, Tryz.ntmps96
    go_wp2
    go_ret
    exact ⟨by simp, rfl⟩
  · have h2 : ((n : Int) != (m : Int)) = true := by simp; omega
    have h3 : ((n : Int) == (m : Int)) = false := by simp; omega
    have h4 : (n != m) = true := by simpa using h1
    go_enter Tryz.func96, Tryz.ntmps96
    go_wp2
    go_ret
    refine ⟨?_, rfl⟩
    rw [h4]
    simp
    rw [Bool.eq_iff_iff]; simp; omega

theorem Duo.low {B : Nat} {w w' : World} {b : Nat} {v0 v1 : Value} (h : Duo w b v0 v1) (hb : Below B w w') (hB : b < B) : Duo w' b v0 v1 :=
  h.but (S := fun k => B ≤ k) ⟨hb.os, hb.tape, hb.output, hb.size, fun k _ hs => hb.block k (Nat.lt_of_not_le hs)⟩ (by omega)

/-- Of the blocks below B only b has turned. -/
abbrev Bt (B b : Nat) (w w' : World) : Prop := But (fun k => k = b ∨ B ≤ k) w w'
theorem Bt.one {B b : Nat} {w w' : World} (h : But (· = b) w w') : Bt B b w w' := h.mono fun _ _ e => .inl e
theorem Bt.low {B b : Nat} {w w' : World} (h : Below B w w') : Bt B b w w' := ⟨h.os, h.tape, h.output, h.size, fun k _ hs => h.block k (Nat.lt_of_not_le fun e => hs (.inr e))⟩

/-- The run's frame at its labels. -/
def QF (b : Nat) (m : Int) (mk bd : Nat) (a : Act) : Prop := ∃ u7 u8 u9 u10 u11 u12 u13 u14 u15 u16 u17 u18 u19 u20 u21 u22 u23 u24 u25 u26 u27 u28 u29 : Value, a = { tmps := #[.pointer (some ⟨b, 0, none⟩), .int .i32 m, undef, .pointer (some ⟨mk, 0, none⟩), .string ⟨#[]⟩, .bool false, .pointer (some ⟨bd, 0, none⟩), u7, u8, u9, u10, u11, u12, u13, u14, u15, u16, u17, u18, u19, u20, u21, u22, u23, u24, u25, u26, u27, u28, u29], defers := [] }

structure QW (s : ByteArray) (b B bd : Nat) (W1 wx : World) (p : Nat) (acc : List UInt8) : Prop where
  sc : Sc wx b s p
  bt : Bt B b W1 wx
  bd : Lib.IsBuilderF TB TU B bd (Lib.byteCells acc) wx
  le : p ≤ s.size
  ac : acc.length ≤ p

def QJ (s : ByteArray) (m b mk bd B : Nat) (W1 : World) (o : Option (List UInt8 × Nat)) (n l : Nat) (a : Act) (wx : World) : Prop :=
  QF b m mk bd a ∧ ((l = 0 ∧ ∃ k p acc, n = 2 * k ∧ s.size < p + k ∧ quotN s m k p acc = o ∧ QW s b B bd W1 wx p acc) ∨ (l = 1 ∧ ∃ k q acc, n = 2 * k + 1 ∧ s.size < q + k ∧ quotE s m k q acc = o ∧ QW s b B bd W1 wx q acc))

def quV (o : Option (List UInt8 × Nat)) : Value := .tuple #[.string ⟨((o.map Prod.fst).getD []).toArray⟩, .bool o.isSome]

set_option maxHeartbeats 1000000 in
theorem quoted_any (s : ByteArray) (i b m : Nat) (hm : m = 39 ∨ m = 34) (hi : i ≤ s.size) (hs : s.size ≤ 65536) (w : World) (h : Sc w b s i) (hT : Lib.Utf8Tabs G1 G2 w) (hg : GB ≤ b) :
    Calls Tryz.prog 74 #[.pointer (some ⟨b, 0, none⟩), .int .i32 (m : Int)] w fun e w' => e = .returned (quV (quotN s m (s.size + 1) i [])) ∧ But (· = b) w w' ∧ ∃ j, j ≤ s.size ∧ Sc w' b s j ∧ ∀ l e, quotN s m (s.size + 1) i [] = some (l, e) → j = e := by
  have hlt := h.lt
  obtain ⟨o, ho⟩ : ∃ o, quotN s m (s.size + 1) i [] = o := ⟨_, rfl⟩
  rw [ho]
  go_enter Tryz.func74, Tryz.ntmps74
  go_wp2_with fail
  refine wp_scope2 (QJ s m b w.heap.size (w.heap.size + 1) (w.heap.size + 1) (w.alloc (Obj.cells #[Value.int IntKind.i32 (m : Int)] 21)) o) ?hl rfl rfl ?first ?p0 ?p1
  case hl =>
    rintro n l a wx ⟨_, ⟨rfl, _⟩ | ⟨rfl, _⟩⟩
    · exact .inl rfl
    · exact .inr rfl
  case first =>
    intro H0
    go_wp2_with fail
    go_step3
    rename_i K hK
    refine hK _ _ ?_
    refine H0 (2 * (s.size + 1)) _ _ ⟨⟨_, _, _, _, _, _, _, _, _, _, _, _, _, _, _, _, _, _, _, _, _, _, _, rfl⟩, .inl ⟨rfl, s.size + 1, i, [], rfl, by omega, ho, ?_⟩⟩
    have hB1 : (w.alloc (Obj.cells #[Value.int IntKind.i32 (m : Int)] 21)).heap.size = w.heap.size + 1 := by simp
    have hbn := bd_new (w.alloc (Obj.cells #[Value.int IntKind.i32 (m : Int)] 21)) (w.heap.size + 1) (by omega)
    rw [hB1] at hbn
    exact ⟨Duo.keep (Duo.keep h (below_new _ _)) (below_new _ _), Bt.low ((Below.refl _ _).alloc (by omega) _), hbn, hi, by simp⟩
  case p0 =>
    rintro n a wx ⟨⟨u7, u8, u9, u10, u11, u12, u13, u14, u15, u16, u17, u18, u19, u20, u21, u22, u23, u24, u25, u26, u27, u28, u29, rfl⟩, ⟨_, k, p, acc, rfl, hk, hq, hW⟩ | ⟨h01, _⟩⟩
    case inr => cases h01
    have hB1 : (w.alloc (Obj.cells #[Value.int IntKind.i32 (m : Int)] 21)).heap.size = w.heap.size + 1 := by simp
    have hmark : (w.alloc (Obj.cells #[Value.int IntKind.i32 (m : Int)] 21)).cell? ⟨w.heap.size, 0, none⟩ = some (.int .i32 (m : Int)) := by rw [World.cell?_alloc_new]; rfl
    have GT : ∀ {w1 : World}, Bt (w.heap.size + 1) b (w.alloc (Obj.cells #[Value.int IntKind.i32 (m : Int)] 21)) w1 → Lib.Utf8Tabs G1 G2 w1 ∧ w1.cell? ⟨w.heap.size, 0, none⟩ = some (.int .i32 (m : Int)) ∧ w.heap.size + 1 ≤ w1.heap.size := by
      intro w1 hb
      have hz := hb.size
      have hT1 := Utf8Tabs_below hT (below_new w (Obj.cells #[Value.int IntKind.i32 (m : Int)] 21))
      have ht := cell_lt (hT.1 0 (by omega))
      have ht2 := cell_lt ((hT.2 0 (by omega)).1)
      unfold GB at hg
      simp only at ht ht2
      exact ⟨Utf8Tabs_but hT1 hb (fun e => by unfold G1 at *; omega) (fun e => by unfold G2 at *; omega), (hb.cell (p := ⟨w.heap.size, 0, none⟩) (by simp) (by simp; omega)).trans hmark, by omega⟩
    obtain ⟨k, rfl⟩ : ∃ k', k = k' + 1 := ⟨k - 1, by have := hW.le; omega⟩
    have hmk := (GT hW.bt).2.1
    have cT := take_any 96 #[.pointer (some ⟨w.heap.size, 0, none⟩)] e_in (pIn m) true (flat_in m (by omega)) s p b hW.le hs wx hW.sc (fun W x _ hbW => isIn_any m w.heap.size x W ((hbW.cell (cell_lt hmk)).trans hmk))
    have hge := goes_ge (pIn m) s p
    have hgl := goes_le (pIn m) s p hW.le
    have hgn := goes_not (pIn m) s p
    have hnx := nx_low (s := s) (i := goes (pIn m) s p)
    have hne := nx_end (s := s) (i := goes (pIn m) s p)
    have cN := fun W h1 h2 => next_any s (goes (pIn m) s p) b hgl hs W h1 h2
    have hXs : (s.extract p (goes (pIn m) s p)).size = goes (pIn m) s p - p := by rw [size_ext]; omega
    unfold quotN at hq
    obtain ⟨q, hqe⟩ : ∃ q, goes (pIn m) s p = q := ⟨_, rfl⟩
    rw [hqe] at cT hge hgl hgn hnx hne cN hXs hq
    obtain ⟨X, hX⟩ : ∃ X, s.extract p q = X := ⟨_, rfl⟩
    rw [hX] at cT hXs hq
    have cW := fun w1 h1 h2 => writeString_k (w.heap.size + 1) (w.heap.size + 1) (Lib.byteCells acc) X w1 h1 (by have := hW.ac; rw [Lib.byteCells_length]; omega) h2
    have eacc : Lib.byteCells acc ++ Lib.strCells X = Lib.byteCells (acc ++ X.data.toList) := by rw [Lib.strCells_eq, Lib.byteCells_append]
    simp only [eacc] at cW
    have hXl : X.data.toList.length = X.size := rfl
    have HW := hidb hW
    clear hW hqe hX eacc hmark hmk h ho
    have hmm : ((m : Int) == (m : Int)) = true := by simp
    have m1 : ((92 : Int) == (m : Int)) = false := by rcases hm with rfl | rfl <;> decide
    have m2 : ((-1 : Int) == (m : Int)) = false := by rcases hm with rfl | rfl <;> decide
    by_cases hlq : q < s.size
    · rw [if_pos hlq] at hq
      have hgn2 := hgn hlq
      by_cases hbm : bt s q = m
      · rw [if_pos hbm] at hq
        have hx := hnx hlq (by omega)
        rw [hx.1, hx.2, hbm] at cN
        clear hx hnx hne hgn hgn2 hbm
        go_wp2_with (first
        | (go_at_call 33; refine cT.mono ?_; rintro e w1 ⟨rfl, hs1, hb1⟩; have HS1 := hidb hs1; have HB1 := hidb (HW.out.bt.trans (Bt.one hb1)); have HD1 := hidb (bd_but HW.out.bd hb1 (fun k e => by omega)))
        | (go_at_call 95; refine (cW _ HD1.out (GT HB1.out).2.2).mono ?_; rintro e w2 ⟨rfl, hd2, hb2, _⟩; have HB2 := hidb (HB1.out.trans (Bt.low hb2)); have HS2 := hidb (Duo.low HS1.out hb2 (by omega)); have HD2 := hidb hd2)
        | (go_at_call 65; refine (cN _ HS2.out (GT HB2.out).1).mono ?_; rintro e w3 ⟨rfl, hs3, hb3⟩; have HS3 := hidb hs3; have HB3 := hidb (HB2.out.trans (Bt.one hb3)); have HD3 := hidb (bd_but (.inr HD2.out) hb3 (fun k e => by omega)); have hmk3 := (GT HB3.out).2.1)
        | (go_at_call 97; refine (Tryz.Builder_String_any_k (w.heap.size + 1) (w.heap.size + 1) (acc ++ X.data.toList) _ HD3.out (GT HB3.out).2.2).mono ?_; rintro e w4 ⟨rfl, _, hb4, _⟩; have HB4 := hidb (HB3.out.trans (Bt.low hb4)); have HS4 := hidb (Duo.low HS3.out hb4 (by omega))))
        have HF := (But.of_below (S := (· = b)) (below_new w (Obj.cells #[Value.int IntKind.i32 (m : Int)] 21))).trans ((HB4.out.mono (S' := (· = b)) (fun k hk e => e.elim id (fun e => absurd hk (by rw [hB1]; omega)))))
        subst hq
        simp only [jumps]
        exact bodyPost_ret (v := .tuple #[.string ⟨(acc ++ X.data.toList).toArray⟩, .bool true]) (by simp [results, Tryz.results74, go_sem]) rfl ⟨rfl, HF, q + 1, by omega, HS4.out, fun l e h => by cases h; rfl⟩
      · rw [if_neg hbm] at hq
        have hb92 : bt s q = 92 := by simp [pIn] at hgn2; omega
        have hx := hnx hlq (by omega)
        rw [hx.1, hx.2, hb92] at cN
        clear hx hnx hne hgn hgn2 hbm hb92
        go_wp2_with (first
        | (go_at_call 33; refine cT.mono ?_; rintro e w1 ⟨rfl, hs1, hb1⟩; have HS1 := hidb hs1; have HB1 := hidb (HW.out.bt.trans (Bt.one hb1)); have HD1 := hidb (bd_but HW.out.bd hb1 (fun k e => by omega)))
        | (go_at_call 95; refine (cW _ HD1.out (GT HB1.out).2.2).mono ?_; rintro e w2 ⟨rfl, hd2, hb2, _⟩; have HB2 := hidb (HB1.out.trans (Bt.low hb2)); have HS2 := hidb (Duo.low HS1.out hb2 (by omega)); have HD2 := hidb hd2)
        | (go_at_call 65; refine (cN _ HS2.out (GT HB2.out).1).mono ?_; rintro e w3 ⟨rfl, hs3, hb3⟩; have HS3 := hidb hs3; have HB3 := hidb (HB2.out.trans (Bt.one hb3)); have HD3 := hidb (bd_but (.inr HD2.out) hb3 (fun k e => by omega)); have hmk3 := (GT HB3.out).2.1)
        | fail)
        go_step3
        exact ⟨2 * k + 1, by omega, ⟨_, _, _, _, _, _, _, _, _, _, _, _, _, _, _, _, _, _, _, _, _, _, _, rfl⟩, .inr ⟨rfl, k, q + 1, acc ++ X.data.toList, rfl, by omega, hq, ⟨HS3.out, HB3.out, HD3.out, by omega, by rw [List.length_append, hXl]; have := HW.out.ac; omega⟩⟩⟩
    · rw [if_neg hlq] at hq
      have hx := hne (by omega)
      rw [hx.1, hx.2] at cN
      clear hx hnx hne hgn
      go_wp2_with (first
      | (go_at_call 33; refine cT.mono ?_; rintro e w1 ⟨rfl, hs1, hb1⟩; have HS1 := hidb hs1; have HB1 := hidb (HW.out.bt.trans (Bt.one hb1)); have HD1 := hidb (bd_but HW.out.bd hb1 (fun k e => by omega)))
      | (go_at_call 95; refine (cW _ HD1.out (GT HB1.out).2.2).mono ?_; rintro e w2 ⟨rfl, hd2, hb2, _⟩; have HB2 := hidb (HB1.out.trans (Bt.low hb2)); have HS2 := hidb (Duo.low HS1.out hb2 (by omega)); have HD2 := hidb hd2)
      | (go_at_call 65; refine (cN _ HS2.out (GT HB2.out).1).mono ?_; rintro e w3 ⟨rfl, hs3, hb3⟩; have HS3 := hidb hs3; have HB3 := hidb (HB2.out.trans (Bt.one hb3)); have HD3 := hidb (bd_but (.inr HD2.out) hb3 (fun k e => by omega)); have hmk3 := (GT HB3.out).2.1)
      | fail)
      have HF := (But.of_below (S := (· = b)) (below_new w (Obj.cells #[Value.int IntKind.i32 (m : Int)] 21))).trans (HB3.out.mono (S' := (· = b)) (fun k hk e => e.elim id (fun e => absurd hk (by rw [hB1]; omega))))
      subst hq
      simp only [jumps]
      exact bodyPost_ret (v := .tuple #[.string ⟨#[]⟩, .bool false]) (by simp [results, Tryz.results74, go_sem]) rfl ⟨rfl, HF, q, by omega, HS3.out, fun l e h => by cases h⟩
  case p1 =>
    rintro n a wx ⟨⟨u7, u8, u9, u10, u11, u12, u13, u14, u15, u16, u17, u18, u19, u20, u21, u22, u23, u24, u25, u26, u27, u28, u29, rfl⟩, ⟨h01, _⟩ | ⟨_, k, p, acc, rfl, hk, hq, hW⟩⟩
    case inl => cases h01
    have hB1 : (w.alloc (Obj.cells #[Value.int IntKind.i32 (m : Int)] 21)).heap.size = w.heap.size + 1 := by simp
    have GT : ∀ {w1 : World}, Bt (w.heap.size + 1) b (w.alloc (Obj.cells #[Value.int IntKind.i32 (m : Int)] 21)) w1 → Lib.Utf8Tabs G1 G2 w1 ∧ w.heap.size + 1 ≤ w1.heap.size := by
      intro w1 hb
      have hz := hb.size
      have hT1 := Utf8Tabs_below hT (below_new w (Obj.cells #[Value.int IntKind.i32 (m : Int)] 21))
      have ht := cell_lt (hT.1 0 (by omega))
      have ht2 := cell_lt ((hT.2 0 (by omega)).1)
      unfold GB at hg
      simp only at ht ht2
      exact ⟨Utf8Tabs_but hT1 hb (fun e => by unfold G1 at *; omega) (fun e => by unfold G2 at *; omega), by omega⟩
    have cE := escaped_any s p b hW.le hs wx hW.sc (GT hW.bt).1 hg
    unfold quotE at hq
    obtain ⟨x, hx⟩ : ∃ x, escAt s p = x := ⟨_, rfl⟩
    have hxl := fun c e h => esc_lt (s := s) (p := p) (c := c) (e := e) (hx.trans h)
    rw [hx] at cE hq
    have HW := hidb hW
    clear hW hx h ho
    cases x with
    | none =>
      simp only [Option.bind_none] at hq
      subst hq
      go_wp2_with (first
        | (go_at_call 98; refine cE.mono ?_; rintro e w1 ⟨rfl, hb1, j, hj1, hs1, hj2⟩; have HS1 := hidb hs1; have HB1 := hidb (HW.out.bt.trans (Bt.one hb1)); have HJ := hidb hj1; clear hj1 hj2))
      have HF := (But.of_below (S := (· = b)) (below_new w (Obj.cells #[Value.int IntKind.i32 (m : Int)] 21))).trans (HB1.out.mono (S' := (· = b)) (fun k hk e => e.elim id (fun e => absurd hk (by rw [hB1]; omega))))
      simp only [jumps]
      exact bodyPost_ret (v := .tuple #[.string ⟨#[]⟩, .bool false]) (by simp [results, Tryz.results74, go_sem]) rfl ⟨rfl, HF, j, HJ.out, HS1.out, fun l e h => by cases h⟩
    | some ce =>
      obtain ⟨c, e⟩ := ce
      obtain ⟨hc, hpe, hes⟩ := hxl c e rfl
      simp only [Option.bind_some, Option.map_some, Option.getD_some, Option.isSome_some] at hq cE
      have hcell : Lib.byteCells acc ++ [.int .u8 (c : Int)] = Lib.byteCells (acc ++ [UInt8.ofNat c]) := by
        rw [Lib.byteCells_append]
        simp [Lib.byteCells]
        omega
      have cW := fun w1 h1 h2 => writeByte_k (w.heap.size + 1) (w.heap.size + 1) (Lib.byteCells acc) (c : Int) w1 h1 (by have := HW.out.ac; have := HW.out.le; rw [Lib.byteCells_length]; omega) h2
      simp only [hcell] at cW
      clear hcell hxl
      go_wp2_with (first
        | (go_at_call 98; refine cE.mono ?_; rintro er w1 ⟨rfl, hb1, j, hj1, hs1, hj2⟩; obtain rfl := hj2 c e rfl; have HS1 := hidb hs1; have HB1 := hidb (HW.out.bt.trans (Bt.one hb1)); have HD1 := hidb (bd_but HW.out.bd hb1 (fun k e => by omega)); clear hj1 hj2)
        | (go_at_call 99; refine (cW _ HD1.out (GT HB1.out).2).mono ?_; rintro er w2 ⟨rfl, hd2, hb2, _⟩; have HB2 := hidb (HB1.out.trans (Bt.low hb2)); have HS2 := hidb (Duo.low HS1.out hb2 (by omega)); have HD2 := hidb hd2))
      go_step3
      exact ⟨2 * k, by omega, ⟨_, _, _, _, _, _, _, _, _, _, _, _, _, _, _, _, _, _, _, _, _, _, _, rfl⟩, .inl ⟨rfl, k, j, acc ++ [UInt8.ofNat c], rfl, by omega, hq, ⟨HS2.out, HB2.out, .inr HD2.out, by omega, by rw [List.length_append]; have := HW.out.ac; simp; omega⟩⟩⟩
end Go.Proofs.YthdljnakmekhkaaGreatDoor


/- Quotations as tokens. -/
namespace Go.Proofs.YthdljnakmekhkaaGreatDoor
open Go.RowKit Go.Lib
attribute [local go_sem] store_float f64bits
attribute [local go_sem ↓] Go.wp_at_zero Go.wp_at_succ

def atomV (x : ByteArray) : Value := if 64 < x.size then badV 23 else .tuple #[.agg #[.int .i64 (1), .string (x), .int .i64 (0), .float .f64 (0), .int .i64 (0)], .int .i64 0]
theorem atomV_tk (x : ByteArray) : IsTk (atomV x) := by
  unfold atomV
  split
  · exact badV_tk _
  · exact ⟨_, _, _, _, _, rfl⟩

def quoteV (s : ByteArray) (i : Nat) : Value :=
  match quotN s (bt s i) (s.size + 1) (i + 1) [] with
  | some (l, _) => if bt s i = 39 then atomV ⟨l.toArray⟩ else .tuple #[.agg #[.int .i64 (5), .string (⟨l.toArray⟩), .int .i64 (0), .float .f64 (0), .int .i64 (0)], .int .i64 0]
  | none => badV 23
def quoteE (s : ByteArray) (i : Nat) : Nat := ((quotN s (bt s i) (s.size + 1) (i + 1) []).map Prod.snd).getD i

theorem quotN_len (s : ByteArray) (m : Nat) : ∀ k p acc l e, p ≤ s.size → quotN s m k p acc = some (l, e) → l.length + p ≤ acc.length + e ∧ e ≤ s.size ∧ p < e := by
  intro k
  induction k with
  | zero => intro p acc l e _ h; cases h
  | succ k ih =>
    intro p acc l e hp h
    have h1 := goes_ge (pIn m) s p
    have h2 := goes_le (pIn m) s p hp
    have h3 : ((s.extract p (goes (pIn m) s p)).data.toList).length = goes (pIn m) s p - p := by
      have : (s.extract p (goes (pIn m) s p)).size = goes (pIn m) s p - p := by rw [size_ext]; omega
      exact this
    simp only [quotN] at h
    split at h
    · split at h
      · cases h
        rw [List.length_append, h3]
        omega
      · cases hx : escAt s (goes (pIn m) s p + 1) with
        | none => rw [hx] at h; cases h
        | some x =>
          rw [hx] at h
          obtain ⟨c, e'⟩ := x
          have h4 := esc_lt hx
          simp only [Option.bind_some] at h
          have h5 := ih _ _ _ _ (by omega) h
          rw [List.length_append, List.length_append, h3] at h5
          simp at h5
          omega
    · cases h

set_option maxHeartbeats 1000000 in
theorem quotation_any (s : ByteArray) (i b : Nat) (hi : i < s.size) (hm : bt s i = 39 ∨ bt s i = 34) (hs : s.size ≤ 65536) (w : World) (h : Sc w b s i) (hT : Lib.Utf8Tabs G1 G2 w) (hg : GB ≤ b) :
    Calls Tryz.prog 44 #[.pointer (some ⟨b, 0, none⟩)] w fun e w' => e = .returned (quoteV s i) ∧ But (· = b) w w' ∧ ∃ j, j ≤ s.size ∧ Sc w' b s j ∧ (okV (quoteV s i) = true → j = quoteE s i) := by
  have hlt := h.lt
  have GT1 : ∀ {w1 : World}, But (· = b) w w1 → Lib.Utf8Tabs G1 G2 w1 := fun hb => Utf8Tabs_but hT hb (fun e => by unfold GB at hg; unfold G1 at e; omega) (fun e => by unfold GB at hg; unfold G2 at e; omega)
  have cN := next_any s i b (by omega) hs (wbox w) (Duo.keep h (wbox_below w)) (GT1 (But.of_below (wbox_below w)))
  have hnx := nx_low hi (by omega)
  rw [hnx.1, hnx.2] at cN
  have cQ := fun W h1 h2 => quoted_any s (i + 1) b (bt s i) hm (by omega) hs W h1 h2 hg
  have hql := quotN_len s (bt s i) (s.size + 1) (i + 1) []
  unfold quoteV quoteE
  obtain ⟨o, ho⟩ : ∃ o, quotN s (bt s i) (s.size + 1) (i + 1) [] = o := ⟨_, rfl⟩
  rw [ho] at cQ ⊢
  have hql2 := fun l e hh => hql l e (by omega) (ho.trans hh)
  obtain ⟨m, hmm⟩ : ∃ m, bt s i = m := ⟨_, rfl⟩
  rw [hmm] at cN cQ hm ⊢
  clear hnx ho hmm hql hT
  cases o with
  | none =>
    simp only [quV, Option.map_none, Option.getD_none, Option.isSome_none] at cQ
    go_enter Tryz.func44, Tryz.ntmps44
    go_wp2_with (first
      | (go_at_call 65; refine cN.mono ?_; rintro e w1 ⟨rfl, hs1, hb1⟩; have HS1 := hidb hs1; have HB1 := hidb ((But.of_below (wbox_below w)).trans hb1); have HX1 := hidb ((wbox_box w).but hb1 (by omega)))
      | (go_at_call 74; refine (cQ _ HS1.out (GT1 HB1.out)).mono ?_; rintro e w2 ⟨rfl, hb2, j, hj1, hs2, hj2⟩; have HS2 := hidb hs2; have HB2 := hidb (HB1.out.trans hb2); have HJ := hidb hj1; have HX2 := hidb (HX1.out.but hb2 (by omega)); obtain ⟨d0, d1, d2, d3, d4, g0, g1, g2, g3, g4, _⟩ := HX2.out; clear hj1 hj2))
    exact bodyPost_ret (v := badV 23) (by simp [results, Tryz.results44, go_sem, d0, d1, d2, d3, d4]) rfl ⟨rfl, HB2.out.set5 (fun h => absurd h (Nat.lt_irrefl _)) _ _ _ _ _, j, HJ.out, Duo.set5 HS2.out (by omega) _ _ _ _ _, fun h => by cases h⟩
  | some le =>
    obtain ⟨l, en⟩ := le
    obtain ⟨hl1, hl2, hl3⟩ := hql2 l en rfl
    simp only [quV, Option.map_some, Option.getD_some, Option.isSome_some] at cQ ⊢
    obtain ⟨X, hX⟩ : ∃ X, (⟨l.toArray⟩ : ByteArray) = X := ⟨_, rfl⟩
    have hXs : X.size ≤ 65536 := by rw [← hX]; simp [ByteArray.size]; simp at hl1; omega
    rw [hX] at cQ ⊢
    clear hX hql2 hl1
    rcases hm with rfl | rfl
    · have cA := atom_any X hXs
      change ∀ w, Calls Tryz.prog 68 #[.string X] w fun e w' => e = .returned (atomV X) ∧ Below w.heap.size w w' at cA
      obtain ⟨k, x, n, f, er, hV⟩ := atomV_tk X
      simp only [hV, if_true] at cA ⊢
      clear hV
      go_enter Tryz.func44, Tryz.ntmps44
      go_wp2_with (first
        | (go_at_call 65; refine cN.mono ?_; rintro e w1 ⟨rfl, hs1, hb1⟩; have HS1 := hidb hs1; have HB1 := hidb ((But.of_below (wbox_below w)).trans hb1); have HX1 := hidb ((wbox_box w).but hb1 (by omega)))
        | (go_at_call 74; refine (cQ _ HS1.out (GT1 HB1.out)).mono ?_; rintro e w2 ⟨rfl, hb2, j, hj1, hs2, hj2⟩; obtain rfl := hj2 l en rfl; have HS2 := hidb hs2; have HB2 := hidb (HB1.out.trans hb2); have HX2 := hidb (HX1.out.but hb2 (by omega)); clear hj1 hj2)
        | (go_at_call 68; refine (cA _).mono ?_; rintro e w3 ⟨rfl, hb3⟩; have HB3 := hidb hb3; obtain ⟨z0, z1, z2, z3, z4, y0, y1, y2, y3, y4, _⟩ := HX2.out.keep hb3))
      exact bodyPost_ret (v := .tuple #[.agg #[.int .i64 (k), .string (x), .int .i64 (n), .float .f64 (f), .int .i64 (0)], .int .i64 er]) (by simp [results, Tryz.results44, go_sem, z0, z1, z2, z3, z4]) rfl ⟨rfl, (HB2.out.trans (But.of_below HB3.out)).set5 (fun h => absurd h (Nat.lt_irrefl _)) _ _ _ _ _, j, hl2, Duo.set5 (Duo.keep HS2.out HB3.out) (by omega) _ _ _ _ _, fun _ => rfl⟩
    · have h34 : ¬ ((34 : Nat) = 39) := by omega
      simp only [h34, if_false]
      go_enter Tryz.func44, Tryz.ntmps44
      go_wp2_with (first
        | (go_at_call 65; refine cN.mono ?_; rintro e w1 ⟨rfl, hs1, hb1⟩; have HS1 := hidb hs1; have HB1 := hidb ((But.of_below (wbox_below w)).trans hb1); have HX1 := hidb ((wbox_box w).but hb1 (by omega)))
        | (go_at_call 74; refine (cQ _ HS1.out (GT1 HB1.out)).mono ?_; rintro e w2 ⟨rfl, hb2, j, hj1, hs2, hj2⟩; obtain rfl := hj2 l en rfl; have HS2 := hidb hs2; have HB2 := hidb (HB1.out.trans hb2); have HX2 := hidb (HX1.out.but hb2 (by omega)); obtain ⟨d0, d1, d2, d3, d4, g0, g1, g2, g3, g4, _⟩ := HX2.out; clear hj1 hj2))
      exact bodyPost_ret (v := .tuple #[.agg #[.int .i64 (5), .string (X), .int .i64 (0), .float .f64 (0), .int .i64 (0)], .int .i64 0]) (by simp [results, Tryz.results44, go_sem, d0, d1, d2, d3, d4]) rfl ⟨rfl, HB2.out.set5 (fun h => absurd h (Nat.lt_irrefl _)) _ _ _ _ _, j, hl2, Duo.set5 HS2.out (by omega) _ _ _ _ _, fun _ => rfl⟩
end Go.Proofs.YthdljnakmekhkaaGreatDoor


/- Signs. -/
namespace Go.Proofs.YthdljnakmekhkaaGreatDoor
open Go.RowKit Go.Lib
attribute [local go_sem] store_float f64bits
attribute [local go_sem ↓] Go.wp_at_zero Go.wp_at_succ

abbrev GS : Nat := 1

def signL : List (List UInt8) := [[61, 58, 61], [61, 47, 61], [45, 62], [61, 61], [47, 61], [61, 60], [62, 61], [43, 43], [40], [41], [123], [125], [91], [93], [44], [59], [46], [124], [61], [60], [62], [43], [45], [42], [47], [33], [58]]

def signV : List Value := signL.map fun l => .string ⟨l.toArray⟩

/-- The table of signs lies where it must. -/
def SignTab (w : World) : Prop := w.rangeAt GS 0 signV

theorem sign_at (j : Nat) (l : List UInt8) (hl : signL[j]? = some l) : signV.toArray[j]? = some (.string ⟨l.toArray⟩) := by
  simp [signV, hl]

theorem index_sign (W : World) (j : Nat) (l : List UInt8) (hl : signL[j]? = some l) : (Instr.index 95 (.agg signV.toArray) (.int .i64 (j : Int))).run Tryz.prog W = .ok (.string ⟨l.toArray⟩) W := by
  have hj : j < 27 := by
    have := (List.getElem?_eq_some_iff.1 hl).1
    simpa [signL] using this
  have hv := sign_at j l hl
  have h1 : (0 : Int) ≤ (j : Int) := by omega
  have h2 : (j : Int) < 27 := by omega
  have hi : (Tryz.prog.info? 9).map (fun i => (i.size)) = some 1 := by kernel_rfl
  generalize signV.toArray = A at *
  cases hq : Tryz.prog.info? 9 with
  | none => simp [hq] at hi
  | some i =>
    have hs : i.size = 1 := by simpa [hq] using hi
    simp [Instr.index, asIntOf, run_underlying Tryz.underlying95, h1, sizeOf, typeInfo, hq, hs, part, hv]
    intro h; omega

/-- The sign that stands there. -/
def signAt (s : ByteArray) (i : Nat) : Option (List UInt8) := signL.find? fun l => Lib.hasPrefix (s.extract i s.size).data.toList l

theorem sign_len : ∀ l ∈ signL, l.length ≤ 3 := by decide
theorem sign_none (Pf : List UInt8 → Bool) : (signL.drop 27).find? Pf = none := rfl
theorem sign_has (j : Nat) (hj : j < 27) : ∃ l, signL[j]? = some l := ⟨signL[j]'(by simpa [signL] using hj), by simp⟩
theorem sign_drop (j : Nat) (l : List UInt8) (hl : signL[j]? = some l) : signL.drop j = l :: signL.drop (j + 1) := by
  obtain ⟨h1, h2⟩ := List.getElem?_eq_some_iff.1 hl
  rw [← h2]; exact List.drop_eq_getElem_cons h1

def sgV : Option (List UInt8) → Value
  | some l => .tuple #[.agg #[.int .i64 (6), .string (⟨l.toArray⟩), .int .i64 (0), .float .f64 (0), .int .i64 (0)], .int .i64 0]
  | none => .tuple #[.agg #[.int .i64 (0), .string (⟨#[]⟩), .int .i64 (0), .float .f64 (0), .int .i64 (0)], .int .i64 21]
def sgN : Option (List UInt8) → Nat
  | some l => l.length
  | none => 0

set_option maxHeartbeats 1000000 in
set_option maxRecDepth 1000000 in
theorem sign_core (A : List Value) (hsi : (Tryz.prog.info? 95).map (·.size) = some A.length) (hIX : ∀ (W : World) (j : Nat) (l : List UInt8), signL[j]? = some l → (Instr.index 95 (.agg A.toArray) (.int .i64 (j : Int))).run Tryz.prog W = .ok (.string ⟨l.toArray⟩) W) (s : ByteArray) (i b : Nat) (hi : i ≤ s.size) (hs : s.size ≤ 65536) (w : World) (h : Sc w b s i) (hS : w.rangeAt GS 0 A) :
    Calls Tryz.prog 45 #[.pointer (some ⟨b, 0, none⟩)] w fun e w' => e = .returned (sgV (signAt s i)) ∧ Sc w' b s (i + sgN (signAt s i)) ∧ But (· = b) w w' := by
  have hlt := h.lt
  have hS2 : (wbox w).rangeAt GS 0 A := fun j v hj => by
    have hc := hS j v hj
    have lt : GS < w.heap.size := by
      rcases Nat.lt_or_ge GS w.heap.size with h' | h'
      · exact h'
      · simp [World.cell?, Array.getElem?_eq_none h'] at hc
    exact ((wbox_below w).cell (p := ⟨GS, 0 + j, none⟩) lt).trans hc
  have h0 : (0 : Int) ≤ (i : Int) := by omega
  have h1 : (i : Int) ≤ (s.size : Int) := by omega
  have hlen := sign_len
  have hnil : ∀ l ∈ signL, (⟨l.toArray⟩ : ByteArray).size = l.length := fun l _ => by simp [ByteArray.size]
  have cP : ∀ l W, Calls Tryz.prog 75 #[.string (s.extract i s.size), .string ⟨l.toArray⟩] W fun e W' => e = .returned (.bool (Lib.hasPrefix (s.extract i s.size).data.toList l)) ∧ W' = W := fun l W => Tryz.strings_HasPrefix _ _ W
  unfold signAt
  obtain ⟨Pf, hPf⟩ : ∃ Pf : List UInt8 → Bool, (fun l => Lib.hasPrefix (s.extract i s.size).data.toList l) = Pf := ⟨_, rfl⟩
  have cQ : ∀ l W, Calls Tryz.prog 75 #[.string (s.extract i s.size), .string ⟨l.toArray⟩] W fun e W' => e = .returned (.bool (Pf l)) ∧ W' = W := by rw [← hPf]; exact cP
  rw [hPf]
  obtain ⟨o, ho⟩ : ∃ o, signL.find? Pf = o := ⟨_, rfl⟩
  rw [ho]
  have hfs : (signL.drop 0).find? Pf = o := ho
  clear cP hPf hS ho
  go_enter Tryz.func45, Tryz.ntmps45
  go_wp2_with (refine wpList_load_mid rfl 95 _ rfl GS 0 rfl A _ hS2 Tryz.underlying95 rfl hsi ?_)
  go_loopg [7] 27 (fun gf s7 wx => ∃ j : Nat, s7 = .int .i64 (j : Int) ∧ j + gf = 27 ∧ Below (wbox w).heap.size (wbox w) wx ∧ (signL.drop j).find? Pf = o)
  case atStart => exact ⟨0, rfl, rfl, Below.refl _ _, hfs⟩
  case round =>
    obtain ⟨j, rfl, hjg, hbw, hfi⟩ := hrel
    have hD : Duo wr b (.string s) (.int .i64 i) := Duo.keep (Duo.keep h (wbox_below w)) hbw
    have HBX := hidb ((wbox_box w).keep hbw)
    have HBW := hidb hbw
    obtain ⟨d0, d1, d2, d3, d4, g0, g1, g2, g3, g4, _⟩ := (wbox_box w).keep hbw
    have c0 := hD.c0; have c1 := hD.c1; have f1 := hD.f1
    by_cases hj : j < 27
    · obtain ⟨g', rfl⟩ : ∃ g', gk = g' + 1 := ⟨gk - 1, by omega⟩
      obtain ⟨l, hl⟩ := sign_has j hj
      have hmem : l ∈ signL := List.mem_of_getElem? hl
      have hix := fun W => hIX W j l hl
      have hd := sign_drop j l hl
      have hl3 := hlen l hmem
      have hsz := hnil l hmem
      rw [hd] at hfi
      have hj2 : (j : Int) < 27 := by omega
      have hw1 : wrap64 ((j : Int) + 1) = (j : Int) + 1 := by unfold wrap64; omega
      have hcl := cQ l
      obtain ⟨x, hx⟩ : ∃ x, (⟨l.toArray⟩ : ByteArray) = x := ⟨_, rfl⟩
      rw [hx] at hsz hcl
      simp only [hx] at hix
      have hw2 : wrap64 ((i : Int) + (x.size : Int)) = (i : Int) + (x.size : Int) := by unfold wrap64; omega
      clear hlen hnil cQ hl hmem hbw hd hIX hsi hS2
      have HSZ := hidb hsz
      have HX := hidb hx
      clear hsz hx
      cases hp : Pf l <;> rw [hp] at hcl <;> simp only [List.find?_cons, hp] at hfi
      · go_wp2_with fail
        go_region_held3 (fun w' => w'.cell? ⟨b, 0, none⟩ = some (.string s) ∧ w'.cell? ⟨b, 1, none⟩ = some (.int .i64 i))
          (go_keep)
          (first | (go_at_call 75; refine (hcl _).mono ?_; rintro e w' ⟨rfl, rfl⟩))
        go_wp2_with fail
        go_roundg g'
        case measure => omega
        case rel => exact ⟨j + 1, by simp, by omega, HBW.out.drew, hfi⟩
      · go_wp2_with fail
        go_region_held3 (fun w' => w'.cell? ⟨b, 0, none⟩ = some (.string s) ∧ w'.cell? ⟨b, 1, none⟩ = some (.int .i64 i))
          (go_keep)
          (first | (go_at_call 75; refine (hcl _).mono ?_; rintro e w' ⟨rfl, rfl⟩))
        go_wp2_with fail
        subst hfi
        refine bodyPost_ret (v := .tuple #[.agg #[.int .i64 (6), .string (x), .int .i64 (0), .float .f64 (0), .int .i64 (0)], .int .i64 0]) (by simp [results, Tryz.results45, go_sem, d0, d1, d2, d3, d4]) rfl ⟨by rw [← HX.out]; rfl, ?_, ?_⟩
        · have hD2 := (hD.set1 (.int .i64 ((i : Int) + (x.size : Int)))).set5 (c := w.heap.size) (by omega) (.int .i64 6) (.string x) (.int .i64 0) (.float .f64 0) (.int .i64 0)
          have e : ((i + l.length : Nat) : Int) = (i : Int) + (x.size : Int) := by have := HSZ.out; omega
          show Duo _ b (.string s) (.int .i64 ((i + l.length : Nat) : Int))
          rw [e]
          exact hD2.keep ((Below.refl _ _).drew)
        · exact ((((But.of_below (S := (· = b)) (wbox_below w)).trans (But.of_below HBW.out)).setCell (p := ⟨b, 1, none⟩) (fun _ => rfl) _).set5 (fun h => absurd h (Nat.lt_irrefl _)) _ _ _ _ _).drew
    · obtain rfl : j = 27 := by omega
      obtain rfl : none = o := (sign_none Pf).symm.trans hfi
      clear hlen hnil cQ hbw
      go_wp2_with fail
      refine bodyPost_ret (v := .tuple #[.agg #[.int .i64 (0), .string (⟨#[]⟩), .int .i64 (0), .float .f64 (0), .int .i64 (0)], .int .i64 21]) (by simp [results, Tryz.results45, go_sem, d0, d1, d2, d3, d4]) rfl ⟨rfl, ?_, ?_⟩
      · exact hD.set5 (by omega) _ _ _ _ _
      · exact (((But.of_below (wbox_below w)).trans (But.of_below HBW.out))).set5 (fun h => absurd h (Nat.lt_irrefl _)) _ _ _ _ _

theorem sign_any (s : ByteArray) (i b : Nat) (hi : i ≤ s.size) (hs : s.size ≤ 65536) (w : World) (h : Sc w b s i) (hS : SignTab w) :
    Calls Tryz.prog 45 #[.pointer (some ⟨b, 0, none⟩)] w fun e w' => e = .returned (sgV (signAt s i)) ∧ Sc w' b s (i + sgN (signAt s i)) ∧ But (· = b) w w' :=
  sign_core signV (by kernel_rfl) index_sign s i b hi hs w h hS
end Go.Proofs.YthdljnakmekhkaaGreatDoor


/- What a token is, and all of them. -/
namespace Go.Proofs.YthdljnakmekhkaaGreatDoor
open Go.RowKit Go.Lib
attribute [local go_sem] store_float f64bits
attribute [local go_sem ↓] Go.wp_at_zero Go.wp_at_succ

def wordV (s : ByteArray) (i : Nat) : Value := if kept (s.extract i (goes pName s i)) = true then .tuple #[.agg #[.int .i64 (7), .string (s.extract i (goes pName s i)), .int .i64 (0), .float .f64 (0), .int .i64 (0)], .int .i64 0] else if 64 < (s.extract i (goes pName s i)).size then .tuple #[.agg #[.int .i64 (0), .string (⟨#[]⟩), .int .i64 (0), .float .f64 (0), .int .i64 (0)], .int .i64 23] else .tuple #[.agg #[.int .i64 (1), .string (s.extract i (goes pName s i)), .int .i64 (0), .float .f64 (0), .int .i64 (0)], .int .i64 0]
def varV (s : ByteArray) (i : Nat) : Value := .tuple #[.agg #[.int .i64 (2), .string (s.extract i (goes pName s i)), .int .i64 (0), .float .f64 (0), .int .i64 (0)], .int .i64 0]

/-- The token that begins there, or its error. -/
def tokV (s : ByteArray) (i : Nat) : Value :=
  if pSmall (bt s i) = true then wordV s i
  else if pCapital (bt s i) = true ∨ bt s i = 95 then varV s i
  else if pDigit (bt s i) = true then numV s i
  else if bt s i = 35 then bitsV s i
  else if bt s i = 39 ∨ bt s i = 34 then quoteV s i
  else sgV (signAt s i)
/-- The place behind it. -/
def tokE (s : ByteArray) (i : Nat) : Nat :=
  if pSmall (bt s i) = true then goes pName s i
  else if pCapital (bt s i) = true ∨ bt s i = 95 then goes pName s i
  else if pDigit (bt s i) = true then fracEnd s (goes pDigit s i)
  else if bt s i = 35 then i + 17
  else if bt s i = 39 ∨ bt s i = 34 then quoteE s i
  else i + sgN (signAt s i)

theorem wordV_tk (s : ByteArray) (i : Nat) : IsTk (wordV s i) := by
  unfold wordV
  split
  · exact ⟨_, _, _, _, _, rfl⟩
  · split
    · exact ⟨_, _, _, _, _, rfl⟩
    · exact ⟨_, _, _, _, _, rfl⟩
theorem numV_tk (s : ByteArray) (i : Nat) : IsTk (numV s i) := by
  unfold numV
  split
  · exact badV_tk _
  · split
    · exact wholeV_tk _
    · exact floatV_tk _ _
theorem bitsV_tk (s : ByteArray) (i : Nat) : IsTk (bitsV s i) := by
  unfold bitsV
  split
  · split
    · exact ⟨_, _, _, _, _, rfl⟩
    · exact badV_tk _
  · exact badV_tk _
theorem quoteV_tk (s : ByteArray) (i : Nat) : IsTk (quoteV s i) := by
  unfold quoteV
  split
  · split
    · exact atomV_tk _
    · exact ⟨_, _, _, _, _, rfl⟩
  · exact badV_tk _
theorem sgV_tk (o : Option (List UInt8)) : IsTk (sgV o) := by
  cases o with
  | none => exact ⟨_, _, _, _, _, rfl⟩
  | some l => exact ⟨_, _, _, _, _, rfl⟩
theorem tokV_tk (s : ByteArray) (i : Nat) : IsTk (tokV s i) := by
  unfold tokV
  repeat' split
  · exact wordV_tk s i
  · exact ⟨_, _, _, _, _, rfl⟩
  · exact numV_tk s i
  · exact bitsV_tk s i
  · exact quoteV_tk s i
  · exact sgV_tk _

theorem sign_in (s : ByteArray) (i : Nat) (hi : i ≤ s.size) (l : List UInt8) (h : signAt s i = some l) : 1 ≤ l.length ∧ i + l.length ≤ s.size := by
  have h1 := List.find?_some h
  have h2 := List.mem_of_find?_eq_some h
  have h3 : ∀ l ∈ signL, 1 ≤ l.length := by decide
  have h4 : l.length ≤ (s.extract i s.size).data.toList.length := by
    unfold Lib.hasPrefix at h1
    exact List.IsPrefix.length_le (List.isPrefixOf_iff_prefix.1 h1)
  have h5 : (s.extract i s.size).data.toList.length = s.size - i := by
    have : (s.extract i s.size).size = s.size - i := by rw [size_ext]; omega
    exact this
  have := h3 l h2
  omega

theorem okV_tk (k : Int) (x : ByteArray) (n : Int) (f : Nat) (p e : Int) : okV (.tuple #[.agg #[.int .i64 k, .string x, .int .i64 n, .float .f64 f, .int .i64 p], .int .i64 e]) = (e == 0) := rfl

theorem tokE_in (s : ByteArray) (i : Nat) (hi : i < s.size) (hok : okV (tokV s i) = true) : i < tokE s i ∧ tokE s i ≤ s.size := by
  unfold tokV at hok
  unfold tokE
  have hn : ∀ p : Nat → Bool, p (bt s i) = true → i < goes p s i ∧ goes p s i ≤ s.size := fun p hp => by
    rw [goes_on hi hp]
    exact ⟨goes_ge p s (i + 1), goes_le p s (i + 1) hi⟩
  split
  · rename_i h1; exact hn pName (by simp [pName, h1])
  · rename_i h1
    rw [if_neg h1] at hok
    split
    · rename_i h2; exact hn pName (by rcases h2 with h2 | h2 <;> simp [pName, h2])
    · rename_i h2
      rw [if_neg h2] at hok
      split
      · rename_i h3
        have := hn pDigit h3
        have := frac_end s (goes pDigit s i) (by omega)
        omega
      · rename_i h3
        rw [if_neg h3] at hok
        split
        · rename_i h4
          rw [if_pos h4] at hok
          unfold bitsV at hok
          split at hok
          · rename_i u hu
            have := hexN_in s 15 (i + 1) 0 u hu
            omega
          · cases hok
        · rename_i h4
          rw [if_neg h4] at hok
          split
          · rename_i h5
            rw [if_pos h5] at hok
            unfold quoteV at hok
            unfold quoteE
            split at hok
            · rename_i l e hq
              have := quotN_len s _ _ _ _ _ _ (by omega) hq
              rw [hq]
              simp
              omega
            · cases hok
          · rename_i h5
            rw [if_neg h5] at hok
            cases hs : signAt s i with
            | none => rw [hs] at hok; cases hok
            | some l => have := sign_in s i (by omega) l hs; simp only [sgN]; omega

/-- The tables that the scanner reads. -/
structure LexTab (w : World) : Prop where
  u : Lib.Utf8Tabs G1 G2 w
  p : PowTab w
  s : SignTab w

theorem LexTab.but {S : Nat → Prop} {w w' : World} (h : LexTab w) (hb : But S w w') (hS : ∀ k, S k → GB ≤ k) : LexTab w' := by
  unfold GB at hS
  refine ⟨Utf8Tabs_but h.u hb (fun e => ?_) (fun e => ?_), PowTab_but h.p hb (fun e => ?_) (fun e => ?_), fun j v hj => ?_⟩
  · have := hS _ e; unfold G1 at this; omega
  · have := hS _ e; unfold G2 at this; omega
  · have := hS _ e; omega
  · have := hS _ e; omega
  · have hc := h.s j v hj
    exact (hb.cell (p := ⟨GS, 0 + j, none⟩) (cell_lt hc) (fun e => absurd (show 7 ≤ GS from hS _ e) (by decide))).trans hc

/-- A method that tells the token. -/
def TokC (fn : Nat) (s : ByteArray) (j b : Nat) (w : World) : Prop :=
  Calls Tryz.prog fn #[.pointer (some ⟨b, 0, none⟩)] w fun e w' => e = .returned (tokV s j) ∧ But (· = b) w w' ∧ ∃ p, p ≤ s.size ∧ Sc w' b s p ∧ (okV (tokV s j) = true → p = tokE s j)

theorem tok_word (s : ByteArray) (j b : Nat) (hj : j < s.size) (hs : s.size ≤ 65536) (w : World) (h : Sc w b s j) (hc : pSmall (bt s j) = true) : TokC 40 s j b w := by
  unfold TokC tokV tokE
  rw [if_pos hc, if_pos hc]
  exact (word_any s j b (by omega) hs w h).mono fun e w' ⟨h1, h2, h3⟩ => ⟨h1, h3, _, goes_le _ _ _ (by omega), h2, fun _ => rfl⟩
theorem tok_var (s : ByteArray) (j b : Nat) (hj : j < s.size) (hs : s.size ≤ 65536) (w : World) (h : Sc w b s j) (hc : ¬ pSmall (bt s j) = true) (hd : pCapital (bt s j) = true ∨ bt s j = 95) : TokC 41 s j b w := by
  unfold TokC tokV tokE
  rw [if_neg hc, if_pos hd, if_neg hc, if_pos hd]
  exact (variable_any s j b (by omega) hs w h).mono fun e w' ⟨h1, h2, h3⟩ => ⟨h1, h3, _, goes_le _ _ _ (by omega), h2, fun _ => rfl⟩
theorem tok_num (s : ByteArray) (j b : Nat) (hj : j < s.size) (hs : s.size ≤ 65536) (w : World) (h : Sc w b s j) (hT : LexTab w) (hg : GB ≤ b) (hc : ¬ pSmall (bt s j) = true) (hd : ¬ (pCapital (bt s j) = true ∨ bt s j = 95)) (he : pDigit (bt s j) = true) : TokC 42 s j b w := by
  unfold TokC tokV tokE
  rw [if_neg hc, if_neg hd, if_pos he, if_neg hc, if_neg hd, if_pos he]
  exact (number_any s j b (by omega) hs w h hT.u hT.p hg).mono fun e w' ⟨h1, h2, h3⟩ => ⟨h1, h3, _, (frac_end s _ (goes_le _ _ _ (by omega))).2, h2, fun _ => rfl⟩
theorem tok_bits (s : ByteArray) (j b : Nat) (hj : j < s.size) (hs : s.size ≤ 65536) (w : World) (h : Sc w b s j) (hT : LexTab w) (hg : GB ≤ b) (hc : ¬ pSmall (bt s j) = true) (hd : ¬ (pCapital (bt s j) = true ∨ bt s j = 95)) (he : ¬ pDigit (bt s j) = true) (hf : bt s j = 35) : TokC 43 s j b w := by
  unfold TokC tokV tokE
  rw [if_neg hc, if_neg hd, if_neg he, if_pos hf, if_neg hc, if_neg hd, if_neg he, if_pos hf]
  exact (bits_any s j b hj hf hs w h hT.u hg).mono fun e w' ⟨h1, h2, p, _, hp, h3, h4⟩ => ⟨h1, h2, p, hp, h3, h4⟩
theorem tok_quot (s : ByteArray) (j b : Nat) (hj : j < s.size) (hs : s.size ≤ 65536) (w : World) (h : Sc w b s j) (hT : LexTab w) (hg : GB ≤ b) (hc : ¬ pSmall (bt s j) = true) (hd : ¬ (pCapital (bt s j) = true ∨ bt s j = 95)) (he : ¬ pDigit (bt s j) = true) (hf : ¬ bt s j = 35) (hq : bt s j = 39 ∨ bt s j = 34) : TokC 44 s j b w := by
  unfold TokC tokV tokE
  rw [if_neg hc, if_neg hd, if_neg he, if_neg hf, if_pos hq, if_neg hc, if_neg hd, if_neg he, if_neg hf, if_pos hq]
  exact (quotation_any s j b hj hq hs w h hT.u hg).mono fun e w' ⟨h1, h2, p, hp, h3, h4⟩ => ⟨h1, h2, p, hp, h3, h4⟩
theorem tok_sign (s : ByteArray) (j b : Nat) (hj : j < s.size) (hs : s.size ≤ 65536) (w : World) (h : Sc w b s j) (hT : LexTab w) (hc : ¬ pSmall (bt s j) = true) (hd : ¬ (pCapital (bt s j) = true ∨ bt s j = 95)) (he : ¬ pDigit (bt s j) = true) (hf : ¬ bt s j = 35) (hq : ¬ (bt s j = 39 ∨ bt s j = 34)) : TokC 45 s j b w := by
  unfold TokC tokV tokE
  rw [if_neg hc, if_neg hd, if_neg he, if_neg hf, if_neg hq, if_neg hc, if_neg hd, if_neg he, if_neg hf, if_neg hq]
  refine (sign_any s j b (by omega) hs w h hT.s).mono fun e w' hh => ?_
  refine ⟨hh.1, hh.2.2, _, ?_, hh.2.1, fun _ => rfl⟩
  cases hs : signAt s j with
  | none => simp only [sgN]; omega
  | some l => have := sign_in s j (by omega) l hs; simp only [sgN]; omega
end Go.Proofs.YthdljnakmekhkaaGreatDoor


