import Derived.ScopeJumps
import Derived.WalkMore
import Derived.Test.YtdpfmmbfidknfaaGreatDoorG09
/- A scope in which the run jumps to several labels. -/
namespace Go.Proofs.YtdpfmmbfidknfaaGreatDoor
open Go

/-- By a goto to label l: J l; else as Q. -/
def jumps (J : Nat → Act → World → Prop) (Q : Exit → Act → World → Prop) : Exit → Act → World → Prop
  | .goto l, a, w => J l a w
  | e, a, w => Q e a w

/-- J with a number that falls from jump to jump. -/
theorem wp_scope_ghost {P : Program} {a : Act} {w : World} {Q : Exit → Act → World → Prop} {c : Code} (rest : Nat → Code) (J : Nat → Nat → Act → World → Prop)
    (hf : ∀ n l a w, J n l a w → findLabel c l = some (rest l))
    (first : c.wp P (jumps (fun l a w => ∃ n, J n l a w) Q) a w)
    (pass : ∀ n l a w, J n l a w → (rest l).wp P (jumps (fun l' a' w' => ∃ n', n' < n ∧ J n' l' a' w') Q) a w) : (Code.scope c).wp P Q a w := by
  intro b k cs
  have key : ∀ n l a w, J n l a w → ∃ e a' w', Q e a' w' ∧ Arrives P (lone (b.at a (.code (rest l) :: .inScope c :: k)) cs w) b k cs e a' w' := by
    intro n
    induction n using Nat.strongRecOn with
    | _ n ih =>
      intro l a w hJ
      obtain ⟨e, a₁, w₁, hq, harr⟩ := pass n l a w hJ b (.inScope c :: k) cs
      cases e with
      | goto l' =>
        obtain ⟨n', hlt, hJ'⟩ := hq
        obtain ⟨e₂, a₂, w₂, hq₂, harr₂⟩ := ih n' hlt l' a₁ w₁ hJ'
        have hg : gotoIn l' (.inScope c :: k) = some (.code (rest l') :: .inScope c :: k) := by simp [gotoIn, hf n' l' a₁ w₁ hJ']
        exact ⟨e₂, a₂, w₂, hq₂, .of_steps (harr _ hg) harr₂⟩
      | normal => exact ⟨.normal, a₁, w₁, hq, Steps.trans harr (.one step_inScope)⟩
      | exit id => exact ⟨.exit id, a₁, w₁, hq, fun k' hk => harr k' (by simp [exitTo, hk])⟩
      | ret => exact ⟨_, a₁, w₁, hq, harr⟩
      | panic ch => exact ⟨_, a₁, w₁, hq, harr⟩
      | outgrown => exact ⟨_, a₁, w₁, hq, harr⟩
  obtain ⟨e, a₁, w₁, hq, harr⟩ := first b (.inScope c :: k) cs
  cases e with
  | goto l' =>
    obtain ⟨n', hJ'⟩ := hq
    obtain ⟨e₂, a₂, w₂, hq₂, harr₂⟩ := key n' l' a₁ w₁ hJ'
    have hg : gotoIn l' (.inScope c :: k) = some (.code (rest l') :: .inScope c :: k) := by simp [gotoIn, hf n' l' a₁ w₁ hJ']
    exact ⟨e₂, a₂, w₂, hq₂, .of_steps (.head step_scope (harr _ hg)) harr₂⟩
  | normal => exact ⟨.normal, a₁, w₁, hq, .head step_scope (Steps.trans harr (.one step_inScope))⟩
  | exit id => exact ⟨.exit id, a₁, w₁, hq, fun k' hk => .head step_scope (harr k' (by simp [exitTo, hk]))⟩
  | ret => exact ⟨_, a₁, w₁, hq, .of_steps (.one step_scope) harr⟩
  | panic ch => exact ⟨_, a₁, w₁, hq, .of_steps (.one step_scope) harr⟩
  | outgrown => exact ⟨_, a₁, w₁, hq, .of_steps (.one step_scope) harr⟩

theorem wp_scope2 {P : Program} {a : Act} {w : World} {Q : Exit → Act → World → Prop} {c r0 r1 : Code} (J : Nat → Nat → Act → World → Prop) (hl : ∀ n l a w, J n l a w → l = 0 ∨ l = 1)
    (h0 : findLabel c 0 = some (.seq .skip r0)) (h1 : findLabel c 1 = some (.seq .skip r1))
    (first : (∀ n a w, J n 0 a w → r0.wp P (jumps (fun l a w => ∃ n, J n l a w) Q) a w) → c.wp P (jumps (fun l a w => ∃ n, J n l a w) Q) a w)
    (p0 : ∀ n a w, J n 0 a w → r0.wp P (jumps (fun l' a' w' => ∃ n', n' < n ∧ J n' l' a' w') Q) a w)
    (p1 : ∀ n a w, J n 1 a w → r1.wp P (jumps (fun l' a' w' => ∃ n', n' < n ∧ J n' l' a' w') Q) a w) : (Code.scope c).wp P Q a w := by
  refine wp_scope_ghost (fun l => ((findLabel c l).getD .skip)) J ?_ (first fun n a w hJ => ?_) ?_
  · intro n l a w hJ
    rcases hl n l a w hJ with rfl | rfl
    · simp only [h0, Option.getD_some]
    · simp only [h1, Option.getD_some]
  · refine wp_mono (p0 n a w hJ) ?_
    intro e a' w' h
    cases e with
    | goto l => obtain ⟨n', _, h⟩ := h; exact ⟨n', h⟩
    | normal => exact h
    | exit id => exact h
    | ret => exact h
    | panic ch => exact h
    | outgrown => exact h
  · intro n l a w hJ
    rcases hl n l a w hJ with rfl | rfl
    · simp only [h0, Option.getD_some]; exact wp_seq (wp_skip (p0 n a w hJ))
    · simp only [h1, Option.getD_some]; exact wp_seq (wp_skip (p1 n a w hJ))

theorem jumps_mono {J J' : Nat → Act → World → Prop} {Q : Exit → Act → World → Prop} (h : ∀ l a w, J l a w → J' l a w) : ∀ e a w, jumps J Q e a w → jumps J' Q e a w := by
  intro e a w hq
  cases e with
  | goto l => exact h l a w hq
  | normal => exact hq
  | exit id => exact hq
  | ret => exact hq
  | panic ch => exact hq
  | outgrown => exact hq

theorem wp_scope10 {P : Program} {a : Act} {w : World} {Q : Exit → Act → World → Prop} {c r0 r1 r2 r3 r4 r5 r6 r7 r8 r9 : Code} (J : Nat → Nat → Act → World → Prop) (hl : ∀ n l a w, J n l a w → l = 0 ∨ l = 1 ∨ l = 2 ∨ l = 3 ∨ l = 4 ∨ l = 5 ∨ l = 6 ∨ l = 7 ∨ l = 8 ∨ l = 9)
    (h0 : findLabel c 0 = some (.seq .skip r0)) (h1 : findLabel c 1 = some (.seq .skip r1)) (h2 : findLabel c 2 = some (.seq .skip r2)) (h3 : findLabel c 3 = some (.seq .skip r3)) (h4 : findLabel c 4 = some (.seq .skip r4)) (h5 : findLabel c 5 = some (.seq .skip r5)) (h6 : findLabel c 6 = some (.seq .skip r6)) (h7 : findLabel c 7 = some (.seq .skip r7)) (h8 : findLabel c 8 = some (.seq .skip r8)) (h9 : findLabel c 9 = some (.seq .skip r9))
    (first : (∀ n a w, J n 0 a w → r0.wp P (jumps (fun l a w => ∃ n, J n l a w) Q) a w) → c.wp P (jumps (fun l a w => ∃ n, J n l a w) Q) a w)
    (p0 : ∀ n a w, J n 0 a w → r0.wp P (jumps (fun l' a' w' => ∃ n', n' < n ∧ J n' l' a' w') Q) a w)
    (p1 : ∀ n a w, J n 1 a w → r1.wp P (jumps (fun l' a' w' => ∃ n', n' < n ∧ J n' l' a' w') Q) a w)
    (p2 : ∀ n a w, J n 2 a w → r2.wp P (jumps (fun l' a' w' => ∃ n', n' < n ∧ J n' l' a' w') Q) a w)
    (p3 : ∀ n a w, J n 3 a w → r3.wp P (jumps (fun l' a' w' => ∃ n', n' < n ∧ J n' l' a' w') Q) a w)
    (p4 : ∀ n a w, J n 4 a w → r4.wp P (jumps (fun l' a' w' => ∃ n', n' < n ∧ J n' l' a' w') Q) a w)
    (p5 : ∀ n a w, J n 5 a w → r5.wp P (jumps (fun l' a' w' => ∃ n', n' < n ∧ J n' l' a' w') Q) a w)
    (p6 : ∀ n a w, J n 6 a w → r6.wp P (jumps (fun l' a' w' => ∃ n', n' < n ∧ J n' l' a' w') Q) a w)
    (p7 : ∀ n a w, J n 7 a w → r7.wp P (jumps (fun l' a' w' => ∃ n', n' < n ∧ J n' l' a' w') Q) a w)
    (p8 : (∀ n a w, J n 9 a w → r9.wp P (jumps (fun l' a' w' => ∃ n', n' < n ∧ J n' l' a' w') Q) a w) → ∀ n a w, J n 8 a w → r8.wp P (jumps (fun l' a' w' => ∃ n', n' < n ∧ J n' l' a' w') Q) a w)
    (p9 : ∀ n a w, J n 9 a w → r9.wp P (jumps (fun l' a' w' => ∃ n', n' < n ∧ J n' l' a' w') Q) a w) : (Code.scope c).wp P Q a w := by
  refine wp_scope_ghost (fun l => ((findLabel c l).getD .skip)) J ?_ (first fun n a w hJ => ?_) ?_
  · intro n l a w hJ
    rcases hl n l a w hJ with rfl | rfl | rfl | rfl | rfl | rfl | rfl | rfl | rfl | rfl
    · simp only [h0, Option.getD_some]
    · simp only [h1, Option.getD_some]
    · simp only [h2, Option.getD_some]
    · simp only [h3, Option.getD_some]
    · simp only [h4, Option.getD_some]
    · simp only [h5, Option.getD_some]
    · simp only [h6, Option.getD_some]
    · simp only [h7, Option.getD_some]
    · simp only [h8, Option.getD_some]
    · simp only [h9, Option.getD_some]
  · refine wp_mono (p0 n a w hJ) ?_
    intro e a' w' h
    cases e with
    | goto l => obtain ⟨n', _, h⟩ := h; exact ⟨n', h⟩
    | normal => exact h
    | exit id => exact h
    | ret => exact h
    | panic ch => exact h
    | outgrown => exact h
  · intro n l a w hJ
    rcases hl n l a w hJ with rfl | rfl | rfl | rfl | rfl | rfl | rfl | rfl | rfl | rfl
    · simp only [h0, Option.getD_some]; exact wp_seq (wp_skip (p0 n a w hJ))
    · simp only [h1, Option.getD_some]; exact wp_seq (wp_skip (p1 n a w hJ))
    · simp only [h2, Option.getD_some]; exact wp_seq (wp_skip (p2 n a w hJ))
    · simp only [h3, Option.getD_some]; exact wp_seq (wp_skip (p3 n a w hJ))
    · simp only [h4, Option.getD_some]; exact wp_seq (wp_skip (p4 n a w hJ))
    · simp only [h5, Option.getD_some]; exact wp_seq (wp_skip (p5 n a w hJ))
    · simp only [h6, Option.getD_some]; exact wp_seq (wp_skip (p6 n a w hJ))
    · simp only [h7, Option.getD_some]; exact wp_seq (wp_skip (p7 n a w hJ))
    · simp only [h8, Option.getD_some]; exact wp_seq (wp_skip (p8 p9 n a w hJ))
    · simp only [h9, Option.getD_some]; exact wp_seq (wp_skip (p9 n a w hJ))
end Go.Proofs.YtdpfmmbfidknfaaGreatDoor


/- Quotations. -/
namespace Go.Proofs.YtdpfmmbfidknfaaGreatDoor
open Go.RowKit Go.Lib
attribute [local go_sem] store_float f64bits
attribute [local go_sem ↓] Go.wp_at_zero Go.wp_at_succ

/-- What stands in a quotation, and the place behind it. -/
def quotN (s : ByteArray) (m : Nat) : Nat → Nat → List UInt8 → Option (List UInt8 × Nat)
  | 0, _, _ => none
  | k + 1, p, acc =>
    if goes (pIn m) s p < s.size then
      if bt s (goes (pIn m) s p) = m then some (acc ++ (s.extract p (goes (pIn m) s p)).data.toList, goes (pIn m) s p + 1)
      else (escAt s (goes (pIn m) s p + 1)).bind fun x => quotN s m k x.2 (acc ++ (s.extract p (goes (pIn m) s p)).data.toList ++ [UInt8.ofNat x.1])
    else none

def quotE (s : ByteArray) (m k q : Nat) (acc : List UInt8) : Option (List UInt8 × Nat) := (escAt s q).bind fun x => quotN s m k x.2 (acc ++ [UInt8.ofNat x.1])

theorem e_in : ∀ args w, (callFunc 64 args).run Tryz.prog w = .ok (.enter 64 args) w := enters_of Tryz.func64 (by kernel_rfl) rfl

theorem isIn_any (m mk n : Nat) (w : World) (hc : w.cell? ⟨mk, 0, none⟩ = some (.int .i32 (m : Int))) : Calls Tryz.prog 64 #[.int .i32 (n : Int), .pointer (some ⟨mk, 0, none⟩)] w fun e w' => e = .returned (.bool (pIn m n)) ∧ w' = w := by
  unfold pIn
  by_cases h1 : n = m
  · subst h1
    go_enter Tryz.func64, Tryz.ntmps64
    go_wp2
    go_ret
    exact ⟨by simp, rfl⟩
  · have h2 : ((n : Int) != (m : Int)) = true := by simp; omega
    have h3 : ((n : Int) == (m : Int)) = false := by simp; omega
    have h4 : (n != m) = true := by simpa using h1
    go_enter Tryz.func64, Tryz.ntmps64
    go_wp2
    go_ret
    refine ⟨?_, rfl⟩
    rw [h4]
    simp
    rw [Bool.eq_iff_iff]; simp; omega

theorem Duo.low {B : Nat} {w w' : World} {b : Nat} {v0 v1 : Value} (h : Duo w b v0 v1) (hb : Below B w w') (hB : b < B) : Duo w' b v0 v1 :=
  h.but (S := fun k => B ≤ k) ⟨hb.os, hb.tape, hb.output, hb.size, fun k _ hs => hb.block k (Nat.lt_of_not_le hs)⟩ (by omega)

/-- Of the blocks below B only b has turned. -/
abbrev Bt (B b : Nat) (w w' : World) : Prop := But (fun k => k = b ∨ B ≤ k) w w'
theorem Bt.one {B b : Nat} {w w' : World} (h : But (· = b) w w') : Bt B b w w' := h.mono fun _ _ e => .inl e
theorem Bt.low {B b : Nat} {w w' : World} (h : Below B w w') : Bt B b w w' := ⟨h.os, h.tape, h.output, h.size, fun k _ hs => h.block k (Nat.lt_of_not_le fun e => hs (.inr e))⟩

/-- The run's frame at its labels. -/
def QF (b : Nat) (m : Int) (mk bd : Nat) (a : Act) : Prop := ∃ u7 u8 u9 u10 u11 u12 u13 u14 u15 u16 u17 u18 u19 u20 u21 u22 u23 u24 u25 u26 u27 u28 u29 : Value, a = { tmps := #[.pointer (some ⟨b, 0, none⟩), .int .i32 m, undef, .pointer (some ⟨mk, 0, none⟩), .string ⟨#[]⟩, .bool false, .pointer (some ⟨bd, 0, none⟩), u7, u8, u9, u10, u11, u12, u13, u14, u15, u16, u17, u18, u19, u20, u21, u22, u23, u24, u25, u26, u27, u28, u29], defers := [] }

structure QW (s : ByteArray) (b B bd : Nat) (W1 wx : World) (p : Nat) (acc : List UInt8) : Prop where
  sc : Sc wx b s p
  bt : Bt B b W1 wx
  bd : Lib.IsBuilderF TB TU B bd (Lib.byteCells acc) wx
  le : p ≤ s.size
  ac : acc.length ≤ p

def QJ (s : ByteArray) (m b mk bd B : Nat) (W1 : World) (o : Option (List UInt8 × Nat)) (n l : Nat) (a : Act) (wx : World) : Prop :=
  QF b m mk bd a ∧ ((l = 0 ∧ ∃ k p acc, n = 2 * k ∧ s.size < p + k ∧ quotN s m k p acc = o ∧ QW s b B bd W1 wx p acc) ∨ (l = 1 ∧ ∃ k q acc, n = 2 * k + 1 ∧ s.size < q + k ∧ quotE s m k q acc = o ∧ QW s b B bd W1 wx q acc))

def quV (o : Option (List UInt8 × Nat)) : Value := .tuple #[.string ⟨((o.map Prod.fst).getD []).toArray⟩, .bool o.isSome]

set_option maxHeartbeats 1000000 in
theorem quoted_any (s : ByteArray) (i b m : Nat) (hm : m = 39 ∨ m = 34) (hi : i ≤ s.size) (hs : s.size ≤ 65536) (w : World) (h : Sc w b s i) (hT : Lib.Utf8Tabs G1 G2 w) (hg : GB ≤ b) :
    Calls Tryz.prog 49 #[.pointer (some ⟨b, 0, none⟩), .int .i32 (m : Int)] w fun e w' => e = .returned (quV (quotN s m (s.size + 1) i [])) ∧ But (· = b) w w' ∧ ∃ j, j ≤ s.size ∧ Sc w' b s j ∧ ∀ l e, quotN s m (s.size + 1) i [] = some (l, e) → j = e := by
  have hlt := h.lt
  obtain ⟨o, ho⟩ : ∃ o, quotN s m (s.size + 1) i [] = o := ⟨_, rfl⟩
  rw [ho]
  go_enter Tryz.func49, Tryz.ntmps49
  go_wp2_with fail
  refine wp_scope2 (QJ s m b w.heap.size (w.heap.size + 1) (w.heap.size + 1) (w.alloc (Obj.cells #[Value.int IntKind.i32 (m : Int)] 21)) o) ?hl rfl rfl ?first ?p0 ?p1
  case hl =>
    rintro n l a wx ⟨_, ⟨rfl, _⟩ | ⟨rfl, _⟩⟩
    · exact .inl rfl
    · exact .inr rfl
  case first =>
    intro H0
    go_wp2_with fail
    go_step3
    rename_i K hK
    refine hK _ _ ?_
    refine H0 (2 * (s.size + 1)) _ _ ⟨⟨_, _, _, _, _, _, _, _, _, _, _, _, _, _, _, _, _, _, _, _, _, _, _, rfl⟩, .inl ⟨rfl, s.size + 1, i, [], rfl, by omega, ho, ?_⟩⟩
    have hB1 : (w.alloc (Obj.cells #[Value.int IntKind.i32 (m : Int)] 21)).heap.size = w.heap.size + 1 := by simp
    have hbn := bd_new (w.alloc (Obj.cells #[Value.int IntKind.i32 (m : Int)] 21)) (w.heap.size + 1) (by omega)
    rw [hB1] at hbn
    exact ⟨Duo.keep (Duo.keep h (below_new _ _)) (below_new _ _), Bt.low ((Below.refl _ _).alloc (by omega) _), hbn, hi, by simp⟩
  case p0 =>
    rintro n a wx ⟨⟨u7, u8, u9, u10, u11, u12, u13, u14, u15, u16, u17, u18, u19, u20, u21, u22, u23, u24, u25, u26, u27, u28, u29, rfl⟩, ⟨_, k, p, acc, rfl, hk, hq, hW⟩ | ⟨h01, _⟩⟩
    case inr => cases h01
    have hB1 : (w.alloc (Obj.cells #[Value.int IntKind.i32 (m : Int)] 21)).heap.size = w.heap.size + 1 := by simp
    have hmark : (w.alloc (Obj.cells #[Value.int IntKind.i32 (m : Int)] 21)).cell? ⟨w.heap.size, 0, none⟩ = some (.int .i32 (m : Int)) := by rw [World.cell?_alloc_new]; rfl
    have GT : ∀ {w1 : World}, Bt (w.heap.size + 1) b (w.alloc (Obj.cells #[Value.int IntKind.i32 (m : Int)] 21)) w1 → Lib.Utf8Tabs G1 G2 w1 ∧ w1.cell? ⟨w.heap.size, 0, none⟩ = some (.int .i32 (m : Int)) ∧ w.heap.size + 1 ≤ w1.heap.size := by
      intro w1 hb
      have hz := hb.size
      have hT1 := Utf8Tabs_below hT (below_new w (Obj.cells #[Value.int IntKind.i32 (m : Int)] 21))
      have ht := cell_lt (hT.1 0 (by omega))
      have ht2 := cell_lt ((hT.2 0 (by omega)).1)
      unfold GB at hg
      simp only at ht ht2
      exact ⟨Utf8Tabs_but hT1 hb (fun e => by unfold G1 at *; omega) (fun e => by unfold G2 at *; omega), (hb.cell (p := ⟨w.heap.size, 0, none⟩) (by simp) (by simp; omega)).trans hmark, by omega⟩
    obtain ⟨k, rfl⟩ : ∃ k', k = k' + 1 := ⟨k - 1, by have := hW.le; omega⟩
    have hmk := (GT hW.bt).2.1
    have cT := take_any 64 #[.pointer (some ⟨w.heap.size, 0, none⟩)] e_in (pIn m) true (flat_in m (by omega)) s p b hW.le hs wx hW.sc (fun W x _ hbW => isIn_any m w.heap.size x W ((hbW.cell (cell_lt hmk)).trans hmk))
    have hge := goes_ge (pIn m) s p
    have hgl := goes_le (pIn m) s p hW.le
    have hgn := goes_not (pIn m) s p
    have hnx := nx_low (s := s) (i := goes (pIn m) s p)
    have hne := nx_end (s := s) (i := goes (pIn m) s p)
    have cN := fun W h1 h2 => next_any s (goes (pIn m) s p) b hgl hs W h1 h2
    have hXs : (s.extract p (goes (pIn m) s p)).size = goes (pIn m) s p - p := by rw [size_ext]; omega
    unfold quotN at hq
    obtain ⟨q, hqe⟩ : ∃ q, goes (pIn m) s p = q := ⟨_, rfl⟩
    rw [hqe] at cT hge hgl hgn hnx hne cN hXs hq
    obtain ⟨X, hX⟩ : ∃ X, s.extract p q = X := ⟨_, rfl⟩
    rw [hX] at cT hXs hq
    have cW := fun w1 h1 h2 => writeString_k (w.heap.size + 1) (w.heap.size + 1) (Lib.byteCells acc) X w1 h1 (by have := hW.ac; rw [Lib.byteCells_length]; omega) h2
    have eacc : Lib.byteCells acc ++ Lib.strCells X = Lib.byteCells (acc ++ X.data.toList) := by rw [Lib.strCells_eq, Lib.byteCells_append]
    simp only [eacc] at cW
    have hXl : X.data.toList.length = X.size := rfl
    have HW := hidb hW
    clear hW hqe hX eacc hmark hmk h ho
    have hmm : ((m : Int) == (m : Int)) = true := by simp
    have m1 : ((92 : Int) == (m : Int)) = false := by rcases hm with rfl | rfl <;> decide
    have m2 : ((-1 : Int) == (m : Int)) = false := by rcases hm with rfl | rfl <;> decide
    by_cases hlq : q < s.size
    · rw [if_pos hlq] at hq
      have hgn2 := hgn hlq
      by_cases hbm : bt s q = m
      · rw [if_pos hbm] at hq
        have hx := hnx hlq (by omega)
        rw [hx.1, hx.2, hbm] at cN
        clear hx hnx hne hgn hgn2 hbm
        go_wp2_with (first
        | (go_at_call 19; refine cT.mono ?_; rintro e w1 ⟨rfl, hs1, hb1⟩; have HS1 := hidb hs1; have HB1 := hidb (HW.out.bt.trans (Bt.one hb1)); have HD1 := hidb (bd_but HW.out.bd hb1 (fun k e => by omega)))
        | (go_at_call 63; refine (cW _ HD1.out (GT HB1.out).2.2).mono ?_; rintro e w2 ⟨rfl, hd2, hb2, _⟩; have HB2 := hidb (HB1.out.trans (Bt.low hb2)); have HS2 := hidb (Duo.low HS1.out hb2 (by omega)); have HD2 := hidb hd2)
        | (go_at_call 40; refine (cN _ HS2.out (GT HB2.out).1).mono ?_; rintro e w3 ⟨rfl, hs3, hb3⟩; have HS3 := hidb hs3; have HB3 := hidb (HB2.out.trans (Bt.one hb3)); have HD3 := hidb (bd_but (.inr HD2.out) hb3 (fun k e => by omega)); have hmk3 := (GT HB3.out).2.1)
        | (go_at_call 65; refine (Tryz.Builder_String_any_k (w.heap.size + 1) (w.heap.size + 1) (acc ++ X.data.toList) _ HD3.out (GT HB3.out).2.2).mono ?_; rintro e w4 ⟨rfl, _, hb4, _⟩; have HB4 := hidb (HB3.out.trans (Bt.low hb4)); have HS4 := hidb (Duo.low HS3.out hb4 (by omega))))
        have HF := (But.of_below (S := (· = b)) (below_new w (Obj.cells #[Value.int IntKind.i32 (m : Int)] 21))).trans ((HB4.out.mono (S' := (· = b)) (fun k hk e => e.elim id (fun e => absurd hk (by rw [hB1]; omega)))))
        subst hq
        simp only [jumps]
        exact bodyPost_ret (v := .tuple #[.string ⟨(acc ++ X.data.toList).toArray⟩, .bool true]) (by simp [results, Tryz.results49, go_sem]) rfl ⟨rfl, HF, q + 1, by omega, HS4.out, fun l e h => by cases h; rfl⟩
      · rw [if_neg hbm] at hq
        have hb92 : bt s q = 92 := by simp [pIn] at hgn2; omega
        have hx := hnx hlq (by omega)
        rw [hx.1, hx.2, hb92] at cN
        clear hx hnx hne hgn hgn2 hbm hb92
        go_wp2_with (first
        | (go_at_call 19; refine cT.mono ?_; rintro e w1 ⟨rfl, hs1, hb1⟩; have HS1 := hidb hs1; have HB1 := hidb (HW.out.bt.trans (Bt.one hb1)); have HD1 := hidb (bd_but HW.out.bd hb1 (fun k e => by omega)))
        | (go_at_call 63; refine (cW _ HD1.out (GT HB1.out).2.2).mono ?_; rintro e w2 ⟨rfl, hd2, hb2, _⟩; have HB2 := hidb (HB1.out.trans (Bt.low hb2)); have HS2 := hidb (Duo.low HS1.out hb2 (by omega)); have HD2 := hidb hd2)
        | (go_at_call 40; refine (cN _ HS2.out (GT HB2.out).1).mono ?_; rintro e w3 ⟨rfl, hs3, hb3⟩; have HS3 := hidb hs3; have HB3 := hidb (HB2.out.trans (Bt.one hb3)); have HD3 := hidb (bd_but (.inr HD2.out) hb3 (fun k e => by omega)); have hmk3 := (GT HB3.out).2.1)
        | fail)
        go_step3
        exact ⟨2 * k + 1, by omega, ⟨_, _, _, _, _, _, _, _, _, _, _, _, _, _, _, _, _, _, _, _, _, _, _, rfl⟩, .inr ⟨rfl, k, q + 1, acc ++ X.data.toList, rfl, by omega, hq, ⟨HS3.out, HB3.out, HD3.out, by omega, by rw [List.length_append, hXl]; have := HW.out.ac; omega⟩⟩⟩
    · rw [if_neg hlq] at hq
      have hx := hne (by omega)
      rw [hx.1, hx.2] at cN
      clear hx hnx hne hgn
      go_wp2_with (first
      | (go_at_call 19; refine cT.mono ?_; rintro e w1 ⟨rfl, hs1, hb1⟩; have HS1 := hidb hs1; have HB1 := hidb (HW.out.bt.trans (Bt.one hb1)); have HD1 := hidb (bd_but HW.out.bd hb1 (fun k e => by omega)))
      | (go_at_call 63; refine (cW _ HD1.out (GT HB1.out).2.2).mono ?_; rintro e w2 ⟨rfl, hd2, hb2, _⟩; have HB2 := hidb (HB1.out.trans (Bt.low hb2)); have HS2 := hidb (Duo.low HS1.out hb2 (by omega)); have HD2 := hidb hd2)
      | (go_at_call 40; refine (cN _ HS2.out (GT HB2.out).1).mono ?_; rintro e w3 ⟨rfl, hs3, hb3⟩; have HS3 := hidb hs3; have HB3 := hidb (HB2.out.trans (Bt.one hb3)); have HD3 := hidb (bd_but (.inr HD2.out) hb3 (fun k e => by omega)); have hmk3 := (GT HB3.out).2.1)
      | fail)
      have HF := (But.of_below (S := (· = b)) (below_new w (Obj.cells #[Value.int IntKind.i32 (m : Int)] 21))).trans (HB3.out.mono (S' := (· = b)) (fun k hk e => e.elim id (fun e => absurd hk (by rw [hB1]; omega))))
      subst hq
      simp only [jumps]
      exact bodyPost_ret (v := .tuple #[.string ⟨#[]⟩, .bool false]) (by simp [results, Tryz.results49, go_sem]) rfl ⟨rfl, HF, q, by omega, HS3.out, fun l e h => by cases h⟩
  case p1 =>
    rintro n a wx ⟨⟨u7, u8, u9, u10, u11, u12, u13, u14, u15, u16, u17, u18, u19, u20, u21, u22, u23, u24, u25, u26, u27, u28, u29, rfl⟩, ⟨h01, _⟩ | ⟨_, k, p, acc, rfl, hk, hq, hW⟩⟩
    case inl => cases h01
    have hB1 : (w.alloc (Obj.cells #[Value.int IntKind.i32 (m : Int)] 21)).heap.size = w.heap.size + 1 := by simp
    have GT : ∀ {w1 : World}, Bt (w.heap.size + 1) b (w.alloc (Obj.cells #[Value.int IntKind.i32 (m : Int)] 21)) w1 → Lib.Utf8Tabs G1 G2 w1 ∧ w.heap.size + 1 ≤ w1.heap.size := by
      intro w1 hb
      have hz := hb.size
      have hT1 := Utf8Tabs_below hT (below_new w (Obj.cells #[Value.int IntKind.i32 (m : Int)] 21))
      have ht := cell_lt (hT.1 0 (by omega))
      have ht2 := cell_lt ((hT.2 0 (by omega)).1)
      unfold GB at hg
      simp only at ht ht2
      exact ⟨Utf8Tabs_but hT1 hb (fun e => by unfold G1 at *; omega) (fun e => by unfold G2 at *; omega), by omega⟩
    have cE := escaped_any s p b hW.le hs wx hW.sc (GT hW.bt).1 hg
    unfold quotE at hq
    obtain ⟨x, hx⟩ : ∃ x, escAt s p = x := ⟨_, rfl⟩
    have hxl := fun c e h => esc_lt (s := s) (p := p) (c := c) (e := e) (hx.trans h)
    rw [hx] at cE hq
    have HW := hidb hW
    clear hW hx h ho
    cases x with
    | none =>
      simp only [Option.bind_none] at hq
      subst hq
      go_wp2_with (first
        | (go_at_call 66; refine cE.mono ?_; rintro e w1 ⟨rfl, hb1, j, hj1, hs1, hj2⟩; have HS1 := hidb hs1; have HB1 := hidb (HW.out.bt.trans (Bt.one hb1)); have HJ := hidb hj1; clear hj1 hj2))
      have HF := (But.of_below (S := (· = b)) (below_new w (Obj.cells #[Value.int IntKind.i32 (m : Int)] 21))).trans (HB1.out.mono (S' := (· = b)) (fun k hk e => e.elim id (fun e => absurd hk (by rw [hB1]; omega))))
      simp only [jumps]
      exact bodyPost_ret (v := .tuple #[.string ⟨#[]⟩, .bool false]) (by simp [results, Tryz.results49, go_sem]) rfl ⟨rfl, HF, j, HJ.out, HS1.out, fun l e h => by cases h⟩
    | some ce =>
      obtain ⟨c, e⟩ := ce
      obtain ⟨hc, hpe, hes⟩ := hxl c e rfl
      simp only [Option.bind_some, Option.map_some, Option.getD_some, Option.isSome_some] at hq cE
      have hcell : Lib.byteCells acc ++ [.int .u8 (c : Int)] = Lib.byteCells (acc ++ [UInt8.ofNat c]) := by
        rw [Lib.byteCells_append]
        simp [Lib.byteCells]
        omega
      have cW := fun w1 h1 h2 => writeByte_k (w.heap.size + 1) (w.heap.size + 1) (Lib.byteCells acc) (c : Int) w1 h1 (by have := HW.out.ac; have := HW.out.le; rw [Lib.byteCells_length]; omega) h2
      simp only [hcell] at cW
      clear hcell hxl
      go_wp2_with (first
        | (go_at_call 66; refine cE.mono ?_; rintro er w1 ⟨rfl, hb1, j, hj1, hs1, hj2⟩; obtain rfl := hj2 c e rfl; have HS1 := hidb hs1; have HB1 := hidb (HW.out.bt.trans (Bt.one hb1)); have HD1 := hidb (bd_but HW.out.bd hb1 (fun k e => by omega)); clear hj1 hj2)
        | (go_at_call 67; refine (cW _ HD1.out (GT HB1.out).2).mono ?_; rintro er w2 ⟨rfl, hd2, hb2, _⟩; have HB2 := hidb (HB1.out.trans (Bt.low hb2)); have HS2 := hidb (Duo.low HS1.out hb2 (by omega)); have HD2 := hidb hd2))
      go_step3
      exact ⟨2 * k, by omega, ⟨_, _, _, _, _, _, _, _, _, _, _, _, _, _, _, _, _, _, _, _, _, _, _, rfl⟩, .inl ⟨rfl, k, j, acc ++ [UInt8.ofNat c], rfl, by omega, hq, ⟨HS2.out, HB2.out, .inr HD2.out, by omega, by rw [List.length_append]; have := HW.out.ac; simp; omega⟩⟩⟩
end Go.Proofs.YtdpfmmbfidknfaaGreatDoor


