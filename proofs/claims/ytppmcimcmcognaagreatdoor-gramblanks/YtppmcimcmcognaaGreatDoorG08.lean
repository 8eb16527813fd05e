import Derived.Test.YtppmcimcmcognaaGreatDoorG07
/- Quotations. -/
namespace Go.Proofs.YtppmcimcmcognaaGreatDoor
open Go.RowKit Go.Lib
attribute [local go_sem] store_float f64bits
attribute [local go_sem ↓] Go.wp_at_zero Go.wp_at_succ

/-- What stands in a quotation, and the place behind it. -/
def quotN (s : ByteArray) (m : Nat) : Nat → Nat → List UInt8 → Option (List UInt8 × Nat)
  | 0, _, _ => none
  | k + 1, p, acc =>
    if goes (pIn m) s p < s.size then
      if bt s (goes (pIn m) s p) = m then some (acc ++ (s.extract p (goes (pIn m) s p)).data.toList, goes (pIn m) s p + 1)
      else (escAt s (goes (pIn m) s p + 1)).bind fun x => quotN s m k x.2 (acc ++ (s.extract p (goes (pIn m) s p)).data.toList ++ [UInt8.ofNat x.1])
    else none

def quotE (s : ByteArray) (m k q : Nat) (acc : List UInt8) : Option (List UInt8 × Nat) := (escAt s q).bind fun x => quotN s m k x.2 (acc ++ [UInt8.ofNat x.1])

theorem e_in : ∀ args w, (callFunc 96 args).run Tryz.prog w = .ok (.enter 96 args) w := enters_of Tryz.func96 (by kernel_rfl) rfl

theorem isIn_any (m mk n : Nat) (w : World) (hc : w.cell? ⟨mk, 0, none⟩ = some (.int .i32 (m : Int))) : Calls Tryz.prog 96 #[.int .i32 (n : Int), .pointer (some ⟨mk, 0, none⟩)] w fun e w' => e = .returned (.bool (pIn m n)) ∧ w' = w := by
  unfold pIn
  by_cases h1 : n = m
  · subst h1
    go_enter Tryz.func96, Tryz.ntmps96
    go_wp2
    go_ret
    exact ⟨by simp, rfl⟩
  · have h2 : ((n : Int) != (m : Int)) = true := by simp; omega
    have h3 : ((n : Int) == (m : Int)) = false := by simp; omega
    have h4 : (n != m) = true := by simpa using h1
    go_enter Tryz.func96, Tryz.ntmps96
    go_wp2
    go_ret
    refine ⟨?_, rfl⟩
    rw [h4]
    simp
    rw [Bool.eq_iff_iff]; simp; omega

theorem Duo.low {B : Nat} {w w' : World} {b : Nat} {v0 v1 : Value} (h : Duo w b v0 v1) (hb : Below B w w') (hB : b < B) : Duo w' b v0 v1 :=
  h.but (S := fun k => B ≤ k) ⟨hb.os, hb.tape, hb.output, hb.size, fun k _ hs => hb.block k (Nat.lt_of_not_le hs)⟩ (by omega)

/-- Of the blocks below B only b has turned. -/
abbrev Bt (B b : Nat) (w w' : World) : Prop := But (fun k => k = b ∨ B ≤ k) w w'
theorem Bt.one {B b : Nat} {w w' : World} (h : But (· = b) w w') : Bt B b w w' := h.mono fun _ _ e => .inl e
theorem Bt.low {B b : Nat} {w w' : World} (h : Below B w w') : Bt B b w w' := ⟨h.os, h.tape, h.output, h.size, fun k _ hs => h.block k (Nat.lt_of_not_le fun e => hs (.inr e))⟩

/-- The run's frame at its labels. -/
def QF (b : Nat) (m : Int) (mk bd : Nat) (a : Act) : Prop := ∃ u7 u8 u9 u10 u11 u12 u13 u14 u15 u16 u17 u18 u19 u20 u21 u22 u23 u24 u25 u26 u27 u28 u29 : Value, a = { tmps := #[.pointer (some ⟨b, 0, none⟩), .int .i32 m, undef, .pointer (some ⟨mk, 0, none⟩), .string ⟨#[]⟩, .bool false, .pointer (some ⟨bd, 0, none⟩), u7, u8, u9, u10, u11, u12, u13, u14, u15, u16, u17, u18, u19, u20, u21, u22, u23, u24, u25, u26, u27, u28, u29], defers := [] }

structure QW (s : ByteArray) (b B bd : Nat) (W1 wx : World) (p : Nat) (acc : List UInt8) : Prop where
  sc : Sc wx b s p
  bt : Bt B b W1 wx
  bd : Lib.IsBuilderF TB TU B bd (Lib.byteCells acc) wx
  le : p ≤ s.size
  ac : acc.length ≤ p

def QJ (s : ByteArray) (m b mk bd B : Nat) (W1 : World) (o : Option (List UInt8 × Nat)) (n l : Nat) (a : Act) (wx : World) : Prop :=
  QF b m mk bd a ∧ ((l = 0 ∧ ∃ k p acc, n = 2 * k ∧ s.size < p + k ∧ quotN s m k p acc = o ∧ QW s b B bd W1 wx p acc) ∨ (l = 1 ∧ ∃ k q acc, n = 2 * k + 1 ∧ s.size < q + k ∧ quotE s m k q acc = o ∧ QW s b B bd W1 wx q acc))

def quV (o : Option (List UInt8 × Nat)) : Value := .tuple #[.string ⟨((o.map Prod.fst).getD []).toArray⟩, .bool o.isSome]

set_option maxHeartbeats 1000000 in
theorem quoted_any (s : ByteArray) (i b m : Nat) (hm : m = 39 ∨ m = 34) (hi : i ≤ s.size) (hs : s.size ≤ 65536) (w : World) (h : Sc w b s i) (hT : Lib.Utf8Tabs G1 G2 w) (hg : GB ≤ b) :
    Calls Tryz.prog 74 #[.pointer (some ⟨b, 0, none⟩), .int .i32 (m : Int)] w fun e w' => e = .returned (quV (quotN s m (s.size + 1) i [])) ∧ But (· = b) w w' ∧ ∃ j, j ≤ s.size ∧ Sc w' b s j ∧ ∀ l e, quotN s m (s.size + 1) i [] = some (l, e) → j = e := by
  have hlt := h.lt
  obtain ⟨o, ho⟩ : ∃ o, quotN s m (s.size + 1) i [] = o := ⟨_, rfl⟩
  rw [ho]
  go_enter Tryz.func74, Tryz.ntmps74
  go_wp2_with fail
  refine wp_scope2 (QJ s m b w.heap.size (w.heap.size + 1) (w.heap.size + 1) (w.alloc (Obj.cells #[Value.int IntKind.i32 (m : Int)] 21)) o) ?hl rfl rfl ?first ?p0 ?p1
  case hl =>
    rintro n l a wx ⟨_, ⟨rfl, _⟩ | ⟨rfl, _⟩⟩
    · exact .inl rfl
    · exact .inr rfl
  case first =>
    intro H0
    go_wp2_with fail
    go_step3
    rename_i K hK
    refine hK _ _ ?_
    refine H0 (2 * (s.size + 1)) _ _ ⟨⟨_, _, _, _, _, _, _, _, _, _, _, _, _, _, _, _, _, _, _, _, _, _, _, rfl⟩, .inl ⟨rfl, s.size + 1, i, [], rfl, by omega, ho, ?_⟩⟩
    have hB1 : (w.alloc (Obj.cells #[Value.int IntKind.i32 (m : Int)] 21)).heap.size = w.heap.size + 1 := by simp
    have hbn := bd_new (w.alloc (Obj.cells #[Value.int IntKind.i32 (m : Int)] 21)) (w.heap.size + 1) (by omega)
    rw [hB1] at hbn
    exact ⟨Duo.keep (Duo.keep h (below_new _ _)) (below_new _ _), Bt.low ((Below.refl _ _).alloc (by omega) _), hbn, hi, by simp⟩
  case p0 =>
    rintro n a wx ⟨⟨u7, u8, u9, u10, u11, u12, u13, u14, u15, u16, u17, u18, u19, u20, u21, u22, u23, u24, u25, u26, u27, u28, u29, rfl⟩, ⟨_, k, p, acc, rfl, hk, hq, hW⟩ | ⟨h01, _⟩⟩
    case inr => cases h01
    have hB1 : (w.alloc (Obj.cells #[Value.int IntKind.i32 (m : Int)] 21)).heap.size = w.heap.size + 1 := by simp
    have hmark : (w.alloc (Obj.cells #[Value.int IntKind.i32 (m : Int)] 21)).cell? ⟨w.heap.size, 0, none⟩ = some (.int .i32 (m : Int)) := by rw [World.cell?_alloc_new]; rfl
    have GT : ∀ {w1 : World}, Bt (w.heap.size + 1) b (w.alloc (Obj.cells #[Value.int IntKind.i32 (m : Int)] 21)) w1 → Lib.Utf8Tabs G1 G2 w1 ∧ w1.cell? ⟨w.heap.size, 0, none⟩ = some (.int .i32 (m : Int)) ∧ w.heap.size + 1 ≤ w1.heap.size := by
      intro w1 hb
      have hz := hb.size
      have hT1 := Utf8Tabs_below hT (below_new w (Obj.cells #[Value.int IntKind.i32 (m : Int)] 21))
      have ht := cell_lt (hT.1 0 (by omega))
      have ht2 := cell_lt ((hT.2 0 (by omega)).1)
      unfold GB at hg
      simp only at ht ht2
      exact ⟨Utf8Tabs_but hT1 hb (fun e => by unfold G1 at *; omega) (fun e => by unfold G2 at *; omega), (hb.cell (p := ⟨w.heap.size, 0, none⟩) (by simp) (by simp; omega)).trans hmark, by omega⟩
    obtain ⟨k, rfl⟩ : ∃ k', k = k' + 1 := ⟨k - 1, by have := hW.le; omega⟩
    have hmk := (GT hW.bt).2.1
    have cT := take_any 96 #[.pointer (some ⟨w.heap.size, 0, none⟩)] e_in (pIn m) true (flat_in m (by omega)) s p b hW.le hs wx hW.sc (fun W x _ hbW => isIn_any m w.heap.size x W ((hbW.cell (cell_lt hmk)).trans hmk))
    have hge := goes_ge (pIn m) s p
    have hgl := goes_le (pIn m) s p hW.le
    have hgn := goes_not (pIn m) s p
    have hnx := nx_low (s := s) (i := goes (pIn m) s p)
    have hne := nx_end (s := s) (i := goes (pIn m) s p)
    have cN := fun W h1 h2 => next_any s (goes (pIn m) s p) b hgl hs W h1 h2
    have hXs : (s.extract p (goes (pIn m) s p)).size = goes (pIn m) s p - p := by rw [size_ext]; omega
    unfold quotN at hq
    obtain ⟨q, hqe⟩ : ∃ q, goes (pIn m) s p = q := ⟨_, rfl⟩
    rw [hqe] at cT hge hgl hgn hnx hne cN hXs hq
    obtain ⟨X, hX⟩ : ∃ X, s.extract p q = X := ⟨_, rfl⟩
    rw [hX] at cT hXs hq
    have cW := fun w1 h1 h2 => writeString_k (w.heap.size + 1) (w.heap.size + 1) (Lib.byteCells acc) X w1 h1 (by have := hW.ac; rw [Lib.byteCells_length]; omega) h2
    have eacc : Lib.byteCells acc ++ Lib.strCells X = Lib.byteCells (acc ++ X.data.toList) := by rw [Lib.strCells_eq, Lib.byteCells_append]
    simp only [eacc] at cW
    have hXl : X.data.toList.length = X.size := rfl
    have HW := hidb hW
    clear hW hqe hX eacc hmark hmk h ho
    have hmm : ((m : Int) == (m : Int)) = true := by simp
    have m1 : ((92 : Int) == (m : Int)) = false := by rcases hm with rfl | rfl <;> decide
    have m2 : ((-1 : Int) == (m : Int)) = false := by rcases hm with rfl | rfl <;> decide
    by_cases hlq : q < s.size
    · rw [if_pos hlq] at hq
      have hgn2 := hgn hlq
      by_cases hbm : bt s q = m
      · rw [if_pos hbm] at hq
        have hx := hnx hlq (by omega)
        rw [hx.1, hx.2, hbm] at cN
        clear hx hnx hne hgn hgn2 hbm
        go_wp2_with (first
        | (go_at_call 33; refine cT.mono ?_; rintro e w1 ⟨rfl, hs1, hb1⟩; have HS1 := hidb hs1; have HB1 := hidb (HW.out.bt.trans (Bt.one hb1)); have HD1 := hidb (bd_but HW.out.bd hb1 (fun k e => by omega)))
        | (go_at_call 95; refine (cW _ HD1.out (GT HB1.out).2.2).mono ?_; rintro e w2 ⟨rfl, hd2, hb2, _⟩; have HB2 := hidb (HB1.out.trans (Bt.low hb2)); have HS2 := hidb (Duo.low HS1.out hb2 (by omega)); have HD2 := hidb hd2)
        | (go_at_call 65; refine (cN _ HS2.out (GT HB2.out).1).mono ?_; rintro e w3 ⟨rfl, hs3, hb3⟩; have HS3 := hidb hs3; have HB3 := hidb (HB2.out.trans (Bt.one hb3)); have HD3 := hidb (bd_but (.inr HD2.out) hb3 (fun k e => by omega)); have hmk3 := (GT HB3.out).2.1)
        | (go_at_call 97; refine (Tryz.Builder_String_any_k (w.heap.size + 1) (w.heap.size + 1) (acc ++ X.data.toList) _ HD3.out (GT HB3.out).2.2).mono ?_; rintro e w4 ⟨rfl, _, hb4, _⟩; have HB4 := hidb (HB3.out.trans (Bt.low hb4)); have HS4 := hidb (Duo.low HS3.out hb4 (by omega))))
        have HF := (But.of_below (S := (· = b)) (below_new w (Obj.cells #[Value.int IntKind.i32 (m : Int)] 21))).trans ((HB4.out.mono (S' := (· = b)) (fun k hk e => e.elim id (fun e => absurd hk (by rw [hB1]; omega)))))
        subst hq
        simp only [jumps]
        exact bodyPost_ret (v := .tuple #[.string ⟨(acc ++ X.data.toList).toArray⟩, .bool true]) (by simp [results, Tryz.results74, go_sem]) rfl ⟨rfl, HF, q + 1, by omega, HS4.out, fun l e h => by cases h; rfl⟩
      · rw [if_neg hbm] at hq
        have hb92 : bt s q = 92 := by simp [pIn] at hgn2; omega
        have hx := hnx hlq (by omega)
        rw [hx.1, hx.2, hb92] at cN
        clear hx hnx hne hgn hgn2 hbm hb92
        go_wp2_with (first
        | (go_at_call 33; refine cT.mono ?_; rintro e w1 ⟨rfl, hs1, hb1⟩; have HS1 := hidb hs1; have HB1 := hidb (HW.out.bt.trans (Bt.one hb1)); have HD1 := hidb (bd_but HW.out.bd hb1 (fun k e => by omega)))
        | (go_at_call 95; refine (cW _ HD1.out (GT HB1.out).2.2).mono ?_; rintro e w2 ⟨rfl, hd2, hb2, _⟩; have HB2 := hidb (HB1.out.trans (Bt.low hb2)); have HS2 := hidb (Duo.low HS1.out hb2 (by omega)); have HD2 := hidb hd2)
        | (go_at_call 65; refine (cN _ HS2.out (GT HB2.out).1).mono ?_; rintro e w3 ⟨rfl, hs3, hb3⟩; have HS3 := hidb hs3; have HB3 := hidb (HB2.out.trans (Bt.one hb3)); have HD3 := hidb (bd_but (.inr HD2.out) hb3 (fun k e => by omega)); have hmk3 := (GT HB3.out).2.1)
        | fail)
        go_step3
        exact ⟨2 * k + 1, by omega, ⟨_, _, _, _, _, _, _, _, _, _, _, _, _, _, _, _, _, _, _, _, _, _, _, rfl⟩, .inr ⟨rfl, k, q + 1, acc ++ X.data.toList, rfl, by omega, hq, ⟨HS3.out, HB3.out, HD3.out, by omega, by rw [List.length_append, hXl]; have := HW.out.ac; omega⟩⟩⟩
    · rw [if_neg hlq] at hq
      have hx := hne (by omega)
      rw [hx.1, hx.2] at cN
      clear hx hnx hne hgn
      go_wp2_with (first
      | (go_at_call 33; refine cT.mono ?_; rintro e w1 ⟨rfl, hs1, hb1⟩; have HS1 := hidb hs1; have HB1 := hidb (HW.out.bt.trans (Bt.one hb1)); have HD1 := hidb (bd_but HW.out.bd hb1 (fun k e => by omega)))
      | (go_at_call 95; refine (cW _ HD1.out (GT HB1.out).2.2).mono ?_; rintro e w2 ⟨rfl, hd2, hb2, _⟩; have HB2 := hidb (HB1.out.trans (Bt.low hb2)); have HS2 := hidb (Duo.low HS1.out hb2 (by omega)); have HD2 := hidb hd2)
      | (go_at_call 65; refine (cN _ HS2.out (GT HB2.out).1).mono ?_; rintro e w3 ⟨rfl, hs3, hb3⟩; have HS3 := hidb hs3; have HB3 := hidb (HB2.out.trans (Bt.one hb3)); have HD3 := hidb (bd_but (.inr HD2.out) hb3 (fun k e => by omega)); have hmk3 := (GT HB3.out).2.1)
      | fail)
      have HF := (But.of_below (S := (· = b)) (below_new w (Obj.cells #[Value.int IntKind.i32 (m : Int)] 21))).trans (HB3.out.mono (S' := (· = b)) (fun k hk e => e.elim id (fun e => absurd hk (by rw [hB1]; omega))))
      subst hq
      simp only [jumps]
      exact bodyPost_ret (v := .tuple #[.string ⟨#[]⟩, .bool false]) (by simp [results, Tryz.results74, go_sem]) rfl ⟨rfl, HF, q, by omega, HS3.out, fun l e h => by cases h⟩
  case p1 =>
    rintro n a wx ⟨⟨u7, u8, u9, u10, u11, u12, u13, u14, u15, u16, u17, u18, u19, u20, u21, u22, u23, u24, u25, u26, u27, u28, u29, rfl⟩, ⟨h01, _⟩ | ⟨_, k, p, acc, rfl, hk, hq, hW⟩⟩
    case inl => cases h01
    have hB1 : (w.alloc (Obj.cells #[Value.int IntKind.i32 (m : Int)] 21)).heap.size = w.heap.size + 1 := by simp
    have GT : ∀ {w1 : World}, Bt (w.heap.size + 1) b (w.alloc (Obj.cells #[Value.int IntKind.i32 (m : Int)] 21)) w1 → Lib.Utf8Tabs G1 G2 w1 ∧ w.heap.size + 1 ≤ w1.heap.size := by
      intro w1 hb
      have hz := hb.size
      have hT1 := Utf8Tabs_below hT (below_new w (Obj.cells #[Value.int IntKind.i32 (m : Int)] 21))
      have ht := cell_lt (hT.1 0 (by omega))
      have ht2 := cell_lt ((hT.2 0 (by omega)).1)
      unfold GB at hg
      simp only at ht ht2
      exact ⟨Utf8Tabs_but hT1 hb (fun e => by unfold G1 at *; omega) (fun e => by unfold G2 at *; omega), by omega⟩
    have cE := escaped_any s p b hW.le hs wx hW.sc (GT hW.bt).1 hg
    unfold quotE at hq
    obtain ⟨x, hx⟩ : ∃ x, escAt s p = x := ⟨_, rfl⟩
    have hxl := fun c e h => esc_lt (s := s) (p := p) (c := c) (e := e) (hx.trans h)
    rw [hx] at cE hq
    have HW := hidb hW
    clear hW hx h ho
    cases x with
    | none =>
      simp only [Option.bind_none] at hq
      subst hq
      go_wp2_with (first
        | (go_at_call 98; refine cE.mono ?_; rintro e w1 ⟨rfl, hb1, j, hj1, hs1, hj2⟩; have HS1 := hidb hs1; have HB1 := hidb (HW.out.bt.trans (Bt.one hb1)); have HJ := hidb hj1; clear hj1 hj2))
      have HF := (But.of_below (S := (· = b)) (below_new w (Obj.cells #[Value.int IntKind.i32 (m : Int)] 21))).trans (HB1.out.mono (S' := (· = b)) (fun k hk e => e.elim id (fun e => absurd hk (by rw [hB1]; omega))))
      simp only [jumps]
      exact bodyPost_ret (v := .tuple #[.string ⟨#[]⟩, .bool false]) (by simp [results, Tryz.results74, go_sem]) rfl ⟨rfl, HF, j, HJ.out, HS1.out, fun l e h => by cases h⟩
    | some ce =>
      obtain ⟨c, e⟩ := ce
      obtain ⟨hc, hpe, hes⟩ := hxl c e rfl
      simp only [Option.bind_some, Option.map_some, Option.getD_some, Option.isSome_some] at hq cE
      have hcell : Lib.byteCells acc ++ [.int .u8 (c : Int)] = Lib.byteCells (acc ++ [UInt8.ofNat c]) := by
        rw [Lib.byteCells_append]
        simp [Lib.byteCells]
        omega
      have cW := fun w1 h1 h2 => writeByte_k (w.heap.size + 1) (w.heap.size + 1) (Lib.byteCells acc) (c : Int) w1 h1 (by have := HW.out.ac; have := HW.out.le; rw [Lib.byteCells_length]; omega) h2
      simp only [hcell] at cW
      clear hcell hxl
      go_wp2_with (first
        | (go_at_call 98; refine cE.mono ?_; rintro er w1 ⟨rfl, hb1, j, hj1, hs1, hj2⟩; obtain rfl := hj2 c e rfl; have HS1 := hidb hs1; have HB1 := hidb (HW.out.bt.trans (Bt.one hb1)); have HD1 := hidb (bd_but HW.out.bd hb1 (fun k e => by omega)); clear hj1 hj2)
        | (go_at_call 99; refine (cW _ HD1.out (GT HB1.out).2).mono ?_; rintro er w2 ⟨rfl, hd2, hb2, _⟩; have HB2 := hidb (HB1.out.trans (Bt.low hb2)); have HS2 := hidb (Duo.low HS1.out hb2 (by omega)); have HD2 := hidb hd2))
      go_step3
      exact ⟨2 * k, by omega, ⟨_, _, _, _, _, _, _, _, _, _, _, _, _, _, _, _, _, _, _, _, _, _, _, rfl⟩, .inl ⟨rfl, k, j, acc ++ [UInt8.ofNat c], rfl, by omega, hq, ⟨HS2.out, HB2.out, .inr HD2.out, by omega, by rw [List.length_append]; have := HW.out.ac; simp; omega⟩⟩⟩
end Go.Proofs.YtppmcimcmcognaaGreatDoor


/- Quotations as tokens. -/
namespace Go.Proofs.YtppmcimcmcognaaGreatDoor
open Go.RowKit Go.Lib
attribute [local go_sem] store_float f64bits
attribute [local go_sem ↓] Go.wp_at_zero Go.wp_at_succ

def atomV (x : ByteArray) : Value := if 64 < x.size then badV 23 else .tuple #[.agg #[.int .i64 (1), .string (x), .int .i64 (0), .float .f64 (0), .int .i64 (0)], .int .i64 0]
theorem atomV_tk (x : ByteArray) : IsTk (atomV x) := by
  unfold atomV
  split
  · exact badV_tk _
  · exact ⟨_, _, _, _, _, rfl⟩

def quoteV (s : ByteArray) (i : Nat) : Value :=
  match quotN s (bt s i) (s.size + 1) (i + 1) [] with
  | some (l, _) => if bt s i = 39 then atomV ⟨l.toArray⟩ else .tuple #[.agg #[.int .i64 (5), .string (⟨l.toArray⟩), .int .i64 (0), .float .f64 (0), .int .i64 (0)], .int .i64 0]
  | none => badV 23
def quoteE (s : ByteArray) (i : Nat) : Nat := ((quotN s (bt s i) (s.size + 1) (i + 1) []).map Prod.snd).getD i

theorem quotN_len (s : ByteArray) (m : Nat) : ∀ k p acc l e, p ≤ s.size → quotN s m k p acc = some (l, e) → l.length + p ≤ acc.length + e ∧ e ≤ s.size ∧ p < e := by
  intro k
  induction k with
  | zero => intro p acc l e _ h; cases h
  | succ k ih =>
    intro p acc l e hp h
    have h1 := goes_ge (pIn m) s p
    have h2 := goes_le (pIn m) s p hp
    have h3 : ((s.extract p (goes (pIn m) s p)).data.toList).length = goes (pIn m) s p - p := by
      have : (s.extract p (goes (pIn m) s p)).size = goes (pIn m) s p - p := by rw [size_ext]; omega
      exact this
    simp only [quotN] at h
    split at h
    · split at h
      · cases h
        rw [List.length_append, h3]
        omega
      · cases hx : escAt s (goes (pIn m) s p + 1) with
        | none => rw [hx] at h; cases h
        | some x =>
          rw [hx] at h
          obtain ⟨c, e'⟩ := x
          have h4 := esc_lt hx
          simp only [Option.bind_some] at h
          have h5 := ih _ _ _ _ (by omega) h
          rw [List.length_append, List.length_append, h3] at h5
          simp at h5
          omega
    · cases h

set_option maxHeartbeats 1000000 in
theorem quotation_any (s : ByteArray) (i b : Nat) (hi : i < s.size) (hm : bt s i = 39 ∨ bt s i = 34) (hs : s.size ≤ 65536) (w : World) (h : Sc w b s i) (hT : Lib.Utf8Tabs G1 G2 w) (hg : GB ≤ b) :
    Calls Tryz.prog 44 #[.pointer (some ⟨b, 0, none⟩)] w fun e w' => e = .returned (quoteV s i) ∧ But (· = b) w w' ∧ ∃ j, j ≤ s.size ∧ Sc w' b s j ∧ (okV (quoteV s i) = true → j = quoteE s i) := by
  have hlt := h.lt
  have GT1 : ∀ {w1 : World}, But (· = b) w w1 → Lib.Utf8Tabs G1 G2 w1 := fun hb => Utf8Tabs_but hT hb (fun e => by unfold GB at hg; unfold G1 at e; omega) (fun e => by unfold GB at hg; unfold G2 at e; omega)
  have cN := next_any s i b (by omega) hs (wbox w) (Duo.keep h (wbox_below w)) (GT1 (But.of_below (wbox_below w)))
  have hnx := nx_low hi (by omega)
  rw [hnx.1, hnx.2] at cN
  have cQ := fun W h1 h2 => quoted_any s (i + 1) b (bt s i) hm (by omega) hs W h1 h2 hg
  have hql := quotN_len s (bt s i) (s.size + 1) (i + 1) []
  unfold quoteV quoteE
  obtain ⟨o, ho⟩ : ∃ o, quotN s (bt s i) (s.size + 1) (i + 1) [] = o := ⟨_, rfl⟩
  rw [ho] at cQ ⊢
  have hql2 := fun l e hh => hql l e (by omega) (ho.trans hh)
  obtain ⟨m, hmm⟩ : ∃ m, bt s i = m := ⟨_, rfl⟩
  rw [hmm] at cN cQ hm ⊢
  clear hnx ho hmm hql hT
  cases o with
  | none =>
    simp only [quV, Option.map_none, Option.getD_none, Option.isSome_none] at cQ
    go_enter Tryz.func44, Tryz.ntmps44
    go_wp2_with (first
      | (go_at_call 65; refine cN.mono ?_; rintro e w1 ⟨rfl, hs1, hb1⟩; have HS1 := hidb hs1; have HB1 := hidb ((But.of_below (wbox_below w)).trans hb1); have HX1 := hidb ((wbox_box w).but hb1 (by omega)))
      | (go_at_call 74; refine (cQ _ HS1.out (GT1 HB1.out)).mono ?_; rintro e w2 ⟨rfl, hb2, j, hj1, hs2, hj2⟩; have HS2 := hidb hs2; have HB2 := hidb (HB1.out.trans hb2); have HJ := hidb hj1; have HX2 := hidb (HX1.out.but hb2 (by omega)); obtain ⟨d0, d1, d2, d3, d4, g0, g1, g2, g3, g4, _⟩ := HX2.out; clear hj1 hj2))
    exact bodyPost_ret (v := badV 23) (by simp [results, Tryz.results44, go_sem, d0, d1, d2, d3, d4]) rfl ⟨rfl, HB2.out.set5 (fun h => absurd h (Nat.lt_irrefl _)) _ _ _ _ _, j, HJ.out, Duo.set5 HS2.out (by omega) _ _ _ _ _, fun h => by cases h⟩
  | some le =>
    obtain ⟨l, en⟩ := le
    obtain ⟨hl1, hl2, hl3⟩ := hql2 l en rfl
    simp only [quV, Option.map_some, Option.getD_some, Option.isSome_some] at cQ ⊢
    obtain ⟨X, hX⟩ : ∃ X, (⟨l.toArray⟩ : ByteArray) = X := ⟨_, rfl⟩
    have hXs : X.size ≤ 65536 := by rw [← hX]; simp [ByteArray.size]; simp at hl1; omega
    rw [hX] at cQ ⊢
    clear hX hql2 hl1
    rcases hm with rfl | rfl
    · have cA := atom_any X hXs
      change ∀ w, Calls Tryz.prog 68 #[.string X] w fun e w' => e = .returned (atomV X) ∧ Below w.heap.size w w' at cA
      obtain ⟨k, x, n, f, er, hV⟩ := atomV_tk X
      simp only [hV, if_true] at cA ⊢
      clear hV
      go_enter Tryz.func44, Tryz.ntmps44
      go_wp2_with (first
        | (go_at_call 65; refine cN.mono ?_; rintro e w1 ⟨rfl, hs1, hb1⟩; have HS1 := hidb hs1; have HB1 := hidb ((But.of_below (wbox_below w)).trans hb1); have HX1 := hidb ((wbox_box w).but hb1 (by omega)))
        | (go_at_call 74; refine (cQ _ HS1.out (GT1 HB1.out)).mono ?_; rintro e w2 ⟨rfl, hb2, j, hj1, hs2, hj2⟩; obtain rfl := hj2 l en rfl; have HS2 := hidb hs2; have HB2 := hidb (HB1.out.trans hb2); have HX2 := hidb (HX1.out.but hb2 (by omega)); clear hj1 hj2)
        | (go_at_call 68; refine (cA _).mono ?_; rintro e w3 ⟨rfl, hb3⟩; have HB3 := hidb hb3; obtain ⟨z0, z1, z2, z3, z4, y0, y1, y2, y3, y4, _⟩ := HX2.out.keep hb3))
      exact bodyPost_ret (v := .tuple #[.agg #[.int .i64 (k), .string (x), .int .i64 (n), .float .f64 (f), .int .i64 (0)], .int .i64 er]) (by simp [results, Tryz.results44, go_sem, z0, z1, z2, z3, z4]) rfl ⟨rfl, (HB2.out.trans (But.of_below HB3.out)).set5 (fun h => absurd h (Nat.lt_irrefl _)) _ _ _ _ _, j, hl2, Duo.set5 (Duo.keep HS2.out HB3.out) (by omega) _ _ _ _ _, fun _ => rfl⟩
    · have h34 : ¬ ((34 : Nat) = 39) := by omega
      simp only [h34, if_false]
      go_enter Tryz.func44, Tryz.ntmps44
      go_wp2_with (first
        | (go_at_call 65; refine cN.mono ?_; rintro e w1 ⟨rfl, hs1, hb1⟩; have HS1 := hidb hs1; have HB1 := hidb ((But.of_below (wbox_below w)).trans hb1); have HX1 := hidb ((wbox_box w).but hb1 (by omega)))
        | (go_at_call 74; refine (cQ _ HS1.out (GT1 HB1.out)).mono ?_; rintro e w2 ⟨rfl, hb2, j, hj1, hs2, hj2⟩; obtain rfl := hj2 l en rfl; have HS2 := hidb hs2; have HB2 := hidb (HB1.out.trans hb2); have HX2 := hidb (HX1.out.but hb2 (by omega)); obtain ⟨d0, d1, d2, d3, d4, g0, g1, g2, g3, g4, _⟩ := HX2.out; clear hj1 hj2))
      exact bodyPost_ret (v := .tuple #[.agg #[.int .i64 (5), .string (X), .int .i64 (0), .float .f64 (0), .int .i64 (0)], .int .i64 0]) (by simp [results, Tryz.results44, go_sem, d0, d1, d2, d3, d4]) rfl ⟨rfl, HB2.out.set5 (fun h => absurd h (Nat.lt_irrefl _)) _ _ _ _ _, j, hl2, Duo.set5 HS2.out (by omega) _ _ _ _ _, fun _ => rfl⟩
end Go.Proofs.YtppmcimcmcognaaGreatDoor


