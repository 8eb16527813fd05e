import Derived.Test.YtecgddiohoeboaaDoorG30
import Derived.Test.YtecgddiohoeboaaDoorLwD
/- A term as text, walked. -/
namespace Go.Proofs.YtecgddiohoeboaaDoor
open Go.RowKit Go.Lib Go.Deep
attribute [local go_sem] store_float f64bits
attribute [local go_sem ↓] Go.wp_at_zero Go.wp_at_succ

theorem resT_snoc (l : List Tr) (t : Tr) : resT (l ++ [t]) = resT l ++ 44 :: wrT t := by
  induction l with
  | nil => simp [resT]
  | cons u r ih => simp [resT, ih]
theorem rowT_snoc (l : List Tr) (t : Tr) : rowT (l ++ [t]) = rowT l ++ ((if l.length = 0 then [] else [44]) ++ wrT t) := by
  cases l with
  | nil => simp [rowT, resT]
  | cons u r => simp [rowT, resT_snoc]
theorem rowT_take (l : List Tr) (m : Nat) (t : Tr) (h : l[m]? = some t) : rowT (l.take (m + 1)) = rowT (l.take m) ++ ((if m = 0 then [] else [44]) ++ wrT t) := by
  have hm := (List.getElem?_eq_some_iff.1 h).1
  rw [List.take_add_one, h]
  show rowT (l.take m ++ [t]) = _
  rw [rowT_snoc, List.length_take, show min m l.length = m by omega]
theorem rowT_len (l : List Tr) (m : Nat) : (rowT (l.take m)).length ≤ (rowT l).length := by
  have hres : ∀ (l : List Tr) (m : Nat), (resT (l.take m)).length ≤ (resT l).length := by
    intro l
    induction l with
    | nil => intro m; simp
    | cons u r ih =>
      intro m
      cases m with
      | zero => simp [resT]
      | succ m => have := ih m; simp [resT]; omega
  cases l with
  | nil => simp
  | cons u r =>
    cases m with
    | zero => simp [rowT]
    | succ m => have := hres r m; simp [rowT]; omega

def WrOk (t : Tr) : Prop := Say t → (wrT t).length ≤ 50000000 → ∀ w : World, t.In w 0 → Calls Tryd.prog 19 #[t.val] w fun e w' => e = .returned (.string ⟨(wrT t).toArray⟩) ∧ Below w.heap.size w w'

theorem sayAll_get {kids : List Tr} (h : SayAll kids) {t : Tr} (ht : t ∈ kids) : Say t := by
  induction kids with
  | nil => simp at ht
  | cons u r ih =>
    have h' : Say u ∧ SayAll r := by simpa [SayAll] using h
    rcases List.mem_cons.1 ht with rfl | ht
    · exact h'.1
    · exact ih h'.2 ht

theorem wp_app_str {ops : Array Oper} {rest : List Oper} {o : Oper} {a : Act} {Q : Exit → Act → World → Prop} (w : World) (hgd : o.guard = none) (sl x : Operand)
    (ho : o.op = .call { callee := .builtin .append, args := #[sl, x], argTypes := #[31, 9] }) (base : Nat) (v : Value) (l : List UInt8) (hs : a.eval sl = v) (hown : OwnM w base v l) (s : ByteArray) (hx : a.eval x = .string s) (hz : l.length + s.size ≤ 100000000) (hb : base ≤ w.heap.size)
    (h : ∀ v' w', OwnM w' base v' (l ++ dl s) → w.grownBy w' v.ownBlock → wpList Tryd.prog ops Q rest (a.put o.dst v') w') : wpList Tryd.prog ops Q (o :: rest) a w := by
  refine wpList_plain hgd fun K hK => ?_
  obtain ⟨v', w', hr, h2, h3⟩ := app_str w base o.type v l hown s hz hb
  unfold Oper.wp execOp
  simp only [ho, resolve, invoke, builtin, Sem.run_bind, Sem.run_pure, Result.andThen_ok, List.map_toArray, List.map_cons, List.map_nil, hs, hx, hr]
  exact hK _ _ (h v' w' h2 h3)
theorem wp_app_byte {ops : Array Oper} {rest : List Oper} {o : Oper} {a : Act} {Q : Exit → Act → World → Prop} (w : World) (hgd : o.guard = none) (sl x : Operand)
    (ho : o.op = .call { callee := .builtin .append, args := #[sl, x], argTypes := #[31, 31] }) (base : Nat) (v : Value) (l : List UInt8) (hs : a.eval sl = v) (hown : OwnM w base v l) (c : UInt8) (ad : Addr) (cp : Nat) (hx : a.eval x = .slice (some ad) 1 cp) (hc : w.cell? ad = some (.int .u8 (c.toNat : Int))) (hz : l.length + 1 ≤ 100000000) (hb : base ≤ w.heap.size)
    (h : ∀ v' w', OwnM w' base v' (l ++ [c]) → w.grownBy w' v.ownBlock → wpList Tryd.prog ops Q rest (a.put o.dst v') w') : wpList Tryd.prog ops Q (o :: rest) a w := by
  refine wpList_plain hgd fun K hK => ?_
  obtain ⟨v', w', hr, h2, h3⟩ := app_byte w base o.type v l hown c ad cp hc hz hb
  unfold Oper.wp execOp
  simp only [ho, resolve, invoke, builtin, Sem.run_bind, Sem.run_pure, Result.andThen_ok, List.map_toArray, List.map_cons, List.map_nil, hs, hx, hr]
  exact hK _ _ (h v' w' h2 h3)

theorem below_bytes (w : World) (s : ByteArray) : Below w.heap.size w (bytesWorld w 5 s) :=
  ⟨rfl, rfl, rfl, by rw [bytesWorld_size]; omega, fun k hk => bytesWorld_at_old w 5 s k hk⟩

theorem own_M_lt {w : World} {base : Nat} {v : Value} {l : List UInt8} (h : OwnM w base v l) : ∀ k, v.ownBlock = some k → base ≤ k := by
  obtain ⟨g, cap, cur, fz, rfl, hbg, _⟩ := h
  intro k hk
  simp [Value.ownBlock] at hk
  omega
theorem own_M_form {w : World} {base : Nat} {v : Value} {l : List UInt8} (h : OwnM w base v l) : ∃ g cap, v = .slice (some ⟨g, 0, none⟩) l.length cap := by
  obtain ⟨g, cap, cur, fz, hv, _⟩ := h
  exact ⟨g, cap, hv⟩

set_option maxHeartbeats 4000000 in
set_option maxRecDepth 100000 in
theorem row_any (k n : Int) (f : Nat) (s : ByteArray) (a : Option Addr) (c : Nat) (kids : List Tr) (hk : ∀ t, t ∈ kids → WrOk t) (hsay : SayAll kids) (o e : UInt8) (hlen : (rowT kids).length ≤ 49999998) (w : World) (hin : (Tr.mk k n f s a c kids).In w 0) :
    Calls Tryd.prog 29 #[.slice a kids.length c, .string ⟨#[o]⟩, .string ⟨#[e]⟩] w fun en w' => en = .returned (.string ⟨(o :: (rowT kids ++ [e])).toArray⟩) ∧ Below w.heap.size w w' := by
  have HK := hidb hk
  have HIN := hidb hin
  have HSAY := hidb hsay
  have hkl := len_small hin
  have hcv := fun W : World => Lib.run_convert_string_bytes (P := Tryd.prog) W 9 31 5 ⟨#[o]⟩ Tryd.underlying9 Tryd.underlying31 Tryd.underlying5
  clear hk hin hsay
  go_enter Tryd.func29, Tryd.ntmps29
  go_wp2_with fail
  have hO0 := own_M_new w w.heap.size ⟨#[o]⟩ (by show 1 ≤ 1000; omega) (Nat.le_refl _)
  have hB0 := below_bytes w ⟨#[o]⟩
  generalize bytesWorld w 5 ⟨#[o]⟩ = W0 at hO0 hB0 ⊢
  have HO0 := hidb hO0
  have HB0 := hidb hB0
  clear hO0 hB0 hcv
  go_loopg [7, 8] kids.length (fun gf s7 s8 wx => ∃ (m : Nat) (g cap : Nat), s8 = .int .i64 (m : Int) ∧ s7 = .slice (some ⟨g, 0, none⟩) (o :: rowT (kids.take m)).length cap ∧ m ≤ kids.length ∧ kids.length - m ≤ gf ∧ OwnM wx w.heap.size (.slice (some ⟨g, 0, none⟩) (o :: rowT (kids.take m)).length cap) (o :: rowT (kids.take m)) ∧ Below w.heap.size w wx)
  case atStart =>
    have e0 : rowT (kids.take 0) = [] := by simp [rowT]
    exact ⟨0, _, _, by simp, by rw [e0]; rfl, Nat.zero_le _, by omega, by rw [e0]; exact HO0.out, HB0.out⟩
  case round =>
    obtain ⟨m, g, cap, rfl, rfl, hm, hgf, how, hbw⟩ := hrel
    have HB := hidb hbw
    have hl1 := rowT_len kids m
    by_cases hml : m < kids.length
    · obtain ⟨g', rfl⟩ : ∃ g', gk = g' + 1 := ⟨gk - 1, by omega⟩
      have hmb : (m : Int) < (kids.length : Int) := by omega
      have hmz : (0 : Int) ≤ (m : Int) := by omega
      obtain ⟨t, ht⟩ : ∃ t, kids[m]? = some t := ⟨_, List.getElem?_eq_getElem hml⟩
      have htk := rowT_take kids m t ht
      have hl2 := rowT_len kids (m + 1)
      have hw1 : (wrT t).length ≤ 49999998 := by rw [htk, List.length_append, List.length_append] at hl2; omega
      have CW := HK.out t (List.mem_of_getElem? ht) (sayAll_get HSAY.out (List.mem_of_getElem? ht)) (by omega)
      have HT := hidb ht
      have HTK := hidb htk
      obtain ⟨X, hX⟩ : ∃ X, (⟨(wrT t).toArray⟩ : ByteArray) = X := ⟨_, rfl⟩
      have hXs : X.size = (wrT t).length := by rw [← hX]; rfl
      have hXd : dl X = wrT t := by rw [← hX]; rfl
      rw [hX] at CW
      have HXD := hidb (And.intro hXs hXd)
      obtain ⟨L, hL⟩ : ∃ L, o :: rowT (kids.take m) = L := ⟨_, rfl⟩
      have hLl : L.length ≤ 49999999 := by rw [← hL, List.length_cons]; omega
      rw [hL] at how ⊢
      have HL := hidb hL
      clear ht htk hX hXs hXd hL hl1 hl2 hbw
      by_cases h0 : m = 0
      · subst h0
        have hz0 : ¬ (0 : Int) < ((0 : Nat) : Int) := by simp
        obtain ⟨b, oo, rfl, hat⟩ := kid_at (in_below HB.out HIN.out) (by omega)
        obtain ⟨k', n', f', s', a', c', kids', hu, hin', c0, c1, c2, c3, c4⟩ := hat 0 hml
        obtain rfl : t = .mk k' n' f' s' a' c' kids' := by have := HT.out; rw [hu] at this; exact (Option.some.inj this).symm
        have CW2 : Calls Tryd.prog 19 #[.agg #[.int .i64 k', .int .i64 n', .float .f64 f', .string s', .slice a' kids'.length c']] wr fun e w' => e = .returned (.string X) ∧ Below wr.heap.size wr w' := CW wr hin'
        have HOW := hidb how
        simp only [Nat.zero_mul, Nat.add_zero] at c0 c1 c2 c3 c4
        clear hu hin' hat CW how
        go_wp2_with fail
        refine CW2.mono ?_
        rintro en wz ⟨rfl, hbz⟩
        have how2 := own_M_keep HOW.out hbz
        have HBZ := hidb (HB.out.trans (hbz.mono HB.out.size))
        clear hbz CW2 c0 c1 c2 c3 c4
        go_wp2_with (at_builtin; refine wp_app_str _ rfl _ _ rfl w.heap.size _ L rfl how2 X rfl ?p1 ?p2 ?_)
        case p1 => have := HXD.out.1; omega
        case p2 => exact HBZ.out.size
        intro v' w3 hown' hgrow
        have hb3 : Below w.heap.size wz w3 := (Below.refl w.heap.size wz).grown hgrow HBZ.out.size (own_M_lt how2)
        obtain ⟨g9, cap9, rfl⟩ := own_M_form hown'
        have HO := hidb hown'
        have HB9 := hidb (HBZ.out.trans hb3)
        clear hown' hgrow hb3 how2
        go_wp2_with fail
        go_roundg g'
        case measure => omega
        case rel =>
          have e1 : o :: rowT (kids.take (0 + 1)) = L ++ dl X := by rw [HTK.out, HXD.out.2, ← HL.out]; simp
          exact ⟨0 + 1, _, _, by simp, by rw [e1], by omega, by omega, by rw [e1]; exact HO.out, HB9.out⟩
      · have hz0 : (0 : Int) < (m : Int) := by omega
        go_wp2_with (at_builtin; refine wp_app_byte _ rfl _ _ rfl w.heap.size _ L rfl (own_M_keep how (below_new wr _)) 44 ⟨wr.heap.size, 0, none⟩ 1 rfl ?r1 ?r2 ?r3 ?_)
        case r1 => rw [World.cell?_alloc_new]; rfl
        case r2 => omega
        case r3 => have := HB.out.size; simp; omega
        intro v' w3 hown' hgrow
        obtain ⟨L2, hL2⟩ : ∃ L2, L ++ [44] = L2 := ⟨_, rfl⟩
        have hL2l : L2.length ≤ 50000000 := by rw [← hL2, List.length_append]; simp; omega
        rw [hL2] at hown'
        have HL2 := hidb hL2
        clear hL2
        have hb3 : Below w.heap.size wr w3 := ((Below.refl w.heap.size wr).alloc HB.out.size _).grown hgrow (by have := HB.out.size; simp; omega) (own_M_lt how)
        obtain ⟨g9, cap9, rfl⟩ := own_M_form hown'
        have HO := hidb hown'
        have HB9 := hidb (HB.out.trans hb3)
        clear hown' hgrow hb3 how
        obtain ⟨b, oo, rfl, hat⟩ := kid_at (in_below HB9.out HIN.out) (by omega)
        obtain ⟨k', n', f', s', a', c', kids', hu, hin', c0, c1, c2, c3, c4⟩ := hat m hml
        obtain rfl : t = .mk k' n' f' s' a' c' kids' := by have := HT.out; rw [hu] at this; exact (Option.some.inj this).symm
        have CW2 : Calls Tryd.prog 19 #[.agg #[.int .i64 k', .int .i64 n', .float .f64 f', .string s', .slice a' kids'.length c']] w3 fun e w' => e = .returned (.string X) ∧ Below w3.heap.size w3 w' := CW w3 hin'
        clear hu hin' hat CW
        go_wp2_with fail
        refine CW2.mono ?_
        rintro en wz ⟨rfl, hbz⟩
        have how2 := own_M_keep HO.out hbz
        have HBZ := hidb (HB9.out.trans (hbz.mono HB9.out.size))
        clear hbz CW2 c0 c1 c2 c3 c4
        go_wp2_with (at_builtin; refine wp_app_str _ rfl _ _ rfl w.heap.size _ L2 rfl how2 X rfl ?t1 ?t2 ?_)
        case t1 => have := HXD.out.1; omega
        case t2 => exact HBZ.out.size
        intro v' w4 hown' hgrow
        have hb3 : Below w.heap.size wz w4 := (Below.refl w.heap.size wz).grown hgrow HBZ.out.size (own_M_lt how2)
        obtain ⟨g8, cap8, rfl⟩ := own_M_form hown'
        have HO8 := hidb hown'
        have HB8 := hidb (HBZ.out.trans hb3)
        clear hown' hgrow hb3 how2
        go_wp2_with fail
        go_roundg g'
        case measure => omega
        case rel =>
          have e1 : o :: rowT (kids.take (m + 1)) = L2 ++ dl X := by rw [← HL2.out, HTK.out, HXD.out.2, ← HL.out, if_neg h0]; simp
          exact ⟨m + 1, _, _, by simp, by rw [e1], by omega, by omega, by rw [e1]; exact HO8.out, HB8.out⟩
    · have hmn : ¬ (m : Int) < (kids.length : Int) := by omega
      have e1 : kids.take m = kids := List.take_of_length_le (by omega)
      rw [e1] at how hl1 ⊢
      obtain ⟨L, hL⟩ : ∃ L, o :: rowT kids = L := ⟨_, rfl⟩
      have hLl : L.length ≤ 49999999 := by rw [← hL, List.length_cons]; omega
      rw [hL] at how ⊢
      have HL := hidb hL
      clear hL e1 hl1 hbw
      go_wp2_with (at_builtin; refine wp_app_str _ rfl _ _ rfl w.heap.size _ L rfl how ⟨#[e]⟩ rfl ?u1 ?u2 ?_)
      case u1 => have : (⟨#[e]⟩ : ByteArray).size = 1 := rfl; omega
      case u2 => exact HB.out.size
      intro v' w3 hown' hgrow
      have hb3 : Below w.heap.size wr w3 := (Below.refl w.heap.size wr).grown hgrow HB.out.size (own_M_lt how)
      have HB9 := hidb (HB.out.trans hb3)
      have HE : Hid (L ++ dl ⟨#[e]⟩ = o :: (rowT kids ++ [e])) := hidb (by rw [← HL.out]; rfl)
      rw [HE.out] at hown'
      have hcv := text_M hown'
      obtain ⟨L3, hL3⟩ : ∃ L3, o :: (rowT kids ++ [e]) = L3 := ⟨_, rfl⟩
      rw [hL3] at hown' hcv
      obtain ⟨X3, hX3⟩ : ∃ X3, (⟨L3.toArray⟩ : ByteArray) = X3 := ⟨_, rfl⟩
      rw [hX3] at hcv
      have HX3 : Hid ((⟨(o :: (rowT kids ++ [e])).toArray⟩ : ByteArray) = X3) := hidb (by rw [hL3]; exact hX3)
      obtain ⟨g9, cap9, rfl⟩ := own_M_form hown'
      clear hL3 hX3 HE
      clear hown' hgrow hb3 how
      go_wp2_with fail
      go_ret
      exact ⟨by rw [HX3.out]; rfl, HB9.out⟩
end Go.Proofs.YtecgddiohoeboaaDoor


/- A term as text: Write. -/
namespace Go.Proofs.YtecgddiohoeboaaDoor
open Go.RowKit Go.Lib Go.Deep
attribute [local go_sem] store_float f64bits
attribute [local go_sem ↓] Go.wp_at_zero Go.wp_at_succ

set_option maxHeartbeats 4000000 in
set_option maxRecDepth 100000 in
theorem write_any : ∀ t, WrOk t := by
  refine Tr.ind fun k n f s a c kids ih => ?_
  intro hs hlen w hin
  show Calls Tryd.prog 19 #[.agg #[.int .i64 k, .int .i64 n, .float .f64 f, .string s, .slice a kids.length c]] w _
  have hin0 := hin
  unfold Say at hs
  rcases hs with ⟨rfl, h1, h2, rfl⟩ | ⟨rfl, h1, h2, rfl⟩ | ⟨rfl, h1, rfl⟩ | ⟨hk, hall⟩
  · have hw : wrT (.mk 1 n f s a c []) = itoa n := by simp [wrT]
    rw [hw]
    have cT := rtext_int n f s a 0 c (by omega) (by omega)
    generalize (⟨(itoa n).toArray⟩ : ByteArray) = X at cT ⊢
    show Calls Tryd.prog 19 #[.agg #[.int .i64 1, .int .i64 n, .float .f64 f, .string s, .slice a 0 c]] w _
    go_enter Tryd.func19, Tryd.ntmps19
    go_wp2_with fail
    refine (cT _).mono ?_
    rintro e w1 ⟨rfl, hb⟩
    have HW := hidb ((below_new w _).trans (hb.mono (by simp)))
    clear hb
    go_wp2_with fail
    go_ret
    exact ⟨rfl, HW.out⟩
  · have hw : wrT (.mk 2 n f s a c []) = 35 :: hxL f 16 := by simp [wrT]
    rw [hw]
    have cT := rtext_flt n f s a 0 c h2
    generalize (⟨(35 :: hxL f 16).toArray⟩ : ByteArray) = X at cT ⊢
    show Calls Tryd.prog 19 #[.agg #[.int .i64 2, .int .i64 n, .float .f64 f, .string s, .slice a 0 c]] w _
    go_enter Tryd.func19, Tryd.ntmps19
    go_wp2_with fail
    refine (cT _).mono ?_
    rintro e w1 ⟨rfl, hb⟩
    have HW := hidb ((below_new w _).trans (hb.mono (by simp)))
    clear hb
    go_wp2_with fail
    go_ret
    exact ⟨rfl, HW.out⟩
  · have hw : wrT (.mk 3 n f s a c []) = quoT (dl s) := by simp [wrT]
    rw [hw]
    have cT := rquote_any s h1
    generalize (⟨(quoT (dl s)).toArray⟩ : ByteArray) = X at cT ⊢
    show Calls Tryd.prog 19 #[.agg #[.int .i64 3, .int .i64 n, .float .f64 f, .string s, .slice a 0 c]] w _
    go_enter Tryd.func19, Tryd.ntmps19
    go_wp2_with fail
    refine (cT _).mono ?_
    rintro e w1 ⟨rfl, hb⟩
    have HW := hidb ((below_new w _).trans (hb.mono (by simp)))
    clear hb
    go_wp2_with fail
    go_ret
    exact ⟨rfl, HW.out⟩
  · rcases hk with rfl | rfl
    · have hw : wrT (.mk 7 n f s a c kids) = 123 :: (rowT kids ++ [125]) := by simp [wrT]
      rw [hw] at hlen ⊢
      have cT := row_any 7 n f s a c kids ih hall 123 125 (by simp at hlen; omega)
      generalize (⟨(123 :: (rowT kids ++ [125])).toArray⟩ : ByteArray) = X at cT ⊢
      have HIN := hidb hin0
      clear hin hin0 ih hall hlen hw
      go_enter Tryd.func19, Tryd.ntmps19
      go_wp2_with fail
      refine (cT _ (in_below (below_new w _) HIN.out)).mono ?_
      rintro e w1 ⟨rfl, hb⟩
      have HW := hidb ((below_new w _).trans (hb.mono (by simp)))
      clear hb
      go_wp2_with fail
      go_ret
      exact ⟨rfl, HW.out⟩
    · have hw : wrT (.mk 8 n f s a c kids) = 91 :: (rowT kids ++ [93]) := by simp [wrT]
      rw [hw] at hlen ⊢
      have cT := row_any 8 n f s a c kids ih hall 91 93 (by simp at hlen; omega)
      generalize (⟨(91 :: (rowT kids ++ [93])).toArray⟩ : ByteArray) = X at cT ⊢
      have HIN := hidb hin0
      clear hin hin0 ih hall hlen hw
      go_enter Tryd.func19, Tryd.ntmps19
      go_wp2_with fail
      refine (cT _ (in_below (below_new w _) HIN.out)).mono ?_
      rintro e w1 ⟨rfl, hb⟩
      have HW := hidb ((below_new w _).trans (hb.mono (by simp)))
      clear hb
      go_wp2_with fail
      go_ret
      exact ⟨rfl, HW.out⟩
end Go.Proofs.YtecgddiohoeboaaDoor


