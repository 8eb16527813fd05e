import Derived.Test.YtdpfmmbfidknfaaGreatDoorG29
/- operation, leaf. -/
namespace Go.Proofs.YtdpfmmbfidknfaaGreatDoor
open Go.RowKit Go.Lib
attribute [local go_sem] store_float f64bits
attribute [local go_sem ↓] Go.wp_at_zero Go.wp_at_succ
attribute [local go_sem] nd_p tk_k tk_x tk_n tk_f tk_p

variable {P : Nat → Prop}
set_option maxHeartbeats 1000000 in
set_option maxRecDepth 100000 in
theorem pOp_any (p : Nat) (x : ByteArray) (l : List Nat) (v : Value) {w : World} {B g b : Nat} {s : PS} {V : Value} (h : PB w g b s.ts V s.o) (hN : NS w B g b P V s.ns) (hB : B ≤ w.heap.size) (hv : LRow w v l) (hvg : v.ownBlock ≠ some g) (hvV : ∀ k, v.ownBlock = some k → V.ownBlock ≠ some k ∧ ¬ P k) :
    Calls Tryz.prog 87 #[.pointer (some ⟨g, 0, none⟩), .int .i64 (p : Int), .string x, v] w fun e w' => Tell w B g b P V (Gm.op p x l s) (fun y => .int .i64 (y : Int)) e w' := by
  have cL := pLay_any ⟨9, x, 0, 0, l, p⟩ v h hN hB hv hvg hvV
  have hL : Gm.op p x l s = Gm.lay ⟨9, x, 0, 0, l, p⟩ s := rfl
  rw [hL]
  clear hL
  obtain ⟨a, m, c, rfl⟩ : ∃ a m c, v = .slice a m c := by
    rcases hv with ⟨rfl, _⟩ | ⟨_, _, rfl, _⟩
    · exact ⟨_, _, _, rfl⟩
    · exact ⟨_, _, _, rfl⟩
  clear h hN hv hvg hvV hB
  generalize Gm.lay ⟨9, x, 0, 0, l, p⟩ s = R at cL ⊢
  go_enter Tryz.func87, Tryz.ntmps87
  go_wp2_with (first
    | (go_at_call 39; refine cL.mono ?_; rintro e w2 (⟨er, q, hr, rfl, hbu⟩ | ⟨y, s', V', hr, rfl, h3, h4, h5, h6⟩)))
  · exact ⟨rfl, .inl ⟨er, q, hr, rfl, hbu⟩⟩
  · exact bodyPost_ret (v := .int .i64 (y : Int)) (by simp [results, Tryz.results87, go_sem]) rfl (.inr ⟨y, s', V', hr, rfl, h3, h4, h5, h6⟩)

set_option maxHeartbeats 1000000 in
theorem pLeafKind_any (k : Int) (w : World) : Calls Tryz.prog 103 #[.int .i64 k] w fun e w' => e = .returned (.int .i64 (Gm.leafKind k)) ∧ w' = w := by
  by_cases h1 : k = 1
  · subst h1
    go_enter Tryz.func103, Tryz.ntmps103
    go_wp2_with fail
    exact bodyPost_ret (v := .int .i64 3) (by simp [results, Tryz.results103, go_sem]) rfl ⟨rfl, rfl⟩
  by_cases h2 : k = 2
  · subst h2
    go_enter Tryz.func103, Tryz.ntmps103
    go_wp2_with fail
    exact bodyPost_ret (v := .int .i64 4) (by simp [results, Tryz.results103, go_sem]) rfl ⟨rfl, rfl⟩
  by_cases h3 : k = 3
  · subst h3
    go_enter Tryz.func103, Tryz.ntmps103
    go_wp2_with fail
    exact bodyPost_ret (v := .int .i64 1) (by simp [results, Tryz.results103, go_sem]) rfl ⟨rfl, rfl⟩
  by_cases h4 : k = 4
  · subst h4
    go_enter Tryz.func103, Tryz.ntmps103
    go_wp2_with fail
    exact bodyPost_ret (v := .int .i64 2) (by simp [results, Tryz.results103, go_sem]) rfl ⟨rfl, rfl⟩
  have hk : Gm.leafKind k = 5 := by simp [Gm.leafKind, h1, h2, h3, h4]
  rw [hk]
  go_enter Tryz.func103, Tryz.ntmps103
  go_wp2_with fail
  exact bodyPost_ret (v := .int .i64 5) (by simp [results, Tryz.results103, go_sem]) rfl ⟨rfl, rfl⟩
end Go.Proofs.YtdpfmmbfidknfaaGreatDoor


/- A step of the parser as one relation: where it stands, and what it has kept. -/
namespace Go.Proofs.YtdpfmmbfidknfaaGreatDoor
open Go.RowKit Go.Lib
attribute [local go_sem] store_float f64bits
attribute [local go_sem ↓] Go.wp_at_zero Go.wp_at_succ
attribute [local go_sem] nd_p tk_k tk_x tk_n tk_f tk_p

/-- A step that began in w0 with the nodes V0 stands in w with the nodes V, at the state s. -/
structure St (B g b o : Nat) (P : Nat → Prop) (w0 : World) (V0 : Value) (w : World) (V : Value) (s : PS) : Prop where
  pb : PB w g b s.ts V s.o
  ns : NS w B g b P V s.ns
  le : B ≤ w.heap.size
  ne : Ne s
  op : s.o = o
  but : But (fun k => k = g ∨ V0.ownBlock = some k) w0 w
  own : V.ownBlock = V0.ownBlock ∨ ∀ k, V.ownBlock = some k → w0.heap.size ≤ k
  plt : ∀ k, P k → k < w.heap.size
  npv : ∀ k, P k → V.ownBlock ≠ some k ∧ k ≠ g
  tl : s.ts.length ≤ 100000

abbrev At (B g b o : Nat) (P : Nat → Prop) (w : World) (V : Value) (s : PS) : Prop := St B g b o P w V w V s

section
variable {B g b o : Nat} {P : Nat → Prop} {w0 w w' w1 : World} {V0 V V' : Value} {s s' : PS}
theorem St.at (h : St B g b o P w0 V0 w V s) : At B g b o P w V s := ⟨h.pb, h.ns, h.le, h.ne, h.op, But.refl _ _, .inl rfl, h.plt, h.npv, h.tl⟩
theorem St.trans {Q : Nat → Prop} {o' : Nat} (h : St B g b o' Q w0 V0 w V s) (h' : St B g b o P w V w' V' s') : St B g b o P w0 V0 w' V' s' :=
  ⟨h'.pb, h'.ns, h'.le, h'.ne, h'.op, but_then h.but h.own h'.but, own_then h.but.size h.own h'.own, h'.plt, h'.npv, h'.tl⟩
theorem St.below (h : St B g b o P w0 V0 w V s) (hb : Below w.heap.size w w') : St B g b o P w0 V0 w' V s :=
  ⟨h.pb.keep hb, h.ns.but (But.of_below (S := fun _ => False) hb) (fun _ _ h => h) (fun _ h => h.elim), Nat.le_trans h.le hb.size, h.ne, h.op, h.but.trans (But.of_below hb), h.own, fun k hk => Nat.lt_of_lt_of_le (h.plt k hk) hb.size, h.npv, h.tl⟩
theorem St.glt (h : St B g b o P w0 V0 w V s) : g < w.heap.size := h.pb.glt
theorem St.blt (h : St B g b o P w0 V0 w V s) : b < w.heap.size := h.pb.lt
theorem NS.vlt {ns : List Nd} (h : NS w B g b P V ns) : ∀ k, V.ownBlock = some k → k < w.heap.size := by
  obtain ⟨⟨vs, hl, ho, hr⟩, _⟩ := h
  intro k hk
  rcases ho.2 with ⟨rfl, _⟩ | ⟨q, cap, cur, rfl, hB, hq, rest⟩
  · simp [Value.ownBlock] at hk
  · simp [Value.ownBlock] at hk
    subst hk
    exact (Array.getElem?_eq_some_iff.1 hq).1
theorem St.vlt (h : St B g b o P w0 V0 w V s) : ∀ k, V.ownBlock = some k → k < w.heap.size := h.ns.vlt
/-- A step through tokens alone. -/
theorem St.cut (h : St B g b o P w0 V0 w V s) (hp : PB w' g b s'.ts V s'.o) (hn : s'.ns = s.ns) (he : Ne s') (ho : s'.o = s.o) (hl : s'.ts.length ≤ s.ts.length) (hb : But (· = g) w w') : St B g b o P w0 V0 w' V s' :=
  ⟨hp, hn ▸ h.ns.but hb (fun _ hk he => h.ns.ng (he ▸ hk)) (fun _ h => .inl h), Nat.le_trans h.le hb.size, he, ho.trans h.op, h.but.trans (hb.mono fun _ _ h => .inl h), h.own, fun k hk => Nat.lt_of_lt_of_le (h.plt k hk) hb.size, h.npv, Nat.le_trans hl h.tl⟩
/-- What stands beside the nodes stays beside them. -/
theorem St.beside (h : St B g b o P w V w' V' s') {k : Nat} (hk : k < w.heap.size) (hV : V.ownBlock ≠ some k) : V'.ownBlock ≠ some k := by
  intro he
  rcases h.own with e | e
  · exact hV (e ▸ he)
  · have := e k he; omega
theorem St.fresh (h : At B g b o P w V s) : V.ownBlock ≠ some w.heap.size := fun e => by have := h.vlt _ e; omega

end

abbrev iv (x : Nat) : Value := .int .i64 (x : Int)

/-- What a step of the parser has done: it gave up with the grammar's fault, or it told what the grammar tells. -/
def Rz {α : Type} (B g b o : Nat) (P : Nat → Prop) (w : World) (V : Value) (r : Except (Int × Nat) (α × PS)) (val : α → Value) (e : Ending) (w' : World) : Prop :=
  (∃ er p, r = .error (er, p) ∧ e = gaveUp er p ∧ But (fun k => k = g ∨ V.ownBlock = some k) w w') ∨ (∃ x s' V', r = .ok (x, s') ∧ e = .returned (val x) ∧ St B g b o P w V w' V' s')

section
variable {B g b o : Nat} {P : Nat → Prop} {w0 w w' w1 : World} {V0 V V' : Value} {s s' : PS}
theorem Tell.res {α : Type} {m : PM α} {val : α → Value} {e : Ending} (hG : Gm.Good s m) (hA : At B g b o P w V s) (h : Tell w B g b P V (m s) val e w') : Rz B g b o P w V (m s) val e w' := by
  rcases h with h | ⟨x, s', V', h1, h2, h3, h4, h5, h6⟩
  · exact .inl h
  · obtain ⟨k1, k2⟩ := hG hA.ne x s' h1
    refine .inr ⟨x, s', V', h1, h2, h3, h4, Nat.le_trans hA.le h5.size, k2, k1.o.trans hA.op, h5, h6, fun k hk => Nat.lt_of_lt_of_le (hA.plt k hk) h5.size, fun k hk => ⟨fun he => ?_, (hA.npv k hk).2⟩, Nat.le_trans k1.len hA.tl⟩
    rcases h6 with e | e
    · exact (hA.npv k hk).1 (e ▸ he)
    · have := e k he
      have := hA.plt k hk
      omega

theorem sHere (h : At B g b o P w V s) : Calls Tryz.prog 32 #[.pointer (some ⟨g, 0, none⟩)] w fun e w' => ∃ t, Gm.hd s = t ∧ e = .returned t.val ∧ At B g b o P w' V s ∧ Below w.heap.size w w' :=
  (pHere_any h.pb h.ne).mono fun _ _ ⟨h1, h2⟩ => ⟨_, rfl, h1, (h.below h2).at, h2⟩
theorem sNext (h : At B g b o P w V s) (hk : (Gm.hd s).k ≠ 8) : Calls Tryz.prog 36 #[.pointer (some ⟨g, 0, none⟩)] w fun e w' => ∃ t s', (Gm.hd s = t ∧ Gm.cut s = s') ∧ e = .returned t.val ∧ St B g b o P w V w' V s' :=
  (pNext_any h.pb h.ne hk).mono fun _ _ ⟨h1, h2, h3⟩ => ⟨_, _, ⟨rfl, rfl⟩, h1, h.cut (s' := Gm.cut s) h2 rfl (Gm.ne_cut h.ne hk).1 rfl (by simp [Gm.cut]) h3⟩
theorem sIs (x : ByteArray) (h : At B g b o P w V s) : Calls Tryz.prog 69 #[.pointer (some ⟨g, 0, none⟩), .string x] w fun e w' => ((Gm.isM (Gm.hd s) x = true ∧ e = .returned (.bool true)) ∨ (Gm.isM (Gm.hd s) x = false ∧ e = .returned (.bool false))) ∧ Below w.heap.size w w' :=
  (pIs_any x h.pb h.ne).mono fun e _ ⟨h1, h2⟩ => ⟨by cases hx : Gm.isM (Gm.hd s) x <;> simp [h1, hx], h2⟩
theorem sAhead (x : ByteArray) (h : At B g b o P w V s) (hk : (Gm.hd s).k ≠ 8) : Calls Tryz.prog 98 #[.pointer (some ⟨g, 0, none⟩), .string x] w fun e w' => ((Gm.isM (Gm.hd2 s) x = true ∧ e = .returned (.bool true)) ∨ (Gm.isM (Gm.hd2 s) x = false ∧ e = .returned (.bool false))) ∧ Below w.heap.size w w' :=
  (pAhead_any x h.pb h.ne hk).mono fun e _ ⟨h1, h2⟩ => ⟨by cases hx : Gm.isM (Gm.hd2 s) x <;> simp [h1, hx], h2⟩
theorem sTake (x : ByteArray) (h : At B g b o P w V s) : Calls Tryz.prog 51 #[.pointer (some ⟨g, 0, none⟩), .string x] w fun e w' =>
    (∃ s', (Gm.take x s = .ok (true, s') ∧ s'.ts.length + 1 = s.ts.length) ∧ e = .returned (.bool true) ∧ St B g b o P w V w' V s') ∨ (Gm.take x s = .ok (false, s) ∧ e = .returned (.bool false) ∧ St B g b o P w V w' V s) :=
  (pTake_any x h.pb h.ne).mono fun e w' ⟨y, s', h1, h2, h3, h4⟩ => by
    obtain ⟨k1, k2⟩ := Gm.all_take x s h.ne y s' h1
    by_cases hx : Gm.isM (Gm.hd s) x = true
    · have ht : Gm.take x s = .ok (true, Gm.cut s) := by simp only [Gm.take, if_pos hx]
      rw [ht] at h1
      cases h1
      obtain ⟨r, hr⟩ := Gm.ne_hd h.ne
      exact .inl ⟨_, ⟨ht, by simp [Gm.cut, hr]⟩, h2, h.cut (s' := Gm.cut s) h3 rfl k2 rfl (by first | exact Nat.le_refl _ | simp [Gm.cut]) h4⟩
    · have ht : Gm.take x s = .ok (false, s) := by simp only [Gm.take, if_neg hx]
      rw [ht] at h1
      cases h1
      exact .inr ⟨ht, h2, h.cut h3 rfl k2 rfl (by first | exact Nat.le_refl _ | simp [Gm.cut]) h4⟩
theorem sNeed (x : ByteArray) (h : At B g b o P w V s) : Calls Tryz.prog 33 #[.pointer (some ⟨g, 0, none⟩), .string x] w fun e w' =>
    (∃ er p, Gm.need x s = .error (er, p) ∧ e = gaveUp er p ∧ But (fun k => k = g ∨ V.ownBlock = some k) w w') ∨ (∃ s', Gm.need x s = .ok ((), s') ∧ e = .returned (.tuple #[]) ∧ St B g b o P w V w' V s') :=
  (pNeed_any x h.pb h.ne).mono fun e w' hh => by
    rcases hh with ⟨er, p, k1, k2, k3⟩ | ⟨s', h1, h2, h3, h4⟩
    · exact .inl ⟨er, p, k1, k2, k3.mono fun _ _ h => .inl h⟩
    · obtain ⟨k1, k2⟩ := Gm.all_need x s h.ne () s' h1
      have hs : s' = Gm.cut s := by
        simp only [Gm.need] at h1
        split at h1
        · cases h1; rfl
        · cases h1
      subst hs
      exact .inr ⟨_, h1, h2, h.cut (s' := Gm.cut s) h3 rfl k2 rfl (by first | exact Nat.le_refl _ | simp [Gm.cut]) h4⟩
theorem sNeedK {k : Int} (hk : k ≠ 8) (h : At B g b o P w V s) : Calls Tryz.prog 37 #[.pointer (some ⟨g, 0, none⟩), .int .i64 k] w fun e w' =>
    (∃ er p, Gm.needK k s = .error (er, p) ∧ e = gaveUp er p ∧ But (fun k => k = g ∨ V.ownBlock = some k) w w') ∨ (∃ t s', Gm.needK k s = .ok (t, s') ∧ e = .returned t.val ∧ St B g b o P w V w' V s') :=
  (pNeedKind_any hk h.pb h.ne).mono fun e w' hh => by
    rcases hh with ⟨er, p, k1, k2, k3⟩ | ⟨t, s', h1, h2, h3, h4⟩
    · exact .inl ⟨er, p, k1, k2, k3.mono fun _ _ h => .inl h⟩
    · obtain ⟨k1, k2⟩ := Gm.all_needK hk s h.ne t s' h1
      have hs : s' = Gm.cut s := by
        simp only [Gm.needK] at h1
        split at h1
        · cases h1; rfl
        · cases h1
      subst hs
      exact .inr ⟨_, _, h1, h2, h.cut (s' := Gm.cut s) h3 rfl k2 rfl (by first | exact Nat.le_refl _ | simp [Gm.cut]) h4⟩
theorem sGiveUp {α : Type} (er : Int) (h : At B g b o P w V s) : Calls Tryz.prog 35 #[.pointer (some ⟨g, 0, none⟩), .int .i64 er] w fun e w' => ∃ p, (Gm.giveUp er s : Except (Int × Nat) (α × PS)) = .error (er, p) ∧ e = gaveUp er p ∧ But (fun k => k = g ∨ V.ownBlock = some k) w w' :=
  (pGiveUp_any er h.pb h.ne).mono fun _ _ ⟨h1, h2⟩ => ⟨_, rfl, h1, But.of_below h2⟩

/-- A row of places that lies in memory, neither the parser's nor its nodes'. -/
structure LR (w : World) (g : Nat) (P : Nat → Prop) (V v : Value) (l : List Nat) : Prop where
  row : LRow w v l
  ng : v.ownBlock ≠ some g
  nv : ∀ k, v.ownBlock = some k → V.ownBlock ≠ some k ∧ ¬ P k
theorem LR.none (w : World) (g : Nat) (P : Nat → Prop) (V : Value) : LR w g P V (.slice none 0 0) [] := ⟨.inl ⟨rfl, rfl⟩, by simp [Value.ownBlock], by simp [Value.ownBlock]⟩
theorem LR.step {v : Value} {l : List Nat} (h : LR w g P V v l) (h' : St B g b o P w V w' V' s') : LR w' g P V' v l := by
  refine ⟨h.row.but h'.but ?_, h.ng, fun k hk => ⟨h'.beside (h.row.lt k hk) (h.nv k hk).1, (h.nv k hk).2⟩⟩
  rintro k hk (rfl | hS)
  · exact h.ng hk
  · exact (h.nv k hk).1 hS
theorem LR.below {v : Value} {l : List Nat} (h : LR w g P V v l) (hb : Below w.heap.size w w') : LR w' g P V v l := ⟨h.row.but (But.of_below (S := fun _ => False) hb) (fun _ _ h => h), h.ng, h.nv⟩
theorem LR.sl {v : Value} {l : List Nat} (h : LR w g P V v l) : ∃ a m c, v = .slice a m c := by
  rcases h.row with ⟨rfl, _⟩ | ⟨_, _, rfl, _⟩
  · exact ⟨_, _, _, rfl⟩
  · exact ⟨_, _, _, rfl⟩

theorem sLay (n : Nd) (v : Value) (h : At B g b o P w V s) (hv : LR w g P V v n.l) :
    Calls Tryz.prog 39 #[.pointer (some ⟨g, 0, none⟩), .agg #[.int .i64 n.k, .string n.x, .int .i64 n.n, .float .f64 n.f, v, .int .i64 (n.p : Int)]] w fun e w' => Rz B g b o P w V (Gm.lay n s) iv e w' :=
  (pLay_any n v h.pb h.ns h.le hv.row hv.ng hv.nv).mono fun _ _ hh => hh.res (Gm.all_lay n s) h
theorem sLayNone (k : Int) (h : At B g b o P w V s) : Calls Tryz.prog 82 #[.pointer (some ⟨g, 0, none⟩), .int .i64 k] w fun e w' => Rz B g b o P w V (Gm.layNone k s) iv e w' :=
  (pLayNone_any k h.pb h.ns h.ne h.le).mono fun _ _ hh => hh.res (Gm.all_layNone k s) h
theorem sOp (p : Nat) (x : ByteArray) (l : List Nat) (v : Value) (h : At B g b o P w V s) (hv : LR w g P V v l) :
    Calls Tryz.prog 87 #[.pointer (some ⟨g, 0, none⟩), .int .i64 (p : Int), .string x, v] w fun e w' => Rz B g b o P w V (Gm.op p x l s) iv e w' :=
  (pOp_any p x l v h.pb h.ns h.le hv.row hv.ng hv.nv).mono fun _ _ hh => hh.res (Gm.all_op p x l s) h
end

/-- The contract of an expression. -/
structure EC (B g b o : Nat) (e : PM Nat) : Prop where
  all : Gm.All e
  run : ∀ {P : Nat → Prop} {w : World} {V : Value} {s : PS}, At B g b o P w V s → Calls Tryz.prog 84 #[.pointer (some ⟨g, 0, none⟩)] w fun r w' => Rz B g b o P w V (e s) iv r w'

/-- A call in a region whose order is drawn. -/
theorem step_call {f : Nat} {vs : Array Value} {ops : Array Oper} {o : Oper} {a : Act} {w : World} {K : Act → World → Prop} {Q : Exit → Act → World → Prop} {E : Prop} (hg : o.guard = none) (hrun : (execOp a.eval o).run Tryz.prog w = .ok (.enter f vs) w)
    {Post : Ending → World → Prop} (hc : Calls Tryz.prog f vs w Post) (h : ∀ e w', Post e w' → match e with | .returned v => K (a.put o.dst v) w' | .panicked c => Q (.panic c) a w' | .outgrown => LetsOut Q) :
    if Region.wanted o (yielded ops a.tmps) = true then Oper.wp Tryz.prog o a w K Q else E := by
  have hw : Region.wanted o (yielded ops a.tmps) = true := by simp [Region.wanted, hg]
  rw [if_pos hw]
  unfold Oper.wp
  rw [hrun, Oper.upon_enter]
  refine hc.mono fun e w'' hh => ?_
  have := h e w'' hh
  cases e <;> exact this
end Go.Proofs.YtdpfmmbfidknfaaGreatDoor


