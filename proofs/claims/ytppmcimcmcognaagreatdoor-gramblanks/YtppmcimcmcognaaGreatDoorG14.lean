import Derived.Test.YtppmcimcmcognaaGreatDoorG13
/- A step of the parser as one relation: where it stands, and what it has kept. -/
namespace Go.Proofs.YtppmcimcmcognaaGreatDoor
open Go.RowKit Go.Lib
attribute [local go_sem] store_float f64bits
attribute [local go_sem ↓] Go.wp_at_zero Go.wp_at_succ
attribute [local go_sem] nd_p tk_k tk_x tk_n tk_f tk_p

/-- A step that began in w0 with the nodes V0 stands in w with the nodes V, at the state s. -/
structure St (B g b o : Nat) (P : Nat → Prop) (w0 : World) (V0 : Value) (w : World) (V : Value) (s : PS) : Prop where
  pb : PB w g b s.ts V s.o
  ns : NS w B g b P V s.ns
  le : B ≤ w.heap.size
  ne : Ne s
  op : s.o = o
  but : But (fun k => k = g ∨ V0.ownBlock = some k) w0 w
  own : V.ownBlock = V0.ownBlock ∨ ∀ k, V.ownBlock = some k → w0.heap.size ≤ k
  plt : ∀ k, P k → k < w.heap.size
  npv : ∀ k, P k → V.ownBlock ≠ some k ∧ k ≠ g
  tl : s.ts.length ≤ 100000

abbrev At (B g b o : Nat) (P : Nat → Prop) (w : World) (V : Value) (s : PS) : Prop := St B g b o P w V w V s

section
variable {B g b o : Nat} {P : Nat → Prop} {w0 w w' w1 : World} {V0 V V' : Value} {s s' : PS}
theorem St.at (h : St B g b o P w0 V0 w V s) : At B g b o P w V s := ⟨h.pb, h.ns, h.le, h.ne, h.op, But.refl _ _, .inl rfl, h.plt, h.npv, h.tl⟩
theorem St.trans {Q : Nat → Prop} {o' : Nat} (h : St B g b o' Q w0 V0 w V s) (h' : St B g b o P w V w' V' s') : St B g b o P w0 V0 w' V' s' :=
  ⟨h'.pb, h'.ns, h'.le, h'.ne, h'.op, but_then h.but h.own h'.but, own_then h.but.size h.own h'.own, h'.plt, h'.npv, h'.tl⟩
theorem St.below (h : St B g b o P w0 V0 w V s) (hb : Below w.heap.size w w') : St B g b o P w0 V0 w' V s :=
  ⟨h.pb.keep hb, h.ns.but (But.of_below (S := fun _ => False) hb) (fun _ _ h => h) (fun _ h => h.elim), Nat.le_trans h.le hb.size, h.ne, h.op, h.but.trans (But.of_below hb), h.own, fun k hk => Nat.lt_of_lt_of_le (h.plt k hk) hb.size, h.npv, h.tl⟩
theorem St.glt (h : St B g b o P w0 V0 w V s) : g < w.heap.size := h.pb.glt
theorem St.blt (h : St B g b o P w0 V0 w V s) : b < w.heap.size := h.pb.lt
theorem NS.vlt {ns : List Nd} (h : NS w B g b P V ns) : ∀ k, V.ownBlock = some k → k < w.heap.size := by
  obtain ⟨⟨vs, hl, ho, hr⟩, _⟩ := h
  intro k hk
  rcases ho.2 with ⟨rfl, _⟩ | ⟨q, cap, cur, rfl, hB, hq, rest⟩
  · simp [Value.ownBlock] at hk
  · simp [Value.ownBlock] at hk
    subst hk
    exact (Array.getElem?_eq_some_iff.1 hq).1
theorem St.vlt (h : St B g b o P w0 V0 w V s) : ∀ k, V.ownBlock = some k → k < w.heap.size := h.ns.vlt
/-- A step through tokens alone. -/
theorem St.cut (h : St B g b o P w0 V0 w V s) (hp : PB w' g b s'.ts V s'.o) (hn : s'.ns = s.ns) (he : Ne s') (ho : s'.o = s.o) (hl : s'.ts.length ≤ s.ts.length) (hb : But (· = g) w w') : St B g b o P w0 V0 w' V s' :=
  ⟨hp, hn ▸ h.ns.but hb (fun _ hk he => h.ns.ng (he ▸ hk)) (fun _ h => .inl h), Nat.le_trans h.le hb.size, he, ho.trans h.op, h.but.trans (hb.mono fun _ _ h => .inl h), h.own, fun k hk => Nat.lt_of_lt_of_le (h.plt k hk) hb.size, h.npv, Nat.le_trans hl h.tl⟩
/-- What stands beside the nodes stays beside them. -/
theorem St.beside (h : St B g b o P w V w' V' s') {k : Nat} (hk : k < w.heap.size) (hV : V.ownBlock ≠ some k) : V'.ownBlock ≠ some k := by
  intro he
  rcases h.own with e | e
  · exact hV (e ▸ he)
  · have := e k he; omega
theorem St.fresh (h : At B g b o P w V s) : V.ownBlock ≠ some w.heap.size := fun e => by have := h.vlt _ e; omega

end

abbrev iv (x : Nat) : Value := .int .i64 (x : Int)

/-- What a step of the parser has done: it gave up with the grammar's fault, or it told what the grammar tells. -/
def Rz {α : Type} (B g b o : Nat) (P : Nat → Prop) (w : World) (V : Value) (r : Except (Int × Nat) (α × PS)) (val : α → Value) (e : Ending) (w' : World) : Prop :=
  (∃ er p, r = .error (er, p) ∧ e = gaveUp er p ∧ But (fun k => k = g ∨ V.ownBlock = some k) w w') ∨ (∃ x s' V', r = .ok (x, s') ∧ e = .returned (val x) ∧ St B g b o P w V w' V' s')

section
variable {B g b o : Nat} {P : Nat → Prop} {w0 w w' w1 : World} {V0 V V' : Value} {s s' : PS}
theorem Tell.res {α : Type} {m : PM α} {val : α → Value} {e : Ending} (hG : Gm.Good s m) (hA : At B g b o P w V s) (h : Tell w B g b P V (m s) val e w') : Rz B g b o P w V (m s) val e w' := by
  rcases h with h | ⟨x, s', V', h1, h2, h3, h4, h5, h6⟩
  · exact .inl h
  · obtain ⟨k1, k2⟩ := hG hA.ne x s' h1
    refine .inr ⟨x, s', V', h1, h2, h3, h4, Nat.le_trans hA.le h5.size, k2, k1.o.trans hA.op, h5, h6, fun k hk => Nat.lt_of_lt_of_le (hA.plt k hk) h5.size, fun k hk => ⟨fun he => ?_, (hA.npv k hk).2⟩, Nat.le_trans k1.len hA.tl⟩
    rcases h6 with e | e
    · exact (hA.npv k hk).1 (e ▸ he)
    · have := e k he
      have := hA.plt k hk
      omega

theorem sHere (h : At B g b o P w V s) : Calls Tryz.prog 46 #[.pointer (some ⟨g, 0, none⟩)] w fun e w' => ∃ t, Gm.hd s = t ∧ e = .returned t.val ∧ At B g b o P w' V s ∧ Below w.heap.size w w' :=
  (pHere_any h.pb h.ne).mono fun _ _ ⟨h1, h2⟩ => ⟨_, rfl, h1, (h.below h2).at, h2⟩
theorem sNext (h : At B g b o P w V s) (hk : (Gm.hd s).k ≠ 8) : Calls Tryz.prog 50 #[.pointer (some ⟨g, 0, none⟩)] w fun e w' => ∃ t s', (Gm.hd s = t ∧ Gm.cut s = s') ∧ e = .returned t.val ∧ St B g b o P w V w' V s' :=
  (pNext_any h.pb h.ne hk).mono fun _ _ ⟨h1, h2, h3⟩ => ⟨_, _, ⟨rfl, rfl⟩, h1, h.cut (s' := Gm.cut s) h2 rfl (Gm.ne_cut h.ne hk).1 rfl (by simp [Gm.cut]) h3⟩
theorem sIs (x : ByteArray) (h : At B g b o P w V s) : Calls Tryz.prog 101 #[.pointer (some ⟨g, 0, none⟩), .string x] w fun e w' => ((Gm.isM (Gm.hd s) x = true ∧ e = .returned (.bool true)) ∨ (Gm.isM (Gm.hd s) x = false ∧ e = .returned (.bool false))) ∧ Below w.heap.size w w' :=
  (pIs_any x h.pb h.ne).mono fun e _ ⟨h1, h2⟩ => ⟨by cases hx : Gm.isM (Gm.hd s) x <;> simp [h1, hx], h2⟩
theorem sAhead (x : ByteArray) (h : At B g b o P w V s) (hk : (Gm.hd s).k ≠ 8) : Calls Tryz.prog 152 #[.pointer (some ⟨g, 0, none⟩), .string x] w fun e w' => ((Gm.isM (Gm.hd2 s) x = true ∧ e = .returned (.bool true)) ∨ (Gm.isM (Gm.hd2 s) x = false ∧ e = .returned (.bool false))) ∧ Below w.heap.size w w' :=
  (pAhead_any x h.pb h.ne hk).mono fun e _ ⟨h1, h2⟩ => ⟨by cases hx : Gm.isM (Gm.hd2 s) x <;> simp [h1, hx], h2⟩
theorem sTake (x : ByteArray) (h : At B g b o P w V s) : Calls Tryz.prog 76 #[.pointer (some ⟨g, 0, none⟩), .string x] w fun e w' =>
    (∃ s', (Gm.take x s = .ok (true, s') ∧ s'.ts.length + 1 = s.ts.length) ∧ e = .returned (.bool true) ∧ St B g b o P w V w' V s') ∨ (Gm.take x s = .ok (false, s) ∧ e = .returned (.bool false) ∧ St B g b o P w V w' V s) :=
  (pTake_any x h.pb h.ne).mono fun e w' ⟨y, s', h1, h2, h3, h4⟩ => by
    obtain ⟨k1, k2⟩ := Gm.all_take x s h.ne y s' h1
    by_cases hx : Gm.isM (Gm.hd s) x = true
    · have ht : Gm.take x s = .ok (true, Gm.cut s) := by simp only [Gm.take, if_pos hx]
      rw [ht] at h1
      cases h1
      obtain ⟨r, hr⟩ := Gm.ne_hd h.ne
      exact .inl ⟨_, ⟨ht, by simp [Gm.cut, hr]⟩, h2, h.cut (s' := Gm.cut s) h3 rfl k2 rfl (by first | exact Nat.le_refl _ | simp [Gm.cut]) h4⟩
    · have ht : Gm.take x s = .ok (false, s) := by simp only [Gm.take, if_neg hx]
      rw [ht] at h1
      cases h1
      exact .inr ⟨ht, h2, h.cut h3 rfl k2 rfl (by first | exact Nat.le_refl _ | simp [Gm.cut]) h4⟩
theorem sNeed (x : ByteArray) (h : At B g b o P w V s) : Calls Tryz.prog 47 #[.pointer (some ⟨g, 0, none⟩), .string x] w fun e w' =>
    (∃ er p, Gm.need x s = .error (er, p) ∧ e = gaveUp er p ∧ But (fun k => k = g ∨ V.ownBlock = some k) w w') ∨ (∃ s', Gm.need x s = .ok ((), s') ∧ e = .returned (.tuple #[]) ∧ St B g b o P w V w' V s') :=
  (pNeed_any x h.pb h.ne).mono fun e w' hh => by
    rcases hh with ⟨er, p, k1, k2, k3⟩ | ⟨s', h1, h2, h3, h4⟩
    · exact .inl ⟨er, p, k1, k2, k3.mono fun _ _ h => .inl h⟩
    · obtain ⟨k1, k2⟩ := Gm.all_need x s h.ne () s' h1
      have hs : s' = Gm.cut s := by
        simp only [Gm.need] at h1
        split at h1
        · cases h1; rfl
        · cases h1
      subst hs
      exact .inr ⟨_, h1, h2, h.cut (s' := Gm.cut s) h3 rfl k2 rfl (by first | exact Nat.le_refl _ | simp [Gm.cut]) h4⟩
theorem sNeedK {k : Int} (hk : k ≠ 8) (h : At B g b o P w V s) : Calls Tryz.prog 51 #[.pointer (some ⟨g, 0, none⟩), .int .i64 k] w fun e w' =>
    (∃ er p, Gm.needK k s = .error (er, p) ∧ e = gaveUp er p ∧ But (fun k => k = g ∨ V.ownBlock = some k) w w') ∨ (∃ t s', Gm.needK k s = .ok (t, s') ∧ e = .returned t.val ∧ St B g b o P w V w' V s') :=
  (pNeedKind_any hk h.pb h.ne).mono fun e w' hh => by
    rcases hh with ⟨er, p, k1, k2, k3⟩ | ⟨t, s', h1, h2, h3, h4⟩
    · exact .inl ⟨er, p, k1, k2, k3.mono fun _ _ h => .inl h⟩
    · obtain ⟨k1, k2⟩ := Gm.all_needK hk s h.ne t s' h1
      have hs : s' = Gm.cut s := by
        simp only [Gm.needK] at h1
        split at h1
        · cases h1; rfl
        · cases h1
      subst hs
      exact .inr ⟨_, _, h1, h2, h.cut (s' := Gm.cut s) h3 rfl k2 rfl (by first | exact Nat.le_refl _ | simp [Gm.cut]) h4⟩
theorem sGiveUp {α : Type} (er : Int) (h : At B g b o P w V s) : Calls Tryz.prog 49 #[.pointer (some ⟨g, 0, none⟩), .int .i64 er] w fun e w' => ∃ p, (Gm.giveUp er s : Except (Int × Nat) (α × PS)) = .error (er, p) ∧ e = gaveUp er p ∧ But (fun k => k = g ∨ V.ownBlock = some k) w w' :=
  (pGiveUp_any er h.pb h.ne).mono fun _ _ ⟨h1, h2⟩ => ⟨_, rfl, h1, But.of_below h2⟩

/-- A row of places that lies in memory, neither the parser's nor its nodes'. -/
structure LR (w : World) (g : Nat) (P : Nat → Prop) (V v : Value) (l : List Nat) : Prop where
  row : LRow w v l
  ng : v.ownBlock ≠ some g
  nv : ∀ k, v.ownBlock = some k → V.ownBlock ≠ some k ∧ ¬ P k
theorem LR.none (w : World) (g : Nat) (P : Nat → Prop) (V : Value) : LR w g P V (.slice none 0 0) [] := ⟨.inl ⟨rfl, rfl⟩, by simp [Value.ownBlock], by simp [Value.ownBlock]⟩
theorem LR.step {v : Value} {l : List Nat} (h : LR w g P V v l) (h' : St B g b o P w V w' V' s') : LR w' g P V' v l := by
  refine ⟨h.row.but h'.but ?_, h.ng, fun k hk => ⟨h'.beside (h.row.lt k hk) (h.nv k hk).1, (h.nv k hk).2⟩⟩
  rintro k hk (rfl | hS)
  · exact h.ng hk
  · exact (h.nv k hk).1 hS
theorem LR.below {v : Value} {l : List Nat} (h : LR w g P V v l) (hb : Below w.heap.size w w') : LR w' g P V v l := ⟨h.row.but (But.of_below (S := fun _ => False) hb) (fun _ _ h => h), h.ng, h.nv⟩
theorem LR.sl {v : Value} {l : List Nat} (h : LR w g P V v l) : ∃ a m c, v = .slice a m c := by
  rcases h.row with ⟨rfl, _⟩ | ⟨_, _, rfl, _⟩
  · exact ⟨_, _, _, rfl⟩
  · exact ⟨_, _, _, rfl⟩

theorem sLay (n : Nd) (v : Value) (h : At B g b o P w V s) (hv : LR w g P V v n.l) :
    Calls Tryz.prog 53 #[.pointer (some ⟨g, 0, none⟩), .agg #[.int .i64 n.k, .string n.x, .int .i64 n.n, .float .f64 n.f, v, .int .i64 (n.p : Int)]] w fun e w' => Rz B g b o P w V (Gm.lay n s) iv e w' :=
  (pLay_any n v h.pb h.ns h.le hv.row hv.ng hv.nv).mono fun _ _ hh => hh.res (Gm.all_lay n s) h
theorem sLayNone (k : Int) (h : At B g b o P w V s) : Calls Tryz.prog 119 #[.pointer (some ⟨g, 0, none⟩), .int .i64 k] w fun e w' => Rz B g b o P w V (Gm.layNone k s) iv e w' :=
  (pLayNone_any k h.pb h.ns h.ne h.le).mono fun _ _ hh => hh.res (Gm.all_layNone k s) h
theorem sOp (p : Nat) (x : ByteArray) (l : List Nat) (v : Value) (h : At B g b o P w V s) (hv : LR w g P V v l) :
    Calls Tryz.prog 128 #[.pointer (some ⟨g, 0, none⟩), .int .i64 (p : Int), .string x, v] w fun e w' => Rz B g b o P w V (Gm.op p x l s) iv e w' :=
  (pOp_any p x l v h.pb h.ns h.le hv.row hv.ng hv.nv).mono fun _ _ hh => hh.res (Gm.all_op p x l s) h
end

/-- The contract of an expression. -/
structure EC (B g b o : Nat) (e : PM Nat) : Prop where
  all : Gm.All e
  run : ∀ {P : Nat → Prop} {w : World} {V : Value} {s : PS}, At B g b o P w V s → Calls Tryz.prog 121 #[.pointer (some ⟨g, 0, none⟩)] w fun r w' => Rz B g b o P w V (e s) iv r w'

/-- A call in a region whose order is drawn. -/
theorem step_call {f : Nat} {vs : Array Value} {ops : Array Oper} {o : Oper} {a : Act} {w : World} {K : Act → World → Prop} {Q : Exit → Act → World → Prop} {E : Prop} (hg : o.guard = none) (hrun : (execOp a.eval o).run Tryz.prog w = .ok (.enter f vs) w)
    {Post : Ending → World → Prop} (hc : Calls Tryz.prog f vs w Post) (h : ∀ e w', Post e w' → match e with | .returned v => K (a.put o.dst v) w' | .panicked c => Q (.panic c) a w' | .outgrown => LetsOut Q) :
    if Region.wanted o (yielded ops a.tmps) = true then Oper.wp Tryz.prog o a w K Q else E := by
  have hw : Region.wanted o (yielded ops a.tmps) = true := by simp [Region.wanted, hg]
  rw [if_pos hw]
  unfold Oper.wp
  rw [hrun, Oper.upon_enter]
  refine hc.mono fun e w'' hh => ?_
  have := h e w'' hh
  cases e <;> exact this
end Go.Proofs.YtppmcimcmcognaaGreatDoor


/- Rows of places, and steps one behind another. -/
namespace Go.Proofs.YtppmcimcmcognaaGreatDoor
open Go.RowKit Go.Lib

namespace Gm
variable {α β : Type} {s s' : PS}
theorem bind_ok {m : PM α} {f : α → PM β} {a : α} (h : m s = .ok (a, s')) : (m >>= f) s = f a s' := by rw [bind_at, h]
theorem bind_err {m : PM α} {f : α → PM β} {er : Int × Nat} (h : m s = .error er) : (m >>= f) s = .error er := by rw [bind_at, h]
theorem bind_here {f : Tk → PM β} {t : Tk} (h : hd s = t) : (here >>= f) s = f t s := by subst h; rfl
theorem bind_ahead {f : Tk → PM β} {t : Tk} (h : hd2 s = t) : (ahead >>= f) s = f t s := by subst h; rfl
theorem bind_left {f : Nat → PM β} {n : Nat} (h : s.ts.length = n) : (left >>= f) s = f n s := by subst h; rfl
theorem bind_next {f : Tk → PM β} {t : Tk} (h : hd s = t ∧ cut s = s') : (next >>= f) s = f t s' := by obtain ⟨rfl, rfl⟩ := h; rfl
theorem bind_t {m : PM Bool} {A C : PM β} (h : m s = .ok (true, s')) : (m >>= fun b => if b then A else C) s = A s' := by rw [bind_at, h]; rfl
theorem bind_f {m : PM Bool} {A C : PM β} (h : m s = .ok (false, s')) : (m >>= fun b => if b then A else C) s = C s' := by rw [bind_at, h]; rfl
theorem ite_t {c : Prop} [Decidable c] {A C : PM β} (h : c) : (if c then A else C) s = A s := by rw [if_pos h]
theorem ite_f {c : Prop} [Decidable c] {A C : PM β} (h : ¬ c) : (if c then A else C) s = C s := by rw [if_neg h]
end Gm

abbrev IT : Nat := 3

/-- A row of places of the call's own: it may grow. -/
structure IR (w : World) (C g b : Nat) (V v : Value) (l : List Nat) : Prop where
  own : w.ownsRow C IT 1 v l.length (l.map iv)
  ng : v.ownBlock ≠ some g
  nb : v.ownBlock ≠ some b
  nv : ∀ k, v.ownBlock = some k → V.ownBlock ≠ some k

/-- Blocks that are held, and a row's besides. -/
def PV (P : Nat → Prop) (v : Value) (k : Nat) : Prop := P k ∨ v.ownBlock = some k

section
variable {B g b o C : Nat} {P : Nat → Prop} {w0 w w' : World} {V0 V V' v : Value} {s s' : PS} {l : List Nat}
theorem row_lt {e size n : Nat} {xs : List Value} (h : w.ownsRow C e size v n xs) : ∀ k, v.ownBlock = some k → k < w.heap.size := fun k hk => (h.lt k hk).2
theorem row_base {e size n C' : Nat} {xs : List Value} (h : w.ownsRow C e size v n xs) (hC : C' ≤ C) : w.ownsRow C' e size v n xs :=
  ⟨h.1, h.2.imp id fun ⟨q, cap, cur, h1, h2, h3⟩ => ⟨q, cap, cur, h1, Nat.le_trans hC h2, h3⟩⟩
theorem IR.but (h : IR w C g b V v l) {S : Nat → Prop} (hb : But S w w') (hs : ∀ k, v.ownBlock = some k → ¬ S k) : IR w' C g b V v l := ⟨row_but h.own hb hs, h.ng, h.nb, h.nv⟩
theorem IR.step (h : IR w C g b V v l) (h' : St B g b o P w V w' V' s') : IR w' C g b V' v l := by
  refine ⟨row_but h.own h'.but ?_, h.ng, h.nb, fun k hk => h'.beside (row_lt h.own k hk) (h.nv k hk)⟩
  rintro k hk (rfl | hS)
  · exact h.ng hk
  · exact h.nv k hk hS
theorem IR.below (h : IR w C g b V v l) (hb : Below w.heap.size w w') : IR w' C g b V v l := h.but (But.of_below (S := fun _ => False) hb) (fun _ _ h => h)
theorem IR.none (w : World) (C g b : Nat) (V : Value) : IR w C g b V (.slice none 0 0) [] := ⟨⟨rfl, .inl ⟨rfl, rfl⟩⟩, by simp [Value.ownBlock], by simp [Value.ownBlock], by simp [Value.ownBlock]⟩
theorem IR.rebase {C' : Nat} (h : IR w C g b V v l) (hC : C' ≤ C) : IR w C' g b V v l := ⟨row_base h.own hC, h.ng, h.nb, h.nv⟩
theorem IR.sl (h : IR w C g b V v l) : ∃ a c, v = .slice a l.length c := by
  rcases h.own.2 with ⟨hv, hn⟩ | ⟨q, cap, cur, hv, _⟩
  · exact ⟨Option.none, 0, by rw [hv, hn]⟩
  · exact ⟨_, _, hv⟩
theorem IR.lr (h : IR w C g b V v l) (hP : ∀ k, P k → k < C) : LR w g P V v l := by
  refine ⟨?_, h.ng, fun k hk => ⟨h.nv k hk, fun hp => ?_⟩⟩
  · have hl := row_lt h.own
    rcases h.own.2 with ⟨hv, hn⟩ | ⟨q, cap, cur, hv, hB, hq, rest⟩
    · exact .inl ⟨hv, List.length_eq_zero_iff.1 hn⟩
    · subst hv
      refine .inr ⟨q, cap, rfl, hl q rfl, fun j n hj => ?_⟩
      have hc := h.own.cellAt j (by have := (List.getElem?_eq_some_iff.1 hj).1; omega)
      rw [hc]
      simp [hj]
  · have := (h.own.lt k hk).1
    have := hP k hp
    omega

theorem St.more (h : St B g b o P w0 V0 w V s) {v : Value} (hv : ∀ k, v.ownBlock = some k → k < w.heap.size ∧ k ≠ g ∧ V.ownBlock ≠ some k) (hn : NS w B g b (PV P v) V s.ns) : St B g b o (PV P v) w0 V0 w V s :=
  ⟨h.pb, hn, h.le, h.ne, h.op, h.but, h.own, fun k hk => hk.elim (h.plt k) fun hk => (hv k hk).1, fun k hk => hk.elim (h.npv k) fun hk => ⟨(hv k hk).2.2, (hv k hk).2.1⟩, h.tl⟩
theorem NS.less {ns : List Nd} {Q : Nat → Prop} (h : NS w B g b P V ns) (hQ : ∀ k, Q k → P k) : NS w B g b Q V ns := by
  obtain ⟨⟨vs, h1, h2, h3⟩, h4, h5, h6⟩ := h
  exact ⟨⟨vs, h1, h2, fun i n v hi hv => ⟨(h3 i n v hi hv).1, (h3 i n v hi hv).2.1, fun k hk => ⟨((h3 i n v hi hv).2.2 k hk).1, fun hq => ((h3 i n v hi hv).2.2 k hk).2 (hQ k hq)⟩⟩⟩, h4, h5, h6⟩
theorem St.less (h : St B g b o P w0 V0 w V s) {Q : Nat → Prop} (hQ : ∀ k, Q k → P k) : St B g b o Q w0 V0 w V s :=
  ⟨h.pb, h.ns.less hQ, h.le, h.ne, h.op, h.but, h.own, fun k hk => h.plt k (hQ k hk), fun k hk => h.npv k (hQ k hk), h.tl⟩
theorem St.drop (h : St B g b o (PV P v) w0 V0 w V s) : St B g b o P w0 V0 w V s := h.less fun _ hk => .inl hk
/-- No node's row lies in a new block. -/
theorem NS.newer {ns : List Nd} (h : NS w B g b P V ns) (hv : ∀ k, v.ownBlock = some k → w.heap.size ≤ k) : NS w B g b (PV P v) V ns := by
  obtain ⟨⟨vs, h1, h2, h3⟩, h4, h5, h6⟩ := h
  refine ⟨⟨vs, h1, h2, fun i n u hi hu => ⟨(h3 i n u hi hu).1, (h3 i n u hi hu).2.1, fun k hk => ⟨((h3 i n u hi hu).2.2 k hk).1, ?_⟩⟩⟩, h4, h5, h6⟩
  rintro (hp | hp)
  · exact ((h3 i n u hi hu).2.2 k hk).2 hp
  · have := (h3 i n u hi hu).1.lt k hk
    have := hv k hp
    omega

/-- A row that is made new. -/
theorem IR.lit (h : St B g b o P w0 V0 w V s) (cs : Array Value) (l : List Nat) (hc : cs.toList = l.map iv) (hl : l.length ≤ 1000) :
    IR (w.alloc (.cells cs IT)) w0.heap.size g b V (.slice (some ⟨w.heap.size, 0, .none⟩) l.length l.length) l ∧ St B g b o (PV P (.slice (some ⟨w.heap.size, 0, .none⟩) l.length l.length)) w0 V0 (w.alloc (.cells cs IT)) V s := by
  have hs : cs.size = l.length := by have := congrArg List.length hc; simpa using this
  have hb : Below w.heap.size w (w.alloc (.cells cs IT)) := below_new _ _
  have ho := World.ownsRow_lit (e := IT) (size := 1) (base := w0.heap.size) w cs l.length h.but.size (by unfold maxLen; omega) (by omega)
  have hV : V.ownBlock ≠ some w.heap.size := h.at.fresh
  refine ⟨⟨by rw [← hc]; exact ho, ?_, ?_, ?_⟩, (h.below hb).more ?_ ?_⟩
  · have := h.glt; simp [Value.ownBlock]; omega
  · have := h.blt; simp [Value.ownBlock]; omega
  · intro k hk; simp [Value.ownBlock] at hk; subst hk; exact hV
  · intro k hk
    simp [Value.ownBlock] at hk
    subst hk
    exact ⟨by simp, by have := h.glt; omega, hV⟩
  · exact ((h.ns.newer (v := .slice (some ⟨w.heap.size, 0, .none⟩) l.length l.length) (fun k hk => by simp [Value.ownBlock] at hk; omega)).but (But.of_below (S := fun _ => False) hb) (fun _ _ h => h) (fun _ h => h.elim))

/-- A row that grows. -/
theorem IR.grown (h : St B g b o (PV P v) w0 V0 w V s) (hi : IR w w0.heap.size g b V v l) {X : World} (hX : Below w.heap.size w X) {v' : Value} {l' : List Nat} (hG : X.grownBy w' v.ownBlock) (hA : ∀ k, v'.ownBlock = some k → v.ownBlock = some k ∨ X.heap.size ≤ k)
    (ho : w'.ownsRow w0.heap.size IT 1 v' l'.length (l'.map iv)) : IR w' w0.heap.size g b V v' l' ∧ St B g b o (PV P v') w0 V0 w' V s := by
  have hXs := hX.size
  have hGs := hG.size
  have hw0 := h.but.size
  have hB3 : But (fun k => v.ownBlock = some k) w w' := (But.of_below hX).trans (grown_but hG)
  have hvg := hi.ng
  have hvb := hi.nb
  have hk' : ∀ k, v'.ownBlock = some k → k ≠ g ∧ k ≠ b ∧ V.ownBlock ≠ some k := by
    intro k hk
    rcases hA k hk with e | e
    · exact ⟨fun he => hi.ng (he ▸ e), fun he => hi.nb (he ▸ e), hi.nv k e⟩
    · exact ⟨by have := h.glt; omega, by have := h.blt; omega, fun he => by have := h.vlt k he; omega⟩
  refine ⟨⟨ho, fun he => (hk' g he).1 rfl, fun he => (hk' b he).2.1 rfl, fun k he => (hk' k he).2.2⟩, ?_⟩
  have hlo : ∀ k, v.ownBlock = some k → w0.heap.size ≤ k := fun k e => (hi.own.lt k e).1
  refine ⟨h.pb.but hB3 (fun e => hi.ng e) (fun e => hi.nb e), ?_, by have := h.le; omega, h.ne, h.op, ⟨hB3.os.trans h.but.os, hB3.tape.trans h.but.tape, hB3.output.trans h.but.output, by omega, fun k hk hs => ?_⟩, h.own, fun k hk => ?_, fun k hk => ?_, h.tl⟩
  · have h1 : NS X B g b (PV P v) V s.ns := h.ns.but (But.of_below (S := fun _ => False) hX) (fun _ _ h => h) (fun _ h => h.elim)
    obtain ⟨⟨vs, a1, a2, a3⟩, a4, a5, a6⟩ := h1
    refine ⟨⟨vs, a1, row_but a2 (grown_but hG) (fun k hV he => hi.nv k he hV), fun i n u hn hu => ?_⟩, a4, a5, a6⟩
    obtain ⟨c1, c2, c3⟩ := a3 i n u hn hu
    refine ⟨c1.but (grown_but hG) (fun k e he => (c3 k e).2 (.inr he)), c2, fun k e => ⟨(c3 k e).1, ?_⟩⟩
    rintro (hp | hp)
    · exact (c3 k e).2 (.inl hp)
    · rcases hA k hp with e2 | e2
      · exact (c3 k e).2 (.inr e2)
      · have := c1.lt k e; omega
  · refine (hB3.block k (by omega) (fun e => ?_)).trans (h.but.block k hk hs)
    have := hlo k e; omega
  · rcases hk with hp | hp
    · have := h.plt k (.inl hp); omega
    · exact row_lt ho k hp
  · rcases hk with hp | hp
    · exact h.npv k (.inl hp)
    · exact ⟨(hk' k hp).2.2, (hk' k hp).1⟩
end

/-- lay, as the grammar has it. -/
theorem sLayR {B g b o : Nat} {P : Nat → Prop} {w : World} {V v : Value} {s : PS} {n : Nd} {R : Except (Int × Nat) (Nat × PS)} (hR : R = Gm.lay n s) (h : At B g b o P w V s) (hv : LR w g P V v n.l) :
    Calls Tryz.prog 53 #[.pointer (some ⟨g, 0, none⟩), .agg #[.int .i64 n.k, .string n.x, .int .i64 n.n, .float .f64 n.f, v, .int .i64 (n.p : Int)]] w fun e w' => Rz B g b o P w V R iv e w' := by
  rw [hR]; exact sLay n v h hv
theorem sOpR {B g b o : Nat} {P : Nat → Prop} {w : World} {V v : Value} {s : PS} {p : Nat} {x : ByteArray} {l : List Nat} {R : Except (Int × Nat) (Nat × PS)} (hR : R = Gm.op p x l s) (h : At B g b o P w V s) (hv : LR w g P V v l) :
    Calls Tryz.prog 128 #[.pointer (some ⟨g, 0, none⟩), .int .i64 (p : Int), .string x, v] w fun e w' => Rz B g b o P w V R iv e w' := by
  rw [hR]; exact sOp p x l v h hv

/-- What a step that tells a row has done. -/
def RzL (B g b o : Nat) (P : Nat → Prop) (w : World) (V : Value) (r : Except (Int × Nat) (List Nat × PS)) (e : Ending) (w' : World) : Prop :=
  (∃ er p, r = .error (er, p) ∧ e = gaveUp er p ∧ But (fun k => k = g ∨ V.ownBlock = some k) w w') ∨ (∃ l s' V' v, r = .ok (l, s') ∧ e = .returned v ∧ St B g b o P w V w' V' s' ∧ St B g b o (PV P v) w V w' V' s' ∧ IR w' w.heap.size g b V' v l ∧ l.length ≤ 100001)
end Go.Proofs.YtppmcimcmcognaaGreatDoor


