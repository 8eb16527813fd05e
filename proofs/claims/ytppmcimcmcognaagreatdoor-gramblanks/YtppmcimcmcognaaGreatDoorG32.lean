import Derived.Test.YtppmcimcmcognaaGreatDoorG31
import Derived.Deep.RegionHeld2
import Derived.Test.YtppmcimcmcognaaGreatDoorPgA
/- known. -/
namespace Go.Proofs.YtppmcimcmcognaaGreatDoor
open Go.RowKit Go.Lib
attribute [local go_sem] store_float f64bits
attribute [local go_sem ↓] Go.wp_at_zero Go.wp_at_succ

theorem Nodes.node {w : World} {B : Nat} {V : Value} {ns : List Nd} (h : Nodes w B V ns) {i : Nat} {n : Nd} (hi : ns[i]? = some n) :
    ∃ q cap v, V = .slice (some ⟨q, 0, none⟩) ns.length cap ∧ B ≤ q ∧ q < w.heap.size ∧ LRow w v n.l ∧ (∀ j, j < 6 → w.cell? ⟨q, i * 6 + j, none⟩ = (n.cells v)[j]?) := by
  obtain ⟨⟨vs, hl, ho, hr⟩, _⟩ := h
  have hlt := (List.getElem?_eq_some_iff.1 hi).1
  obtain ⟨v, hv⟩ : ∃ v, vs[i]? = some v := ⟨_, List.getElem?_eq_getElem (by omega)⟩
  have hlow := ho.lt
  rcases ho.2 with ⟨_, h0⟩ | ⟨q, cap, cur, hV, _⟩
  · omega
  · subst hV
    exact ⟨q, cap, v, rfl, (hlow q rfl).1, (hlow q rfl).2, (hr i n v hi hv).1, fun j hj => (ho.cellAt (i * 6 + j) (by omega)).trans (ndCells_get ns vs i n v hi hv j hj)⟩

theorem known1 {w w' : World} {e : Ending} (h : ParseR w (parseP src1) e w') : ∃ q cap, e = .returned (.tuple #[.agg #[.slice (some ⟨q, 0, none⟩) 13 cap, .int .i64 12], .agg #[.int .i64 0, .int .i64 0]]) ∧
    q < w'.heap.size ∧ w'.cell? ⟨q, 18, none⟩ = some (.int .i64 9) ∧ w'.cell? ⟨q, 19, none⟩ = some (.string ⟨#[62]⟩) ∧ w'.cell? ⟨q, 72, none⟩ = some (.int .i64 24) ∧ w'.cell? ⟨q, 73, none⟩ = some (.string ⟨#[109]⟩) ∧ Below w.heap.size w w' := by
  have h1 := src1_is
  obtain ⟨hb, ⟨er, p, hr, he⟩ | ⟨r, s, V, hr, he, hn⟩⟩ := h
  · rw [hr] at h1; cases h1
  · rw [hr] at h1
    simp only [is1, Bool.and_eq_true, decide_eq_true_eq] at h1
    obtain ⟨⟨⟨h2, h3⟩, h4⟩, h5⟩ := h1
    obtain ⟨n3, hn3⟩ : ∃ n, s.ns[3]? = some n := ⟨_, List.getElem?_eq_getElem (by omega)⟩
    obtain ⟨n12, hn12⟩ : ∃ n, s.ns[12]? = some n := ⟨_, List.getElem?_eq_getElem (by omega)⟩
    simp only [hn3, Bool.and_eq_true, decide_eq_true_eq] at h4
    simp only [hn12, Bool.and_eq_true, decide_eq_true_eq] at h5
    obtain ⟨q, cap, v, hV, _, hq, _, hc⟩ := hn.node hn3
    obtain ⟨q', cap', v', hV', _, _, _, hc'⟩ := hn.node hn12
    obtain ⟨rfl, rfl⟩ : q = q' ∧ cap = cap' := by rw [hV] at hV'; cases hV'; exact ⟨rfl, rfl⟩
    have k0 := hc 0 (by omega); have k1 := hc 1 (by omega); have k2 := hc' 0 (by omega); have k3 := hc' 1 (by omega)
    simp only [Nd.cells, List.getElem?_cons_zero, List.getElem?_cons_succ, h4.1, h4.2, h5.1, h5.2] at k0 k1 k2 k3
    rw [h3] at hV
    subst h2
    exact ⟨q, cap, by rw [he, hV]; rfl, hq, k0, k1, k2, k3, hb⟩

theorem known2 {w w' : World} {e : Ending} (h : ParseR w (parseP src2) e w') : e = .returned (.tuple #[.agg #[.slice none 0 0, .int .i64 0], .agg #[.int .i64 24, .int .i64 22]]) ∧ Below w.heap.size w w' := by
  obtain ⟨hb, ⟨er, p, hr, he⟩ | ⟨r, s, V, hr, he, hn⟩⟩ := h
  · rw [src2_is] at hr; cases hr; exact ⟨he, hb⟩
  · rw [src2_is] at hr; cases hr

set_option maxHeartbeats 4000000 in
set_option maxRecDepth 100000 in
theorem known6_any (w : World) (hT : LexTab w) : Calls Tryz.prog 9 #[] w fun e w' => e = .returned (.bool true) ∧ Below w.heap.size w w' := by
  have GT : ∀ {wx : World}, Below w.heap.size w wx → LexTab wx := fun hb => hT.but (But.of_below (S := fun _ => False) hb) (fun _ e => e.elim)
  have HT := hidb hT
  clear hT
  have M0 : Hid True := hidb trivial
  go_enter Tryz.func9, Tryz.ntmps9
  go_wp2_with (first
    | (go_at_call 10; clear M0; refine (Parse_any src1 w HT.out).mono ?_; rintro e w1 h1; obtain ⟨q, cap, rfl, hq, k0, k1, k2, k3, hb⟩ := known1 h1; have HB := hidb hb; have HQ := hidb hq; have hX : Below w1.heap.size w1 ((w1.alloc (.cells #[.slice (some ⟨q, 0, none⟩) 13 cap, .int .i64 12] 25)).alloc (.cells #[.int .i64 0, .int .i64 0] 28)) := (((Below.refl _ _).alloc (Nat.le_refl _) _).alloc (by simp) _); have HX := hidb hX; have D1 := hidb ((Duo.new w1 25 (.slice (some ⟨q, 0, none⟩) 13 cap) (.int .i64 12)).keep (below_new _ (.cells #[.int .i64 0, .int .i64 0] 28))); have hDD := Duo.new (w1.alloc (.cells #[.slice (some ⟨q, 0, none⟩) 13 cap, .int .i64 12] 25)) 28 (.int .i64 0) (.int .i64 0); have hsz : (w1.alloc (.cells #[.slice (some ⟨q, 0, none⟩) 13 cap, .int .i64 12] 25)).heap.size = w1.heap.size + 1 := (by simp); rw [hsz] at hDD; have D2 := hidb hDD; clear h1 hb hX hDD hsz)
    | (go_at_call 10; refine (Parse_any src2 ((w1.alloc (.cells #[.slice (some ⟨q, 0, none⟩) 13 cap, .int .i64 12] 25)).alloc (.cells #[.int .i64 0, .int .i64 0] 28)) (GT (HB.out.trans (HX.out.mono HB.out.size)))).mono ?_; rintro e w2 h2; obtain ⟨rfl, hb2⟩ := known2 h2; have HB2 := hidb hb2; have hc : ∀ j, w2.cell? ⟨q, j, none⟩ = w1.cell? ⟨q, j, none⟩ := (fun j => (hb2.cell (p := ⟨q, j, none⟩) (Nat.lt_of_lt_of_le HQ.out HX.out.size)).trans (HX.out.cell (p := ⟨q, j, none⟩) HQ.out)); have hY : Below w2.heap.size w2 ((w2.alloc (.cells #[.slice none 0 0, .int .i64 0] 25)).alloc (.cells #[.int .i64 24, .int .i64 22] 28)) := (((Below.refl _ _).alloc (Nat.le_refl _) _).alloc (by simp) _); have hqY : q < w2.heap.size := Nat.lt_of_lt_of_le HQ.out (Nat.le_trans HX.out.size hb2.size); have hcY : ∀ j, ((w2.alloc (.cells #[.slice none 0 0, .int .i64 0] 25)).alloc (.cells #[.int .i64 24, .int .i64 22] 28)).cell? ⟨q, j, none⟩ = w1.cell? ⟨q, j, none⟩ := (fun j => (hY.cell (p := ⟨q, j, none⟩) hqY).trans (hc j)); have HY := hidb hY; have m0 := (hcY 18).trans k0; have m1 := (hcY 19).trans k1; have m2 := (hcY 72).trans k2; have m3 := (hcY 73).trans k3; obtain ⟨a0, a1, b0, b1, -⟩ := (D1.out.keep hb2).keep hY; obtain ⟨a2, a3, b2, b3, -⟩ := (D2.out.keep hb2).keep hY; clear h2 hb2 hc hcY hY hqY k0 k1 k2 k3))
  have z1 := HB.out.size
  have z2 := HX.out.size
  have z3 := HB2.out.size
  exact bodyPost_ret (v := .bool true) (by simp [results, Tryz.results9, go_sem]) rfl ⟨rfl, ((HB.out.trans (HX.out.mono z1)).trans (HB2.out.mono (by omega))).trans (HY.out.mono (by omega))⟩
end Go.Proofs.YtppmcimcmcognaaGreatDoor


/- The grammar does not look at places. -/
namespace Go.Proofs.YtppmcimcmcognaaGreatDoor

/-- A token, a node, a state without places. -/
def bareT (t : Tk) : Tk := { t with p := 0 }
def bareN (n : Nd) : Nd := { n with p := 0 }
def bareS (s : PS) : PS := ⟨s.ts.map bareT, s.ns.map bareN, s.o⟩

/-- Two steps' ends: faults of one number, or values that are alike and states that are the same but for places. -/
def RR {α : Type} (r : α → α → Prop) : Except (Int × Nat) (α × PS) → Except (Int × Nat) (α × PS) → Prop
  | .error e, .error e' => e.1 = e'.1
  | .ok (a, s), .ok (b, t) => r a b ∧ bareS s = bareS t
  | _, _ => False
def Bl {α : Type} (r : α → α → Prop) (m m' : PM α) : Prop := ∀ s s', bareS s = bareS s' → RR r (m s) (m' s')
abbrev TkS (t u : Tk) : Prop := bareT t = bareT u

theorem TkS.k {t u : Tk} (h : TkS t u) : t.k = u.k := by
  have h2 : (bareT t).k = (bareT u).k := by rw [h]
  exact h2
theorem TkS.x {t u : Tk} (h : TkS t u) : t.x = u.x := by
  have h2 : (bareT t).x = (bareT u).x := by rw [h]
  exact h2
theorem TkS.n {t u : Tk} (h : TkS t u) : t.n = u.n := by
  have h2 : (bareT t).n = (bareT u).n := by rw [h]
  exact h2
theorem TkS.f {t u : Tk} (h : TkS t u) : t.f = u.f := by
  have h2 : (bareT t).f = (bareT u).f := by rw [h]
  exact h2

namespace Gm
theorem TkS_isM {t u : Tk} (h : TkS t u) (w : ByteArray) : isM t w = isM u w := by unfold isM; rw [h.k, h.x]
theorem TkS_isA {t u : Tk} (h : TkS t u) (w : ByteArray) : isA t w = isA u w := by unfold isA; rw [h.k, h.x]
theorem bare_ts {s s' : PS} (h : bareS s = bareS s') : s.ts.map bareT = s'.ts.map bareT := congrArg PS.ts h
theorem bare_ns {s s' : PS} (h : bareS s = bareS s') : s.ns.map bareN = s'.ns.map bareN := congrArg PS.ns h
theorem bare_o {s s' : PS} (h : bareS s = bareS s') : s.o = s'.o := by
  have h2 : (bareS s).o = (bareS s').o := by rw [h]
  exact h2
theorem bare_hd {s s' : PS} (h : bareS s = bareS s') : TkS (hd s) (hd s') := by
  have h1 := bare_ts h
  unfold hd
  cases hs : s.ts with
  | nil =>
    rw [hs] at h1
    have : s'.ts = [] := by simpa using h1.symm
    rw [this]
  | cons t r =>
    rw [hs] at h1
    cases hs' : s'.ts with
    | nil => rw [hs'] at h1; cases h1
    | cons t' r' => rw [hs'] at h1; exact (List.cons.inj h1).1
theorem bare_tail {s s' : PS} (h : bareS s = bareS s') : s.ts.tail.map bareT = s'.ts.tail.map bareT := by
  have h1 := congrArg List.tail (bare_ts h)
  simpa using h1
theorem bare_hd2 {s s' : PS} (h : bareS s = bareS s') : TkS (hd2 s) (hd2 s') := by
  have h1 : bareS ⟨s.ts.tail, s.ns, s.o⟩ = bareS ⟨s'.ts.tail, s'.ns, s'.o⟩ := by
    simp only [bareS, bare_tail h, bare_ns h, bare_o h]
  exact bare_hd h1
theorem bare_cut {s s' : PS} (h : bareS s = bareS s') : bareS (cut s) = bareS (cut s') := by
  simp only [bareS, cut, bare_tail h, bare_ns h, bare_o h]

theorem bl_bind {α β : Type} {r : α → α → Prop} {q : β → β → Prop} {m m' : PM α} {f f' : α → PM β} (h : Bl r m m') (g : ∀ a b, r a b → Bl q (f a) (f' b)) : Bl q (m >>= f) (m' >>= f') := by
  intro s s' hs
  have h1 := h s s' hs
  rw [bind_at, bind_at]
  cases hm : m s with
  | error e =>
    rw [hm] at h1
    cases hm' : m' s' with
    | error e' => rw [hm'] at h1; exact h1
    | ok p => rw [hm'] at h1; exact h1.elim
  | ok p =>
    obtain ⟨a, t⟩ := p
    rw [hm] at h1
    cases hm' : m' s' with
    | error e' => rw [hm'] at h1; exact h1.elim
    | ok p' =>
      obtain ⟨b, t'⟩ := p'
      rw [hm'] at h1
      exact g a b h1.1 t t' h1.2
theorem bl_pure {α : Type} {r : α → α → Prop} {a b : α} (h : r a b) : Bl r (pure a) (pure b) := fun _ _ hs => ⟨h, hs⟩
theorem bl_here : Bl TkS here here := fun _ _ hs => ⟨bare_hd hs, hs⟩
theorem bl_ahead : Bl TkS ahead ahead := fun _ _ hs => ⟨bare_hd2 hs, hs⟩
theorem bl_left : Bl Eq left left := fun _ _ hs => ⟨by have := congrArg List.length (bare_ts hs); simpa using this, hs⟩
theorem bl_next : Bl TkS next next := fun _ _ hs => ⟨bare_hd hs, bare_cut hs⟩
theorem bl_fault {α : Type} {r : α → α → Prop} (e : Int) (p q : Nat) : Bl r (fault e p) (fault e q) := fun _ _ _ => rfl
theorem bl_giveUp {α : Type} {r : α → α → Prop} (e : Int) : Bl r (giveUp e) (giveUp e) := fun _ _ _ => rfl
theorem bl_take (w : ByteArray) : Bl Eq (take w) (take w) := by
  intro s s' hs
  unfold take
  rw [TkS_isM (bare_hd hs) w]
  split
  · exact ⟨rfl, bare_cut hs⟩
  · exact ⟨rfl, hs⟩
theorem bl_need (w : ByteArray) : Bl Eq (need w) (need w) := by
  intro s s' hs
  unfold need
  rw [TkS_isM (bare_hd hs) w]
  split
  · exact ⟨rfl, bare_cut hs⟩
  · rfl
theorem bl_needK (k : Int) : Bl TkS (needK k) (needK k) := by
  intro s s' hs
  unfold needK
  rw [(bare_hd hs).k]
  split
  · exact ⟨bare_hd hs, bare_cut hs⟩
  · rfl
theorem bl_lay {n n' : Nd} (h : bareN n = bareN n') : Bl Eq (lay n) (lay n') := by
  intro s s' hs
  have hl : s.ns.length = s'.ns.length := by have := congrArg List.length (bare_ns hs); simpa using this
  unfold lay
  rw [hl]
  split
  · rfl
  · refine ⟨rfl, ?_⟩
    simp only [bareS, List.map_append, List.map_cons, List.map_nil, bare_ts hs, bare_ns hs, bare_o hs, h]
theorem bl_nd (k : Int) (x : ByteArray) (n : Int) (f : Nat) (l : List Nat) (p q : Nat) : Bl Eq (lay ⟨k, x, n, f, l, p⟩) (lay ⟨k, x, n, f, l, q⟩) := bl_lay rfl
theorem bl_op (p q : Nat) (x : ByteArray) (l : List Nat) : Bl Eq (op p x l) (op q x l) := bl_lay rfl
theorem bl_layNone (k : Int) : Bl Eq (layNone k) (layNone k) := bl_bind bl_here fun _ _ _ => bl_nd _ _ _ _ _ _ _
theorem bl_ite {α : Type} {r : α → α → Prop} {c d : Prop} [Decidable c] [Decidable d] {m m' n n' : PM α} (hc : c ↔ d) (h : Bl r m m') (g : Bl r n n') : Bl r (if c then m else n) (if d then m' else n') := by
  by_cases hh : c
  · rw [if_pos hh, if_pos (hc.1 hh)]; exact h
  · rw [if_neg hh, if_neg (fun h => hh (hc.2 h))]; exact g
theorem bl_if {α : Type} {r : α → α → Prop} {b b' : Bool} {m m' n n' : PM α} (hb : b = b') (h : Bl r m m') (g : Bl r n n') : Bl r (if b then m else n) (if b' then m' else n') := bl_ite (by rw [hb]) h g

variable {e e' : PM Nat}
theorem bl_more (he : Bl Eq e e') (most : Nat) : ∀ k l, Bl Eq (more e most k l) (more e' most k l)
  | 0, _ => bl_pure rfl
  | k + 1, l => bl_bind (bl_take _) fun _ _ h => bl_if h (bl_ite Iff.rfl (bl_giveUp _) (bl_bind he fun _ _ h => by subst h; exact bl_more he most k _)) (bl_pure rfl)
theorem bl_exprs (he : Bl Eq e e') (most : Nat) : Bl Eq (exprs e most) (exprs e' most) := bl_bind he fun _ _ h => by subst h; exact bl_bind bl_left fun _ _ h => by subst h; exact bl_more he _ _ _
theorem bl_group (he : Bl Eq e e') (k : Int) : Bl Eq (group e k) (group e' k) := bl_bind bl_here fun _ _ _ => bl_bind (bl_exprs he _) fun _ _ h => by subst h; exact bl_nd _ _ _ _ _ _ _
theorem bl_body (he : Bl Eq e e') : Bl Eq (body e) (body e') := bl_group he _
theorem bl_guard (he : Bl Eq e e') : Bl Eq (guard e) (guard e') := bl_bind (bl_take _) fun _ _ h => bl_if h (bl_group he _) (bl_layNone _)
theorem bl_args (he : Bl Eq e e') : Bl Eq (args e) (args e') :=
  bl_bind (bl_need _) fun _ _ _ => bl_bind (bl_take _) fun _ _ h => bl_if h (bl_pure rfl) (bl_bind (bl_exprs he _) fun _ _ h => by subst h; exact bl_bind (bl_need _) fun _ _ _ => bl_pure rfl)
theorem bl_tail (he : Bl Eq e e') (p q : Nat) {x y : ByteArray} (hx : x = y) (l : List Nat) : Bl Eq (tail e p x l) (tail e' q y l) := by
  subst hx
  exact bl_bind (bl_guard he) fun _ _ h => by subst h; exact bl_bind (bl_need _) fun _ _ _ => bl_bind (bl_body he) fun _ _ h => by subst h; exact bl_nd _ _ _ _ _ _ _
theorem bl_fclause (he : Bl Eq e e') : Bl Eq (fclause e) (fclause e') := bl_bind (bl_needK _) fun _ _ ht => bl_bind (bl_args he) fun _ _ h => by subst h; exact bl_tail he _ _ ht.x _
theorem bl_gclause (he : Bl Eq e e') : Bl Eq (gclause e) (gclause e') := bl_bind bl_here fun _ _ _ => bl_bind (bl_args he) fun _ _ h => by subst h; exact bl_tail he _ _ rfl _
theorem bl_clause (he : Bl Eq e e') : Bl Eq (clause e) (clause e') := bl_bind bl_here fun _ _ _ => bl_bind he fun _ _ h => by subst h; exact bl_tail he _ _ rfl _
theorem bl_leaf : Bl Eq leaf leaf := bl_bind bl_next fun _ _ ht => bl_lay (by simp only [bareN, ht.k, ht.x, ht.n, ht.f])
theorem TkS_isClass {t u : Tk} (h : TkS t u) : isClass t = isClass u := by unfold isClass; rw [h.k, h.x]
theorem bl_cls : Bl Eq cls cls :=
  bl_bind bl_here fun _ _ ht => bl_bind bl_ahead fun _ _ hu => bl_ite (by rw [ht.k, TkS_isM hu])
    (bl_if (TkS_isClass ht) (bl_bind bl_leaf fun _ _ h => by subst h; exact bl_bind (bl_need _) fun _ _ _ => bl_pure rfl) (bl_giveUp _)) (bl_nd _ _ _ _ _ _ _)
theorem bl_cclause (he : Bl Eq e e') : Bl Eq (cclause e) (cclause e') := bl_bind bl_here fun _ _ _ => bl_bind bl_cls fun _ _ h => by subst h; exact bl_bind he fun _ _ h => by subst h; exact bl_tail he _ _ rfl _
theorem bl_moreC {c c' : PM Nat} (hc : Bl Eq c c') : ∀ k l, Bl Eq (moreC c k l) (moreC c' k l)
  | 0, _ => bl_pure rfl
  | k + 1, l => bl_bind (bl_take _) fun _ _ h => bl_if h (bl_bind hc fun _ _ h => by subst h; exact bl_moreC hc k _) (bl_pure rfl)
theorem bl_clauses {c c' : PM Nat} (hc : Bl Eq c c') : Bl Eq (clauses c) (clauses c') :=
  bl_bind bl_here fun _ _ _ => bl_bind hc fun _ _ h => by subst h; exact bl_bind bl_left fun _ _ h => by subst h; exact bl_bind (bl_moreC hc _ _) fun _ _ h => by subst h; exact bl_nd _ _ _ _ _ _ _
theorem bl_clausesBehind {c c' : PM Nat} (w : ByteArray) (hc : Bl Eq c c') : Bl Eq (clausesBehind w c) (clausesBehind w c') := bl_bind (bl_take _) fun _ _ h => bl_if h (bl_clauses hc) (bl_layNone _)
theorem bl_begin (he : Bl Eq e e') : Bl Eq (begin e) (begin e') := bl_bind bl_next fun _ _ _ => bl_bind (bl_exprs he _) fun _ _ h => by subst h; exact bl_bind (bl_need _) fun _ _ _ => bl_nd _ _ _ _ _ _ _
theorem bl_choice (he : Bl Eq e e') : Bl Eq (choice e) (choice e') :=
  bl_bind bl_next fun _ _ _ => bl_bind he fun _ _ h => by subst h; exact bl_bind (bl_need _) fun _ _ _ => bl_bind (bl_clauses (bl_clause he)) fun _ _ h => by subst h; exact bl_bind (bl_need _) fun _ _ _ => bl_nd _ _ _ _ _ _ _
theorem bl_funName (p q : Nat) : Bl Eq (funName p) (funName q) :=
  bl_bind bl_next fun _ _ ht => bl_bind (bl_need _) fun _ _ _ => bl_bind (bl_needK _) fun _ _ hn => bl_ite (by rw [hn.n]) (bl_fault _ _ _) (bl_lay (by simp only [bareN, ht.x, hn.n]))
theorem bl_fn (he : Bl Eq e e') : Bl Eq (fn e) (fn e') :=
  bl_bind bl_next fun _ _ _ => bl_bind bl_here fun _ _ hu => bl_ite (by rw [hu.k]) (bl_funName _ _) (bl_bind (bl_clauses (bl_gclause he)) fun _ _ h => by subst h; exact bl_bind (bl_need _) fun _ _ _ => bl_nd _ _ _ _ _ _ _)
theorem bl_afterB (he : Bl Eq e e') : Bl Eq (afterB e) (afterB e') := bl_bind (bl_take _) fun _ _ h => bl_if h (bl_bind (bl_body he) fun _ _ h => bl_pure (by rw [h])) (bl_bind (bl_layNone _) fun _ _ h => bl_pure (by rw [h]))
theorem bl_tryOf (he : Bl Eq e e') : Bl Eq (tryOf e) (tryOf e') :=
  bl_bind bl_next fun _ _ _ => bl_bind (bl_body he) fun _ _ h => by subst h; exact bl_bind (bl_clausesBehind _ (bl_clause he)) fun _ _ h => by subst h; exact bl_bind bl_here fun _ _ hu => bl_bind (bl_clausesBehind _ (bl_cclause he)) fun _ _ h => by subst h; exact bl_bind bl_here fun _ _ hv => bl_ite (by rw [TkS_isM hu, TkS_isM hv]) (bl_bind (bl_afterB he) fun _ _ h => by subst h; exact bl_bind (bl_need _) fun _ _ _ => bl_nd _ _ _ _ _ _ _) (bl_giveUp _)
theorem bl_patience : Bl Eq patience patience :=
  bl_bind bl_here fun _ _ ht => bl_if (TkS_isA ht _) (bl_bind bl_next fun _ _ _ => bl_pure rfl) (bl_ite (by rw [ht.k, ht.n]) (bl_bind bl_next fun _ _ _ => bl_pure rfl) (bl_giveUp _))
theorem bl_received (he : Bl Eq e e') : Bl Eq (received e) (received e') := bl_bind bl_here fun _ _ ht => bl_if (TkS_isM ht _) (bl_layNone _) (bl_clauses (bl_clause he))
theorem bl_afterR (he : Bl Eq e e') : Bl Eq (afterR e) (afterR e') :=
  bl_bind (bl_take _) fun _ _ h => bl_if h (bl_bind bl_patience fun _ _ h => by subst h; exact bl_bind (bl_need _) fun _ _ _ => bl_bind (bl_body he) fun _ _ h => bl_pure (by rw [h])) (bl_bind (bl_layNone _) fun _ _ h => bl_pure (by rw [h]))
theorem bl_receive (he : Bl Eq e e') : Bl Eq (receive e) (receive e') :=
  bl_bind bl_next fun _ _ _ => bl_bind (bl_received he) fun _ _ h => by subst h; exact bl_bind (bl_afterR he) fun _ _ h => by subst h; exact bl_bind (bl_need _) fun _ _ _ => bl_nd _ _ _ _ _ _ _
theorem bl_worded (he : Bl Eq e e') : Bl Eq (worded e) (worded e') :=
  bl_bind bl_here fun _ _ ht => bl_ite (by rw [ht.x]) (bl_begin he) (bl_ite (by rw [ht.x]) (bl_choice he) (bl_ite (by rw [ht.x]) (bl_fn he) (bl_ite (by rw [ht.x]) (bl_tryOf he) (bl_ite (by rw [ht.x]) (bl_receive he) (bl_giveUp _)))))
theorem bl_tuple (he : Bl Eq e e') : Bl Eq (tuple e) (tuple e') :=
  bl_bind bl_next fun _ _ _ => bl_bind bl_here fun _ _ hu => bl_if (TkS_isM hu _) (bl_bind (bl_need _) fun _ _ _ => bl_nd _ _ _ _ _ _ _) (bl_bind (bl_exprs he _) fun _ _ h => by subst h; exact bl_bind (bl_need _) fun _ _ _ => bl_nd _ _ _ _ _ _ _)
theorem bl_list (he : Bl Eq e e') : Bl Eq (list e) (list e') :=
  bl_bind bl_next fun _ _ _ => bl_bind bl_here fun _ _ hu => bl_if (TkS_isM hu _) (bl_bind (bl_need _) fun _ _ _ => bl_nd _ _ _ _ _ _ _) (bl_bind (bl_exprs he _) fun _ _ h => by subst h; exact bl_bind (bl_take _) fun _ _ h => bl_if h (bl_bind he fun _ _ h => by subst h; exact bl_bind (bl_need _) fun _ _ _ => bl_nd _ _ _ _ _ _ _) (bl_bind (bl_need _) fun _ _ _ => bl_nd _ _ _ _ _ _ _))
theorem bl_bracketed (he : Bl Eq e e') : Bl Eq (bracketed e) (bracketed e') :=
  bl_bind bl_here fun _ _ ht => bl_ite (by rw [ht.x]) (bl_bind bl_next fun _ _ _ => bl_bind he fun _ _ h => by subst h; exact bl_bind (bl_need _) fun _ _ _ => bl_pure rfl) (bl_ite (by rw [ht.x]) (bl_tuple he) (bl_ite (by rw [ht.x]) (bl_list he) (bl_giveUp _)))
theorem bl_primary (he : Bl Eq e e') : Bl Eq (primary e) (primary e') :=
  bl_bind bl_here fun _ _ ht => bl_ite (by rw [ht.k]) bl_leaf (bl_ite (by rw [ht.k]) (bl_bracketed he) (bl_ite (by rw [ht.k]) (bl_worded he) (bl_giveUp _)))
theorem bl_called (he : Bl Eq e e') : Bl Eq (called e) (called e') :=
  bl_bind bl_here fun _ _ ht => bl_bind bl_ahead fun _ _ hu => bl_ite (by rw [ht.k, TkS_isM hu]) (bl_bind bl_next fun _ _ _ => bl_bind (bl_args he) fun _ _ h => by subst h; exact bl_lay (by simp only [bareN, ht.x])) (bl_primary he)
theorem bl_applied (he : Bl Eq e e') (p q : Nat) : ∀ k x, Bl Eq (applied e p k x) (applied e' q k x)
  | 0, _ => bl_pure rfl
  | k + 1, x => bl_bind bl_here fun _ _ ht => bl_if (TkS_isM ht _) (bl_bind (bl_args he) fun _ _ h => by subst h; exact bl_bind (bl_nd _ _ _ _ _ _ _) fun _ _ h => by subst h; exact bl_applied he p q k _) (bl_pure rfl)
theorem bl_call (he : Bl Eq e e') : Bl Eq (call e) (call e') := bl_bind bl_here fun _ _ _ => bl_bind (bl_called he) fun _ _ h => by subst h; exact bl_bind bl_left fun _ _ h => by subst h; exact bl_applied he _ _ _ _
abbrev TkL (l l' : List Tk) : Prop := l.map bareT = l'.map bareT
theorem bl_signs : ∀ k l l', TkL l l' → Bl TkL (signs k l) (signs k l')
  | 0, _, _, h => bl_pure h
  | k + 1, l, l', h => bl_bind bl_here fun _ _ ht => bl_ite (by rw [TkS_isM ht, TkS_isM ht]) (bl_bind bl_next fun _ _ _ => bl_signs k _ _ (by rw [TkL, List.map_append, List.map_append, h]; simp only [List.map_cons, List.map_nil]; rw [ht])) (bl_pure h)
theorem bl_layOps : ∀ (l l' : List Tk), TkL l l' → ∀ x, Bl Eq (layOps l x) (layOps l' x)
  | [], [], _, x => bl_pure rfl
  | [], _ :: _, h, _ => by cases h
  | _ :: _, [], h, _ => by cases h
  | t :: r, t' :: r', h, x => bl_bind (bl_layOps r r' (List.cons.inj h).2 x) fun _ _ hy => by
      subst hy
      have ht : TkS t t' := (List.cons.inj h).1
      exact bl_lay (by simp only [bareN, ht.x])
theorem bl_unary (he : Bl Eq e e') : Bl Eq (unary e) (unary e') :=
  bl_bind bl_left fun _ _ h => by subst h; exact bl_bind (bl_signs _ _ _ rfl) fun _ _ hl => bl_bind (bl_call he) fun _ _ h => by subst h; exact bl_layOps _ _ hl _
theorem bl_leftward {m m' : PM Nat} (hm : Bl Eq m m') {sg : Tk → Bool} (hs : ∀ t u, TkS t u → sg t = sg u) (p q : Nat) : ∀ k x, Bl Eq (leftward m sg p k x) (leftward m' sg q k x)
  | 0, _ => bl_pure rfl
  | k + 1, x => bl_bind bl_here fun _ _ ht => bl_if (hs _ _ ht) (bl_bind bl_next fun _ _ _ => bl_bind hm fun _ _ h => by subst h; exact bl_bind (bl_lay (by simp only [bareN, ht.x])) fun _ _ h => by subst h; exact bl_leftward hm hs p q k _) (bl_pure rfl)
theorem bl_isMul (t u : Tk) (h : TkS t u) : isMul t = isMul u := by unfold isMul; simp only [TkS_isM h]
theorem bl_isAdd (t u : Tk) (h : TkS t u) : isAdd t = isAdd u := by unfold isAdd; simp only [TkS_isM h]
theorem bl_isCmp (t u : Tk) (h : TkS t u) : isCmp t = isCmp u := by unfold isCmp; simp only [TkS_isM h]
theorem bl_mul (he : Bl Eq e e') : Bl Eq (mul e) (mul e') := bl_bind bl_here fun _ _ _ => bl_bind (bl_unary he) fun _ _ h => by subst h; exact bl_bind bl_left fun _ _ h => by subst h; exact bl_leftward (bl_unary he) bl_isMul _ _ _ _
theorem bl_add (he : Bl Eq e e') : Bl Eq (add e) (add e') := bl_bind bl_here fun _ _ _ => bl_bind (bl_mul he) fun _ _ h => by subst h; exact bl_bind bl_left fun _ _ h => by subst h; exact bl_leftward (bl_mul he) bl_isAdd _ _ _ _
theorem bl_rightward {m m' : PM Nat} (hm : Bl Eq m m') (w : ByteArray) : ∀ k, Bl Eq (rightward m w k) (rightward m' w k)
  | 0 => hm
  | k + 1 => bl_bind bl_here fun _ _ _ => bl_bind hm fun _ _ h => by subst h; exact bl_bind (bl_take _) fun _ _ h => bl_if h (bl_bind (bl_rightward hm w k) fun _ _ h => by subst h; exact bl_op _ _ _ _) (bl_pure rfl)
theorem bl_right {m m' : PM Nat} (hm : Bl Eq m m') (w : ByteArray) : Bl Eq (right m w) (right m' w) := bl_bind bl_left fun _ _ h => by subst h; exact bl_rightward hm w _
theorem bl_compare (he : Bl Eq e e') : Bl Eq (compare e) (compare e') :=
  bl_bind bl_here fun _ _ _ => bl_bind (bl_right (bl_add he) _) fun _ _ h => by subst h; exact bl_bind bl_here fun _ _ hu => bl_if (bl_isCmp _ _ hu) (bl_bind bl_next fun _ _ _ => bl_bind (bl_right (bl_add he) _) fun _ _ h => by subst h; exact bl_lay (by simp only [bareN, hu.x])) (bl_pure rfl)
theorem bl_opened (he : Bl Eq e e') : Bl Eq (opened e) (opened e') :=
  bl_bind bl_here fun _ _ _ => bl_bind (bl_take _) fun _ _ h => bl_if h (bl_bind he fun _ _ h => by subst h; exact bl_nd _ _ _ _ _ _ _) (bl_bind (bl_right (bl_right (bl_compare he) _) _) fun _ _ h => by subst h; exact bl_bind (bl_take _) fun _ _ h => bl_if h (bl_bind he fun _ _ h => by subst h; exact bl_nd _ _ _ _ _ _ _) (bl_bind (bl_take _) fun _ _ h => bl_if h (bl_bind he fun _ _ h => by subst h; exact bl_op _ _ _ _) (bl_pure rfl)))
theorem bl_expr : ∀ k, Bl Eq (expr k) (expr k)
  | 0 => bl_giveUp _
  | k + 1 => by
    intro s s' hs
    simp only [expr]
    rw [bare_o hs]
    split
    · rfl
    · have h1 := bl_opened (bl_expr k) { s with o := s'.o + 1 } { s' with o := s'.o + 1 } (by simp only [bareS, bare_ts hs, bare_ns hs])
      cases hm : opened (expr k) { s with o := s'.o + 1 } with
      | error er =>
        rw [hm] at h1
        cases hm' : opened (expr k) { s' with o := s'.o + 1 } with
        | error er' => rw [hm'] at h1; exact h1
        | ok p => rw [hm'] at h1; exact h1.elim
      | ok p =>
        obtain ⟨a, t⟩ := p
        rw [hm] at h1
        cases hm' : opened (expr k) { s' with o := s'.o + 1 } with
        | error er' => rw [hm'] at h1; exact h1.elim
        | ok p' =>
          obtain ⟨b, t'⟩ := p'
          rw [hm'] at h1
          exact ⟨h1.1, by simp only [bareS, bare_ts h1.2, bare_ns h1.2, bare_o h1.2]⟩
end Gm
end Go.Proofs.YtppmcimcmcognaaGreatDoor


