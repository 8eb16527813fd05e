import Derived.Test.YtgljglindgbjaaaGreatDoorG15
import Derived.Test.YtgljglindgbjaaaGreatDoorG02
import Derived.Defers
import Derived.Recover
import Derived.Deep.RegionLaw
import Derived.Test.YtgljglindgbjaaaGreatDoorG10
import Derived.Test.YtgljglindgbjaaaGreatDoorG07
import Derived.Test.YtgljglindgbjaaaGreatDoorG09
/- What a builtin raises, and what is recovered. -/
namespace Go.Proofs.YtgljglindgbjaaaGreatDoor
open Go.RowKit Go.Lib
attribute [local go_sem] store_float f64bits
attribute [local go_sem ↓] Go.wp_at_zero Go.wp_at_succ

abbrev RT : Nat := 70
abbrev raisedBy (e : Int) : Ending := .panicked [{ v := .iface RT (.int .i64 e), recovered := false }]

set_option maxHeartbeats 2000000 in
set_option maxRecDepth 100000 in
theorem must_ok (e : Int) (w : World) : Calls Tryz.prog 106 #[.bool true, .int .i64 e] w fun r w' => r = .returned (.tuple #[]) ∧ w' = w := by
  go_enter Tryz.func106, Tryz.ntmps106
  go_wp2_with fail
  go_end0
  exact ⟨rfl, rfl⟩
set_option maxHeartbeats 2000000 in
set_option maxRecDepth 100000 in
theorem must_no (e : Int) (w : World) : Calls Tryz.prog 106 #[.bool false, .int .i64 e] w fun r w' => r = raisedBy e ∧ Below w.heap.size w w' := by
  go_enter Tryz.func106, Tryz.ntmps106
  go_wp2_with fail
  exact ⟨rfl, rfl, Below.refl _ _⟩

def mb (e : Int) : Int := if e = 4 then 13 else e

set_option maxHeartbeats 2000000 in
set_option maxRecDepth 100000 in
theorem mustBe_ok (w : World) : Calls Tryz.prog 94 #[.int .i64 0] w fun r w' => r = .returned (.tuple #[]) ∧ w' = w := by
  go_enter Tryz.func94, Tryz.ntmps94
  go_wp2_with (go_at_call 106; refine (must_ok _ _).mono ?_; rintro r w1 ⟨rfl, rfl⟩)
  go_end0
  exact ⟨rfl, rfl⟩
set_option maxHeartbeats 2000000 in
set_option maxRecDepth 100000 in
theorem mustBe_no (e : Int) (he : e ≠ 0) (w : World) : Calls Tryz.prog 94 #[.int .i64 e] w fun r w' => r = raisedBy (mb e) ∧ Below w.heap.size w w' := by
  by_cases h4 : e = 4
  · subst h4
    go_enter Tryz.func94, Tryz.ntmps94
    go_wp2_with (go_at_call 106; refine (must_no _ _).mono ?_; rintro r w1 ⟨rfl, hb⟩)
    exact ⟨rfl, rfl, hb⟩
  · have h1 : (e != 4) = true := by simpa using h4
    have h2 : (e == 0) = false := by simpa using he
    have hm : mb e = e := if_neg h4
    rw [hm]
    clear h4 he hm
    have M0 := trivial
    go_enter Tryz.func94, Tryz.ntmps94
    go_wp2_with (first
      | (clear M0; go_at_call 106; refine (must_ok _ _).mono ?_; rintro r w1 ⟨rfl, rfl⟩)
      | (go_at_call 106; refine (must_no _ _).mono ?_; rintro r w1 ⟨rfl, hb⟩))
    exact ⟨rfl, rfl, hb⟩

set_option maxHeartbeats 2000000 in
set_option maxRecDepth 100000 in
theorem bcatch_idle (p q : Nat) (w : World) :
    CallsD Tryz.prog 93 #[.pointer (some ⟨p, 0, none⟩), .pointer (some ⟨q, 0, none⟩)] .returning w fun e u' w' => e = .returned (.tuple #[]) ∧ u' = .returning ∧ w' = w := by
  refine callsD_of_wpS Tryz.func93 rfl fun c₀ cs hu => ?_
  apply wpS_seq
  apply wpS_region
  simp [wpOpsS, go_sem, recoverD, hu, Tryz.ntmps93, Exit.thenS]
  refine wpS_of_wp ?_
  go_wp2_with fail
  cases c₀
  simp_all [bodyPostS, results, Tryz.results93]

theorem ta_raised (v : Value) (w : World) : (Instr.typeAssert (.iface RT v) 20 RT true).run Tryz.prog w = .ok (.tuple #[v, .bool true]) w := by kernel_rfl
attribute [local go_sem] ta_raised

set_option maxHeartbeats 4000000 in
set_option maxRecDepth 100000 in
theorem bcatch_raised (p q : Nat) (hne : p ≠ q) (er : Int) (older : List PanicEntry) (v0 v1 v2 v3 v4 v5 : Value) (w : World) (hp : Box w p v0 v1 v2 v3 v4) (hq : w.cell? ⟨q, 0, none⟩ = some v5) (hqf : w.frozen? ⟨q, 0, none⟩ = false) :
    CallsD Tryz.prog 93 #[.pointer (some ⟨p, 0, none⟩), .pointer (some ⟨q, 0, none⟩)] (.panicking ({ v := .iface RT (.int .i64 er), recovered := false } :: older)) w fun e u' w' =>
      e = .returned (.tuple #[]) ∧ u' = .panicking ({ v := .iface RT (.int .i64 er), recovered := true } :: older) ∧ Box w' p (.int .i64 0) (.int .i64 0) (.float .f64 0) (.string ⟨#[]⟩) (.slice none 0 0) ∧ w'.cell? ⟨q, 0, none⟩ = some (.int .i64 er) ∧ But (fun k => k = p ∨ k = q) w w' := by
  refine callsD_of_wpS Tryz.func93 rfl fun c₀ cs hu => ?_
  apply wpS_seq
  apply wpS_region
  simp [wpOpsS, go_sem, recoverD, hu, Tryz.ntmps93, Exit.thenS]
  refine wpS_of_wp ?_
  have c0 := hp.c0; have c1 := hp.c1; have c2 := hp.c2; have c3 := hp.c3; have c4 := hp.c4
  have f0 := hp.f0; have f1 := hp.f1; have f2 := hp.f2; have f3 := hp.f3; have f4 := hp.f4
  have hpl : p < w.heap.size := World.block_lt_of_cell? _ _ c0
  have hql : q < w.heap.size := World.block_lt_of_cell? _ _ hq
  have HP := hidb hp
  clear hp
  go_wp2_with fail
  have bx := (HP.out.set (.int .i64 0) (.int .i64 0) (.float .f64 0) (.string ⟨#[]⟩) (.slice none 0 0)).other1 (c := q) (i := 0) (fun e => hne e.symm) (.int .i64 er)
  have bt : But (fun k => k = p ∨ k = q) w ((set5 w p (.int .i64 0) (.int .i64 0) (.float .f64 0) (.string ⟨#[]⟩) (.slice none 0 0)).setCell ⟨q, 0, none⟩ (.int .i64 er)) :=
    ((((((But.refl (fun k => k = p ∨ k = q) w).setCell (p := ⟨p, 0, none⟩) (fun _ => .inl rfl) _).setCell (p := ⟨p, 1, none⟩) (fun _ => .inl rfl) _).setCell (p := ⟨p, 2, none⟩) (fun _ => .inl rfl) _).setCell (p := ⟨p, 3, none⟩) (fun _ => .inl rfl) _).setCell (p := ⟨p, 4, none⟩) (fun _ => .inl rfl) _).setCell (p := ⟨q, 0, none⟩) (fun _ => .inr rfl) _
  have hc : ((set5 w p (.int .i64 0) (.int .i64 0) (.float .f64 0) (.string ⟨#[]⟩) (.slice none 0 0)).setCell ⟨q, 0, none⟩ (.int .i64 er)).cell? ⟨q, 0, none⟩ = some (.int .i64 er) := by
    refine World.cell?_setCell_same' _ _ _ ?_
    have h0 : (set5 w p (.int .i64 0) (.int .i64 0) (.float .f64 0) (.string ⟨#[]⟩) (.slice none 0 0)).cell? ⟨q, 0, none⟩ = some v5 := by
      unfold set5
      simp only [World.cell?_setCell_other _ _ _ _ (ne_blk3 _ _ _ _ hne)]
      exact hq
    rw [h0]; rfl
  exact ⟨rfl, _, rfl, .tuple #[], by simp [results, Tryz.results93], rfl, rfl, bx, hc, bt⟩
end Go.Proofs.YtgljglindgbjaaaGreatDoor


/- Where a tree lies. -/
namespace Go.Proofs.YtgljglindgbjaaaGreatDoor
open Go.RowKit Go.Deep

theorem get_lt {α : Type} {l : List α} {i : Nat} {x : α} (h : l[i]? = some x) : i < l.length := by
  rcases Nat.lt_or_ge i l.length with q | q
  · exact q
  · rw [List.getElem?_eq_none q] at h; cases h


mutual
/-- All of a tree lies in blocks of P. -/
def Tr.On (P : Nat → Prop) : Tr → Prop
  | .mk _ _ _ _ a _ kids => (0 < kids.length → ∀ ad, a = some ad → P ad.block) ∧ Tr.OnAll P kids
def Tr.OnAll (P : Nat → Prop) : List Tr → Prop
  | [] => True
  | t :: r => Tr.On P t ∧ Tr.OnAll P r
end

theorem onAll_get {P : Nat → Prop} {kids : List Tr} (h : Tr.OnAll P kids) {t : Tr} (ht : t ∈ kids) : t.On P := by
  induction kids with
  | nil => simp at ht
  | cons u r ih =>
    unfold Tr.OnAll at h
    rcases List.mem_cons.1 ht with rfl | ht
    · exact h.1
    · exact ih h.2 ht

/-- What lies in a world lies in its blocks. -/
theorem on_all {w : World} {base : Nat} : ∀ t : Tr, t.In w base → t.On (fun k => k < w.heap.size) := by
  refine Tr.ind fun k n f s a c kids hk h => ?_
  unfold Tr.In at h
  unfold Tr.On
  refine ⟨fun h0 ad had => ?_, ?_⟩
  · obtain ⟨u, hu⟩ : ∃ u, kids[0]? = some u := ⟨_, List.getElem?_eq_getElem h0⟩
    have q := (inAll_get (h.2 ad had).2 0 u hu).1 0 (by omega)
    cases u with
    | mk =>
      have e : ad.add (0 * 5 + 0) = ad := by unfold Addr.add; simp
      rw [e] at q
      exact World.block_lt_of_cell? w ad (q.trans rfl)
  · have : ∀ l : List Tr, (∀ t, t ∈ l → t ∈ kids) → Tr.OnAll (fun k => k < w.heap.size) l := by
      intro l
      induction l with
      | nil => intro _; unfold Tr.OnAll; trivial
      | cons t r ih =>
        intro hl
        unfold Tr.OnAll
        refine ⟨?_, ih fun u hu => hl u (List.mem_cons_of_mem _ hu)⟩
        have ht := hl t (List.mem_cons_self ..)
        obtain ⟨j, hj⟩ := List.getElem?_of_mem ht
        refine hk t ht ?_
        cases a with
        | none =>
          have h0 := h.1.2.2.2.2.2.2 rfl
          have h1 := h.1.2.2.2.2.1
          have : j < kids.length := by
            rcases Nat.lt_or_ge j kids.length with h | h
            · exact h
            · rw [List.getElem?_eq_none h] at hj; simp at hj
          omega
        | some ad => exact (inAll_get (h.2 ad rfl).2 j t hj).2
    exact this kids fun t h => h


theorem in_on {w w' : World} {base : Nat} {S : Nat → Prop} (hs : ∀ b, S b → w'.heap[b]? = w.heap[b]?) : ∀ t : Tr, t.In w base → t.On S → t.In w' base := by
  refine Tr.ind fun k n f s a c kids hk h ho => ?_
  unfold Tr.In at h ⊢
  unfold Tr.On at ho
  refine ⟨h.1, fun ad had => ⟨(h.2 ad had).1, inAll_of fun j t hj => ?_⟩⟩
  have g := inAll_get (h.2 ad had).2 j t hj
  have hpos : 0 < kids.length := by have := get_lt hj; omega
  have hS := ho.1 hpos ad had
  refine ⟨fun i hi => ?_, hk t (List.mem_of_getElem? hj) g.2 (onAll_get ho.2 (List.mem_of_getElem? hj))⟩
  rw [add_add]
  rw [← g.1 i hi]
  refine World.cell?_of_block (w := w) ?_
  have e : (ad.add (j * 5 + i)).block = ad.block := by unfold Addr.add; split <;> rfl
  rw [e]
  exact hs _ hS

theorem on_mono {S S' : Nat → Prop} (h : ∀ b, S b → S' b) : ∀ t : Tr, t.On S → t.On S' := by
  refine Tr.ind fun k n f s a c kids hk ho => ?_
  unfold Tr.On at ho ⊢
  refine ⟨fun h0 ad had => h _ (ho.1 h0 ad had), ?_⟩
  have : ∀ l : List Tr, (∀ t, t ∈ l → t ∈ kids) → Tr.OnAll S l → Tr.OnAll S' l := by
    intro l
    induction l with
    | nil => intro _ _; unfold Tr.OnAll; trivial
    | cons t r ih =>
      intro hl hx
      unfold Tr.OnAll at hx ⊢
      exact ⟨hk t (hl t (List.mem_cons_self ..)) hx.1, ih (fun u hu => hl u (List.mem_cons_of_mem _ hu)) hx.2⟩
  exact this kids (fun t h => h) ho.2


theorem on_from {w : World} {base : Nat} : ∀ t : Tr, t.In w base → t.On (fun k => base ≤ k) := by
  refine Tr.ind fun k n f s a c kids hk h => ?_
  unfold Tr.In at h
  unfold Tr.On
  refine ⟨fun h0 ad had => (h.2 ad had).1, ?_⟩
  cases a with
  | none =>
    have h0 := h.1.2.2.2.2.2.2 rfl
    have h1 := h.1.2.2.2.2.1
    have hz : kids = [] := List.length_eq_zero_iff.1 (by omega)
    subst hz
    unfold Tr.OnAll
    trivial
  | some ad =>
    have hin := (h.2 ad rfl).2
    have : ∀ l : List Tr, (∀ t, t ∈ l → t ∈ kids) → Tr.OnAll (fun k => base ≤ k) l := by
      intro l
      induction l with
      | nil => intro _; unfold Tr.OnAll; trivial
      | cons t r ih =>
        intro hl
        unfold Tr.OnAll
        refine ⟨?_, ih fun u hu => hl u (List.mem_cons_of_mem _ hu)⟩
        obtain ⟨j, hj⟩ := List.getElem?_of_mem (hl t (List.mem_cons_self ..))
        exact hk t (hl t (List.mem_cons_self ..)) (inAll_get hin j t hj).2
    exact this kids (fun t h => h)

theorem on_and {S S' : Nat → Prop} : ∀ t : Tr, t.On S → t.On S' → t.On (fun k => S k ∧ S' k) := by
  refine Tr.ind fun k n f s a c kids hk h h' => ?_
  unfold Tr.On at h h' ⊢
  refine ⟨fun h0 ad had => ⟨h.1 h0 ad had, h'.1 h0 ad had⟩, ?_⟩
  have : ∀ l : List Tr, (∀ t, t ∈ l → t ∈ kids) → Tr.OnAll S l → Tr.OnAll S' l → Tr.OnAll (fun k => S k ∧ S' k) l := by
    intro l
    induction l with
    | nil => intro _ _ _; unfold Tr.OnAll; trivial
    | cons t r ih =>
      intro hl hx hy
      unfold Tr.OnAll at hx hy ⊢
      exact ⟨hk t (hl t (List.mem_cons_self ..)) hx.1 hy.1, ih (fun u hu => hl u (List.mem_cons_of_mem _ hu)) hx.2 hy.2⟩
  exact this kids (fun t h => h) h.2 h'.2
end Go.Proofs.YtgljglindgbjaaaGreatDoor


/- answer: what a builtin tells, as the caller's own, or what it raised. -/
namespace Go.Proofs.YtgljglindgbjaaaGreatDoor
open Go.RowKit Go.Lib Go.Deep
attribute [local go_sem] store_float f64bits store_func store_nilFunc
attribute [local go_sem ↓] Go.wp_at_zero Go.wp_at_succ

/-- What a builtin has told: a term of which P holds, that lies below B or in new memory, or what it raised, of which E holds. -/
def Tld (P : Tr → Prop) (E : Int → Prop) (B : Nat) (w : World) (e : Ending) (w' : World) : Prop :=
  Below w.heap.size w w' ∧ ((∃ t : Tr, e = .returned t.val ∧ P t ∧ t.In w' 0 ∧ t.On (fun k => k < B ∨ w.heap.size ≤ k) ∧ Small t ∧ cnT t ≤ 1000000000) ∨ (∃ er, e = raisedBy er ∧ E er))
abbrev zterm : Value := .agg #[.int .i64 0, .int .i64 0, .float .f64 0, .string ⟨#[]⟩, .slice none 0 0]
/-- What answer tells then. -/
def Ans (P : Tr → Prop) (E : Int → Prop) (w : World) (e : Ending) (w' : World) : Prop :=
  Below w.heap.size w w' ∧ ((∃ t t' : Tr, P t ∧ errT t = 0 ∧ Sm t t' ∧ t'.In w' w.heap.size ∧ e = .returned (.tuple #[t'.val, .int .i64 0])) ∨ (∃ er, (E er ∨ ∃ t, P t ∧ errT t ≠ 0 ∧ er = mb (errT t)) ∧ e = .returned (.tuple #[zterm, .int .i64 er])))

abbrev CT : Nat := 42
theorem in_on5 {w : World} {t : Tr} {B b c : Nat} (h : t.In w 0) (ho : t.On (fun k => k < B ∨ c ≤ k)) (h1 : B ≤ b) (h2 : b < c) (u0 u1 u2 u3 u4 : Value) : t.In (set5 w b u0 u1 u2 u3 u4) 0 :=
  in_on (S := fun k => k < B ∨ c ≤ k) (fun k hk => by
    have hb : But (fun q => q = b) w (set5 w b u0 u1 u2 u3 u4) := (((((But.refl (fun q => q = b) w).setCell (p := ⟨b, 0, none⟩) (fun _ => rfl) u0).setCell (p := ⟨b, 1, none⟩) (fun _ => rfl) u1).setCell (p := ⟨b, 2, none⟩) (fun _ => rfl) u2).setCell (p := ⟨b, 3, none⟩) (fun _ => rfl) u3).setCell (p := ⟨b, 4, none⟩) (fun _ => rfl) u4
    by_cases hl : k < w.heap.size
    · exact hb.block k hl (by omega)
    · have hz : (set5 w b u0 u1 u2 u3 u4).heap.size = w.heap.size := by simp [set5]
      rw [Array.getElem?_eq_none (by omega), Array.getElem?_eq_none (by omega)]) t h ho

set_option maxHeartbeats 16000000 in
set_option maxRecDepth 100000 in
theorem answer_any {f : Nat} (ent : ∀ args w, (callFunc f args).run Tryz.prog w = .ok (.enter f args) w) {P : Tr → Prop} {E : Int → Prop} {nm : ByteArray} {a : Option Addr} {n c : Nat} {ar : Value} {w : World}
    (har : ar = .nilFunc ∨ ∃ g, ar = .func (.func g) #[] #[])
    (hT : ∀ W, Below w.heap.size w W → Calls Tryz.prog f #[.agg #[.string nm, .slice a n c, ar]] W (Tld P E w.heap.size W)) :
    Calls Tryz.prog 29 #[.agg #[.string nm, .slice a n c, ar], .func (.func f) #[] #[]] w (Ans P E w) := by
  have hmf : ∀ (fn : Fn) (first cap : Array Value) (w : World), (Instr.makeFunc fn first cap).run Tryz.prog w = .ok (.func fn first cap) w := fun _ _ _ _ => rfl
  obtain ⟨W3, hW3⟩ : ∃ W3, ((w.alloc (.cells #[.string nm, .slice a n c, ar] CT)).alloc (.cells #[.int .i64 0, .int .i64 0, .float .f64 0, .string ⟨#[]⟩, .slice none 0 0] 27)).alloc (.cells #[.int .i64 0] 28) = W3 := ⟨_, rfl⟩
  have HB3 : Hid (Below w.heap.size w W3) := hidb (by rw [← hW3]; exact (((Below.refl _ _).alloc (Nat.le_refl _) _).alloc (by simp) _).alloc (by simp; omega) _)
  have HX3 : Hid (Box W3 (w.heap.size + 1) (.int .i64 0) (.int .i64 0) (.float .f64 0) (.string ⟨#[]⟩) (.slice none 0 0)) := hidb (by
    rw [← hW3]
    have := (Box.new (w.alloc (.cells #[.string nm, .slice a n c, ar] CT)) 27 (.int .i64 0) (.int .i64 0) (.float .f64 0) (.string ⟨#[]⟩) (.slice none 0 0)).keep (below_new _ (.cells #[.int .i64 0] 28))
    simpa using this)
  have HE3 : Hid (W3.cell? ⟨w.heap.size + 1 + 1, 0, none⟩ = some (.int .i64 0) ∧ W3.frozen? ⟨w.heap.size + 1 + 1, 0, none⟩ = false ∧ W3.heap.size = w.heap.size + 1 + 1 + 1) := hidb (by
    rw [← hW3]
    have h1 := World.cell?_alloc_new ((w.alloc (.cells #[.string nm, .slice a n c, ar] CT)).alloc (.cells #[.int .i64 0, .int .i64 0, .float .f64 0, .string ⟨#[]⟩, .slice none 0 0] 27)) #[.int .i64 0] 28 0
    have h2 := World.frozen?_alloc_new ((w.alloc (.cells #[.string nm, .slice a n c, ar] CT)).alloc (.cells #[.int .i64 0, .int .i64 0, .float .f64 0, .string ⟨#[]⟩, .slice none 0 0] 27)) #[.int .i64 0] 28 0
    refine ⟨by simpa using h1, by simpa using h2, by simp⟩)
  have HW3 := hidb hW3
  have TT3 := hidb (hT W3 HB3.out)
  have ent3 := ent #[.agg #[.string nm, .slice a n c, ar]]
  obtain ⟨PP, hPP⟩ : ∃ PP : Ending → World → Prop, Ans P E w = PP := ⟨_, rfl⟩
  have HPP := hidb hPP
  rw [hPP]
  clear hW3 hT hPP ent
  rcases har with rfl | ⟨g, rfl⟩
  · go_enter_defers Tryz.func29, Tryz.ntmps29
    go_wp2_with fail
    rw [HW3.out]
    refine TT3.out.mono ?_
    rintro e w4 ⟨hb4, (⟨⟨k', n', f', s', a', c', ks'⟩, rfl, hP, hin, hon, hsm, hcn⟩ | ⟨er, rfl, hE⟩)⟩
    · have HB4 := hidb hb4
      have HX4 := hidb (HX3.out.keep hb4)
      have e4 := (hb4.cell (p := ⟨w.heap.size + 1 + 1, 0, none⟩) (World.block_lt_of_cell? _ _ HE3.out.1)).trans HE3.out.1
      have e4f := (hb4.frozen (p := ⟨w.heap.size + 1 + 1, 0, none⟩) (World.block_lt_of_cell? _ _ HE3.out.1)).trans HE3.out.2.1
      have c0 := HX4.out.c0; have c1 := HX4.out.c1; have c2 := HX4.out.c2; have c3 := HX4.out.c3; have c4 := HX4.out.c4
      have f0 := HX4.out.f0; have f1 := HX4.out.f1; have f2 := HX4.out.f2; have f3 := HX4.out.f3; have f4 := HX4.out.f4
      have hin5 := in_on5 hin hon (b := w.heap.size + 1) (by omega) (by have := HE3.out.2.2; omega) (.int .i64 k') (.int .i64 n') (.float .f64 f') (.string s') (.slice a' ks'.length c')
      have HIN5 := hidb hin5
      have HSM := hidb (And.intro hsm hcn)
      have HPt := hidb hP
      have CK := hidb (check_t _ _ hin5 hsm)
      simp only [Tr.val, Tr.cells] at CK ⊢
      clear hin hon hin5 hsm hcn hP hb4 TT3 ent3
      go_wp2_with fail
      refine CK.out.mono ?_
      rintro e w6 ⟨rfl, hb6⟩
      have HX6 := hidb ((HX4.out.set (.int .i64 k') (.int .i64 n') (.float .f64 f') (.string s') (.slice a' ks'.length c')).keep hb6)
      have hE5 : (set5 w4 (w.heap.size + 1) (.int .i64 k') (.int .i64 n') (.float .f64 f') (.string s') (.slice a' ks'.length c')).cell? ⟨w.heap.size + 1 + 1, 0, none⟩ = some (.int .i64 0) := by
        unfold set5
        simp only [World.cell?_setCell_other _ _ _ _ (ne_blk3 _ _ _ _ (show w.heap.size + 1 ≠ w.heap.size + 1 + 1 by omega))]
        exact e4
      have hF5 : (set5 w4 (w.heap.size + 1) (.int .i64 k') (.int .i64 n') (.float .f64 f') (.string s') (.slice a' ks'.length c')).frozen? ⟨w.heap.size + 1 + 1, 0, none⟩ = false := by
        unfold set5
        simp only [World.frozen?_setCell]
        exact e4f
      have hB5 : Below w.heap.size w4 (set5 w4 (w.heap.size + 1) (.int .i64 k') (.int .i64 n') (.float .f64 f') (.string s') (.slice a' ks'.length c')) := ((((((Below.refl _ w4).mono (by have := HB3.out.size; have := HB4.out.size; omega)).setCell (by simp) _).setCell (by simp) _).setCell (by simp) _).setCell (by simp) _).setCell (by simp) _
      have e6 := (hb6.cell (p := ⟨w.heap.size + 1 + 1, 0, none⟩) (World.block_lt_of_cell? _ _ hE5)).trans hE5
      have e6f := (hb6.frozen (p := ⟨w.heap.size + 1 + 1, 0, none⟩) (World.block_lt_of_cell? _ _ hE5)).trans hF5
      have HB6 : Hid (Below w.heap.size w w6) := hidb (((HB3.out.trans (HB4.out.mono HB3.out.size)).trans hB5).trans (hb6.mono (by have := hB5.size; have := HB3.out.size; have := HB4.out.size; omega)))
      have HIN6 := hidb (in_below hb6 HIN5.out)
      have HZ6 : Hid (w.heap.size + 1 + 1 < w6.heap.size) := hidb (World.block_lt_of_cell? _ _ e6)
      clear e4 e4f c0 c1 c2 c3 c4 f0 f1 f2 f3 f4 CK HIN5 hb6 hE5 hF5 hB5 HX4
      have c0 := HX6.out.c0; have c1 := HX6.out.c1; have c2 := HX6.out.c2; have c3 := HX6.out.c3; have c4 := HX6.out.c4
      have f0 := HX6.out.f0; have f1 := HX6.out.f1; have f2 := HX6.out.f2; have f3 := HX6.out.f3; have f4 := HX6.out.f4
      by_cases he : errT (Tr.mk k' n' f' s' a' c' ks') = 0
      · have HE5 := hidb he
        rw [he]
        have CP := hidb (copy_any _ _ HIN6.out HSM.out.1 HSM.out.2)
        simp only [Tr.val, Tr.cells] at CP
        clear he
        go_wp2_with (go_at_call 94; refine (mustBe_ok _).mono ?_; rintro r w1 ⟨rfl, rfl⟩)
        refine CP.out.mono ?_
        rintro e w7 ⟨⟨k2, n2, f2', s2, a2, c2', ks2⟩, rfl, hsm2, hin2, hb7⟩
        have HX7 := hidb (HX6.out.keep hb7)
        have g0 := HX7.out.c0; have g1 := HX7.out.c1; have g2 := HX7.out.c2; have g3 := HX7.out.c3; have g4 := HX7.out.c4
        have m0 := HX7.out.f0; have m1 := HX7.out.f1; have m2 := HX7.out.f2; have m3 := HX7.out.f3; have m4 := HX7.out.f4
        have e7 := (hb7.cell (p := ⟨w.heap.size + 1 + 1, 0, none⟩) (World.block_lt_of_cell? _ _ e6)).trans e6
        have e7f := (hb7.frozen (p := ⟨w.heap.size + 1 + 1, 0, none⟩) (World.block_lt_of_cell? _ _ e6)).trans e6f
        have HB7 : Hid (Below w.heap.size w w7) := hidb (HB6.out.trans (hb7.mono HB6.out.size))
        have HIN2 := hidb hin2
        have HSM2 := hidb hsm2
        clear hin2 hsm2 hb7 c0 c1 c2 c3 c4 f0 f1 f2 f3 f4 e6 e6f CP
        go_wp2_with fail
        refine leaves_cons (f := 93) (args := #[.pointer (some ⟨w.heap.size + 1, 0, none⟩), .pointer (some ⟨w.heap.size + 1 + 1, 0, none⟩)]) (by simp) (by simp [go_sem]) ?_
        refine (bcatch_idle (w.heap.size + 1) (w.heap.size + 1 + 1) _).mono ?_
        rintro e u' w9 ⟨rfl, rfl, rfl⟩
        have bx9 := (HX7.out.set (.int .i64 k2) (.int .i64 n2) (.float .f64 f2') (.string s2) (.slice a2 ks2.length c2')).other1 (c := w.heap.size + 1 + 1) (i := 0) (by omega) (.int .i64 0)
        have hE9 : (set5 w7 (w.heap.size + 1) (.int .i64 k2) (.int .i64 n2) (.float .f64 f2') (.string s2) (.slice a2 ks2.length c2')).cell? ⟨w.heap.size + 1 + 1, 0, none⟩ = some (.int .i64 0) := by
          unfold set5
          simp only [World.cell?_setCell_other _ _ _ _ (ne_blk3 _ _ _ _ (show w.heap.size + 1 ≠ w.heap.size + 1 + 1 by omega))]
          exact e7
        have hc9 := World.cell?_setCell_same _ _ (.int .i64 0) hE9
        have k0 := bx9.c0; have k1 := bx9.c1; have k2' := bx9.c2; have k3 := bx9.c3; have k4 := bx9.c4
        have hfin : PP (.returned (.tuple #[Tr.val (.mk k2 n2 f2' s2 a2 c2' ks2), .int .i64 0])) ((set5 w7 (w.heap.size + 1) (.int .i64 k2) (.int .i64 n2) (.float .f64 f2') (.string s2) (.slice a2 ks2.length c2')).setCell ⟨w.heap.size + 1 + 1, 0, none⟩ (.int .i64 0)) := by
          rw [← HPP.out]
          refine ⟨((((((HB7.out.setCell (by simp) _).setCell (by simp) _).setCell (by simp) _).setCell (by simp) _).setCell (by simp) _).setCell (by simp; omega) _), .inl ⟨_, _, HPt.out, HE5.out, HSM2.out, ?_, rfl⟩⟩
          have hz := HZ6.out
          have hy := HB6.out.size
          exact in_base (by omega) _ (in_set (in_set (in_set (in_set (in_set (in_set HIN2.out (p := ⟨w.heap.size + 1, 0, none⟩) (by simp only []; omega) _) (p := ⟨w.heap.size + 1, 1, none⟩) (by simp only []; omega) _) (p := ⟨w.heap.size + 1, 2, none⟩) (by simp only []; omega) _) (p := ⟨w.heap.size + 1, 3, none⟩) (by simp only []; omega) _) (p := ⟨w.heap.size + 1, 4, none⟩) (by simp only []; omega) _) (p := ⟨w.heap.size + 1 + 1, 0, none⟩) (by simp only []; omega) _)
        have HF := hidb hfin
        simp only [set5] at k0 k1 k2' k3 k4 hc9 HF
        clear hfin bx9 hE9 g0 g1 g2 g3 g4 m0 m1 m2 m3 m4 e7 e7f
        simp [Leaves, settle, results, Tryz.results29, go_sem, k0, k1, k2', k3, k4, hc9]
        exact HF.out
      · have MN := hidb (fun W => mustBe_no _ he W)
        have HE5 := hidb he
        generalize hG : errT (Tr.mk k' n' f' s' a' c' ks') = G at *
        have HG := hidb hG
        clear hG he
        go_wp2_with (go_at_call 94; refine (MN.out _).mono ?_; rintro r w1 ⟨rfl, hb1⟩)
        have HB1 := hidb hb1
        have HX1 := HX6.out.keep hb1
        have e1 := (hb1.cell (p := ⟨w.heap.size + 1 + 1, 0, none⟩) (World.block_lt_of_cell? _ _ e6)).trans e6
        have e1f := (hb1.frozen (p := ⟨w.heap.size + 1 + 1, 0, none⟩) (World.block_lt_of_cell? _ _ e6)).trans e6f
        refine leaves_cons (f := 93) (args := #[.pointer (some ⟨w.heap.size + 1, 0, none⟩), .pointer (some ⟨w.heap.size + 1 + 1, 0, none⟩)]) (by simp) (by simp [go_sem]) ?_
        refine (bcatch_raised (w.heap.size + 1) (w.heap.size + 1 + 1) (by omega) _ [] _ _ _ _ _ _ w1 HX1 e1 e1f).mono ?_
        rintro e u' w9 ⟨rfl, rfl, bx9, hc9, hbt9⟩
        have k0 := bx9.c0; have k1 := bx9.c1; have k2 := bx9.c2; have k3 := bx9.c3; have k4 := bx9.c4
        have hfin : PP (.returned (.tuple #[zterm, .int .i64 (mb G)])) w9 := by
          rw [← HPP.out]
          refine ⟨(HB6.out.trans (HB1.out.mono HB6.out.size)).trans (hbt9.below (by have := ((HB6.out.trans (HB1.out.mono HB6.out.size))).size; omega) (fun k hk => by omega)), .inr ⟨_, .inr ⟨_, HPt.out, by rw [HG.out]; exact HE5.out, by rw [HG.out]⟩, rfl⟩⟩
        have HF := hidb hfin
        clear hfin bx9 hbt9
        simp [Leaves, settle, results, Tryz.results29, go_sem, k0, k1, k2, k3, k4, hc9]
        exact HF.out
    · have HB4 := hidb hb4
      have e4 := (hb4.cell (p := ⟨w.heap.size + 1 + 1, 0, none⟩) (World.block_lt_of_cell? _ _ HE3.out.1)).trans HE3.out.1
      have e4f := (hb4.frozen (p := ⟨w.heap.size + 1 + 1, 0, none⟩) (World.block_lt_of_cell? _ _ HE3.out.1)).trans HE3.out.2.1
      refine leaves_cons (f := 93) (args := #[.pointer (some ⟨w.heap.size + 1, 0, none⟩), .pointer (some ⟨w.heap.size + 1 + 1, 0, none⟩)]) (by simp) (by simp [go_sem]) ?_
      refine (bcatch_raised (w.heap.size + 1) (w.heap.size + 1 + 1) (by omega) _ [] _ _ _ _ _ _ w4 (HX3.out.keep hb4) e4 e4f).mono ?_
      rintro e u' w9 ⟨rfl, rfl, bx9, hc9, hbt9⟩
      have k0 := bx9.c0; have k1 := bx9.c1; have k2 := bx9.c2; have k3 := bx9.c3; have k4 := bx9.c4
      have hfin : PP (.returned (.tuple #[zterm, .int .i64 er])) w9 := by
        rw [← HPP.out]
        refine ⟨(HB3.out.trans (HB4.out.mono HB3.out.size)).trans (hbt9.below (by have := ((HB3.out.trans (HB4.out.mono HB3.out.size))).size; omega) (fun k hk => by omega)), .inr ⟨_, .inl hE, rfl⟩⟩
      have HF := hidb hfin
      clear hfin bx9 hbt9
      simp [Leaves, settle, results, Tryz.results29, go_sem, k0, k1, k2, k3, k4, hc9]
      exact HF.out
  · go_enter_defers Tryz.func29, Tryz.ntmps29
    go_wp2_with fail
    rw [HW3.out]
    refine TT3.out.mono ?_
    rintro e w4 ⟨hb4, (⟨⟨k', n', f', s', a', c', ks'⟩, rfl, hP, hin, hon, hsm, hcn⟩ | ⟨er, rfl, hE⟩)⟩
    · have HB4 := hidb hb4
      have HX4 := hidb (HX3.out.keep hb4)
      have e4 := (hb4.cell (p := ⟨w.heap.size + 1 + 1, 0, none⟩) (World.block_lt_of_cell? _ _ HE3.out.1)).trans HE3.out.1
      have e4f := (hb4.frozen (p := ⟨w.heap.size + 1 + 1, 0, none⟩) (World.block_lt_of_cell? _ _ HE3.out.1)).trans HE3.out.2.1
      have c0 := HX4.out.c0; have c1 := HX4.out.c1; have c2 := HX4.out.c2; have c3 := HX4.out.c3; have c4 := HX4.out.c4
      have f0 := HX4.out.f0; have f1 := HX4.out.f1; have f2 := HX4.out.f2; have f3 := HX4.out.f3; have f4 := HX4.out.f4
      have hin5 := in_on5 hin hon (b := w.heap.size + 1) (by omega) (by have := HE3.out.2.2; omega) (.int .i64 k') (.int .i64 n') (.float .f64 f') (.string s') (.slice a' ks'.length c')
      have HIN5 := hidb hin5
      have HSM := hidb (And.intro hsm hcn)
      have HPt := hidb hP
      have CK := hidb (check_t _ _ hin5 hsm)
      simp only [Tr.val, Tr.cells] at CK ⊢
      clear hin hon hin5 hsm hcn hP hb4 TT3 ent3
      go_wp2_with fail
      refine CK.out.mono ?_
      rintro e w6 ⟨rfl, hb6⟩
      have HX6 := hidb ((HX4.out.set (.int .i64 k') (.int .i64 n') (.float .f64 f') (.string s') (.slice a' ks'.length c')).keep hb6)
      have hE5 : (set5 w4 (w.heap.size + 1) (.int .i64 k') (.int .i64 n') (.float .f64 f') (.string s') (.slice a' ks'.length c')).cell? ⟨w.heap.size + 1 + 1, 0, none⟩ = some (.int .i64 0) := by
        unfold set5
        simp only [World.cell?_setCell_other _ _ _ _ (ne_blk3 _ _ _ _ (show w.heap.size + 1 ≠ w.heap.size + 1 + 1 by omega))]
        exact e4
      have hF5 : (set5 w4 (w.heap.size + 1) (.int .i64 k') (.int .i64 n') (.float .f64 f') (.string s') (.slice a' ks'.length c')).frozen? ⟨w.heap.size + 1 + 1, 0, none⟩ = false := by
        unfold set5
        simp only [World.frozen?_setCell]
        exact e4f
      have hB5 : Below w.heap.size w4 (set5 w4 (w.heap.size + 1) (.int .i64 k') (.int .i64 n') (.float .f64 f') (.string s') (.slice a' ks'.length c')) := ((((((Below.refl _ w4).mono (by have := HB3.out.size; have := HB4.out.size; omega)).setCell (by simp) _).setCell (by simp) _).setCell (by simp) _).setCell (by simp) _).setCell (by simp) _
      have e6 := (hb6.cell (p := ⟨w.heap.size + 1 + 1, 0, none⟩) (World.block_lt_of_cell? _ _ hE5)).trans hE5
      have e6f := (hb6.frozen (p := ⟨w.heap.size + 1 + 1, 0, none⟩) (World.block_lt_of_cell? _ _ hE5)).trans hF5
      have HB6 : Hid (Below w.heap.size w w6) := hidb (((HB3.out.trans (HB4.out.mono HB3.out.size)).trans hB5).trans (hb6.mono (by have := hB5.size; have := HB3.out.size; have := HB4.out.size; omega)))
      have HIN6 := hidb (in_below hb6 HIN5.out)
      have HZ6 : Hid (w.heap.size + 1 + 1 < w6.heap.size) := hidb (World.block_lt_of_cell? _ _ e6)
      clear e4 e4f c0 c1 c2 c3 c4 f0 f1 f2 f3 f4 CK HIN5 hb6 hE5 hF5 hB5 HX4
      have c0 := HX6.out.c0; have c1 := HX6.out.c1; have c2 := HX6.out.c2; have c3 := HX6.out.c3; have c4 := HX6.out.c4
      have f0 := HX6.out.f0; have f1 := HX6.out.f1; have f2 := HX6.out.f2; have f3 := HX6.out.f3; have f4 := HX6.out.f4
      by_cases he : errT (Tr.mk k' n' f' s' a' c' ks') = 0
      · have HE5 := hidb he
        rw [he]
        have CP := hidb (copy_any _ _ HIN6.out HSM.out.1 HSM.out.2)
        simp only [Tr.val, Tr.cells] at CP
        clear he
        go_wp2_with (go_at_call 94; refine (mustBe_ok _).mono ?_; rintro r w1 ⟨rfl, rfl⟩)
        refine CP.out.mono ?_
        rintro e w7 ⟨⟨k2, n2, f2', s2, a2, c2', ks2⟩, rfl, hsm2, hin2, hb7⟩
        have HX7 := hidb (HX6.out.keep hb7)
        have g0 := HX7.out.c0; have g1 := HX7.out.c1; have g2 := HX7.out.c2; have g3 := HX7.out.c3; have g4 := HX7.out.c4
        have m0 := HX7.out.f0; have m1 := HX7.out.f1; have m2 := HX7.out.f2; have m3 := HX7.out.f3; have m4 := HX7.out.f4
        have e7 := (hb7.cell (p := ⟨w.heap.size + 1 + 1, 0, none⟩) (World.block_lt_of_cell? _ _ e6)).trans e6
        have e7f := (hb7.frozen (p := ⟨w.heap.size + 1 + 1, 0, none⟩) (World.block_lt_of_cell? _ _ e6)).trans e6f
        have HB7 : Hid (Below w.heap.size w w7) := hidb (HB6.out.trans (hb7.mono HB6.out.size))
        have HIN2 := hidb hin2
        have HSM2 := hidb hsm2
        clear hin2 hsm2 hb7 c0 c1 c2 c3 c4 f0 f1 f2 f3 f4 e6 e6f CP
        go_wp2_with fail
        refine leaves_cons (f := 93) (args := #[.pointer (some ⟨w.heap.size + 1, 0, none⟩), .pointer (some ⟨w.heap.size + 1 + 1, 0, none⟩)]) (by simp) (by simp [go_sem]) ?_
        refine (bcatch_idle (w.heap.size + 1) (w.heap.size + 1 + 1) _).mono ?_
        rintro e u' w9 ⟨rfl, rfl, rfl⟩
        have bx9 := (HX7.out.set (.int .i64 k2) (.int .i64 n2) (.float .f64 f2') (.string s2) (.slice a2 ks2.length c2')).other1 (c := w.heap.size + 1 + 1) (i := 0) (by omega) (.int .i64 0)
        have hE9 : (set5 w7 (w.heap.size + 1) (.int .i64 k2) (.int .i64 n2) (.float .f64 f2') (.string s2) (.slice a2 ks2.length c2')).cell? ⟨w.heap.size + 1 + 1, 0, none⟩ = some (.int .i64 0) := by
          unfold set5
          simp only [World.cell?_setCell_other _ _ _ _ (ne_blk3 _ _ _ _ (show w.heap.size + 1 ≠ w.heap.size + 1 + 1 by omega))]
          exact e7
        have hc9 := World.cell?_setCell_same _ _ (.int .i64 0) hE9
        have k0 := bx9.c0; have k1 := bx9.c1; have k2' := bx9.c2; have k3 := bx9.c3; have k4 := bx9.c4
        have hfin : PP (.returned (.tuple #[Tr.val (.mk k2 n2 f2' s2 a2 c2' ks2), .int .i64 0])) ((set5 w7 (w.heap.size + 1) (.int .i64 k2) (.int .i64 n2) (.float .f64 f2') (.string s2) (.slice a2 ks2.length c2')).setCell ⟨w.heap.size + 1 + 1, 0, none⟩ (.int .i64 0)) := by
          rw [← HPP.out]
          refine ⟨((((((HB7.out.setCell (by simp) _).setCell (by simp) _).setCell (by simp) _).setCell (by simp) _).setCell (by simp) _).setCell (by simp; omega) _), .inl ⟨_, _, HPt.out, HE5.out, HSM2.out, ?_, rfl⟩⟩
          have hz := HZ6.out
          have hy := HB6.out.size
          exact in_base (by omega) _ (in_set (in_set (in_set (in_set (in_set (in_set HIN2.out (p := ⟨w.heap.size + 1, 0, none⟩) (by simp only []; omega) _) (p := ⟨w.heap.size + 1, 1, none⟩) (by simp only []; omega) _) (p := ⟨w.heap.size + 1, 2, none⟩) (by simp only []; omega) _) (p := ⟨w.heap.size + 1, 3, none⟩) (by simp only []; omega) _) (p := ⟨w.heap.size + 1, 4, none⟩) (by simp only []; omega) _) (p := ⟨w.heap.size + 1 + 1, 0, none⟩) (by simp only []; omega) _)
        have HF := hidb hfin
        simp only [set5] at k0 k1 k2' k3 k4 hc9 HF
        clear hfin bx9 hE9 g0 g1 g2 g3 g4 m0 m1 m2 m3 m4 e7 e7f
        simp [Leaves, settle, results, Tryz.results29, go_sem, k0, k1, k2', k3, k4, hc9]
        exact HF.out
      · have MN := hidb (fun W => mustBe_no _ he W)
        have HE5 := hidb he
        generalize hG : errT (Tr.mk k' n' f' s' a' c' ks') = G at *
        have HG := hidb hG
        clear hG he
        go_wp2_with (go_at_call 94; refine (MN.out _).mono ?_; rintro r w1 ⟨rfl, hb1⟩)
        have HB1 := hidb hb1
        have HX1 := HX6.out.keep hb1
        have e1 := (hb1.cell (p := ⟨w.heap.size + 1 + 1, 0, none⟩) (World.block_lt_of_cell? _ _ e6)).trans e6
        have e1f := (hb1.frozen (p := ⟨w.heap.size + 1 + 1, 0, none⟩) (World.block_lt_of_cell? _ _ e6)).trans e6f
        refine leaves_cons (f := 93) (args := #[.pointer (some ⟨w.heap.size + 1, 0, none⟩), .pointer (some ⟨w.heap.size + 1 + 1, 0, none⟩)]) (by simp) (by simp [go_sem]) ?_
        refine (bcatch_raised (w.heap.size + 1) (w.heap.size + 1 + 1) (by omega) _ [] _ _ _ _ _ _ w1 HX1 e1 e1f).mono ?_
        rintro e u' w9 ⟨rfl, rfl, bx9, hc9, hbt9⟩
        have k0 := bx9.c0; have k1 := bx9.c1; have k2 := bx9.c2; have k3 := bx9.c3; have k4 := bx9.c4
        have hfin : PP (.returned (.tuple #[zterm, .int .i64 (mb G)])) w9 := by
          rw [← HPP.out]
          refine ⟨(HB6.out.trans (HB1.out.mono HB6.out.size)).trans (hbt9.below (by have := ((HB6.out.trans (HB1.out.mono HB6.out.size))).size; omega) (fun k hk => by omega)), .inr ⟨_, .inr ⟨_, HPt.out, by rw [HG.out]; exact HE5.out, by rw [HG.out]⟩, rfl⟩⟩
        have HF := hidb hfin
        clear hfin bx9 hbt9
        simp [Leaves, settle, results, Tryz.results29, go_sem, k0, k1, k2, k3, k4, hc9]
        exact HF.out
    · have HB4 := hidb hb4
      have e4 := (hb4.cell (p := ⟨w.heap.size + 1 + 1, 0, none⟩) (World.block_lt_of_cell? _ _ HE3.out.1)).trans HE3.out.1
      have e4f := (hb4.frozen (p := ⟨w.heap.size + 1 + 1, 0, none⟩) (World.block_lt_of_cell? _ _ HE3.out.1)).trans HE3.out.2.1
      refine leaves_cons (f := 93) (args := #[.pointer (some ⟨w.heap.size + 1, 0, none⟩), .pointer (some ⟨w.heap.size + 1 + 1, 0, none⟩)]) (by simp) (by simp [go_sem]) ?_
      refine (bcatch_raised (w.heap.size + 1) (w.heap.size + 1 + 1) (by omega) _ [] _ _ _ _ _ _ w4 (HX3.out.keep hb4) e4 e4f).mono ?_
      rintro e u' w9 ⟨rfl, rfl, bx9, hc9, hbt9⟩
      have k0 := bx9.c0; have k1 := bx9.c1; have k2 := bx9.c2; have k3 := bx9.c3; have k4 := bx9.c4
      have hfin : PP (.returned (.tuple #[zterm, .int .i64 er])) w9 := by
        rw [← HPP.out]
        refine ⟨(HB3.out.trans (HB4.out.mono HB3.out.size)).trans (hbt9.below (by have := ((HB3.out.trans (HB4.out.mono HB3.out.size))).size; omega) (fun k hk => by omega)), .inr ⟨_, .inl hE, rfl⟩⟩
      have HF := hidb hfin
      clear hfin bx9 hbt9
      simp [Leaves, settle, results, Tryz.results29, go_sem, k0, k1, k2, k3, k4, hc9]
      exact HF.out
end Go.Proofs.YtgljglindgbjaaaGreatDoor


