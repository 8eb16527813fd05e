import Derived.Test.YtajadhkpadkikaaGreatDoorG23
import Derived.Test.YtajadhkpadkikaaGreatDoorG04
import Derived.Defers
import Derived.Recover
import Derived.Deep.RegionLaw
import Derived.Test.YtajadhkpadkikaaGreatDoorG15
/- What a builtin raises, and what is recovered. -/
namespace Go.Proofs.YtajadhkpadkikaaGreatDoor
open Go.RowKit Go.Lib
attribute [local go_sem] store_float f64bits
attribute [local go_sem ↓] Go.wp_at_zero Go.wp_at_succ

abbrev RT : Nat := 93
abbrev raisedBy (e : Int) : Ending := .panicked [{ v := .iface RT (.int .i64 e), recovered := false }]

set_option maxHeartbeats 2000000 in
set_option maxRecDepth 100000 in
theorem must_ok (e : Int) (w : World) : Calls Tryz.prog 98 #[.bool true, .int .i64 e] w fun r w' => r = .returned (.tuple #[]) ∧ w' = w := by
  go_enter Tryz.func98, Tryz.ntmps98
  go_wp2_with fail
  go_end0
  exact ⟨rfl, rfl⟩
set_option maxHeartbeats 2000000 in
set_option maxRecDepth 100000 in
theorem must_no (e : Int) (w : World) : Calls Tryz.prog 98 #[.bool false, .int .i64 e] w fun r w' => r = raisedBy e ∧ Below w.heap.size w w' := by
  go_enter Tryz.func98, Tryz.ntmps98
  go_wp2_with fail
  exact ⟨rfl, rfl, Below.refl _ _⟩

def mb (e : Int) : Int := if e = 4 then 13 else e

set_option maxHeartbeats 2000000 in
set_option maxRecDepth 100000 in
theorem mustBe_ok (w : World) : Calls Tryz.prog 87 #[.int .i64 0] w fun r w' => r = .returned (.tuple #[]) ∧ w' = w := by
  go_enter Tryz.func87, Tryz.ntmps87
  go_wp2_with (go_at_call 98; refine (must_ok _ _).mono ?_; rintro r w1 ⟨rfl, rfl⟩)
  go_end0
  exact ⟨rfl, rfl⟩
set_option maxHeartbeats 2000000 in
set_option maxRecDepth 100000 in
theorem mustBe_no (e : Int) (he : e ≠ 0) (w : World) : Calls Tryz.prog 87 #[.int .i64 e] w fun r w' => r = raisedBy (mb e) ∧ Below w.heap.size w w' := by
  by_cases h4 : e = 4
  · subst h4
    go_enter Tryz.func87, Tryz.ntmps87
    go_wp2_with (go_at_call 98; refine (must_no _ _).mono ?_; rintro r w1 ⟨rfl, hb⟩)
    exact ⟨rfl, rfl, hb⟩
  · have h1 : (e != 4) = true := by simpa using h4
    have h2 : (e == 0) = false := by simpa using he
    have hm : mb e = e := if_neg h4
    rw [hm]
    clear h4 he hm
    have M0 := trivial
    go_enter Tryz.func87, Tryz.ntmps87
    go_wp2_with (first
      | (clear M0; go_at_call 98; refine (must_ok _ _).mono ?_; rintro r w1 ⟨rfl, rfl⟩)
      | (go_at_call 98; refine (must_no _ _).mono ?_; rintro r w1 ⟨rfl, hb⟩))
    exact ⟨rfl, rfl, hb⟩

set_option maxHeartbeats 2000000 in
set_option maxRecDepth 100000 in
theorem bcatch_idle (p q : Nat) (w : World) :
    CallsD Tryz.prog 86 #[.pointer (some ⟨p, 0, none⟩), .pointer (some ⟨q, 0, none⟩)] .returning w fun e u' w' => e = .returned (.tuple #[]) ∧ u' = .returning ∧ w' = w := by
  refine callsD_of_wpS Tryz.func86 rfl fun c₀ cs hu => ?_
  apply wpS_seq
  apply wpS_region
  simp [wpOpsS, go_sem, recoverD, hu, Tryz.ntmps86, Exit.thenS]
  refine wpS_of_wp ?_
  go_wp2_with fail
  cases c₀
  simp_all [bodyPostS, results, Tryz.results86]

theorem ta_raised (v : Value) (w : World) : (Instr.typeAssert (.iface RT v) 20 RT true).run Tryz.prog w = .ok (.tuple #[v, .bool true]) w := by kernel_rfl
attribute [local go_sem] ta_raised

set_option maxHeartbeats 4000000 in
set_option maxRecDepth 100000 in
theorem bcatch_raised (p q : Nat) (hne : p ≠ q) (er : Int) (older : List PanicEntry) (v0 v1 v2 v3 v4 v5 : Value) (w : World) (hp : Box w p v0 v1 v2 v3 v4) (hq : w.cell? ⟨q, 0, none⟩ = some v5) (hqf : w.frozen? ⟨q, 0, none⟩ = false) :
    CallsD Tryz.prog 86 #[.pointer (some ⟨p, 0, none⟩), .pointer (some ⟨q, 0, none⟩)] (.panicking ({ v := .iface RT (.int .i64 er), recovered := false } :: older)) w fun e u' w' =>
      e = .returned (.tuple #[]) ∧ u' = .panicking ({ v := .iface RT (.int .i64 er), recovered := true } :: older) ∧ Box w' p (.int .i64 0) (.int .i64 0) (.float .f64 0) (.string ⟨#[]⟩) (.slice none 0 0) ∧ w'.cell? ⟨q, 0, none⟩ = some (.int .i64 er) ∧ But (fun k => k = p ∨ k = q) w w' := by
  refine callsD_of_wpS Tryz.func86 rfl fun c₀ cs hu => ?_
  apply wpS_seq
  apply wpS_region
  simp [wpOpsS, go_sem, recoverD, hu, Tryz.ntmps86, Exit.thenS]
  refine wpS_of_wp ?_
  have c0 := hp.c0; have c1 := hp.c1; have c2 := hp.c2; have c3 := hp.c3; have c4 := hp.c4
  have f0 := hp.f0; have f1 := hp.f1; have f2 := hp.f2; have f3 := hp.f3; have f4 := hp.f4
  have hpl : p < w.heap.size := World.block_lt_of_cell? _ _ c0
  have hql : q < w.heap.size := World.block_lt_of_cell? _ _ hq
  have HP := hidb hp
  clear hp
  go_wp2_with fail
  have bx := (HP.out.set (.int .i64 0) (.int .i64 0) (.float .f64 0) (.string ⟨#[]⟩) (.slice none 0 0)).other1 (c := q) (i := 0) (fun e => hne e.symm) (.int .i64 er)
  have bt : But (fun k => k = p ∨ k = q) w ((set5 w p (.int .i64 0) (.int .i64 0) (.float .f64 0) (.string ⟨#[]⟩) (.slice none 0 0)).setCell ⟨q, 0, none⟩ (.int .i64 er)) :=
    ((((((But.refl (fun k => k = p ∨ k = q) w).setCell (p := ⟨p, 0, none⟩) (fun _ => .inl rfl) _).setCell (p := ⟨p, 1, none⟩) (fun _ => .inl rfl) _).setCell (p := ⟨p, 2, none⟩) (fun _ => .inl rfl) _).setCell (p := ⟨p, 3, none⟩) (fun _ => .inl rfl) _).setCell (p := ⟨p, 4, none⟩) (fun _ => .inl rfl) _).setCell (p := ⟨q, 0, none⟩) (fun _ => .inr rfl) _
  have hc : ((set5 w p (.int .i64 0) (.int .i64 0) (.float .f64 0) (.string ⟨#[]⟩) (.slice none 0 0)).setCell ⟨q, 0, none⟩ (.int .i64 er)).cell? ⟨q, 0, none⟩ = some (.int .i64 er) := by
    refine World.cell?_setCell_same' _ _ _ ?_
    have h0 : (set5 w p (.int .i64 0) (.int .i64 0) (.float .f64 0) (.string ⟨#[]⟩) (.slice none 0 0)).cell? ⟨q, 0, none⟩ = some v5 := by
      unfold set5
      simp only [World.cell?_setCell_other _ _ _ _ (ne_blk3 _ _ _ _ hne)]
      exact hq
    rw [h0]; rfl
  exact ⟨rfl, _, rfl, .tuple #[], by simp [results, Tryz.results86], rfl, rfl, bx, hc, bt⟩
end Go.Proofs.YtajadhkpadkikaaGreatDoor


/- Where a tree lies. -/
namespace Go.Proofs.YtajadhkpadkikaaGreatDoor
open Go.RowKit Go.Deep

theorem get_lt {α : Type} {l : List α} {i : Nat} {x : α} (h : l[i]? = some x) : i < l.length := by
  rcases Nat.lt_or_ge i l.length with q | q
  · exact q
  · rw [List.getElem?_eq_none q] at h; cases h


mutual
/-- All of a tree lies in blocks of P. -/
def Tr.On (P : Nat → Prop) : Tr → Prop
  | .mk _ _ _ _ a _ kids => (0 < kids.length → ∀ ad, a = some ad → P ad.block) ∧ Tr.OnAll P kids
def Tr.OnAll (P : Nat → Prop) : List Tr → Prop
  | [] => True
  | t :: r => Tr.On P t ∧ Tr.OnAll P r
end

theorem onAll_get {P : Nat → Prop} {kids : List Tr} (h : Tr.OnAll P kids) {t : Tr} (ht : t ∈ kids) : t.On P := by
  induction kids with
  | nil => simp at ht
  | cons u r ih =>
    unfold Tr.OnAll at h
    rcases List.mem_cons.1 ht with rfl | ht
    · exact h.1
    · exact ih h.2 ht

/-- What lies in a world lies in its blocks. -/
theorem on_all {w : World} {base : Nat} : ∀ t : Tr, t.In w base → t.On (fun k => k < w.heap.size) := by
  refine Tr.ind fun k n f s a c kids hk h => ?_
  unfold Tr.In at h
  unfold Tr.On
  refine ⟨fun h0 ad had => ?_, ?_⟩
  · obtain ⟨u, hu⟩ : ∃ u, kids[0]? = some u := ⟨_, List.getElem?_eq_getElem h0⟩
    have q := (inAll_get (h.2 ad had).2 0 u hu).1 0 (by omega)
    cases u with
    | mk =>
      have e : ad.add (0 * 5 + 0) = ad := by unfold Addr.add; simp
      rw [e] at q
      exact World.block_lt_of_cell? w ad (q.trans rfl)
  · have : ∀ l : List Tr, (∀ t, t ∈ l → t ∈ kids) → Tr.OnAll (fun k => k < w.heap.size) l := by
      intro l
      induction l with
      | nil => intro _; unfold Tr.OnAll; trivial
      | cons t r ih =>
        intro hl
        unfold Tr.OnAll
        refine ⟨?_, ih fun u hu => hl u (List.mem_cons_of_mem _ hu)⟩
        have ht := hl t (List.mem_cons_self ..)
        obtain ⟨j, hj⟩ := List.getElem?_of_mem ht
        refine hk t ht ?_
        cases a with
        | none =>
          have h0 := h.1.2.2.2.2.2.2 rfl
          have h1 := h.1.2.2.2.2.1
          have : j < kids.length := by
            rcases Nat.lt_or_ge j kids.length with h | h
            · exact h
            · rw [List.getElem?_eq_none h] at hj; simp at hj
          omega
        | some ad => exact (inAll_get (h.2 ad rfl).2 j t hj).2
    exact this kids fun t h => h


theorem in_on {w w' : World} {base : Nat} {S : Nat → Prop} (hs : ∀ b, S b → w'.heap[b]? = w.heap[b]?) : ∀ t : Tr, t.In w base → t.On S → t.In w' base := by
  refine Tr.ind fun k n f s a c kids hk h ho => ?_
  unfold Tr.In at h ⊢
  unfold Tr.On at ho
  refine ⟨h.1, fun ad had => ⟨(h.2 ad had).1, inAll_of fun j t hj => ?_⟩⟩
  have g := inAll_get (h.2 ad had).2 j t hj
  have hpos : 0 < kids.length := by have := get_lt hj; omega
  have hS := ho.1 hpos ad had
  refine ⟨fun i hi => ?_, hk t (List.mem_of_getElem? hj) g.2 (onAll_get ho.2 (List.mem_of_getElem? hj))⟩
  rw [add_add]
  rw [← g.1 i hi]
  refine World.cell?_of_block (w := w) ?_
  have e : (ad.add (j * 5 + i)).block = ad.block := by unfold Addr.add; split <;> rfl
  rw [e]
  exact hs _ hS

theorem on_mono {S S' : Nat → Prop} (h : ∀ b, S b → S' b) : ∀ t : Tr, t.On S → t.On S' := by
  refine Tr.ind fun k n f s a c kids hk ho => ?_
  unfold Tr.On at ho ⊢
  refine ⟨fun h0 ad had => h _ (ho.1 h0 ad had), ?_⟩
  have : ∀ l : List Tr, (∀ t, t ∈ l → t ∈ kids) → Tr.OnAll S l → Tr.OnAll S' l := by
    intro l
    induction l with
    | nil => intro _ _; unfold Tr.OnAll; trivial
    | cons t r ih =>
      intro hl hx
      unfold Tr.OnAll at hx ⊢
      exact ⟨hk t (hl t (List.mem_cons_self ..)) hx.1, ih (fun u hu => hl u (List.mem_cons_of_mem _ hu)) hx.2⟩
  exact this kids (fun t h => h) ho.2


theorem on_from {w : World} {base : Nat} : ∀ t : Tr, t.In w base → t.On (fun k => base ≤ k) := by
  refine Tr.ind fun k n f s a c kids hk h => ?_
  unfold Tr.In at h
  unfold Tr.On
  refine ⟨fun h0 ad had => (h.2 ad had).1, ?_⟩
  cases a with
  | none =>
    have h0 := h.1.2.2.2.2.2.2 rfl
    have h1 := h.1.2.2.2.2.1
    have hz : kids = [] := List.length_eq_zero_iff.1 (by omega)
    subst hz
    unfold Tr.OnAll
    trivial
  | some ad =>
    have hin := (h.2 ad rfl).2
    have : ∀ l : List Tr, (∀ t, t ∈ l → t ∈ kids) → Tr.OnAll (fun k => base ≤ k) l := by
      intro l
      induction l with
      | nil => intro _; unfold Tr.OnAll; trivial
      | cons t r ih =>
        intro hl
        unfold Tr.OnAll
        refine ⟨?_, ih fun u hu => hl u (List.mem_cons_of_mem _ hu)⟩
        obtain ⟨j, hj⟩ := List.getElem?_of_mem (hl t (List.mem_cons_self ..))
        exact hk t (hl t (List.mem_cons_self ..)) (inAll_get hin j t hj).2
    exact this kids (fun t h => h)

theorem on_and {S S' : Nat → Prop} : ∀ t : Tr, t.On S → t.On S' → t.On (fun k => S k ∧ S' k) := by
  refine Tr.ind fun k n f s a c kids hk h h' => ?_
  unfold Tr.On at h h' ⊢
  refine ⟨fun h0 ad had => ⟨h.1 h0 ad had, h'.1 h0 ad had⟩, ?_⟩
  have : ∀ l : List Tr, (∀ t, t ∈ l → t ∈ kids) → Tr.OnAll S l → Tr.OnAll S' l → Tr.OnAll (fun k => S k ∧ S' k) l := by
    intro l
    induction l with
    | nil => intro _ _ _; unfold Tr.OnAll; trivial
    | cons t r ih =>
      intro hl hx hy
      unfold Tr.OnAll at hx hy ⊢
      exact ⟨hk t (hl t (List.mem_cons_self ..)) hx.1 hy.1, ih (fun u hu => hl u (List.mem_cons_of_mem _ hu)) hx.2 hy.2⟩
  exact this kids (fun t h => h) h.2 h'.2
end Go.Proofs.YtajadhkpadkikaaGreatDoor


