import Derived.Test.YtjiigabfdigkaaaG04
/- Of a state: who holds whom. -/
namespace Go.Proofs.Ytjiigabfdigkaaa
open Go.RowKit

set_option maxHeartbeats 1000000 in
set_option maxRecDepth 10000 in
theorem holds_any (w : World) (pa la : Option Addr) (cp cl np nl : Nat) (ps : List Pc) (ls : List Ln) (oa : Option Addr) (no co : Nat) (pid wth : Int) (hs : StIn w pa ps la ls) (hnp : ps.length = np) :
    Calls Try.prog 40 #[stV pa np cp la nl cl oa no co, .int .i64 pid, .int .i64 wth] w (Says (Holds ps pid wth) w) := by
  have HS := hidb hs
  have HN := hidb hnp
  have h63 : np ≤ 9223372036854775807 := hnp ▸ hs.lp
  clear hs hnp
  have HX0 := hidb (At.new w [.slice pa np cp, .slice la nl cl, .slice oa no co] 26)
  go_enter Try.func40, Try.ntmps40
  go_wp2_with fail
  obtain ⟨W0, hW0⟩ : ∃ W0, w.alloc (.cells #[.slice pa np cp, .slice la nl cl, .slice oa no co] 26) = W0 := ⟨_, rfl⟩
  have HB1 : Hid (Below w.heap.size w W0) := hidb (by rw [← hW0]; exact below_new w _)
  rw [hW0] at HX0 ⊢
  clear hW0
  refine (find_any W0 pa la cp cl np nl ps ls oa no co pid (HS.out.keep HB1.out) HN.out).mono ?_
  rintro e W1 ⟨rfl, hb⟩
  have HB2 := hidb (HB1.out.trans (hb.mono HB1.out.size))
  have HX1 := hidb (HX0.out.keep hb)
  clear hb
  obtain ⟨x0, -⟩ := HX1.out.1 0 _ rfl
  rcases fi_cases ps pid with ⟨hf, hn⟩ | ⟨i0, p, hf, hp, -, hn⟩
  · rw [hf]
    go_wp2_with fail
    all_goals
      go_ret
      exact ⟨⟨_, rfl, fun h => (by cases h), fun ⟨i0, p, h1, _⟩ => by rw [hf] at h1; omega⟩, HB2.out⟩
  · rw [hf]
    have hml := (List.getElem?_eq_some_iff.1 hp).1
    have hmb : (i0 : Int) < (np : Int) := by have := HN.out; omega
    have hmz : (0 : Int) ≤ (i0 : Int) := by omega
    have hmy : ¬ (i0 : Int) < 0 := by omega
    obtain ⟨b, o, rfl, hlt, hc⟩ := HS.out.procs i0 p hp
    have HPI := hidb (HS.out.each p (List.mem_of_getElem? hp))
    have c9 : W1.cell? ⟨b, o + i0 * 13 + 9, none⟩ = some (.slice p.la p.ll p.lc) := (HB2.out.cell (p := ⟨b, o + i0 * 13 + 9, none⟩) hlt).trans (hc 9 (by omega))
    have HCL := hidb (And.intro (show b < W1.heap.size from Nat.lt_of_lt_of_le hlt HB2.out.size) c9)
    have HF := hidb (show Holds ps pid wth ↔ ∃ h ∈ p.links, h.pid = wth by
      constructor
      · rintro ⟨m', p', h1, h2, h3⟩
        obtain rfl : i0 = m' := by rw [hf] at h1; omega
        rw [hp] at h2
        obtain rfl := Option.some.inj h2
        exact h3
      · intro h; exact ⟨i0, p, hf, hp, h⟩)
    clear hn hp hc hf hml
    go_wp2_with fail
    go_loopw [8] (fun iv wr => ∃ (m : Nat), m ≤ p.ll ∧ iv = .int .i64 m ∧ (∀ (i : Nat) (q : Hf), i < m → p.links[i]? = some q → q.pid ≠ wth) ∧ Below W1.heap.size W1 wr) (fun iv _ => p.ll - (RowKit.intOf iv).toNat)
    case atStart => exact ⟨0, by omega, rfl, fun i q h => by omega, Below.refl _ _⟩
    case round =>
      obtain ⟨m, hm, rfl, hri, hb⟩ := hrel
      have HRI := hidb hri
      have HB := hidb hb
      clear hri hb
      have HX := hidb (HX1.out.keep HB.out)
      obtain ⟨x0, -⟩ := HX.out.1 0 _ rfl
      have c9 : wr.cell? ⟨b, o + i0 * 13 + 9, none⟩ = some (.slice p.la p.ll p.lc) := (HB.out.cell (p := ⟨b, o + i0 * 13 + 9, none⟩) HCL.out.1).trans HCL.out.2
      by_cases hml : m < p.ll
      · have h64 : p.ll ≤ 9223372036854775807 := HPI.out.ll.2
        have hmb2 : (m : Int) < (p.ll : Int) := by omega
        have hmz2 : (0 : Int) ≤ (m : Int) := by omega
        have hmw : IntKind.i64.wrap ((m : Int) + 1) = (m : Int) + 1 := by rw [IntKind.wrap_i64]; omega
        obtain ⟨x, b2, o2, hx, hla, hlt2, hc2⟩ := HPI.out.links.at m (by have := HPI.out.ll.1; omega)
        rw [hla] at c9
        have hq := HB2.out.trans (HB.out.mono HB2.out.size)
        have d0 : wr.cell? ⟨b2, o2 + m * 3, none⟩ = some (.int .i64 x.pid) := (hq.cell (p := ⟨b2, o2 + m * 3, none⟩) hlt2).trans (hc2 0 (by omega))
        have HP := hidb hx
        clear hx hc2 hq hla
        by_cases he : x.pid = wth
        · go_wp2_with fail
          go_ret
          exact ⟨⟨true, rfl, fun _ => HF.out.2 ⟨x, List.mem_of_getElem? HP.out, he⟩, fun _ => rfl⟩, HB2.out.trans (HB.out.mono HB2.out.size)⟩
        · go_wp2_with fail
          go_roundw
          case rel =>
            refine ⟨m + 1, by omega, by go_num, fun i q hi hq => ?_, HB.out⟩
            by_cases hlt : i < m
            · exact HRI.out i q hlt hq
            · obtain rfl : i = m := by omega
              rw [HP.out] at hq
              obtain rfl := Option.some.inj hq
              exact he
          case measure => simp [RowKit.intOf]; omega
      · have hmn : ¬ (m : Int) < (p.ll : Int) := by omega
        go_wp2_with fail
        go_ret
        refine ⟨⟨false, rfl, fun h => (by cases h), fun h => ?_⟩, HB2.out.trans (HB.out.mono HB2.out.size)⟩
        obtain ⟨q, hq, h⟩ := HF.out.1 h
        obtain ⟨i, hi⟩ := List.mem_iff_getElem?.1 hq
        exact absurd h (HRI.out i q (by have := (List.getElem?_eq_some_iff.1 hi).1; have := HPI.out.ll.1; omega) hi)
end Go.Proofs.Ytjiigabfdigkaaa


/- A row walked: what holds of the first ones. -/
namespace Go.Proofs.Ytjiigabfdigkaaa

theorem all_step {α : Type} {l : List α} {P : α → Prop} {k : Nat} {x : α} (hx : l[k]? = some x) : (∀ (i : Nat) (q : α), i < k + 1 → l[i]? = some q → P q) ↔ (∀ (i : Nat) (q : α), i < k → l[i]? = some q → P q) ∧ P x := by
  constructor
  · intro h
    exact ⟨fun i q hi hq => h i q (by omega) hq, h k x (by omega) hx⟩
  · rintro ⟨h, hp⟩ i q hi hq
    by_cases e : i < k
    · exact h i q e hq
    · obtain rfl : i = k := by omega
      rw [hx] at hq
      obtain rfl := Option.some.inj hq
      exact hp
theorem all_mem {α : Type} {l : List α} {P : α → Prop} {n : Nat} (hn : l.length = n) : (∀ (i : Nat) (q : α), i < n → l[i]? = some q → P q) ↔ ∀ q ∈ l, P q := by
  constructor
  · intro h q hq
    obtain ⟨i, hi⟩ := List.mem_iff_getElem?.1 hq
    exact h i q (by have := (List.getElem?_eq_some_iff.1 hi).1; omega) hi
  · intro h i q _ hq
    exact h q (List.mem_of_getElem? hq)
theorem all_zero {α : Type} {l : List α} {P : α → Prop} : (∀ (i : Nat) (q : α), i < 0 → l[i]? = some q → P q) ↔ True := ⟨fun _ => trivial, fun _ i _ h => by omega⟩
theorem and_step {a b : Bool} {A B P : Prop} (h : a = true ↔ A ∧ B) (hb : b = true ↔ P) : (a && b) = true ↔ A ∧ B ∧ P := by rw [Bool.and_eq_true, h, hb, and_assoc]
theorem if_off {a : Bool} {M C F F' : Prop} (hn : ¬ C) (h : a = true ↔ M ∧ (C → F)) : a = true ↔ M ∧ (C → F') := by
  rw [h]; constructor
  · rintro ⟨hm, -⟩; exact ⟨hm, fun c => absurd c hn⟩
  · rintro ⟨hm, -⟩; exact ⟨hm, fun c => absurd c hn⟩
theorem if_on {a b : Bool} {M C F F' P : Prop} (hc : C) (h : a = true ↔ M ∧ (C → F)) (hb : b = true ↔ P) (hs : F' ↔ F ∧ P) : (a && b) = true ↔ M ∧ (C → F') := by
  rw [Bool.and_eq_true, h, hb, hs]; constructor
  · rintro ⟨⟨hm, hf⟩, hp⟩; exact ⟨hm, fun c => ⟨hf c, hp⟩⟩
  · rintro ⟨hm, hf⟩; exact ⟨⟨hm, fun c => (hf c).1⟩, (hf hc).2⟩
theorem and_T {b : Bool} {A B P : Prop} (h : True ↔ A ∧ B) (hb : b = true ↔ P) : b = true ↔ A ∧ B ∧ P := by
  rw [hb]; constructor
  · intro hp; exact ⟨(h.1 trivial).1, (h.1 trivial).2, hp⟩
  · intro hp; exact hp.2.2
theorem and_F {A B P : Prop} (h : false = true ↔ A ∧ B) : false = true ↔ A ∧ B ∧ P := by
  constructor
  · intro hp; cases hp
  · rintro ⟨a, b, -⟩; exact h.2 ⟨a, b⟩
theorem off_T {M C F F' : Prop} (hn : ¬ C) (h : True ↔ M ∧ (C → F)) : true = true ↔ M ∧ (C → F') := ⟨fun _ => ⟨(h.1 trivial).1, fun c => absurd c hn⟩, fun _ => rfl⟩
theorem off_F {M C F F' : Prop} (hn : ¬ C) (h : false = true ↔ M ∧ (C → F)) : false = true ↔ M ∧ (C → F') := ⟨fun hp => (by cases hp), fun hp => h.2 ⟨hp.1, fun c => absurd c hn⟩⟩
theorem on_T {b : Bool} {M C F F' P : Prop} (hc : C) (h : True ↔ M ∧ (C → F)) (hb : b = true ↔ P) (hs : F' ↔ F ∧ P) : b = true ↔ M ∧ (C → F') := by
  rw [hb, hs]; constructor
  · intro hp; exact ⟨(h.1 trivial).1, fun c => ⟨(h.1 trivial).2 c, hp⟩⟩
  · intro hp; exact (hp.2 hc).2
theorem on_F {M C F F' P : Prop} (h : false = true ↔ M ∧ (C → F)) (hs : F' ↔ F ∧ P) : false = true ↔ M ∧ (C → F') := by
  constructor
  · intro hp; cases hp
  · intro hp; exact h.2 ⟨hp.1, fun c => (hs.1 (hp.2 c)).1⟩
end Go.Proofs.Ytjiigabfdigkaaa


