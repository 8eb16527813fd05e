/- LinksPlays: halves compared. -/
import Derived.Test.YtodelafnboimnaaLs2
import Derived.Test.YtodelafnboimnaaLk3
import Derived.BigQuiet
namespace Go.Proofs.Ytodelafnboimnaa
open Go.RowKit Go.Lib
open HV (Hf hf0 getL insL delL Rise Wfk TB Nw Rst RT RU HT hvs)
attribute [local go_sem ↓] Go.wp_at_zero Go.wp_at_succ

set_option maxRecDepth 100000 in
set_option maxHeartbeats 4000000 in
theorem sameH_any {w : World} {B1 B2 : Nat} {V1 V2 : Value} {L : List HV.KV} (h1 : w.ownsRow B1 HT 3 V1 L.length (hvs L)) (h2 : w.ownsRow B2 HT 3 V2 L.length (hvs L)) (hN : L.length ≤ 90000) :
    Calls Try.prog 12 #[V1, V2] w fun e w' => e = .returned (.bool true) ∧ Below w.heap.size w w' := by
  obtain ⟨a1, c1, rfl⟩ := HV.own_sl h1
  obtain ⟨a2, c2, rfl⟩ := HV.own_sl h2
  obtain ⟨n, hn⟩ : ∃ n, L.length = n := ⟨_, rfl⟩
  rw [hn] at h1 h2 hN
  rw [hn]
  have H1 := hidb h1
  have H2 := hidb h2
  have HN := hidb hN
  have HL := hidb hn
  clear h1 h2 hN hn
  go_enter Try.func12, Try.ntmps12
  go_wp2_with fail
  go_loopw [5] (fun iv wr => ∃ i : Nat, i ≤ n ∧ iv = .int .i64 (i : Int) ∧ Below w.heap.size w wr) (fun iv _ => n - (intOf iv).toNat)
  case atStart => exact ⟨0, by omega, rfl, Below.refl _ _⟩
  case round =>
  obtain ⟨i, hi, rfl, hb⟩ := hrel
  have HI := hidb hi
  have HB := hidb hb
  clear hi hb
  by_cases hlt : i < n
  · have e1 : (i : Int) < (n : Int) := by omega
    have e2 : (0 : Int) ≤ (i : Int) := by omega
    obtain ⟨y, hy⟩ : ∃ y, L[i]? = some y := ⟨_, List.getElem?_eq_getElem (by have := HL.out; omega)⟩
    obtain ⟨g, c, he, k0, k1, k2⟩ := HV.row_get (H1.out.keep9 HB.out) hy
    obtain ⟨rfl, -, rfl⟩ : a1 = some ⟨g, 0, none⟩ ∧ n = n ∧ c1 = c := by simpa using he
    obtain ⟨g', c', he', k3, k4, k5⟩ := HV.row_get (H2.out.keep9 HB.out) hy
    obtain ⟨rfl, -, rfl⟩ : a2 = some ⟨g', 0, none⟩ ∧ n = n ∧ c2 = c' := by simpa using he'
    have HW : Hid (wrap64 ((i : Int) + 1) = ((i + 1 : Nat) : Int)) := hidb (by have := HN.out; unfold wrap64; omega)
    clear he he' hy
    go_wp2_with fail
    go_quiet (fail)
    go_wp2_with fail
    go_roundw
    case rel => exact ⟨i + 1, by omega, by first | rfl | (rw [HW.out]), below_drewN HB.out _⟩
    case measure =>
      try rw [HW.out]
      simp only [RowKit.intOf]
      omega
  · have e1 : ¬ (i : Int) < (n : Int) := by omega
    go_wp2_with fail
    go_ret
    exact ⟨rfl, HB.out⟩

theorem PL.out {w0 w w' : World} {tb rb : Nat} {L : List HV.KV} {n : Int} {S : Nat → Prop} (h : PL w0 w tb rb L n) (hb : But S w w') (hs : ∀ k, S k → w.heap.size ≤ k) : PL w0 w' tb rb L n := by
  have hl := h.lts
  obtain ⟨D, E, h1, h2, h3, h4, h5, h6, h7, h8⟩ := h
  have hz := hb.size
  exact ⟨D, E, h1.but hb (fun k hk e => by have := hs k e; have := (h3 k hk).2.2.1; omega) (fun e => by have := hs _ e; omega), h2.but hb (fun e => by have := hs _ e; omega) (fun k hk e => by have := hs k e; have := (h4 k hk).2.2; omega), fun k hk => ⟨(h3 k hk).1, (h3 k hk).2.1, by have := (h3 k hk).2.2.1; omega, (h3 k hk).2.2.2⟩, fun k hk => ⟨(h4 k hk).1, (h4 k hk).2.1, by have := (h4 k hk).2.2; omega⟩, h5, h6, h7, h8.trans (hb.below h8.size (fun k e => by have := hs k e; have := h8.size; omega))⟩

/-- The document's row. -/
theorem PL.row {w0 w : World} {tb rb : Nat} {L : List HV.KV} {n : Int} (h : PL w0 w tb rb L n) : ∃ a c, w.cell? ⟨rb, 0, none⟩ = some (.slice a L.length c) ∧ w.ownsRow 0 HT 3 (.slice a L.length c) L.length (hvs L) := by
  obtain ⟨D, E, -, ⟨V, h1, h2, -⟩, -⟩ := h
  obtain ⟨a, c, rfl⟩ := HV.own_sl h2
  exact ⟨a, c, h1.c0, h2⟩

theorem PL.all {w0 w : World} {tb rb : Nat} {L : List HV.KV} {n : Int} (h : PL w0 w tb rb L n) (hN : L.length ≤ 90000) :
    Calls Try.prog 11 #[.pointer (some ⟨tb, 0, none⟩)] w fun e w' => ∃ a c, e = .returned (.slice a L.length c) ∧ Below w.heap.size w w' ∧ w'.ownsRow w.heap.size HT 3 (.slice a L.length c) L.length (hvs L) := by
  obtain ⟨D, hD⟩ := h.ltt
  refine (HV.lall_any hD hN).mono ?_
  rintro e w' ⟨V, rfl, hb, ho⟩
  obtain ⟨a, c, rfl⟩ := HV.own_sl ho
  exact ⟨a, c, rfl, hb, ho⟩

end Go.Proofs.Ytodelafnboimnaa
