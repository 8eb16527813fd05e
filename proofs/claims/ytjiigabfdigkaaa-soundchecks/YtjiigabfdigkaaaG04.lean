import Derived.Test.YtjiigabfdigkaaaG03
/- A process alive; a process found. -/
namespace Go.Proofs.Ytjiigabfdigkaaa
open Go.RowKit

def Alv (st : Int) : Prop := st = 1 ∨ st = 2
set_option maxHeartbeats 1000000 in
set_option maxRecDepth 10000 in
theorem ralive_any (w : World) (p : Pc) : Calls Try.prog 39 #[pcV p] w (Says (Alv p.st) w) := by
  go_enter Try.func39, Try.ntmps39
  go_wp2_with fail
  all_goals
    go_ret
    exact ⟨⟨_, rfl, by simp [Alv, *]⟩, below_new _ _⟩
theorem ralive_is (w : World) (pid st rk rn : Int) (rf : Nat) (rs : ByteArray) (ra : Option Addr) (rl rc : Nat) (tr : Bool) (ia : Option Addr) (il ic : Nat) (la : Option Addr) (ll lc : Nat) (oa : Option Addr) (ol oc : Nat) (ta : Option Addr) (tl tc : Nat) (na : Option Addr) (nl nc : Nat) :
    Calls Try.prog 39 #[.agg #[.int .i64 pid, .int .i64 st, .int .i64 rk, .int .i64 rn, .float .f64 rf, .string rs, .slice ra rl rc, .bool tr, .slice ia il ic, .slice la ll lc, .slice oa ol oc, .slice ta tl tc, .slice na nl nc]] w (Says (Alv st) w) :=
  ralive_any w ⟨pid, st, rk, rn, rf, rs, ra, rl, rc, tr, ia, il, ic, la, ll, lc, [], oa, ol, oc, [], ta, tl, tc, [], na, nl, nc, []⟩
set_option maxHeartbeats 1000000 in
set_option maxRecDepth 10000 in
theorem salive_any (w : World) (p : Pc) : Calls Try.prog 35 #[pcV p] w (Says (Alv p.st) w) := by
  go_enter Try.func35, Try.ntmps35
  go_wp2_with fail
  all_goals
    go_ret
    exact ⟨⟨_, rfl, by simp [Alv, *]⟩, below_new _ _⟩
/-- The place of the first process with a pid; -1: there is none. -/
def fi (ps : List Pc) (pid : Int) : Int := match ps.findIdx? (fun p => p.pid == pid) with
  | some i => (i : Int)
  | none => -1
theorem fi_some {ps : List Pc} {pid : Int} {m : Nat} {p : Pc} (hp : ps[m]? = some p) (hm : p.pid = pid) (hn : ∀ (i : Nat) (q : Pc), i < m → ps[i]? = some q → q.pid ≠ pid) : fi ps pid = (m : Int) := by
  have h : ps.findIdx? (fun p => p.pid == pid) = some m := by
    rw [List.findIdx?_eq_some_iff_getElem]
    obtain ⟨hl, he⟩ := List.getElem?_eq_some_iff.1 hp
    refine ⟨hl, by rw [he]; simpa using hm, fun j hj => ?_⟩
    have := hn j ps[j] hj (List.getElem?_eq_getElem (by omega))
    simpa using this
  unfold fi
  rw [h]
theorem fi_none {ps : List Pc} {pid : Int} (hn : ∀ (i : Nat) (q : Pc), ps[i]? = some q → q.pid ≠ pid) : fi ps pid = -1 := by
  have h : ps.findIdx? (fun p => p.pid == pid) = none := by
    rw [List.findIdx?_eq_none_iff]
    intro x hx
    obtain ⟨i, hi⟩ := List.mem_iff_getElem?.1 hx
    simpa using hn i x hi
  unfold fi
  rw [h]
set_option maxHeartbeats 1000000 in
set_option maxRecDepth 10000 in
theorem find_any (w : World) (pa la : Option Addr) (cp cl np nl : Nat) (ps : List Pc) (ls : List Ln) (oa : Option Addr) (no co : Nat) (pid : Int) (hs : StIn w pa ps la ls) (hnp : ps.length = np) :
    Calls Try.prog 43 #[stV pa np cp la nl cl oa no co, .int .i64 pid] w (fun e w' => e = .returned (.int .i64 (fi ps pid)) ∧ Below w.heap.size w w') := by
  have HS := hidb hs
  have HN := hidb hnp
  have h63 : np ≤ 9223372036854775807 := hnp ▸ hs.lp
  clear hs hnp
  have HX0 := hidb (At.new w [.slice pa np cp, .slice la nl cl, .slice oa no co] 26)
  go_enter Try.func43, Try.ntmps43
  go_wp2_with fail
  obtain ⟨W0, hW0⟩ : ∃ W0, w.alloc (.cells #[.slice pa np cp, .slice la nl cl, .slice oa no co] 26) = W0 := ⟨_, rfl⟩
  have HB1 : Hid (Below w.heap.size w W0) := hidb (by rw [← hW0]; exact below_new w _)
  rw [hW0] at HX0 ⊢
  clear hW0
  go_loopw [5] (fun iv wr => ∃ (m : Nat), m ≤ np ∧ iv = .int .i64 m ∧ (∀ (i : Nat) (q : Pc), i < m → ps[i]? = some q → q.pid ≠ pid) ∧ Below W0.heap.size W0 wr) (fun iv _ => np - (RowKit.intOf iv).toNat)
  case atStart => exact ⟨0, by omega, rfl, fun i q h => by omega, Below.refl _ _⟩
  case round =>
    obtain ⟨m, hm, rfl, hri, hb⟩ := hrel
    have HRI := hidb hri
    have HB := hidb hb
    clear hri hb
    have HX := hidb (HX0.out.keep HB.out)
    obtain ⟨x0, -⟩ := HX.out.1 0 _ rfl
    by_cases hml : m < np
    · have hmb : (m : Int) < (np : Int) := by omega
      have hmz : (0 : Int) ≤ (m : Int) := by omega
      have hmw : IntKind.i64.wrap ((m : Int) + 1) = (m : Int) + 1 := by rw [IntKind.wrap_i64]; omega
      obtain ⟨p, b, o, hp, rfl, hlt, hc⟩ := HS.out.procs.at m (by have := HN.out; omega)
      have hq := HB1.out.trans (HB.out.mono HB1.out.size)
      have c0 : wr.cell? ⟨b, o + m * 13, none⟩ = some (.int .i64 p.pid) := (hq.cell (p := ⟨b, o + m * 13, none⟩) hlt).trans (hc 0 (by omega))
      have HP := hidb hp
      clear hp hc hq
      by_cases he : p.pid = pid
      · go_wp2_with fail
        go_ret
        rw [fi_some HP.out he HRI.out]
        exact ⟨rfl, HB1.out.trans (HB.out.mono HB1.out.size)⟩
      · go_wp2_with fail
        go_roundw
        case rel =>
          refine ⟨m + 1, by omega, by go_num, fun i q hi hq => ?_, HB.out⟩
          by_cases hlt : i < m
          · exact HRI.out i q hlt hq
          · obtain rfl : i = m := by omega
            rw [HP.out] at hq
            obtain rfl := Option.some.inj hq
            exact he
        case measure => simp [RowKit.intOf]; omega
    · have hmn : ¬ (m : Int) < (np : Int) := by omega
      go_wp2_with fail
      go_ret
      rw [fi_none (fun i q hq => HRI.out i q (by have := (List.getElem?_eq_some_iff.1 hq).1; have := HN.out; omega) hq)]
      exact ⟨rfl, HB1.out.trans (HB.out.mono HB1.out.size)⟩
end Go.Proofs.Ytjiigabfdigkaaa


/- Of a state: who is gone, who holds whom. -/
namespace Go.Proofs.Ytjiigabfdigkaaa
open Go.RowKit

theorem fi_cases (ps : List Pc) (pid : Int) : (fi ps pid = -1 ∧ ∀ (i : Nat) (q : Pc), ps[i]? = some q → q.pid ≠ pid) ∨ ∃ (m : Nat) (p : Pc), fi ps pid = (m : Int) ∧ ps[m]? = some p ∧ p.pid = pid ∧ ∀ (i : Nat) (q : Pc), i < m → ps[i]? = some q → q.pid ≠ pid := by
  cases h : ps.findIdx? (fun p => p.pid == pid) with
  | none =>
    have h2 := h
    rw [List.findIdx?_eq_none_iff] at h2
    have hn : ∀ (i : Nat) (q : Pc), ps[i]? = some q → q.pid ≠ pid := fun i q hq => by simpa using h2 q (List.mem_of_getElem? hq)
    exact .inl ⟨fi_none hn, hn⟩
  | some m =>
    have h2 := h
    rw [List.findIdx?_eq_some_iff_getElem] at h2
    obtain ⟨hl, h3, h4⟩ := h2
    have hn : ∀ (i : Nat) (q : Pc), i < m → ps[i]? = some q → q.pid ≠ pid := fun i q hi hq => by
      obtain ⟨hl2, he⟩ := List.getElem?_eq_some_iff.1 hq
      have := h4 i hi
      rw [he] at this
      simpa using this
    have hp : ps[m]? = some ps[m] := List.getElem?_eq_getElem hl
    have he : ps[m].pid = pid := by simpa using h3
    exact .inr ⟨m, ps[m], fi_some hp he hn, hp, he, hn⟩
/-- Whether nobody has a pid, or who has it has ended. -/
def Gone (ps : List Pc) (pid : Int) : Prop := ∀ (m : Nat) (p : Pc), fi ps pid = (m : Int) → ps[m]? = some p → p.st = 4
def Has (l : List Mn) (ref pid : Int) : Prop := ∃ m ∈ l, m.ref = ref ∧ m.pid = pid
def Holds (ps : List Pc) (pid wth : Int) : Prop := ∃ (m : Nat) (p : Pc), fi ps pid = (m : Int) ∧ ps[m]? = some p ∧ ∃ h ∈ p.links, h.pid = wth
set_option maxHeartbeats 1000000 in
set_option maxRecDepth 10000 in
theorem gone_any (w : World) (pa la : Option Addr) (cp cl np nl : Nat) (ps : List Pc) (ls : List Ln) (oa : Option Addr) (no co : Nat) (pid : Int) (hs : StIn w pa ps la ls) (hnp : ps.length = np) :
    Calls Try.prog 42 #[stV pa np cp la nl cl oa no co, .int .i64 pid] w (Says (Gone ps pid) w) := by
  have HS := hidb hs
  have HN := hidb hnp
  have h63 : np ≤ 9223372036854775807 := hnp ▸ hs.lp
  clear hs hnp
  have HX0 := hidb (At.new w [.slice pa np cp, .slice la nl cl, .slice oa no co] 26)
  go_enter Try.func42, Try.ntmps42
  go_wp2_with fail
  obtain ⟨W0, hW0⟩ : ∃ W0, w.alloc (.cells #[.slice pa np cp, .slice la nl cl, .slice oa no co] 26) = W0 := ⟨_, rfl⟩
  have HB1 : Hid (Below w.heap.size w W0) := hidb (by rw [← hW0]; exact below_new w _)
  rw [hW0] at HX0 ⊢
  clear hW0
  refine (find_any W0 pa la cp cl np nl ps ls oa no co pid (HS.out.keep HB1.out) HN.out).mono ?_
  rintro e W1 ⟨rfl, hb⟩
  have HB2 := hidb (HB1.out.trans (hb.mono HB1.out.size))
  have HX1 := hidb (HX0.out.keep hb)
  clear hb
  obtain ⟨x0, -⟩ := HX1.out.1 0 _ rfl
  rcases fi_cases ps pid with ⟨hf, hn⟩ | ⟨m, p, hf, hp, -, hn⟩
  · rw [hf]
    go_wp2_with fail
    all_goals
      go_ret
      exact ⟨⟨_, rfl, by simp [Gone, hf]⟩, HB2.out⟩
  · rw [hf]
    have hml := (List.getElem?_eq_some_iff.1 hp).1
    have hmb : (m : Int) < (np : Int) := by have := HN.out; omega
    have hmz : (0 : Int) ≤ (m : Int) := by omega
    have hmy : ¬ (m : Int) < 0 := by omega
    obtain ⟨b, o, rfl, hlt, hc⟩ := HS.out.procs m p hp
    have c1 : W1.cell? ⟨b, o + m * 13 + 1, none⟩ = some (.int .i64 p.st) := (HB2.out.cell (p := ⟨b, o + m * 13 + 1, none⟩) hlt).trans (hc 1 (by omega))
    have HF := hidb (show Gone ps pid ↔ p.st = 4 by
      constructor
      · intro h; exact h m p hf hp
      · intro h m' p' h1 h2
        obtain rfl : m = m' := by rw [hf] at h1; omega
        rw [hp] at h2
        obtain rfl := Option.some.inj h2
        exact h)
    clear hn hp hc hf hml
    go_wp2_with fail
    all_goals
      go_ret
      exact ⟨⟨_, rfl, by rw [HF.out]; first | (simp [*]; done) | (simp [*]; intro h; omega)⟩, HB2.out⟩
set_option maxHeartbeats 1000000 in
set_option maxRecDepth 10000 in
theorem has_any (w : World) (q : Option Addr) (c n : Nat) (l : List Mn) (ref pid : Int) (hr : RowC 3 Mn.cells w q l) (hn : l.length = n) (h63 : n ≤ 9223372036854775807) :
    Calls Try.prog 44 #[.slice q n c, .int .i64 ref, .int .i64 pid] w (Says (Has l ref pid) w) := by
  have HR := hidb hr
  have HN := hidb hn
  clear hr hn
  go_enter Try.func44, Try.ntmps44
  go_wp2_with fail
  go_loopw [7] (fun iv wr => ∃ (m : Nat), m ≤ n ∧ iv = .int .i64 m ∧ (∀ (i : Nat) (q : Mn), i < m → l[i]? = some q → ¬ (q.ref = ref ∧ q.pid = pid)) ∧ Below w.heap.size w wr) (fun iv _ => n - (RowKit.intOf iv).toNat)
  case atStart => exact ⟨0, by omega, rfl, fun i q h => by omega, Below.refl _ _⟩
  case round =>
    obtain ⟨m, hm, rfl, hri, hb⟩ := hrel
    have HRI := hidb hri
    have HB := hidb hb
    clear hri hb
    by_cases hml : m < n
    · have hmb : (m : Int) < (n : Int) := by omega
      have hmz : (0 : Int) ≤ (m : Int) := by omega
      have hmw : IntKind.i64.wrap ((m : Int) + 1) = (m : Int) + 1 := by rw [IntKind.wrap_i64]; omega
      obtain ⟨x, b, o, hx, rfl, hlt, hc⟩ := HR.out.at m (by have := HN.out; omega)
      have c0 : wr.cell? ⟨b, o + m * 3, none⟩ = some (.int .i64 x.ref) := (HB.out.cell (p := ⟨b, o + m * 3, none⟩) hlt).trans (hc 0 (by omega))
      have c1 : wr.cell? ⟨b, o + m * 3 + 1, none⟩ = some (.int .i64 x.pid) := (HB.out.cell (p := ⟨b, o + m * 3 + 1, none⟩) hlt).trans (hc 1 (by omega))
      have HP := hidb hx
      clear hx hc
      by_cases he : x.ref = ref
      · by_cases he2 : x.pid = pid
        · go_wp2_with fail
          go_ret
          exact ⟨⟨true, rfl, fun _ => ⟨x, List.mem_of_getElem? HP.out, he, he2⟩, fun _ => rfl⟩, HB.out⟩
        · go_wp2_with fail
          go_roundw
          case rel =>
            refine ⟨m + 1, by omega, by go_num, fun i q hi hq => ?_, HB.out⟩
            by_cases hlt : i < m
            · exact HRI.out i q hlt hq
            · obtain rfl : i = m := by omega
              rw [HP.out] at hq
              obtain rfl := Option.some.inj hq
              exact fun h => he2 h.2
          case measure => simp [RowKit.intOf]; omega
      · go_wp2_with fail
        go_roundw
        case rel =>
          refine ⟨m + 1, by omega, by go_num, fun i q hi hq => ?_, HB.out⟩
          by_cases hlt : i < m
          · exact HRI.out i q hlt hq
          · obtain rfl : i = m := by omega
            rw [HP.out] at hq
            obtain rfl := Option.some.inj hq
            exact fun h => he h.1
        case measure => simp [RowKit.intOf]; omega
    · have hmn : ¬ (m : Int) < (n : Int) := by omega
      go_wp2_with fail
      go_ret
      refine ⟨⟨false, rfl, fun h => (by cases h), fun h => ?_⟩, HB.out⟩
      obtain ⟨q, hq, h⟩ := h
      obtain ⟨i, hi⟩ := List.mem_iff_getElem?.1 hq
      exact absurd h (HRI.out i q (by have := (List.getElem?_eq_some_iff.1 hi).1; have := HN.out; omega) hi)
end Go.Proofs.Ytjiigabfdigkaaa


