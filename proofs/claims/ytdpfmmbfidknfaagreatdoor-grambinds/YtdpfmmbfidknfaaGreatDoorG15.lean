import Derived.Test.YtdpfmmbfidknfaaGreatDoorG14
import Derived.Test.YtdpfmmbfidknfaaGreatDoorG01
import Derived.Deep.LoopGhost
import Derived.BigQuiet
/- The law's own: how tightly an operator binds; where a row is parted. -/
namespace Go.Proofs.YtdpfmmbfidknfaaGreatDoor
open Go.RowKit Go.Lib
attribute [local go_sem] store_float
attribute [local go_sem ↓] Go.wp_at_zero Go.wp_at_succ

set_option maxHeartbeats 2000000 in
set_option maxRecDepth 100000 in
theorem level_any (s : Nat) (hs : s < 12) : ∀ w : World, Calls Tryz.prog 10 #[.string (opX s)] w fun e w' => e = .returned (.tuple #[.int .i64 (lev s : Int), .bool (rgt (lev s))]) ∧ Below w.heap.size w w' := by
  refine of12 (P := fun s => ∀ w : World, Calls Tryz.prog 10 #[.string (opX s)] w fun e w' => e = .returned (.tuple #[.int .i64 (lev s : Int), .bool (rgt (lev s))]) ∧ Below w.heap.size w w') ?_ ?_ ?_ ?_ ?_ ?_ ?_ ?_ ?_ ?_ ?_ ?_ s hs
  all_goals
    intro w
    simp only [opX, lev, rgt]
    go_enter Tryz.func10, Tryz.ntmps10
    go_wp2_with fail
    all_goals
      refine bodyPost_ret (v := .tuple #[.int .i64 _, .bool _]) (by simp [results, Tryz.results10, go_sem]) rfl ⟨rfl, ?_⟩
      first
        | exact Below.refl _ _
        | exact below_new _ _

/-- A row of texts of operators, wherever it lies. -/
def StrRow (w : World) (a : Option Addr) (l : List ByteArray) : Prop :=
  ∀ (j : Nat) (x : ByteArray), l[j]? = some x → ∃ b o, a = some ⟨b, o, none⟩ ∧ b < w.heap.size ∧ w.cell? ⟨b, o + j, none⟩ = some (.string x)
theorem StrRow.keep {w w' : World} {a : Option Addr} {l : List ByteArray} (h : StrRow w a l) (hb : Below w.heap.size w w') : StrRow w' a l := by
  intro j x hj
  obtain ⟨b, o, h1, h2, h3⟩ := h j x hj
  exact ⟨b, o, h1, Nat.lt_of_lt_of_le h2 hb.size, (hb.cell (p := ⟨b, o + j, none⟩) h2).trans h3⟩

set_option maxHeartbeats 2000000 in
set_option maxRecDepth 100000 in
theorem operators_any6 (w : World) : Calls Tryz.prog 9 #[] w fun e w' => e = .returned (.slice (some ⟨w.heap.size, 0, none⟩) 12 12) ∧ StrRow w' (some ⟨w.heap.size, 0, none⟩) ((List.range 12).map opX) ∧ Below w.heap.size w w' := by
  go_enter Tryz.func9, Tryz.ntmps9
  go_wp2_with fail
  go_ret
  refine ⟨rfl, ?_, below_new _ _⟩
  intro j x hj
  have hj12 : j < 12 := by have := (List.getElem?_eq_some_iff.1 hj).1; simpa using this
  refine ⟨_, 0, rfl, by simp, ?_⟩
  rw [Nat.zero_add]
  have : j = 0 ∨ j = 1 ∨ j = 2 ∨ j = 3 ∨ j = 4 ∨ j = 5 ∨ j = 6 ∨ j = 7 ∨ j = 8 ∨ j = 9 ∨ j = 10 ∨ j = 11 := by omega
  rcases this with rfl | rfl | rfl | rfl | rfl | rfl | rfl | rfl | rfl | rfl | rfl | rfl
  all_goals
    obtain rfl := Option.some.inj hj
    simp
    rfl

set_option maxHeartbeats 2000000 in
set_option maxRecDepth 100000 in
theorem split_any (w : World) (a : Option Addr) (c n : Nat) (l : List Nat) (hr : StrRow w a (l.map opX)) (hs : ∀ s ∈ l, s < 12) (hn : l.length = n) (h0 : 0 < n) (h30 : n ≤ 30) : Calls Tryz.prog 15 #[.slice a n c] w fun e w' => e = .returned (.int .i64 (spl l : Int)) ∧ Below w.heap.size w w' := by
  have HR := hidb hr
  have HS := hidb hs
  have HN := hidb hn
  clear hr hs hn
  go_enter Tryz.func15, Tryz.ntmps15
  go_wp2_with fail
  go_loopw [3, 4] (fun av iv wr => ∃ (a0 m : Nat), av = .int .i64 a0 ∧ iv = .int .i64 m ∧ a0 < n ∧ 1 ≤ m ∧ m ≤ n ∧ splF l (n - m) m a0 = spl l ∧ Below w.heap.size w wr) (fun _ iv _ => n - (RowKit.intOf iv).toNat)
  case atStart => exact ⟨0, 1, rfl, rfl, h0, by omega, by omega, by unfold spl; rw [HN.out], Below.refl _ _⟩
  case round =>
    obtain ⟨a0, m, rfl, rfl, ha, hm1, hm, hsp, hb⟩ := hrel
    have HB := hidb hb
    by_cases hml : m < n
    · have hmb : (m : Int) < (n : Int) := by omega
      have hmz : (0 : Int) ≤ (m : Int) := by omega
      have hab : (a0 : Int) < (n : Int) := by omega
      have haz : (0 : Int) ≤ (a0 : Int) := by omega
      have hmw : IntKind.i64.wrap ((m : Int) + 1) = (m : Int) + 1 := by rw [IntKind.wrap_i64]; omega
      obtain ⟨sa, hsa⟩ : ∃ s, l[a0]? = some s := ⟨_, List.getElem?_eq_getElem (by have := HN.out; omega)⟩
      obtain ⟨si, hsi⟩ : ∃ s, l[m]? = some s := ⟨_, List.getElem?_eq_getElem (by have := HN.out; omega)⟩
      obtain ⟨b, o, rfl, hbl, hca⟩ := HR.out a0 (opX sa) (by rw [List.getElem?_map, hsa]; rfl)
      obtain ⟨b', o', hbe, -, hci⟩ := HR.out m (opX si) (by rw [List.getElem?_map, hsi]; rfl)
      obtain ⟨rfl, rfl⟩ : b = b' ∧ o = o' := by simpa using hbe
      have c0 : wr.cell? ⟨b, o + a0, none⟩ = some (.string (opX sa)) := (hb.cell (p := ⟨b, o + a0, none⟩) hbl).trans hca
      have c1 : wr.cell? ⟨b, o + m, none⟩ = some (.string (opX si)) := (hb.cell (p := ⟨b, o + m, none⟩) hbl).trans hci
      have LA := hidb (level_any sa (HS.out sa (List.mem_of_getElem? hsa)))
      have LI := hidb (level_any si (HS.out si (List.mem_of_getElem? hsi)))
      have va : lvAt l a0 = lev sa := by unfold lvAt; rw [List.getD_eq_getElem?_getD, hsa]; rfl
      have vi : lvAt l m = lev si := by unfold lvAt; rw [List.getD_eq_getElem?_getD, hsi]; rfl
      have hbt : better l a0 m = (decide (lev si < lev sa) || (decide (lev si = lev sa) && !(rgt (lev sa)))) := by unfold better; rw [va, vi]
      have HSP : Hid (splF l (n - (m + 1)) (m + 1) (if better l a0 m then m else a0) = spl l) := hidb (by rw [← hsp, show n - m = (n - (m + 1)) + 1 by omega]; rfl)
      clear va vi hsa hsi hca hci hb hsp hbe
      generalize opX sa = A at *
      generalize opX si = I at *
      generalize lev sa = ua at *
      generalize lev si = ui at *
      have M0 : Hid True := hidb trivial
      by_cases h1 : ui < ua
      · have HBT : Hid (better l a0 m = true) := hidb (by rw [hbt]; simp [h1])
        have h1' : (ui : Int) < (ua : Int) := by omega
        clear hbt
        go_wp2_with (first
          | (go_at_call 10; (clear M0); refine (LA.out _).mono ?_; rintro e w1 ⟨rfl, hb1⟩; have HB1 := hidb (HB.out.trans (hb1.mono HB.out.size)); have c1' := (hb1.cell (World.block_lt_of_cell? _ _ c1)).trans c1; clear hb1)
          | (go_at_call 10; refine (LI.out _).mono ?_; rintro e w2 ⟨rfl, hb2⟩; have HB2 := hidb (HB1.out.trans (hb2.mono HB1.out.size)); clear hb2))
        go_roundw
        case rel => exact ⟨m, m + 1, rfl, by go_num, by omega, by omega, by omega, by rw [← HSP.out, HBT.out, if_pos rfl], HB2.out⟩
        case measure => simp [RowKit.intOf]; omega
      · have h1' : ¬ (ui : Int) < (ua : Int) := by omega
        by_cases h2 : ui = ua
        · subst h2
          cases hr : rgt ui
          · have HBT : Hid (better l a0 m = true) := hidb (by rw [hbt, hr]; simp)
            rw [hr] at LA LI
            clear hbt h1 h1'
            go_wp2_with (first
              | (go_at_call 10; (clear M0); refine (LA.out _).mono ?_; rintro e w1 ⟨rfl, hb1⟩; have HB1 := hidb (HB.out.trans (hb1.mono HB.out.size)); have c1' := (hb1.cell (World.block_lt_of_cell? _ _ c1)).trans c1; clear hb1)
              | (go_at_call 10; refine (LI.out _).mono ?_; rintro e w2 ⟨rfl, hb2⟩; have HB2 := hidb (HB1.out.trans (hb2.mono HB1.out.size)); clear hb2))
            go_roundw
            case rel => exact ⟨m, m + 1, rfl, by go_num, by omega, by omega, by omega, by rw [← HSP.out, HBT.out, if_pos rfl], HB2.out⟩
            case measure => simp [RowKit.intOf]; omega
          · have HBT : Hid (better l a0 m = false) := hidb (by rw [hbt, hr]; simp)
            rw [hr] at LA LI
            clear hbt h1 h1'
            go_wp2_with (first
              | (go_at_call 10; (clear M0); refine (LA.out _).mono ?_; rintro e w1 ⟨rfl, hb1⟩; have HB1 := hidb (HB.out.trans (hb1.mono HB.out.size)); have c1' := (hb1.cell (World.block_lt_of_cell? _ _ c1)).trans c1; clear hb1)
              | (go_at_call 10; refine (LI.out _).mono ?_; rintro e w2 ⟨rfl, hb2⟩; have HB2 := hidb (HB1.out.trans (hb2.mono HB1.out.size)); clear hb2))
            go_roundw
            case rel => exact ⟨a0, m + 1, rfl, by go_num, by omega, by omega, by omega, by rw [← HSP.out, HBT.out, if_neg (by simp)], HB2.out⟩
            case measure => simp [RowKit.intOf]; omega
        · have HBT : Hid (better l a0 m = false) := hidb (by rw [hbt]; simp [h1, h2])
          have h2' : ((ui : Int) == (ua : Int)) = false := by simp; omega
          clear hbt
          go_wp2_with (first
            | (go_at_call 10; (clear M0); refine (LA.out _).mono ?_; rintro e w1 ⟨rfl, hb1⟩; have HB1 := hidb (HB.out.trans (hb1.mono HB.out.size)); have c1' := (hb1.cell (World.block_lt_of_cell? _ _ c1)).trans c1; clear hb1)
            | (go_at_call 10; refine (LI.out _).mono ?_; rintro e w2 ⟨rfl, hb2⟩; have HB2 := hidb (HB1.out.trans (hb2.mono HB1.out.size)); clear hb2))
          go_roundw
          case rel => exact ⟨a0, m + 1, rfl, by go_num, by omega, by omega, by omega, by rw [← HSP.out, HBT.out, if_neg (by simp)], HB2.out⟩
          case measure => simp [RowKit.intOf]; omega
    · have hmn : ¬ (m : Int) < (n : Int) := by omega
      go_wp2_with fail
      go_ret
      refine ⟨?_, HB.out⟩
      rw [show n - m = 0 by omega] at hsp
      rw [← hsp]
      rfl
end Go.Proofs.YtdpfmmbfidknfaaGreatDoor


/- A module of one function whose body is one expression. -/
namespace Go.Proofs.YtdpfmmbfidknfaaGreatDoor
open Gm

def headT : List Tk := [⟨6, ⟨#[45]⟩, 0, 0, 0⟩, ⟨1, ⟨#[109, 111, 100, 117, 108, 101]⟩, 0, 0, 0⟩, ⟨6, ⟨#[40]⟩, 0, 0, 0⟩, ⟨1, ⟨#[109]⟩, 0, 0, 0⟩, ⟨6, ⟨#[41]⟩, 0, 0, 0⟩, ⟨6, ⟨#[46]⟩, 0, 0, 0⟩, ⟨1, ⟨#[102]⟩, 0, 0, 0⟩, ⟨6, ⟨#[40]⟩, 0, 0, 0⟩, ⟨6, ⟨#[41]⟩, 0, 0, 0⟩, ⟨6, ⟨#[45, 62]⟩, 0, 0, 0⟩]
def dotT : Tk := ⟨6, ⟨#[46]⟩, 0, 0, 0⟩
def endT : Tk := ⟨8, ⟨#[]⟩, 0, 0, 0⟩
def srcT (e : Ex) : List Tk := headT ++ (e.toks ++ [dotT, endT])
def ndOf (e : Ex) : List Nd :=
  [⟨22, ⟨#[]⟩, 0, 0, [], 0⟩] ++ e.emit 1 ++ [⟨19, ⟨#[]⟩, 0, 0, [e.sz], 0⟩] ++ [⟨21, ⟨#[102]⟩, 0, 0, [0, e.sz + 1], 0⟩] ++ [⟨20, ⟨#[]⟩, 0, 0, [e.sz + 2], 0⟩] ++ [⟨23, ⟨#[102]⟩, 0, 0, [e.sz + 3], 0⟩] ++ [⟨24, ⟨#[109]⟩, 0, 0, [e.sz + 4], 0⟩]
theorem noOp_dot : NoOp 0 dotT := ⟨rfl, fun _ => rfl, fun _ => rfl, fun _ => rfl, fun _ => rfl, fun _ => rfl, fun _ => rfl, fun _ => ⟨rfl, rfl⟩⟩

theorem needK_b {β : Type} {k : Int} {f : Tk → PM β} {s : PS} (h : (hd s).k = k) : (needK k >>= f) s = f (hd s) (cut s) := by
  rw [bind_at]; unfold needK; rw [if_pos h]
theorem expr_at (k : Nat) (s : PS) : expr (k + 1) s = (if s.o = 200 then .error (25, (hd s).p) else match opened (expr k) { s with o := s.o + 1 } with
      | .error e => .error e
      | .ok (x, s') => .ok (x, { s' with o := s'.o - 1 })) := rfl
theorem functionOf_at (e : PM Nat) (s : PS) : functionOf e s = match clauses (fclause e) s with
    | .error x => .error x
    | .ok (c, s1) => match need ⟨#[46]⟩ s1 with
      | .error x => .error x
      | .ok (_, s2) => lay ⟨23, (s2.ns.getD ((s2.ns.getD c ⟨0, ⟨#[]⟩, 0, 0, [], 0⟩).l.headD 0) ⟨0, ⟨#[]⟩, 0, 0, [], 0⟩).x, (s2.ns.getD ((s2.ns.getD c ⟨0, ⟨#[]⟩, 0, 0, [], 0⟩).l.headD 0) ⟨0, ⟨#[]⟩, 0, 0, [], 0⟩).n, 0, [c], (hd s).p⟩ s2 := by
  unfold functionOf
  rw [here_b]
  cases h1 : clauses (fclause e) s with
  | error x => rw [bind_at, h1]
  | ok p =>
    obtain ⟨c, s1⟩ := p
    rw [bind_at, h1]
    simp only
    cases h2 : need ⟨#[46]⟩ s1 with
    | error x =>
      refine (bind_at (need ⟨#[46]⟩) _ s1).trans ?_
      rw [h2]
    | ok q =>
      refine (bind_at (need ⟨#[46]⟩) _ s1).trans ?_
      rw [h2]
theorem body_ok (e : Ex) (hw : e.WF) (hd' : e.dep ≤ 199) (hz : e.sz ≤ 16000) (ns : List Nd) (hn : ns.length ≤ 10) : body (expr 201) ⟨e.toks ++ [dotT, endT], ns, 0⟩ = .ok (ns.length + e.sz, ⟨[dotT, endT], ns ++ e.emit ns.length ++ [⟨19, ⟨#[]⟩, 0, 0, [ns.length + e.sz - 1], 0⟩], 0⟩) := by
  have hE : expr 201 ⟨e.toks ++ [dotT, endT], ns, 0⟩ = .ok (ns.length + e.sz - 1, ⟨[dotT, endT], ns ++ e.emit ns.length, 0⟩) := by
    have h := read_all e.big e (Nat.le_refl _) 200 1 hw (by omega) (by omega) 0 (by omega) (by omega) dotT [endT] ns noOp_dot (by omega)
    have h' : opened (expr 200) ⟨e.toks ++ [dotT, endT], ns, 0 + 1⟩ = .ok (ns.length + e.sz - 1, ⟨[dotT, endT], ns ++ e.emit ns.length, 0 + 1⟩) := h
    have he := expr_at 200 ⟨e.toks ++ [dotT, endT], ns, 0⟩
    rw [if_neg (by simp), h'] at he
    exact he
  unfold body group exprs
  rw [here_b, first_p, bind_at, run_b hE, left_b]
  have hm : more (expr 201) noBound ([dotT, endT] : List Tk).length [ns.length + e.sz - 1] ⟨[dotT, endT], ns ++ e.emit ns.length, 0⟩ = .ok ([ns.length + e.sz - 1], ⟨[dotT, endT], ns ++ e.emit ns.length, 0⟩) := by
    show more (expr 201) noBound (1 + 1) _ _ = _
    simp only [more]
    rw [take_no (by rfl), if_neg (by simp)]
    rfl
  rw [hm]
  show lay _ _ = _
  rw [lay_ok _ _ _ _ (by rw [List.length_append, Ex.emit_len]; omega)]
  simp only [List.length_append, Ex.emit_len]

theorem whole (e : Ex) (hw : e.WF) (hd' : e.dep ≤ 199) (hz : e.sz ≤ 16000) : module (expr 201) ⟨srcT e, [], 0⟩ = .ok (e.sz + 5, ⟨[endT], ndOf e, 0⟩) := by
  have hb := body_ok e hw hd' hz [⟨22, ⟨#[]⟩, 0, 0, [], 0⟩] (by simp)
  simp only [List.length_singleton] at hb
  have hc : fclause (expr 201) ⟨(⟨1, ⟨#[102]⟩, 0, 0, 0⟩ : Tk) :: ⟨6, ⟨#[40]⟩, 0, 0, 0⟩ :: ⟨6, ⟨#[41]⟩, 0, 0, 0⟩ :: ⟨6, ⟨#[45, 62]⟩, 0, 0, 0⟩ :: (e.toks ++ [dotT, endT]), [], 0⟩ = .ok (e.sz + 2, ⟨[dotT, endT], [⟨22, ⟨#[]⟩, 0, 0, [], 0⟩] ++ e.emit 1 ++ [⟨19, ⟨#[]⟩, 0, 0, [e.sz], 0⟩] ++ [⟨21, ⟨#[102]⟩, 0, 0, [0, e.sz + 1], 0⟩], 0⟩) := by
    unfold fclause
    rw [needK_b (by rfl)]
    have ha : args (expr 201) (cut ⟨(⟨1, ⟨#[102]⟩, 0, 0, 0⟩ : Tk) :: ⟨6, ⟨#[40]⟩, 0, 0, 0⟩ :: ⟨6, ⟨#[41]⟩, 0, 0, 0⟩ :: ⟨6, ⟨#[45, 62]⟩, 0, 0, 0⟩ :: (e.toks ++ [dotT, endT]), [], 0⟩) = .ok ([], ⟨⟨6, ⟨#[45, 62]⟩, 0, 0, 0⟩ :: (e.toks ++ [dotT, endT]), [], 0⟩) := by
      unfold args
      rw [need_b (by rfl), take_yes (by rfl)]
      rfl
    rw [run_b ha]
    unfold tail
    have hg : Gm.guard (expr 201) ⟨(⟨6, ⟨#[45, 62]⟩, 0, 0, 0⟩ : Tk) :: (e.toks ++ [dotT, endT]), [], 0⟩ = .ok (0, ⟨⟨6, ⟨#[45, 62]⟩, 0, 0, 0⟩ :: (e.toks ++ [dotT, endT]), [⟨22, ⟨#[]⟩, 0, 0, [], 0⟩], 0⟩) := by
      unfold Gm.guard
      rw [take_no (by rfl), if_neg (by simp)]
      rfl
    rw [run_b hg, need_b (by rfl)]
    have hcut : cut ⟨(⟨6, ⟨#[45, 62]⟩, 0, 0, 0⟩ : Tk) :: (e.toks ++ [dotT, endT]), [⟨22, ⟨#[]⟩, 0, 0, [], 0⟩], 0⟩ = ⟨e.toks ++ [dotT, endT], [⟨22, ⟨#[]⟩, 0, 0, [], 0⟩], 0⟩ := rfl
    rw [hcut, run_b hb, lay_ok _ _ _ _ (by simp only [List.length_append, Ex.emit_len, List.length_singleton]; omega)]
    simp only [List.length_append, Ex.emit_len, List.length_singleton, List.length_nil]
    rw [show 1 + e.sz - 1 = e.sz by omega, show 1 + e.sz + 1 = e.sz + 2 by omega, show 1 + e.sz = e.sz + 1 by omega]
    rfl
  have hf : functionOf (expr 201) ⟨(⟨1, ⟨#[102]⟩, 0, 0, 0⟩ : Tk) :: ⟨6, ⟨#[40]⟩, 0, 0, 0⟩ :: ⟨6, ⟨#[41]⟩, 0, 0, 0⟩ :: ⟨6, ⟨#[45, 62]⟩, 0, 0, 0⟩ :: (e.toks ++ [dotT, endT]), [], 0⟩ = .ok (e.sz + 4, ⟨[endT], [⟨22, ⟨#[]⟩, 0, 0, [], 0⟩] ++ e.emit 1 ++ [⟨19, ⟨#[]⟩, 0, 0, [e.sz], 0⟩] ++ [⟨21, ⟨#[102]⟩, 0, 0, [0, e.sz + 1], 0⟩] ++ [⟨20, ⟨#[]⟩, 0, 0, [e.sz + 2], 0⟩] ++ [⟨23, ⟨#[102]⟩, 0, 0, [e.sz + 3], 0⟩], 0⟩) := by
    have hcl : clauses (fclause (expr 201)) ⟨(⟨1, ⟨#[102]⟩, 0, 0, 0⟩ : Tk) :: ⟨6, ⟨#[40]⟩, 0, 0, 0⟩ :: ⟨6, ⟨#[41]⟩, 0, 0, 0⟩ :: ⟨6, ⟨#[45, 62]⟩, 0, 0, 0⟩ :: (e.toks ++ [dotT, endT]), [], 0⟩ = .ok (e.sz + 3, ⟨[dotT, endT], [⟨22, ⟨#[]⟩, 0, 0, [], 0⟩] ++ e.emit 1 ++ [⟨19, ⟨#[]⟩, 0, 0, [e.sz], 0⟩] ++ [⟨21, ⟨#[102]⟩, 0, 0, [0, e.sz + 1], 0⟩] ++ [⟨20, ⟨#[]⟩, 0, 0, [e.sz + 2], 0⟩], 0⟩) := by
      unfold clauses
      rw [here_b, run_b hc, left_b]
      have hm : moreC (fclause (expr 201)) ([dotT, endT] : List Tk).length [e.sz + 2] ⟨[dotT, endT], [⟨22, ⟨#[]⟩, 0, 0, [], 0⟩] ++ e.emit 1 ++ [⟨19, ⟨#[]⟩, 0, 0, [e.sz], 0⟩] ++ [⟨21, ⟨#[102]⟩, 0, 0, [0, e.sz + 1], 0⟩], 0⟩ = .ok ([e.sz + 2], ⟨[dotT, endT], [⟨22, ⟨#[]⟩, 0, 0, [], 0⟩] ++ e.emit 1 ++ [⟨19, ⟨#[]⟩, 0, 0, [e.sz], 0⟩] ++ [⟨21, ⟨#[102]⟩, 0, 0, [0, e.sz + 1], 0⟩], 0⟩) := by
        show moreC _ (1 + 1) _ _ = _
        simp only [moreC]
        rw [take_no (by rfl), if_neg (by simp)]
        rfl
      rw [run_b hm, lay_ok _ _ _ _ (by simp only [List.length_append, Ex.emit_len, List.length_singleton]; omega)]
      simp only [List.length_append, Ex.emit_len, List.length_singleton]
      rw [show 1 + e.sz + 1 + 1 = e.sz + 3 by omega]
      rfl
    have hne : ∀ ns : List Nd, need ⟨#[46]⟩ ⟨[dotT, endT], ns, 0⟩ = .ok ((), ⟨[endT], ns, 0⟩) := fun ns => rfl
    rw [functionOf_at, hcl]
    simp only [hne]
    have g1 : ([⟨22, ⟨#[]⟩, 0, 0, [], 0⟩] ++ e.emit 1 ++ [⟨19, ⟨#[]⟩, 0, 0, [e.sz], 0⟩] ++ [⟨21, ⟨#[102]⟩, 0, 0, [0, e.sz + 1], 0⟩] ++ [⟨20, ⟨#[]⟩, 0, 0, [e.sz + 2], 0⟩] : List Nd).getD (e.sz + 3) ⟨0, ⟨#[]⟩, 0, 0, [], 0⟩ = ⟨20, ⟨#[]⟩, 0, 0, [e.sz + 2], 0⟩ := by
      rw [List.getD_eq_getElem?_getD, List.getElem?_append_right (by simp only [List.length_append, Ex.emit_len, List.length_singleton]; omega)]
      simp only [List.length_append, Ex.emit_len, List.length_singleton]
      rw [show e.sz + 3 - (1 + e.sz + 1 + 1) = 0 by omega]
      rfl
    have g2 : ([⟨22, ⟨#[]⟩, 0, 0, [], 0⟩] ++ e.emit 1 ++ [⟨19, ⟨#[]⟩, 0, 0, [e.sz], 0⟩] ++ [⟨21, ⟨#[102]⟩, 0, 0, [0, e.sz + 1], 0⟩] ++ [⟨20, ⟨#[]⟩, 0, 0, [e.sz + 2], 0⟩] : List Nd).getD (e.sz + 2) ⟨0, ⟨#[]⟩, 0, 0, [], 0⟩ = ⟨21, ⟨#[102]⟩, 0, 0, [0, e.sz + 1], 0⟩ := by
      rw [List.getD_eq_getElem?_getD, List.getElem?_append_left (by simp only [List.length_append, Ex.emit_len, List.length_singleton]; omega), List.getElem?_append_right (by simp only [List.length_append, Ex.emit_len, List.length_singleton]; omega)]
      simp only [List.length_append, Ex.emit_len, List.length_singleton]
      rw [show e.sz + 2 - (1 + e.sz + 1) = 0 by omega]
      rfl
    simp only [g1, List.headD_cons, g2]
    rw [lay_ok _ _ _ _ (by simp only [List.length_append, Ex.emit_len, List.length_singleton]; omega)]
    simp only [List.length_append, Ex.emit_len, List.length_singleton]
    rw [show 1 + e.sz + 1 + 1 + 1 = e.sz + 4 by omega]
    rfl
  have hfs : functions (expr 201) (4 + (e.toks ++ [dotT, endT]).length) [] ⟨(⟨1, ⟨#[102]⟩, 0, 0, 0⟩ : Tk) :: ⟨6, ⟨#[40]⟩, 0, 0, 0⟩ :: ⟨6, ⟨#[41]⟩, 0, 0, 0⟩ :: ⟨6, ⟨#[45, 62]⟩, 0, 0, 0⟩ :: (e.toks ++ [dotT, endT]), [], 0⟩ = .ok ([e.sz + 4], ⟨[endT], [⟨22, ⟨#[]⟩, 0, 0, [], 0⟩] ++ e.emit 1 ++ [⟨19, ⟨#[]⟩, 0, 0, [e.sz], 0⟩] ++ [⟨21, ⟨#[102]⟩, 0, 0, [0, e.sz + 1], 0⟩] ++ [⟨20, ⟨#[]⟩, 0, 0, [e.sz + 2], 0⟩] ++ [⟨23, ⟨#[102]⟩, 0, 0, [e.sz + 3], 0⟩], 0⟩) := by
    obtain ⟨k, hk⟩ : ∃ k, 4 + (e.toks ++ [dotT, endT]).length = k + 1 + 1 := ⟨2 + (e.toks ++ [dotT, endT]).length, by omega⟩
    rw [hk]
    simp only [functions]
    rw [here_b, if_neg (by show ¬ (1 : Int) = 8; omega), run_b hf]
    rw [here_b, if_pos (by rfl)]
    rfl
  unfold module
  have e1 : srcT e = (⟨6, ⟨#[45]⟩, 0, 0, 0⟩ : Tk) :: ⟨1, ⟨#[109, 111, 100, 117, 108, 101]⟩, 0, 0, 0⟩ :: ⟨6, ⟨#[40]⟩, 0, 0, 0⟩ :: ⟨1, ⟨#[109]⟩, 0, 0, 0⟩ :: ⟨6, ⟨#[41]⟩, 0, 0, 0⟩ :: ⟨6, ⟨#[46]⟩, 0, 0, 0⟩ :: ⟨1, ⟨#[102]⟩, 0, 0, 0⟩ :: ⟨6, ⟨#[40]⟩, 0, 0, 0⟩ :: ⟨6, ⟨#[41]⟩, 0, 0, 0⟩ :: ⟨6, ⟨#[45, 62]⟩, 0, 0, 0⟩ :: (e.toks ++ [dotT, endT]) := rfl
  rw [e1, here_b, need_b (by rfl), here_b, if_pos (by rfl), next_b, need_b (by rfl), needK_b (by rfl), need_b (by rfl), need_b (by rfl), left_b]
  have e2 : cut (cut (cut (cut (cut (cut ⟨(⟨6, ⟨#[45]⟩, 0, 0, 0⟩ : Tk) :: ⟨1, ⟨#[109, 111, 100, 117, 108, 101]⟩, 0, 0, 0⟩ :: ⟨6, ⟨#[40]⟩, 0, 0, 0⟩ :: ⟨1, ⟨#[109]⟩, 0, 0, 0⟩ :: ⟨6, ⟨#[41]⟩, 0, 0, 0⟩ :: ⟨6, ⟨#[46]⟩, 0, 0, 0⟩ :: ⟨1, ⟨#[102]⟩, 0, 0, 0⟩ :: ⟨6, ⟨#[40]⟩, 0, 0, 0⟩ :: ⟨6, ⟨#[41]⟩, 0, 0, 0⟩ :: ⟨6, ⟨#[45, 62]⟩, 0, 0, 0⟩ :: (e.toks ++ [dotT, endT]), [], 0⟩))))) = ⟨(⟨1, ⟨#[102]⟩, 0, 0, 0⟩ : Tk) :: ⟨6, ⟨#[40]⟩, 0, 0, 0⟩ :: ⟨6, ⟨#[41]⟩, 0, 0, 0⟩ :: ⟨6, ⟨#[45, 62]⟩, 0, 0, 0⟩ :: (e.toks ++ [dotT, endT]), [], 0⟩ := rfl
  rw [e2]
  have e3 : ((⟨1, ⟨#[102]⟩, 0, 0, 0⟩ : Tk) :: ⟨6, ⟨#[40]⟩, 0, 0, 0⟩ :: ⟨6, ⟨#[41]⟩, 0, 0, 0⟩ :: ⟨6, ⟨#[45, 62]⟩, 0, 0, 0⟩ :: (e.toks ++ [dotT, endT])).length = 4 + (e.toks ++ [dotT, endT]).length := by simp only [List.length_cons]; omega
  simp only [e3]
  rw [run_b hfs, lay_ok _ _ _ _ (by simp only [List.length_append, Ex.emit_len, List.length_singleton]; omega)]
  simp only [List.length_append, Ex.emit_len, List.length_singleton, ndOf]
  rw [show 1 + e.sz + 1 + 1 + 1 + 1 = e.sz + 5 by omega]
  rfl
end Go.Proofs.YtdpfmmbfidknfaaGreatDoor


