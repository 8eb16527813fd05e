import Derived.Test.YtjiigabfdigkaaaG07
import Derived.Test.YtjiigabfdigkaaaG08
import Derived.Deep.RegionHeld
/- Whether nothing is under way, as the program asks. -/
namespace Go.Proofs.Ytjiigabfdigkaaa
open Go.RowKit Go.Shelf
attribute [local go_sem] store_float Oper.semAt_some
theorem below_taken {w W W' : World} {D : Nat} (hb : Below w.heap.size w W) (hbt : But (fun k => k ∈ [D]) W W') (hD : w.heap.size ≤ D) : Below w.heap.size w W' := hb.trans (hbt.below hb.size (fun k hk => by simp at hk; omega))
theorem held_at {W W9 : World} {D rb : Nat} (hbt : But (fun k => k = rb) W W9) (hD : W.heap[D]? = some (.deferred (some []))) (hne : D ≠ rb) : W9.heap[D]? = some (.deferred (some [])) :=
  (hbt.block D (Array.getElem?_eq_some_iff.1 hD).1 hne).trans hD
theorem ownFrom_true {β : Type} {B : Nat} (p : β → Prop) : OwnFrom B (fun s (_ : World) => p s) := fun _ _ _ _ hs _ _ => hs
theorem allS_nil {ls : List Ln} (h : allS ls = []) : ∀ l ∈ ls, l.sigs = [] := by
  intro l hl
  obtain ⟨i, hi⟩ := List.getElem?_of_mem hl
  cases hs : l.sigs with
  | nil => rfl
  | cons s r =>
    have h1 := allS_mid hi 1
    have h2 := allS_next (ls := ls) (i := i) (k := 0) (l := l) (s := s) (by rw [hs]; rfl)
    rw [← h2, h] at h1
    have := h1.length_le
    simp at this
theorem allS_cons {ls : List Ln} (h : allS ls ≠ []) : ∃ l ∈ ls, 0 < l.sigs.length := by
  apply Classical.byContradiction
  intro hn
  apply h
  unfold allS
  rw [List.flatMap_eq_nil_iff]
  rintro ⟨l, i⟩ hx
  have hl : l ∈ ls := by
    obtain ⟨j, hj⟩ := List.getElem?_of_mem hx
    rw [List.getElem?_zipIdx] at hj
    obtain ⟨y, hy, he⟩ := Option.map_eq_some_iff.1 hj
    have : y = l := by injection he
    subst this
    exact List.mem_of_getElem? hy
  have h0 : l.sigs = [] := by
    apply Classical.byContradiction
    intro h1
    exact hn ⟨l, hl, List.length_pos_iff.2 h1⟩
  simp [sgs, h0]

set_option maxHeartbeats 4000000 in
set_option maxRecDepth 10000 in
theorem calmed_any (w : World) (pa la : Option Addr) (cp cl np nl : Nat) (ps : List Pc) (ls : List Ln) (oa : Option Addr) (no co : Nat) (hs : StIn w pa ps la ls) (hnp : ps.length = np) (hnl : ls.length = nl) :
    Calls Try.prog 11 #[stV pa np cp la nl cl oa no co] w (Says (Calm ps ls) w) := by
  have HM := hidb hnl
  have HS := hidb hs
  have HN := hidb hnp
  have h63 : np ≤ 9223372036854775807 := hnp ▸ hs.lp
  clear hs hnp hnl
  have HX0 := hidb (At.new w [.slice pa np cp, .slice la nl cl, .slice oa no co] 26)
  refine calls_marks Try.func11 rfl ?_
  simp only [Try.ntmps11, List.size_toArray, List.length_cons, List.length_nil, Nat.reduceAdd, Nat.reduceSub, Array.replicate_succ, Array.replicate_zero, List.push_toArray, List.append_toArray, List.nil_append, List.cons_append]
  go_wp2_with fail
  refine (under_any _ la nl cl).mono ?_
  rintro e w1 ⟨rfl, hw1⟩
  have HX1 := hidb ((HX0.out.keep (below_new _ (.cells #[.bool false] 4))).keep (below_new _ (.cells #[.slice la nl cl] 23)))
  have HR1 := hidb ((At.new (w.alloc (.cells #[.slice pa np cp, .slice la nl cl, .slice oa no co] 26)) [.bool false] 4).keep (below_new _ (.cells #[.slice la nl cl] 23)))
  have HU1 := hidb (At.new ((w.alloc (.cells #[.slice pa np cp, .slice la nl cl, .slice oa no co] 26)).alloc (.cells #[.bool false] 4)) [.slice la nl cl] 23)
  have HB1 : Hid (Below w.heap.size w w1) := hidb (by rw [hw1]; exact ((below_new w _).alloc (by simp) _).alloc (by simp; omega) _)
  rw [← hw1] at HX1 HR1 HU1
  rw [show (w.alloc (.cells #[.slice pa np cp, .slice la nl cl, .slice oa no co] 26)).heap.size = w.heap.size + 1 by simp] at HR1
  obtain ⟨ub, hub⟩ : ∃ ub, ((w.alloc (.cells #[.slice pa np cp, .slice la nl cl, .slice oa no co] 26)).alloc (.cells #[.bool false] 4)).heap.size = ub := ⟨_, rfl⟩
  rw [hub] at HU1 ⊢
  clear hub hw1 HX0
  obtain ⟨rb, hrb⟩ : ∃ rb, w.heap.size + 1 = rb := ⟨_, rfl⟩
  have HRB : Hid (w.heap.size + 1 = rb) := hidb hrb
  rw [hrb] at HR1 ⊢
  clear hrb
  have hseq := under_o (cl := cl) HS.out.lns HB1.out (u := ub) (by rw [HM.out]; exact (HU1.out.1 0 _ rfl).1)
  have HSQ := hidb hseq
  clear hseq
  go_wp2_with fail
  have hrl : rb < w1.heap.size := HR1.out.lt
  have HRL := hidb hrl
  refine range_p (gf := 26) (lb := #[.pointer (some ⟨ub, 0, none⟩)]) rfl (enters_of Try.func26 (by kernel_rfl) rfl) HSQ.out (fun k hk => Nat.le_trans HB1.out.size hk) (Below.refl _ _) (fun _ => rfl)
    (fun pre W => pre = [] ∧ (But (fun k => k = rb) w1 W ∧ (W.cell? ⟨rb, 0, none⟩ = some (.bool false) ∧ W.frozen? ⟨rb, 0, none⟩ = false)))
    (fun c pre W => (c = .ret ∧ pre ≠ []) ∧ (But (fun k => k = rb) w1 W ∧ (W.cell? ⟨rb, 0, none⟩ = some (.bool false) ∧ W.frozen? ⟨rb, 0, none⟩ = false)))
    (OwnFrom.and (ownFrom_true _) (OwnFrom.and (OwnFrom.but (Nat.le_refl _)) (OwnFrom.cells _ (fun _ => .bool false))))
    (fun c => OwnFrom.and (ownFrom_true _) (OwnFrom.and (OwnFrom.but (Nat.le_refl _)) (OwnFrom.cells _ (fun _ => .bool false))))
    ⟨rfl, But.refl _ _, (HR1.out.1 0 _ rfl).1, (HR1.out.1 0 _ rfl).2⟩ ?round ?done ?stop
  case round =>
    intro l pre x W hok hlen
    gi_wp2
    refine ⟨trivial, fun W1 hI hsz => ?_⟩
    obtain ⟨hpre, hbt, hc, hf⟩ := hI
    have HBT := hidb hbt
    have HPR := hidb hpre
    have HFF := hidb (And.intro hc hf)
    clear hbt hpre hsz hok hlen
    refine wpIn_block ?_
    gi_wp2
    refine ⟨(But.refl _ _).setCell (p := ⟨rb, 0, none⟩) (fun _ => ⟨show w.heap.size ≤ rb by have := HRB.out; omega, .inl hrl⟩) _, ⟨rfl, by simp⟩, HBT.out.setCell (p := ⟨rb, 0, none⟩) (fun _ => rfl) _, ?_⟩
    rw [World.frozen?_setCell]
    exact ⟨World.cell?_setCell_same _ _ _ HFF.out.1, HFF.out.2⟩
  case stop =>
    rintro D c pre W hD hp ⟨⟨rfl, hne⟩, hbt, hc, hf⟩ hK
    have HNE := hidb (And.intro hne hp)
    have HBT := hidb hbt
    have HDK := hidb (And.intro hD hK)
    clear hne hp hbt hD hK hf
    go_wp2_with fail
    refine retM [D] rfl (fun E hE => by simp at hE; rw [hE]; exact HDK.out.2) (by simp) (fun W' hb => ?_)
    have hc' : W'.cell? ⟨rb, 0, none⟩ = some (.bool false) := (hb.cell (p := ⟨rb, 0, none⟩) (World.block_lt_of_cell? _ _ hc) (by have := HDK.out.1; have := HRL.out; simp; omega)).trans hc
    refine ⟨.bool false, by simp [results, Try.results11, go_sem, hc'], ⟨false, rfl, fun h => (by cases h), fun h => ?_⟩, ?_⟩
    · exfalso
      have hall : allS ls ≠ [] := fun e => HNE.out.1 (by have h1 := HNE.out.2; rw [e] at h1; exact List.prefix_nil.1 h1)
      obtain ⟨l, hl, h0⟩ := allS_cons hall
      have h1 := h.1 l hl
      have h2 := (HS.out.sigs l hl).2.1
      omega
    · exact below_taken (HB1.out.trans (HBT.out.below HB1.out.size (fun k hk => by have := HRB.out; omega))) hb (by have := HDK.out.1; have := HB1.out.size; omega)
  case done =>
    intro D xs W hD hS hI hK
    obtain ⟨hnil, hbt, hc, hf⟩ := hI
    have HAL : Hid (allS ls = []) := hidb (by rw [← hnil]; exact (show xs = allS ls from hS).symm)
    have HBT := hidb hbt
    have HDK := hidb (And.intro hD hK)
    have HFF := hidb (And.intro hc hf)
    have HX2 := hidb (HX1.out.but hbt (fun e => by have := HRB.out; omega))
    have HBW : Hid (Below w.heap.size w W) := hidb (HB1.out.trans (hbt.below HB1.out.size (fun k hk => by have := HRB.out; omega)))
    obtain ⟨x0, -⟩ := HX2.out.1 0 _ rfl
    clear hnil hbt hD hK hS hc hf
    go_wp2_with fail
    clear x0
    go_loopw [13] (fun iv wr => ∃ (m : Nat), m ≤ np ∧ iv = .int .i64 m ∧ (∀ (i : Nat) (q : Pc), i < m → ps[i]? = some q → q.st ≠ 3) ∧ Below W.heap.size W wr) (fun iv _ => np - (RowKit.intOf iv).toNat)
    case atStart => exact ⟨0, by omega, rfl, fun i q h => by omega, Below.refl _ _⟩
    case round =>
      obtain ⟨m, hm, rfl, hri, hb⟩ := hrel
      have HRI := hidb hri
      have HB := hidb hb
      have HRC : Hid (wr.cell? ⟨rb, 0, none⟩ = some (.bool false) ∧ wr.frozen? ⟨rb, 0, none⟩ = false) := hidb ⟨(hb.cell (p := ⟨rb, 0, none⟩) (World.block_lt_of_cell? _ _ HFF.out.1)).trans HFF.out.1, (hb.frozen (p := ⟨rb, 0, none⟩) (World.block_lt_of_cell? _ _ HFF.out.1)).trans HFF.out.2⟩
      clear hri hb
      by_cases hml : m < np
      · have hmb : (m : Int) < (np : Int) := by omega
        have hmz : (0 : Int) ≤ (m : Int) := by omega
        have hmw : IntKind.i64.wrap ((m : Int) + 1) = (m : Int) + 1 := by rw [IntKind.wrap_i64]; omega
        obtain ⟨p, b, o, hp, rfl, hlt, hc⟩ := HS.out.procs.at m (by have := HN.out; omega)
        have hq := HBW.out.trans (HB.out.mono HBW.out.size)
        have cc : ∀ (i : Nat), i < 13 → wr.cell? ⟨b, o + m * 13 + i, none⟩ = (Pc.cells p)[i]? := fun i hi => (hq.cell (p := ⟨b, o + m * 13 + i, none⟩) hlt).trans (hc i hi)
        have c0 : wr.cell? ⟨b, o + m * 13, none⟩ = some (.int .i64 p.pid) := cc 0 (by omega)
        have c1 : wr.cell? ⟨b, o + m * 13 + 1, none⟩ = some (.int .i64 p.st) := cc 1 (by omega)
        have c2 : wr.cell? ⟨b, o + m * 13 + 2, none⟩ = some (.int .i64 p.rk) := cc 2 (by omega)
        have c3 : wr.cell? ⟨b, o + m * 13 + 3, none⟩ = some (.int .i64 p.rn) := cc 3 (by omega)
        have c4 : wr.cell? ⟨b, o + m * 13 + 4, none⟩ = some (.float .f64 p.rf) := cc 4 (by omega)
        have c5 : wr.cell? ⟨b, o + m * 13 + 5, none⟩ = some (.string p.rs) := cc 5 (by omega)
        have c6 : wr.cell? ⟨b, o + m * 13 + 6, none⟩ = some (.slice p.ra p.rl p.rc) := cc 6 (by omega)
        have c7 : wr.cell? ⟨b, o + m * 13 + 7, none⟩ = some (.bool p.trap) := cc 7 (by omega)
        have c8 : wr.cell? ⟨b, o + m * 13 + 8, none⟩ = some (.slice p.ia p.il p.ic) := cc 8 (by omega)
        have c9 : wr.cell? ⟨b, o + m * 13 + 9, none⟩ = some (.slice p.la p.ll p.lc) := cc 9 (by omega)
        have c10 : wr.cell? ⟨b, o + m * 13 + 10, none⟩ = some (.slice p.oa p.ol p.oc) := cc 10 (by omega)
        have c11 : wr.cell? ⟨b, o + m * 13 + 11, none⟩ = some (.slice p.ta p.tl p.tc) := cc 11 (by omega)
        have c12 : wr.cell? ⟨b, o + m * 13 + 12, none⟩ = some (.slice p.na p.nl p.nc) := cc 12 (by omega)
        have HP := hidb hp
        have hrlt : rb < wr.heap.size := World.block_lt_of_cell? _ _ HRC.out.1
        obtain ⟨r0, r1⟩ := HRC.out
        clear hp hc hq cc
        by_cases he : p.st = 3
        · have HE := hidb he
          go_wp2_with fail
          have hb9 : But (fun k => k = rb) W ((wr.setCell ⟨rb, 0, none⟩ (.bool false)).alloc (.cells #[.int .i64 p.pid, .int .i64 3, .int .i64 p.rk, .int .i64 p.rn, .float .f64 p.rf, .string p.rs, .slice p.ra p.rl p.rc, .bool p.trap, .slice p.ia p.il p.ic, .slice p.la p.ll p.lc, .slice p.oa p.ol p.oc, .slice p.ta p.tl p.tc, .slice p.na p.nl p.nc] 45)) := ((But.of_below (S := fun k => k = rb) HB.out).setCell (p := ⟨rb, 0, none⟩) (fun _ => rfl) _).alloc _
          have hc9 : ((wr.setCell ⟨rb, 0, none⟩ (.bool false)).alloc (.cells #[.int .i64 p.pid, .int .i64 3, .int .i64 p.rk, .int .i64 p.rn, .float .f64 p.rf, .string p.rs, .slice p.ra p.rl p.rc, .bool p.trap, .slice p.ia p.il p.ic, .slice p.la p.ll p.lc, .slice p.oa p.ol p.oc, .slice p.ta p.tl p.tc, .slice p.na p.nl p.nc] 45)).cell? ⟨rb, 0, none⟩ = some (.bool false) := by
            have h : (wr.setCell ⟨rb, 0, none⟩ (.bool false)).cell? ⟨rb, 0, none⟩ = some (.bool false) := World.cell?_setCell_same _ _ _ HRC.out.1
            exact ((below_new (wr.setCell ⟨rb, 0, none⟩ (.bool false)) _).cell (p := ⟨rb, 0, none⟩) (World.block_lt_of_cell? _ _ h)).trans h
          generalize (wr.setCell ⟨rb, 0, none⟩ (.bool false)).alloc (.cells #[.int .i64 p.pid, .int .i64 3, .int .i64 p.rk, .int .i64 p.rn, .float .f64 p.rf, .string p.rs, .slice p.ra p.rl p.rc, .bool p.trap, .slice p.ia p.il p.ic, .slice p.la p.ll p.lc, .slice p.oa p.ol p.oc, .slice p.ta p.tl p.tc, .slice p.na p.nl p.nc] 45) = W9 at hb9 hc9 ⊢
          have hz1 := HDK.out.1
          have hz2 := HRL.out
          have hz3 := HB1.out.size
          have hz4 := HRB.out
          refine retM [D] rfl (fun E hE => by simp at hE; rw [hE]; exact held_at hb9 HDK.out.2 (by omega)) (by simp) (fun W' hb => ?_)
          have hc' : W'.cell? ⟨rb, 0, none⟩ = some (.bool false) := (hb.cell (p := ⟨rb, 0, none⟩) (World.block_lt_of_cell? _ _ hc9) (by simp; omega)).trans hc9
          exact ⟨.bool false, by simp [results, Try.results11, go_sem, hc'], ⟨false, rfl, fun h => (by cases h), fun h => absurd HE.out (h.2 p (List.mem_of_getElem? HP.out))⟩, below_taken (HBW.out.trans (hb9.below HBW.out.size (fun k hk => by omega))) hb (by omega)⟩
        · have HE := hidb he
          go_wp2_with fail
          go_roundw
          case rel =>
            refine ⟨m + 1, by omega, by go_num, fun i q hi hq => ?_, HB.out.trans ((below_new wr _).mono HB.out.size)⟩
            by_cases hlt : i < m
            · exact HRI.out i q hlt hq
            · obtain rfl : i = m := by omega
              rw [HP.out] at hq
              obtain rfl := Option.some.inj hq
              exact HE.out
          case measure => simp [RowKit.intOf]; omega
      · have hmn : ¬ (m : Int) < (np : Int) := by omega
        obtain ⟨r0, r1⟩ := HRC.out
        have HCA : Hid (∀ l ∈ ls, ¬ 0 < l.n) := hidb (fun l hl => by
          have h1 := allS_nil HAL.out l hl
          have h2 := (HS.out.sigs l hl).2.1
          rw [h1] at h2
          simp at h2
          omega)
        have HPA : Hid (∀ p ∈ ps, p.st ≠ 3) := hidb (fun p hp => by
          obtain ⟨i2, hi2⟩ := List.mem_iff_getElem?.1 hp
          exact HRI.out i2 p (by have := (List.getElem?_eq_some_iff.1 hi2).1; have := HN.out; omega) hi2)
        go_wp2_with fail
        have hb9 : But (fun k => k = rb) W (wr.setCell ⟨rb, 0, none⟩ (.bool true)) := (But.of_below (S := fun k => k = rb) HB.out).setCell (p := ⟨rb, 0, none⟩) (fun _ => rfl) _
        have hc9 : (wr.setCell ⟨rb, 0, none⟩ (.bool true)).cell? ⟨rb, 0, none⟩ = some (.bool true) := World.cell?_setCell_same _ _ _ HRC.out.1
        generalize wr.setCell ⟨rb, 0, none⟩ (.bool true) = W9 at hb9 hc9 ⊢
        have hz1 := HDK.out.1
        have hz2 := HRL.out
        have hz3 := HB1.out.size
        have hz4 := HRB.out
        refine retM [D] rfl (fun E hE => by simp at hE; rw [hE]; exact held_at hb9 HDK.out.2 (by omega)) (by simp) (fun W' hb => ?_)
        have hc' : W'.cell? ⟨rb, 0, none⟩ = some (.bool true) := (hb.cell (p := ⟨rb, 0, none⟩) (World.block_lt_of_cell? _ _ hc9) (by simp; omega)).trans hc9
        exact ⟨.bool true, by simp [results, Try.results11, go_sem, hc'], ⟨true, rfl, fun _ => ⟨HCA.out, HPA.out⟩, fun _ => rfl⟩, below_taken (HBW.out.trans (hb9.below HBW.out.size (fun k hk => by omega))) hb (by omega)⟩
end Go.Proofs.Ytjiigabfdigkaaa


/- A region that draws its order, where a condition on memory holds until its last operation, which waits for all others. -/
namespace Go.Proofs.Ytjiigabfdigkaaa

section
variable {P : Program} {ops : Array Oper} {md : Region.Mode} {Q : Exit → Act → World → Prop} {S : World → Prop} {D : List Nat}

/-- Whatever order is picked from here on, and S holds behind every operation that is carried out and is not one of D. -/
def wpAnyD (P : Program) (md : Region.Mode) (ops : Array Oper) (Q : Exit → Act → World → Prop) (S : World → Prop) (D : List Nat) : Nat → Array Bool → Act → World → Prop
  | 0, listed, a, w => Region.ready md ops listed = [] ∧ Q .normal a w
  | fuel + 1, listed, a, w =>
    (Region.ready md ops listed = [] → Q .normal a w) ∧
    ∀ i ∈ Region.ready md ops listed, wpOp P ops Q i (fun a' w' => (i ∉ D → S w') ∧ wpAnyD P md ops Q S D fuel (listed.setIfInBounds i true) a' w') a w

theorem wpAny_of_D : ∀ (fuel : Nat) (listed : Array Bool) (a : Act) (w : World), wpAnyD P md ops Q S D fuel listed a w → wpAny P md ops Q fuel listed a w
  | 0, _, _, _, h => h
  | fuel + 1, _, _, _, h => ⟨h.1, fun i hi => wpOp_mono (fun a' w' h' => wpAny_of_D fuel _ a' w' h'.2) (h.2 i hi)⟩

/-- Does operation d wait for i? -/
def waitsB (md : Region.Mode) (ops : Array Oper) (i d : Nat) : Bool := ((ops[d]?).map fun o => o.after.any fun e => Region.binds md e && e.on == i).getD false

theorem waitsB_ready {i d : Nat} {listed : Array Bool} (h : waitsB md ops i d = true) (hr : d ∈ Region.ready md ops listed) : listed.getD i false = true := by
  obtain ⟨_, o, ho, hall⟩ := mem_ready.1 hr
  unfold waitsB at h
  rw [ho] at h
  simp only [Option.map_some, Option.getD_some] at h
  obtain ⟨e, he, hb⟩ := Array.any_eq_true'.1 h
  simp only [Bool.and_eq_true, beq_iff_eq] at hb
  have := hall e he hb.1
  rwa [hb.2] at this

theorem wpAnyD_first {i : Nat} {oi : Oper} {v : Value} (hi : ops[i]? = some oi) (hsel : ∀ (j : Nat) (o : Oper) cs b, ops[j]? = some o → o.op ≠ .select cs b)
    (hQ : ∀ c a w, Q (.panic c) (a.put oi.dst v) w → Q (.panic c) a w) (hD : ∀ d, d ∈ D → waitsB md ops i d = true) :
    ∀ (fuel : Nat) (listed : Array Bool) (a : Act) (w : World),
      (∀ j oj, ops[j]? = some oj → j ≠ i → listed.getD j true = false → (∀ e ∈ oj.after, Region.binds md e = true → e.on ≠ i) → oi.apart ops oj = true) →
      i ∈ Region.ready md ops listed → YieldsIf P ops S oi v a → S w →
      wpAnyD P md ops Q S D fuel (listed.setIfInBounds i true) (a.put oi.dst v) w → wpAnyD P md ops Q S D (fuel + 1) listed a w := by
  intro fuel
  induction fuel with
  | zero =>
    intro listed a w _ hr hy hS H
    refine ⟨fun h => (by rw [h] at hr; cases hr), fun j hj => ?_⟩
    by_cases hji : j = i
    · subst hji; exact hy.wpOp hi hS ⟨fun _ => hS, H⟩
    · have := ready_mono hj hji
      rw [H.1] at this
      cases this
  | succ fuel ih =>
    intro listed a w hfree hr hy hS H
    refine ⟨fun h => (by rw [h] at hr; cases hr), fun j hj => ?_⟩
    by_cases hji : j = i
    · subst hji; exact hy.wpOp hi hS ⟨fun _ => hS, H⟩
    · have h1 := H.2 j (ready_mono hj hji)
      obtain ⟨hjun, oj, hoj, hall⟩ := mem_ready.1 hj
      have hun : ∀ (x : Bool), listed.getD i x = false := fun x => by
        have h0 := (mem_ready.1 hr).1
        rcases Nat.lt_or_ge i listed.size with h' | h'
        · simp [h'] at h0 ⊢; exact h0
        · simp [Array.getElem?_eq_none h'] at h0
      have hjD : j ∉ D := fun hd => by
        have := waitsB_ready (hD j hd) hj
        rw [hun] at this
        cases this
      have hnot : ∀ e ∈ oj.after, Region.binds md e = true → e.on ≠ i := fun e he hb heq => by
        have h1 := hall e he hb
        rw [heq, hun] at h1
        cases h1
      have h2 := wpOp_putIf hoj (hfree j oj hoj hji hjun hnot) (fun cs b => hsel i oi cs b hi) (fun cs b => hsel j oj cs b hoj) hQ hy h1
      have hfree' : ∀ k ok, ops[k]? = some ok → k ≠ i → (listed.setIfInBounds j true).getD k true = false →
          (∀ e ∈ ok.after, Region.binds md e = true → e.on ≠ i) → oi.apart ops ok = true := fun k ok hk hki hun hno => by
        refine hfree k ok hk hki ?_ hno
        by_cases hjk : j = k
        · subst hjk; exact hjun
        · rw [getD_set_ne true hjk] at hun; exact hun
      refine wpOp_mono (fun a' w' h3 => ⟨h3.2.1, ih (listed.setIfInBounds j true) a' w' hfree' (ready_mono hr (Ne.symm hji)) h3.1 (h3.2.1 hjD) ?_⟩) h2
      rw [Array.setIfInBounds_comm _ _ hji]
      exact h3.2.2

/-- Operation i is taken first: it yields v wherever S holds. -/
theorem wpAnyD_take {i : Nat} {oi : Oper} {v : Value} {fuel : Nat} {listed : Array Bool} {a : Act} {w : World} (hi : ops[i]? = some oi)
    (hs : Region.noSelect ops = true) (hf : Region.free md ops listed i = true) (hr : (Region.ready md ops listed).contains i = true) (hD : D.all (waitsB md ops i) = true)
    (hQ : ∀ c a w, Q (.panic c) (a.put oi.dst v) w → Q (.panic c) a w) (hS : S w) (hy : YieldsIf P ops S oi v a)
    (h : wpAnyD P md ops Q S D fuel (listed.setIfInBounds i true) (a.put oi.dst v) w) : wpAnyD P md ops Q S D (fuel + 1) listed a w :=
  wpAnyD_first hi (Region.noSelect_spec hs) hQ (fun d hd => List.all_eq_true.1 hD d hd) fuel listed a w (Region.free_spec hi hf) (by simpa using hr) hy hS h

/-- Operation i alone may come up. -/
theorem wpAnyD_step {i : Nat} {oi : Oper} {fuel : Nat} {listed : Array Bool} {a : Act} {w : World} (hr : Region.ready md ops listed = [i]) (hi : ops[i]? = some oi)
    (h : if Region.wanted oi (yielded ops a.tmps) = true then Oper.wp P oi a w (fun a' w' => (i ∉ D → S w') ∧ wpAnyD P md ops Q S D fuel (listed.setIfInBounds i true) a' w') Q else (i ∉ D → S w) ∧ wpAnyD P md ops Q S D fuel (listed.setIfInBounds i true) (a.put oi.dst undef) w) : wpAnyD P md ops Q S D (fuel + 1) listed a w := by
  refine ⟨fun h0 => (by rw [hr] at h0; cases h0), fun j hj => ?_⟩
  rw [hr] at hj
  obtain rfl : j = i := by simpa using hj
  unfold wpOp
  simp only [hi]
  split
  · rename_i hw; rw [if_pos hw] at h; exact .inl h
  · rename_i hw; rw [if_neg hw] at h; exact h

theorem wpAnyD_done {listed : Array Bool} {a : Act} {w : World} (hr : Region.ready md ops listed = []) (h : Q .normal a w) :
    ∀ fuel, wpAnyD P md ops Q S D fuel listed a w
  | 0 => ⟨hr, h⟩
  | _ + 1 => ⟨fun _ => h, by rw [hr]; simp⟩

/-- The same, over a list. -/
theorem wpAnyD_takeL {l : List Oper} {i : Nat} {oi : Oper} {v : Value} {fuel : Nat} {listed : Array Bool} {a : Act} {w : World} (hi : l[i]? = some oi)
    (hs : Region.noSelect l.toArray = true) (hf : Region.free md l.toArray listed i = true) (hr : (Region.ready md l.toArray listed).contains i = true) (hD : D.all (waitsB md l.toArray i) = true)
    (hQ : ∀ c a w, Q (.panic c) (a.put oi.dst v) w → Q (.panic c) a w) (hS : S w) (hg : oi.guard = none) (hy : ∀ w, S w → (execOp a.eval oi).run P w = .ok (.value v) w)
    (h : wpAnyD P md l.toArray Q S D fuel (listed.setIfInBounds i true) (a.put oi.dst v) w) : wpAnyD P md l.toArray Q S D (fuel + 1) listed a w :=
  wpAnyD_take (by simpa using hi) hs hf hr hD hQ hS (.inl ⟨by simp [Region.wanted, hg], hy⟩) h
theorem wpAnyD_stepL {l : List Oper} {i : Nat} {oi : Oper} {fuel : Nat} {listed : Array Bool} {a : Act} {w : World} (hr : Region.ready md l.toArray listed = [i]) (hi : l[i]? = some oi)
    (h : ∀ K : Act → World → Prop, (∀ a' w', (i ∉ D → S w') → wpAnyD P md l.toArray Q S D fuel (listed.setIfInBounds i true) a' w' → K a' w') → if Region.wanted oi (yielded l.toArray a.tmps) = true then Oper.wp P oi a w K Q else K (a.put oi.dst undef) w) : wpAnyD P md l.toArray Q S D (fuel + 1) listed a w := by
  refine wpAnyD_step hr (by simpa using hi) ?_
  have := h (fun a' w' => (i ∉ D → S w') ∧ wpAnyD P md l.toArray Q S D fuel (listed.setIfInBounds i true) a' w') (fun a' w' h1 h2 => ⟨h1, h2⟩)
  exact this

theorem wp_region_D {id : Nat} {a : Act} {w : World} (S : World → Prop) (D : List Nat) (hm : P.follows .mixedOrders = true)
    (h : wpAnyD P .any ops Q S D ops.size (Array.replicate ops.size false) a w.drew) : (Code.region id ops true).wp P Q a w :=
  wp_region_any hm (wpAny_of_D _ _ _ _ h)
end
end Go.Proofs.Ytjiigabfdigkaaa


