import Derived.Test.YtceigdeoefhcfaaGreatG32
import Derived.Test.YtceigdeoefhcfaaGreatG34
import Derived.Test.YtceigdeoefhcfaaGreatG35
import Derived.Test.YtceigdeoefhcfaaGreatG36
import Derived.Deep.RegionHeld3
import Derived.Deep.RegionWith
import Derived.BigQuiet
import Derived.WalkSmall
import Derived.Test.YtceigdeoefhcfaaGreatG33
import Derived.Deep.OwnRows
/- MonsDown: any move, walked. -/
namespace Go.Proofs.YtceigdeoefhcfaaGreat
open Go.RowKit Go.Lib
open MV (Hf hf0 getL insL delL Rise Wfk TB Nw Rst KV MnT mvs)
attribute [local go_sem] store_float f64bits
attribute [local go_sem ↓] Go.wp_at_zero Go.wp_at_succ

variable {Yg : Nat → Prop} {wG : World} {w0 w w' : World} {wb ta tb eb N refs : Nat} {O T O' T' : List KV} {p q : List Sg} {dead : Bool} {dn : List Nat}
theorem does4_some {g : Int → Prop} {i : Nat} {s : Sg} (h : DL Yg wG NoX w0 w wb ta tb eb O T (s :: p) q dead refs dn N) (hi : Iv g i O T (s :: p) q dead refs dn N) (hN : i ≤ 3000) (rf : Int) :
    Calls Tryz.prog 7 #[.pointer (some ⟨wb, 0, none⟩), .agg #[.int .i64 4, .int .i64 rf]] w (DoQ Yg wG g i p.length (q.length + 1) w0 wb ta tb eb) := by
  have hf := hi.bs.fp s (List.mem_cons_self ..)
  obtain ⟨k, r, tk, ts⟩ := s
  simp only at hf
  obtain ⟨hk, rfl, rfl, -, -⟩ := hf
  rcases hk with rfl | rfl <;> cases dead
  · exact does4_ma h hi hN rf
  · exact does4_md h hi hN rf
  · exact does4_xa h hi hN rf
  · exact does4_xd h hi hN rf

set_option maxRecDepth 100000 in
set_option maxHeartbeats 8000000 in
theorem does_other {g : Int → Prop} {i : Nat} (h : DL Yg wG NoX w0 w wb ta tb eb O T p q dead refs dn N) (hi : Iv g i O T p q dead refs dn N) (op rf : Int) (h1 : op ≠ 1) (h2 : op ≠ 2) (h3 : op ≠ 3) (h4 : op ≠ 4) (h5 : op ≠ 5) :
    Calls Tryz.prog 7 #[.pointer (some ⟨wb, 0, none⟩), .agg #[.int .i64 op, .int .i64 rf]] w (DoR Yg wG g (i + 1) w0 wb ta tb eb) := by
  have d1 : (op == 1) = false := by simpa using h1
  have d2 : (op == 2) = false := by simpa using h2
  have d3 : (op == 3) = false := by simpa using h3
  have d4 : (op == 4) = false := by simpa using h4
  have d5 : (op == 5) = false := by simpa using h5
  have HD := hidb h
  have HI := hidb hi.next
  clear h hi h1 h2 h3 h4 h5
  go_enter Tryz.func7, Tryz.ntmps7
  go_wp2_with fail
  exact bodyPost_end (v := .tuple #[]) (by simp [results, Tryz.results7, go_sem]) rfl ⟨rfl, _, _, _, _, _, _, _, _, HD.out.keep (by (repeat (first | exact Below.refl _ _ | assumption | refine Below.drew ?_ | refine below_drewN ?_ _ | refine Below.setCell ?_ (by simp) _ | refine Below.alloc ?_ (by (first | exact Nat.le_refl _ | (simp; done) | (simp; omega) | omega)) _ | refine Below.trans ?_ (Below.mono (by assumption) (by first | exact Nat.le_refl _ | (simp; done) | (simp; omega) | omega))))), HI.out⟩

theorem does_any {g : Int → Prop} {i : Nat} (h : DL Yg wG NoX w0 w wb ta tb eb O T p q dead refs dn N) (hi : Iv g i O T p q dead refs dn N) (hN : i ≤ 3000) (op rf : Int) (hg : op = 2 → isK rf O = true → g rf) :
    Calls Tryz.prog 7 #[.pointer (some ⟨wb, 0, none⟩), .agg #[.int .i64 op, .int .i64 rf]] w (DoR Yg wG g (i + 1) w0 wb ta tb eb) := by
  by_cases h1 : op = 1
  · subst h1; exact does1 h hi hN rf
  by_cases h2 : op = 2
  · subst h2; exact does2 h hi hN rf (hg rfl)
  by_cases h3 : op = 3
  · subst h3
    cases q with
    | nil => exact (does3_none h hi rf).mono (fun _ _ hh => hh.r)
    | cons s q => exact (does3_some h hi hN rf).mono (fun _ _ hh => hh.r)
  by_cases h4 : op = 4
  · subst h4
    cases p with
    | nil => exact (does4_none h hi rf).mono (fun _ _ hh => hh.r)
    | cons s p => exact (does4_some h hi hN rf).mono (fun _ _ hh => hh.r)
  by_cases h5 : op = 5
  · subst h5
    cases dead with
    | false => exact does5_live h hi hN rf
    | true => exact does5_dead h hi rf
  exact does_other h hi op rf h1 h2 h3 h4 h5

/-- What is left to take in. -/
def left (p q : List Sg) : Nat := 2 * p.length + q.length
theorem does3_q {g : Int → Prop} {i : Nat} (h : DL Yg wG NoX w0 w wb ta tb eb O T p q dead refs dn N) (hi : Iv g i O T p q dead refs dn N) (hN : i ≤ 3000) (rf : Int) :
    Calls Tryz.prog 7 #[.pointer (some ⟨wb, 0, none⟩), .agg #[.int .i64 3, .int .i64 rf]] w (DoQ Yg wG g i p.length (q.length - 1) w0 wb ta tb eb) := by
  cases q with
  | nil => exact does3_none h hi rf
  | cons s q => exact does3_some h hi hN rf
theorem does4_q {g : Int → Prop} {i : Nat} (h : DL Yg wG NoX w0 w wb ta tb eb O T p q dead refs dn N) (hi : Iv g i O T p q dead refs dn N) (hN : i ≤ 3000) (rf : Int) :
    Calls Tryz.prog 7 #[.pointer (some ⟨wb, 0, none⟩), .agg #[.int .i64 4, .int .i64 rf]] w (DoQ Yg wG g i (p.length - 1) (q.length + min p.length 1) w0 wb ta tb eb) := by
  cases p with
  | nil => exact does4_none h hi rf
  | cons s p =>
    have e : min (s :: p).length 1 = 1 := by simp
    rw [e]
    exact does4_some h hi hN rf

/-- A block besides that is none of its own, and may be written. -/
theorem DL.of {G : Nat} (h : DM (fun k => k = G) w0 w wb ta tb eb O T p q dead refs dn N) : DL (fun k => k = G) w NoX w0 w wb ta tb eb O T p q dead refs dn N := by
  refine ⟨h.turn2 (Below.refl _ _) (fun k hk => hk.elim (fun e => .inl e) (fun e => e.elim)), But.refl _ _, fun k hk => ?_, fun k hk => hk.elim⟩
  obtain ⟨ow, mv, f, V, h1, h2, h3, h4, h5, h6, h7, h8, h9⟩ := h
  exact (h9.x k hk).2.2
theorem DL.to {G : Nat} (h : DL (fun k => k = G) wG NoX w0 w wb ta tb eb O T p q dead refs dn N) : DM (fun k => k = G) w0 w wb ta tb eb O T p q dead refs dn N ∧ But (fun k => k ≠ G) wG w :=
  ⟨h.1.turn2 (Below.refl _ _) (fun _ hk => .inl (.inl hk)), h.2.1⟩

/-- A row of moves. -/
def MC (w : World) (v : Value) (l : List (Int × Int)) : Prop :=
  ∃ q c, v = .slice q l.length c ∧ ∀ (j : Nat) x, l[j]? = some x → ∃ b o, q = some ⟨b, o, none⟩ ∧ w.cell? ⟨b, o + j * 2, none⟩ = some (.int .i64 x.1) ∧ w.cell? ⟨b, o + j * 2 + 1, none⟩ = some (.int .i64 x.2)
theorem newE (w : World) : Calls Tryz.prog 6 #[] w fun e w' => e = .returned (.pointer (some ⟨w.heap.size, 0, none⟩)) ∧ w' = w.alloc (.cells #[.map none, .int .i64 0] 57) := by
  go_enter Tryz.func6, Tryz.ntmps6
  go_wp2
  go_ret
  exact ⟨rfl, rfl⟩
theorem eo_new (w0 w : World) (hB : Below w0.heap.size w0 w) : EO w0 (w.alloc (.cells #[.map none, .int .i64 0] 57)) w.heap.size (.map none) (fun _ _ => none) 0 0 :=
  ⟨Duo.new _ _ _ _, .inl ⟨rfl, fun _ _ => rfl⟩, hB.size, fun a b l h => (by cases h), fun a b l a' b' l' h => (by cases h), hB.alloc hB.size _⟩

end Go.Proofs.YtceigdeoefhcfaaGreat


/- MonsDown: how it begins, the row of what was given up, a move of the play. -/
namespace Go.Proofs.YtceigdeoefhcfaaGreat
open Go.RowKit Go.Lib
open MV (Hf hf0 getL insL delL Rise Wfk TB Nw Rst KV MnT mvs)

variable {w0 w w' : World} {wb ta tb eb N refs G : Nat} {O T O' T' : List KV} {p q : List Sg} {dead : Bool} {dn : List Nat} {gs : List Bool}
/-- The row of what was given up. -/
def GR (w : World) (G : Nat) (gs : List Bool) : Prop := G < w.heap.size ∧ ∀ (n : Nat) (b : Bool), gs[n]? = some b → w.cell? ⟨G, n, none⟩ = some (.bool b) ∧ w.frozen? ⟨G, n, none⟩ = false
theorem GR.but {S : Nat → Prop} (h : GR w G gs) (hb : But S w w') (hs : ¬ S G) : GR w' G gs :=
  ⟨Nat.lt_of_lt_of_le h.1 hb.size, fun n b e => ⟨(hb.cell (p := ⟨G, n, none⟩) h.1 hs).trans (h.2 n b e).1, (hb.frozen (p := ⟨G, n, none⟩) h.1 hs).trans (h.2 n b e).2⟩⟩
theorem GR.new (w : World) (t : TypeId) (n : Nat) : GR (w.alloc (.cells (madeCells #[.bool false] n) t)) w.heap.size (List.replicate n false) := by
  refine ⟨by simp, fun j b e => ?_⟩
  rw [List.getElem?_replicate] at e
  split at e
  · rename_i hj
    obtain rfl : false = b := by simpa using e
    exact ⟨by rw [World.cell?_alloc_new]; simp [madeCells, hj, Nat.mod_one], World.frozen?_alloc_new _ _ _ _⟩
  · cases e
theorem GR.set (h : GR w G gs) {m : Nat} {c : Bool} (hm : gs[m]? = some c) (b : Bool) : GR (w.setCell ⟨G, m, none⟩ (.bool b)) G (gs.set m b) := by
  refine ⟨by have := h.1; simpa [World.setCell] using this, fun j x e => ?_⟩
  rw [World.frozen?_setCell]
  by_cases hj : m = j
  · subst hj
    have hl := (List.getElem?_eq_some_iff.1 hm).1
    rw [List.getElem?_set_self hl] at e
    obtain rfl : b = x := by simpa using e
    exact ⟨World.cell?_setCell_same _ _ _ (h.2 m c hm).1, (h.2 m c hm).2⟩
  · rw [List.getElem?_set_ne hj] at e
    exact ⟨(World.cell?_setCell_other _ _ _ _ (by intro e2; have e3 := congrArg Addr.off e2; simp only at e3; omega)).trans (h.2 j x e).1, (h.2 j x e).2⟩

/-- What was given up. -/
def gp (gs : List Bool) (r : Int) : Prop := ∃ m : Nat, r = (m : Int) ∧ gs[m]? = some true
theorem gp_set {m : Nat} {b c : Bool} (hm : gs[m]? = some c) (hb : c = true → b = true) (r : Int) (h : gp gs r) : gp (gs.set m b) r := by
  obtain ⟨k, e, hk⟩ := h
  refine ⟨k, e, ?_⟩
  by_cases hj : m = k
  · subst hj
    rw [List.getElem?_set_self (List.getElem?_eq_some_iff.1 hm).1]
    rw [hm] at hk
    rw [hb (by simpa using hk)]
  · rw [List.getElem?_set_ne hj]; exact hk
theorem gp_set_self {m : Nat} {c : Bool} (hm : gs[m]? = some c) : gp (gs.set m true) (m : Int) := ⟨m, rfl, List.getElem?_set_self (List.getElem?_eq_some_iff.1 hm).1⟩

theorem DM.xs {X : Nat → Prop} (h : DM X w0 w wb ta tb eb O T p q dead refs dn N) {k : Nat} (hk : X k) : w0.heap.size ≤ k ∧ k < w.heap.size := by obtain ⟨_, _, _, _, _, _, _, _, _, _, _, _, h⟩ := h; exact (h.x k hk).2
/-- How it begins. -/
theorem DM.start {w1 w2 w3 w4 : World} (t : TypeId) (o : Obj) (h1 : MTab w2 w1.heap.size (fun _ => False) [] []) (l1 : w1.heap.size < w2.heap.size) (h2 : MTab w3 w2.heap.size (fun _ => False) [] []) (b2 : Below w2.heap.size w2 w3) (l2 : w2.heap.size < w3.heap.size) (h3 : EO w1 w4 w3.heap.size (.map none) (fun _ _ => none) 0 0) (b3 : Below w3.heap.size w3 w4) (l3 : w3.heap.size < w4.heap.size) :
    DM (fun k => k = (w4.alloc (.cells #[.pointer (some ⟨w1.heap.size, 0, none⟩), .pointer (some ⟨w2.heap.size, 0, none⟩), .pointer (some ⟨w3.heap.size, 0, none⟩), .bool false, .int .i64 0, .slice none 0 0] t)).heap.size) w1 ((w4.alloc (.cells #[.pointer (some ⟨w1.heap.size, 0, none⟩), .pointer (some ⟨w2.heap.size, 0, none⟩), .pointer (some ⟨w3.heap.size, 0, none⟩), .bool false, .int .i64 0, .slice none 0 0] t)).alloc o) w4.heap.size w1.heap.size w2.heap.size w3.heap.size [] [] [] [] false 0 [] 0 := by
  generalize hW5 : w4.alloc (.cells #[.pointer (some ⟨w1.heap.size, 0, none⟩), .pointer (some ⟨w2.heap.size, 0, none⟩), .pointer (some ⟨w3.heap.size, 0, none⟩), .bool false, .int .i64 0, .slice none 0 0] t) = W5
  have hS : Sx W5 w4.heap.size (.pointer (some ⟨w1.heap.size, 0, none⟩)) (.pointer (some ⟨w2.heap.size, 0, none⟩)) (.pointer (some ⟨w3.heap.size, 0, none⟩)) (.bool false) (.int .i64 0) (.slice none 0 0) := hW5 ▸ Sx.new _ _ _ _ _ _ _ _
  have b4 : Below w4.heap.size w4 W5 := hW5 ▸ below_new _ _
  have b5 : Below W5.heap.size W5 (W5.alloc o) := below_new _ _
  have l4 : w4.heap.size < W5.heap.size := by rw [← hW5]; simp
  have l5 : W5.heap.size < (W5.alloc o).heap.size := by simp
  clear hW5
  generalize W5.alloc o = W6 at *
  have b36 : Below w3.heap.size w3 W6 := b3.trans ((b4.mono (by omega)).trans (b5.mono (by omega)))
  have b46 : Below w4.heap.size w4 W6 := b4.trans (b5.mono (by omega))
  have e2 : (fun k => (if k = w4.heap.size then 1 else if k = w1.heap.size then 2 else if k = w2.heap.size then 3 else if k = w3.heap.size then 4 else 0 : Nat) = 2 ∧ k ≠ w1.heap.size) = (fun _ => False) := by
    funext k
    apply propext
    constructor
    · rintro ⟨h, hn⟩
      repeat' (split at h)
      all_goals omega
    · exact fun h => h.elim
  have e3 : (fun k => (if k = w4.heap.size then 1 else if k = w1.heap.size then 2 else if k = w2.heap.size then 3 else if k = w3.heap.size then 4 else 0 : Nat) = 3 ∧ k ≠ w2.heap.size) = (fun _ => False) := by
    funext k
    apply propext
    constructor
    · rintro ⟨h, hn⟩
      repeat' (split at h)
      all_goals omega
    · exact fun h => h.elim
  refine ⟨fun k => if k = w4.heap.size then 1 else if k = w1.heap.size then 2 else if k = w2.heap.size then 3 else if k = w3.heap.size then 4 else 0, .map none, fun _ _ => none, .slice none 0 0, hS.but (S := fun _ => False) (But.of_below b5) id, ?_, ?_, h3.keep b46, .inl ⟨rfl, rfl⟩, .inl ⟨rfl, rfl⟩, fun _ _ _ _ => rfl, World.ownsRow_nil _ _ _ _, ⟨by simp, ?_, ?_, fun k hk => ?_, (fun g e => by cases e), fun k hk => ?_, fun k hk => ?_, fun k hk => ?_⟩⟩
  · rw [e2]; exact (h1.keep b2).keep b36
  · rw [e3]; exact h2.keep b36
  · show (if w1.heap.size = w4.heap.size then 1 else if w1.heap.size = w1.heap.size then 2 else _ : Nat) = 2
    rw [if_neg (by omega), if_pos rfl]
  · show (if w2.heap.size = w4.heap.size then 1 else if w2.heap.size = w1.heap.size then 2 else if w2.heap.size = w2.heap.size then 3 else _ : Nat) = 3
    rw [if_neg (by omega), if_neg (by omega), if_pos rfl]
  · rcases hk with rfl | e | ⟨a, b, l, hl, _⟩
    · show (if w3.heap.size = w4.heap.size then 1 else if w3.heap.size = w1.heap.size then 2 else if w3.heap.size = w2.heap.size then 3 else if w3.heap.size = w3.heap.size then 4 else _ : Nat) = 4
      rw [if_neg (by omega), if_neg (by omega), if_neg (by omega), if_pos rfl]
    · cases e
    · cases hl
  · try simp only at hk
    split at hk
    · omega
    · split at hk
      · omega
      · split at hk
        · omega
        · split at hk
          · omega
          · exact absurd rfl hk
  · try simp only
    rw [if_neg (by omega), if_neg (by omega), if_neg (by omega), if_neg (by omega)]
  · have hk' : k = W5.heap.size := hk
    try simp only
    rw [if_neg (by omega), if_neg (by omega), if_neg (by omega), if_neg (by omega)]
    omega
theorem Iv.start {g : Int → Prop} : Iv g 0 [] [] [] [] false 0 [] 0 :=
  ⟨⟨List.Pairwise.nil, List.Pairwise.nil, (by simp), (by simp), (by simp), (by simp), rfl, (by simp), (by simp [c6]), Nat.le_refl _, (by simp)⟩, fun _ => ⟨rfl, fun r => by simp [rn]⟩, fun h => by cases h⟩

/-- All of a play behind i moves. -/
def Pst (w1 w : World) (wb ta tb eb G n i : Nat) : Prop := ∃ gs O T p q dead refs dn N, gs.length = n ∧ GR w G gs ∧ DM (fun k => k = G) w1 w wb ta tb eb O T p q dead refs dn N ∧ Iv (gp gs) i O T p q dead refs dn N
theorem Pst.low {w1 : World} {n i : Nat} (h : Pst w1 w wb ta tb eb G n i) : Below w1.heap.size w1 w := by obtain ⟨_, _, _, _, _, _, _, _, _, _, _, h, _⟩ := h; exact h.low
end Go.Proofs.YtceigdeoefhcfaaGreat


