import Derived.Test.YtgljglindgbjaaaGreatDoorG02
import Derived.Below
import Derived.Laws.World
import Derived.Test.YtgljglindgbjaaaGreatDoorG01
import Derived.Deep.RegionWith
import Derived.Deep.Cut
/- A world that is as another one but for some of its blocks. -/
namespace Go.Proofs.YtgljglindgbjaaaGreatDoor
open Go.RowKit

theorem hidb {p : Prop} (h : p) : Hid p := h

/-- Of the blocks that there were only those of S have turned. -/
structure But (S : Nat → Prop) (w w' : World) : Prop where
  os : w'.os = w.os
  tape : w'.tape = w.tape
  output : w'.output = w.output
  size : w.heap.size ≤ w'.heap.size
  block : ∀ k, k < w.heap.size → ¬ S k → w'.heap[k]? = w.heap[k]?

theorem But.refl (S : Nat → Prop) (w : World) : But S w w := ⟨rfl, rfl, rfl, Nat.le_refl _, fun _ _ _ => rfl⟩

theorem But.trans {S : Nat → Prop} {a b c : World} (h : But S a b) (k : But S b c) : But S a c :=
  ⟨k.os.trans h.os, k.tape.trans h.tape, k.output.trans h.output, Nat.le_trans h.size k.size, fun i hi hs => (k.block i (Nat.lt_of_lt_of_le hi h.size) hs).trans (h.block i hi hs)⟩

theorem But.of_below {S : Nat → Prop} {w w' : World} (h : Below w.heap.size w w') : But S w w' := ⟨h.os, h.tape, h.output, h.size, fun k hk _ => h.block k hk⟩

theorem But.mono {S S' : Nat → Prop} {w w' : World} (h : But S w w') (hS : ∀ k, k < w.heap.size → S k → S' k) : But S' w w' :=
  ⟨h.os, h.tape, h.output, h.size, fun k hk hs => h.block k hk fun hk' => hs (hS k hk hk')⟩

theorem But.alloc {S : Nat → Prop} {a w : World} (h : But S a w) (o : Obj) : But S a (w.alloc o) :=
  h.trans ⟨rfl, rfl, rfl, by simp, fun k hk _ => Below.heap_alloc _ _ _ hk⟩

theorem But.setCell {S : Nat → Prop} {a w : World} (h : But S a w) {p : Addr} (hp : p.block < a.heap.size → S p.block) (u : Value) : But S a (w.setCell p u) :=
  ⟨h.os, h.tape, h.output, by simp [World.setCell]; exact h.size, fun k hk hs => (Below.heap_setCell w p u k (fun e => hs (e ▸ hp (e ▸ hk)))).trans (h.block k hk hs)⟩

theorem But.drew {S : Nat → Prop} {a w : World} (h : But S a w) : But S a w.drew := ⟨h.os, h.tape, h.output, h.size, h.block⟩

theorem But.below {S : Nat → Prop} {B : Nat} {w w' : World} (h : But S w w') (hB : B ≤ w.heap.size) (hS : ∀ k, S k → B ≤ k) : Below B w w' :=
  ⟨h.os, h.tape, h.output, h.size, fun k hk => h.block k (Nat.lt_of_lt_of_le hk hB) fun hs => absurd (hS k hs) (by omega)⟩

theorem But.cell {S : Nat → Prop} {w w' : World} (h : But S w w') {p : Addr} (hp : p.block < w.heap.size) (hs : ¬ S p.block) : w'.cell? p = w.cell? p := World.cell?_of_block (w := w) (h.block p.block hp hs)

theorem But.frozen {S : Nat → Prop} {w w' : World} (h : But S w w') {p : Addr} (hp : p.block < w.heap.size) (hs : ¬ S p.block) : w'.frozen? p = w.frozen? p := World.frozen?_of_block (w := w) (h.block p.block hp hs)

theorem undrew {w w' : World} (h : Below w.drew.heap.size w.drew w') : Below w.heap.size w w' := ⟨h.os, h.tape, h.output, h.size, h.block⟩

/-- Three cells of a block, not frozen. -/
structure Tri (w : World) (b : Nat) (v0 v1 v2 : Value) : Prop where
  c0 : w.cell? ⟨b, 0, none⟩ = some v0
  c1 : w.cell? ⟨b, 1, none⟩ = some v1
  c2 : w.cell? ⟨b, 2, none⟩ = some v2
  f0 : w.frozen? ⟨b, 0, none⟩ = false
  f1 : w.frozen? ⟨b, 1, none⟩ = false
  f2 : w.frozen? ⟨b, 2, none⟩ = false
  lt : b < w.heap.size

theorem Tri.new (w : World) (t : TypeId) (v0 v1 v2 : Value) : Tri (w.alloc (.cells #[v0, v1, v2] t)) w.heap.size v0 v1 v2 :=
  ⟨by rw [World.cell?_alloc_new]; rfl, by rw [World.cell?_alloc_new]; rfl, by rw [World.cell?_alloc_new]; rfl, World.frozen?_alloc_new _ _ _ _, World.frozen?_alloc_new _ _ _ _, World.frozen?_alloc_new _ _ _ _, by simp⟩

theorem Tri.but {S : Nat → Prop} {w w' : World} {b : Nat} {v0 v1 v2 : Value} (h : Tri w b v0 v1 v2) (hb : But S w w') (hs : ¬ S b) : Tri w' b v0 v1 v2 :=
  ⟨(hb.cell h.lt hs).trans h.c0, (hb.cell h.lt hs).trans h.c1, (hb.cell h.lt hs).trans h.c2, (hb.frozen h.lt hs).trans h.f0, (hb.frozen h.lt hs).trans h.f1, (hb.frozen h.lt hs).trans h.f2, Nat.lt_of_lt_of_le h.lt hb.size⟩

theorem Tri.keep {w w' : World} {b : Nat} {v0 v1 v2 : Value} (h : Tri w b v0 v1 v2) (hb : Below w.heap.size w w') : Tri w' b v0 v1 v2 :=
  h.but (But.of_below (S := fun _ => False) hb) (fun h => h)

theorem ne_off3 (b i j : Nat) (h : i ≠ j) : (⟨b, i, none⟩ : Addr) ≠ ⟨b, j, none⟩ := by intro e; injection e with _ e2 _; exact h e2

theorem Tri.set0 {w : World} {b : Nat} {v0 v1 v2 : Value} (h : Tri w b v0 v1 v2) (u : Value) : Tri (w.setCell ⟨b, 0, none⟩ u) b u v1 v2 :=
  ⟨World.cell?_setCell_same _ _ _ h.c0, by rw [World.cell?_setCell_other _ _ _ _ (ne_off3 _ _ _ (by decide))]; exact h.c1, by rw [World.cell?_setCell_other _ _ _ _ (ne_off3 _ _ _ (by decide))]; exact h.c2, by rw [World.frozen?_setCell]; exact h.f0, by rw [World.frozen?_setCell]; exact h.f1, by rw [World.frozen?_setCell]; exact h.f2, by simp [World.setCell]; exact h.lt⟩
theorem Tri.set1 {w : World} {b : Nat} {v0 v1 v2 : Value} (h : Tri w b v0 v1 v2) (u : Value) : Tri (w.setCell ⟨b, 1, none⟩ u) b v0 u v2 :=
  ⟨by rw [World.cell?_setCell_other _ _ _ _ (ne_off3 _ _ _ (by decide))]; exact h.c0, World.cell?_setCell_same _ _ _ h.c1, by rw [World.cell?_setCell_other _ _ _ _ (ne_off3 _ _ _ (by decide))]; exact h.c2, by rw [World.frozen?_setCell]; exact h.f0, by rw [World.frozen?_setCell]; exact h.f1, by rw [World.frozen?_setCell]; exact h.f2, by simp [World.setCell]; exact h.lt⟩
theorem Tri.set2 {w : World} {b : Nat} {v0 v1 v2 : Value} (h : Tri w b v0 v1 v2) (u : Value) : Tri (w.setCell ⟨b, 2, none⟩ u) b v0 v1 u :=
  ⟨by rw [World.cell?_setCell_other _ _ _ _ (ne_off3 _ _ _ (by decide))]; exact h.c0, by rw [World.cell?_setCell_other _ _ _ _ (ne_off3 _ _ _ (by decide))]; exact h.c1, World.cell?_setCell_same _ _ _ h.c2, by rw [World.frozen?_setCell]; exact h.f0, by rw [World.frozen?_setCell]; exact h.f1, by rw [World.frozen?_setCell]; exact h.f2, by simp [World.setCell]; exact h.lt⟩

theorem ne_blk3 (b c i j : Nat) (h : b ≠ c) : (⟨b, i, none⟩ : Addr) ≠ ⟨c, j, none⟩ := by intro e; injection e with e2 _ _; exact h e2

theorem Box.other1 {w : World} {b c i : Nat} {v0 v1 v2 v3 v4 : Value} (h : Box w b v0 v1 v2 v3 v4) (hne : c ≠ b) (u : Value) : Box (w.setCell ⟨c, i, none⟩ u) b v0 v1 v2 v3 v4 :=
  ⟨(World.cell?_setCell_other _ _ _ _ (ne_blk3 _ _ _ _ hne)).trans h.c0, (World.cell?_setCell_other _ _ _ _ (ne_blk3 _ _ _ _ hne)).trans h.c1, (World.cell?_setCell_other _ _ _ _ (ne_blk3 _ _ _ _ hne)).trans h.c2, (World.cell?_setCell_other _ _ _ _ (ne_blk3 _ _ _ _ hne)).trans h.c3, (World.cell?_setCell_other _ _ _ _ (ne_blk3 _ _ _ _ hne)).trans h.c4, by rw [World.frozen?_setCell]; exact h.f0, by rw [World.frozen?_setCell]; exact h.f1, by rw [World.frozen?_setCell]; exact h.f2, by rw [World.frozen?_setCell]; exact h.f3, by rw [World.frozen?_setCell]; exact h.f4, by simp [World.setCell]; exact h.lt⟩

theorem Box.but {S : Nat → Prop} {w w' : World} {b : Nat} {v0 v1 v2 v3 v4 : Value} (h : Box w b v0 v1 v2 v3 v4) (hb : But S w w') (hs : ¬ S b) : Box w' b v0 v1 v2 v3 v4 :=
  ⟨(hb.cell h.lt hs).trans h.c0, (hb.cell h.lt hs).trans h.c1, (hb.cell h.lt hs).trans h.c2, (hb.cell h.lt hs).trans h.c3, (hb.cell h.lt hs).trans h.c4, (hb.frozen h.lt hs).trans h.f0, (hb.frozen h.lt hs).trans h.f1, (hb.frozen h.lt hs).trans h.f2, (hb.frozen h.lt hs).trans h.f3, (hb.frozen h.lt hs).trans h.f4, Nat.lt_of_lt_of_le h.lt hb.size⟩

/-- Two cells of a block, not frozen. -/
structure Duo (w : World) (b : Nat) (v0 v1 : Value) : Prop where
  c0 : w.cell? ⟨b, 0, none⟩ = some v0
  c1 : w.cell? ⟨b, 1, none⟩ = some v1
  f0 : w.frozen? ⟨b, 0, none⟩ = false
  f1 : w.frozen? ⟨b, 1, none⟩ = false
  lt : b < w.heap.size

theorem Duo.new (w : World) (t : TypeId) (v0 v1 : Value) : Duo (w.alloc (.cells #[v0, v1] t)) w.heap.size v0 v1 :=
  ⟨by rw [World.cell?_alloc_new]; rfl, by rw [World.cell?_alloc_new]; rfl, World.frozen?_alloc_new _ _ _ _, World.frozen?_alloc_new _ _ _ _, by simp⟩

theorem Duo.but {S : Nat → Prop} {w w' : World} {b : Nat} {v0 v1 : Value} (h : Duo w b v0 v1) (hb : But S w w') (hs : ¬ S b) : Duo w' b v0 v1 :=
  ⟨(hb.cell h.lt hs).trans h.c0, (hb.cell h.lt hs).trans h.c1, (hb.frozen h.lt hs).trans h.f0, (hb.frozen h.lt hs).trans h.f1, Nat.lt_of_lt_of_le h.lt hb.size⟩

theorem Duo.keep {w w' : World} {b : Nat} {v0 v1 : Value} (h : Duo w b v0 v1) (hb : Below w.heap.size w w') : Duo w' b v0 v1 :=
  h.but (But.of_below (S := fun _ => False) hb) (fun h => h)

theorem Duo.set0 {w : World} {b : Nat} {v0 v1 : Value} (h : Duo w b v0 v1) (u : Value) : Duo (w.setCell ⟨b, 0, none⟩ u) b u v1 :=
  ⟨World.cell?_setCell_same _ _ _ h.c0, by rw [World.cell?_setCell_other _ _ _ _ (ne_off3 _ _ _ (by decide))]; exact h.c1, by rw [World.frozen?_setCell]; exact h.f0, by rw [World.frozen?_setCell]; exact h.f1, by simp [World.setCell]; exact h.lt⟩
theorem Duo.set1 {w : World} {b : Nat} {v0 v1 : Value} (h : Duo w b v0 v1) (u : Value) : Duo (w.setCell ⟨b, 1, none⟩ u) b v0 u :=
  ⟨by rw [World.cell?_setCell_other _ _ _ _ (ne_off3 _ _ _ (by decide))]; exact h.c0, World.cell?_setCell_same _ _ _ h.c1, by rw [World.frozen?_setCell]; exact h.f0, by rw [World.frozen?_setCell]; exact h.f1, by simp [World.setCell]; exact h.lt⟩
end Go.Proofs.YtgljglindgbjaaaGreatDoor


/- The program's walk over a term, by induction on the tree. -/
namespace Go.Proofs.YtgljglindgbjaaaGreatDoor
open Go.RowKit Go.Deep
attribute [local go_sem] store_float
attribute [local go_sem ↓] Go.wp_at_zero Go.wp_at_succ

theorem own_le (k : Int) {l : Nat} (h : l ≤ 400000) : own k l ≤ 800002 := by
  unfold own
  repeat' split
  all_goals omega

/-- What a walk has counted, when it goes on, is within the limits. -/
def Fits (st : St) : Prop := 0 ≤ st.1 ∧ st.1 ≤ 65536 ∧ 0 ≤ st.2.1 ∧ st.2.1 ≤ 200

theorem over_fits (good : Tr → Bool) : ∀ (t : Tr) (d : Int) (st : St), Fits st → 0 ≤ d → (over good t d st).1 = true → Fits (over good t d st).2 := by
  refine Tr.ind fun k n f s a c kids hk d st hst hd h => ?_
  have hall : ∀ (d : Int) (st : St), Fits st → 0 ≤ d → (overAll good kids d st).1 = true → Fits (overAll good kids d st).2 := by
    clear h hst hd d st
    induction kids with
    | nil => intro d st hst _ _; simpa only [overAll] using hst
    | cons t r ih =>
      intro d st hst hd h
      simp only [overAll] at h ⊢
      by_cases hc : (over good t d st).1 = true
      · rw [if_pos hc] at h ⊢
        exact ih (fun u hu => hk u (List.mem_cons_of_mem _ hu)) d _ (hk t (List.mem_cons_self ..) d st hst hd hc) hd h
      · rw [if_neg hc] at h; simp at h
  simp only [over] at h ⊢
  have ho := own_nonneg k kids.length
  obtain ⟨q1, q2, q3, q4⟩ := hst
  by_cases hbig : st.1 + own k kids.length > 65536 ∨ max st.2.1 d > 200
  · rw [if_pos hbig] at h; simp at h
  · rw [if_neg hbig] at h ⊢
    exact hall _ _ ⟨by simp only; omega, by simp only; omega, by simp only; omega, by simp only; omega⟩ (by omega) h

/-- Where a walk counts. -/
abbrev Cnt (w : World) (b : Nat) (st : St) : Prop := Tri w b (.int .i64 st.1) (.int .i64 st.2.1) (.bool st.2.2)

/-- The kinds' own look at a term tells 'good'. -/
def Looks (good : Tr → Bool) : Prop := ∀ (k n : Int) (f : Nat) (s : ByteArray) (a : Option Addr) (c : Nat) (kids : List Tr), (Tr.mk k n f s a c kids).fit → ∀ (w : World),
  Calls Tryz.prog (fright k) #[.agg #[], .agg #[.int .i64 k, .int .i64 n, .float .f64 f, .string s, .slice a kids.length c]] w fun e w' => e = .returned (.bool (good (.mk k n f s a c kids))) ∧ Below w.heap.size w w'

set_option maxHeartbeats 1600000 in
set_option maxRecDepth 100000 in
theorem over_any (good : Tr → Bool) (hg : Looks good) (w0 : World) : ∀ (t : Tr), t.In w0 0 → Small t → ∀ (d : Int) (st : St) (w : World) (b : Nat), w0.heap.size ≤ b → Below w0.heap.size w0 w → Cnt w b st → 1 ≤ d → d ≤ 201 → 0 ≤ st.1 → st.1 ≤ 65536 → 0 ≤ st.2.1 → st.2.1 ≤ 200 →
    Calls Tryz.prog 172 #[.pointer (some ⟨b, 0, none⟩), t.val, .int .i64 d] w fun e w' => e = .returned (.bool (over good t d st).1) ∧ Cnt w' b (over good t d st).2 ∧ But (· = b) w w' := by
  refine Tr.ind fun k n f s a c kids hk => ?_
  rintro hin hsm d ⟨W, D, bad⟩ w b hb hB hC h1 h2 h3 h4 h5 h6
  show Calls Tryz.prog 172 #[.pointer (some ⟨b, 0, none⟩), .agg #[.int .i64 k, .int .i64 n, .float .f64 f, .string s, .slice a kids.length c], .int .i64 d] w _
  generalize hR : over good (Tr.mk k n f s a c kids) d (W, D, bad) = R
  simp only [over] at hR
  have HR := hidb hR
  clear hR
  have HC := hidb hC
  clear hC
  have hml : kids.length ≤ 400000 := by unfold Small at hsm; exact hsm.1
  have hm := method_words k
  have hr := method_right k
  have hcw := call_words k
  have hcr := call_right k
  have ho := own_nonneg k kids.length
  have ho2 := own_le k hml
  have hww : wrap64 (W + own k kids.length) = W + own k kids.length := by unfold wrap64; omega
  have hwd : wrap64 (d + 1) = d + 1 := by unfold wrap64; omega
  have HK := hidb hk
  have HIN := hidb hin
  have HSM := hidb hsm
  have HB := hidb hB
  clear hk hin hsm hB
  have hlt := HC.out.lt
  go_enter Tryz.func172, Tryz.ntmps172
  go_wp2_with fail
  refine (kindOf_any _ _ _ _ _ _ _ _).mono ?_
  rintro e w1 ⟨rfl, hb1⟩
  have HT1 := hidb ((Box.new w 27 (.int .i64 k) (.int .i64 n) (.float .f64 f) (.string s) (.slice a kids.length c)).keep hb1)
  have HC1 := hidb ((HC.out.keep (below_new w _)).keep hb1)
  have HU1 := hidb ((But.refl (· = b) w).alloc (.cells #[.int .i64 k, .int .i64 n, .float .f64 f, .string s, .slice a kids.length c] 27) |>.trans (But.of_below hb1))
  clear hb1
  obtain ⟨c0, c1, c2, f0, f1, f2, hlt1⟩ := HC1.out
  obtain ⟨d0, d1, d2, d3, d4, g0, g1, g2, g3, g4, ltr⟩ := HT1.out
  go_wp2_with fail
  go_cut [] from 10 (fun wc => But (· = b) w wc ∧ Cnt wc b (W + own k kids.length, D, bad) ∧ Box wc w.heap.size (.int .i64 k) (.int .i64 n) (.float .f64 f) (.string s) (.slice a kids.length c))
  case first =>
    go_region_with (refine (words_any _ _ _ _ _ _ _ (by omega) _).mono ?_; rintro e w2 ⟨rfl, hb2⟩; have HU2 := hidb (HU1.out.trans (But.of_below (undrew hb2))); have HC2 := hidb (HC1.out.keep (undrew hb2)); have HT2 := hidb (HT1.out.keep (undrew hb2)); obtain ⟨e0, e1, e2, q0, q1, q2, hlt2⟩ := HC2.out; obtain ⟨z0, z1, z2, z3, z4, y0, y1, y2, y3, y4, ltr2⟩ := HT2.out; clear hb2)
    all_goals
      have hww' : IntKind.i64.wrap (W + own k kids.length) = W + own k kids.length := by rw [IntKind.wrap_i64]; omega
      rw [hww']
      go_wp2_with fail
      go_meet
      case rel =>
        exact ⟨HU2.out.setCell (fun _ => rfl) _, HC2.out.set0 _, HT2.out.other1 (by omega) _⟩
  case rest =>
  have HU := hidb hcut.1
  have HD := hidb hcut.2.1
  have HT := hidb hcut.2.2
  clear HC1 HT1 HU1 c0 c1 c2 f0 f1 f2 hlt1 d0 d1 d2 d3 d4 g0 g1 g2 g3 g4 ltr hcut hm hcw
  obtain ⟨c0, c1, c2, f0, f1, f2, hlt1⟩ := HD.out
  go_step
  go_step
  go_cut [] from 10 (fun wd => But (· = b) w wd ∧ Cnt wd b (W + own k kids.length, max D d, bad) ∧ Box wd w.heap.size (.int .i64 k) (.int .i64 n) (.float .f64 f) (.string s) (.slice a kids.length c))
  case first =>
    by_cases hDd : D < d
    · go_wp2
      go_meet
      case rel =>
        have e : max D d = d := by omega
        rw [e]
        exact ⟨HU.out.setCell (fun _ => rfl) _, HD.out.set1 _, HT.out.other1 (by omega) _⟩
    · go_wp2
      go_meet
      case rel =>
        have e : max D d = D := by omega
        rw [e]
        exact ⟨HU.out.setCell (fun _ => rfl) _, HD.out.set1 _, HT.out.other1 (by omega) _⟩
  case rest =>
  clear HU HD HT c0 c1 c2 f0 f1 f2 hlt1
  have HU := hidb hcut.1
  have HD := hidb hcut.2.1
  have HT := hidb hcut.2.2
  clear hcut
  generalize hW' : W + own k kids.length = W' at *
  generalize hM : max D d = M at *
  obtain ⟨c0, c1, c2, f0, f1, f2, hlt1⟩ := HD.out
  by_cases hbig : W' > 65536 ∨ M > 200
  · have hr0 : (false, (W', M, bad)) = R := by have := HR.out; rwa [if_pos hbig] at this
    subst hr0
    by_cases hb1 : 65536 < W'
    · clear hbig
      go_wp2
      go_ret
      exact ⟨rfl, HD.out, HU.out⟩
    · have hb2 : 200 < M := by omega
      clear hbig
      go_wp2
      go_ret
      exact ⟨rfl, HD.out, HU.out⟩
  have HR2 := hidb (HR.out.symm.trans (if_neg hbig))
  have hb1 : ¬ 65536 < W' := by omega
  have hb2 : ¬ 200 < M := by omega
  have hd2 : d ≤ 200 := by omega
  clear hbig HR
  go_step
  go_step
  go_cut [] from 10 (fun we => But (· = b) w we ∧ Cnt we b (W', M, bad) ∧ Box we w.heap.size (.int .i64 k) (.int .i64 n) (.float .f64 f) (.string s) (.slice a kids.length c))
  case first =>
    go_wp2
    go_meet
    case rel => exact ⟨HU.out, HD.out, HT.out⟩
  case rest =>
  clear HU HD HT c0 c1 c2 f0 f1 f2 hlt1
  have HU := hidb hcut.1
  have HD := hidb hcut.2.1
  have HT := hidb hcut.2.2
  clear hcut
  obtain ⟨c0, c1, c2, f0, f1, f2, hlt1⟩ := HD.out
  go_step
  go_step
  go_cut [] from 10 (fun wf => But (· = b) w wf ∧ Cnt wf b (W', M, bad || !good (Tr.mk k n f s a c kids)) ∧ Box wf w.heap.size (.int .i64 k) (.int .i64 n) (.float .f64 f) (.string s) (.slice a kids.length c))
  case first =>
    have hfit : (Tr.mk k n f s a c kids).fit := by have := HIN.out; unfold Tr.In at this; exact this.1
    have HG := hidb (hg k n f s a c kids hfit)
    clear hfit
    obtain ⟨z0, z1, z2, z3, z4, y0, y1, y2, y3, y4, ltr2⟩ := HT.out
    cases bad with
    | true =>
      go_wp2
      go_meet
      case rel => exact ⟨HU.out.setCell (fun _ => rfl) _, HD.out.set2 _, HT.out.other1 (by omega) _⟩
    | false =>
      go_wp2_with fail
      refine (HG.out _).mono ?_
      rintro e w2 ⟨rfl, hb2⟩
      have HU2 := hidb (HU.out.trans (But.of_below hb2))
      have HC2 := hidb (HD.out.keep hb2)
      have HT2 := hidb (HT.out.keep hb2)
      clear c0 c1 c2 f0 f1 f2 hlt1 z0 z1 z2 z3 z4 y0 y1 y2 y3 y4 ltr2 hb2
      obtain ⟨c0, c1, c2, f0, f1, f2, hlt1⟩ := HC2.out
      go_wp2
      go_meet
      case rel => exact ⟨HU2.out.setCell (fun _ => rfl) _, HC2.out.set2 _, HT2.out.other1 (by omega) _⟩
  case rest =>
  clear HU HD HT c0 c1 c2 f0 f1 f2 hlt1
  have HU := hidb hcut.1
  have HD := hidb hcut.2.1
  have HT := hidb hcut.2.2
  clear hcut
  obtain ⟨z0, z1, z2, z3, z4, y0, y1, y2, y3, y4, ltr2⟩ := HT.out
  go_wp2_with fail
  go_loopw [65] (fun iv wr => ∃ (m : Nat) (st' : St), m ≤ kids.length ∧ iv = .int .i64 m ∧ overAll good (kids.drop m) (d + 1) st' = R ∧ Fits st' ∧ Cnt wr b st' ∧ But (· = b) w wr) (fun iv _ => kids.length - (intOf iv).toNat)
  case atStart =>
    refine ⟨0, _, by omega, rfl, ?_, ⟨?_, ?_, ?_, ?_⟩, HD.out, HU.out⟩
    · simpa using HR2.out.symm
    all_goals (simp only; omega)
  case round =>
    obtain ⟨m, ⟨W1, D1, bad1⟩, hm, rfl, hrest, hfits, hcn, hbut⟩ := hrel
    have HS := hidb hrest
    have HF := hidb hfits
    have HCR := hidb hcn
    have HUR := hidb hbut
    have HBR := hidb (HB.out.trans (hbut.below (by have := HB.out.size; omega) (by rintro x rfl; exact hb)))
    clear hrest hfits hcn hbut
    by_cases hml' : m < kids.length
    · have hmb : (m : Int) < (kids.length : Int) := by omega
      obtain ⟨b', o, rfl, hat⟩ := kid_at HIN.out (by omega)
      obtain ⟨k', n', f', s', a', c', kids', hu', hin', x0, x1, x2, x3, x4⟩ := hat m hml'
      have hlb : b' < w0.heap.size := World.block_lt_of_cell? w0 _ x0
      have v0 := (HBR.out.cell hlb).trans x0
      have v1 := (HBR.out.cell hlb).trans x1
      have v2 := (HBR.out.cell hlb).trans x2
      have v3 := (HBR.out.cell hlb).trans x3
      have v4 := (HBR.out.cell hlb).trans x4
      have hsk : Small (.mk k' n' f' s' a' c' kids') := by have := HSM.out; unfold Small at this; exact smallAll_get this.2 (List.mem_of_getElem? hu')
      have IH := hidb (HK.out _ (List.mem_of_getElem? hu') hin' hsk (d + 1) (W1, D1, bad1))
      have HUU := hidb hu'
      clear hu' hin' hat hsk x0 x1 x2 x3 x4
      have hmz : (0 : Int) ≤ (m : Int) := by omega
      go_wp2_with fail
      obtain ⟨t1, t2, t3, t4⟩ := HF.out
      refine (IH.out _ b hb ((HBR.out.alloc HBR.out.size _)) (HCR.out.keep (below_new wr _)) (by omega) (by omega) t1 t2 t3 t4).mono ?_
      have hstep : (if (over good (.mk k' n' f' s' a' c' kids') (d + 1) (W1, D1, bad1)).1 then overAll good (kids.drop (m + 1)) (d + 1) (over good (.mk k' n' f' s' a' c' kids') (d + 1) (W1, D1, bad1)).2 else (false, (over good (.mk k' n' f' s' a' c' kids') (d + 1) (W1, D1, bad1)).2)) = R := by
        have e := HS.out
        rw [drop_one HUU.out] at e
        simpa only [overAll] using e
      have hfit2 := over_fits good (.mk k' n' f' s' a' c' kids') (d + 1) (W1, D1, bad1) HF.out (by omega)
      generalize over good (.mk k' n' f' s' a' c' kids') (d + 1) (W1, D1, bad1) = X at hstep hfit2 ⊢
      obtain ⟨ok, st2⟩ := X
      clear t1 t2 t3 t4
      rintro e wz ⟨rfl, hcz, hbz⟩
      have HZ := hidb (((HUR.out.alloc _)).trans hbz)
      have HCZ := hidb hcz
      clear hcz hbz IH v0 v1 v2 v3 v4
      cases ok with
      | false =>
        simp only [Bool.false_eq_true, if_false] at hstep
        subst hstep
        go_wp2
        go_ret
        exact ⟨rfl, HCZ.out, HZ.out⟩
      | true =>
        simp only [if_true] at hstep
        have HS2 := hidb hstep
        have HF2 := hidb (hfit2 rfl)
        clear hstep hfit2
        go_wp2
        go_roundw
        case rel => exact ⟨m + 1, st2, by omega, by go_num, HS2.out, HF2.out, HCZ.out, HZ.out⟩
        case measure => simp [intOf]; omega
    · have hmn : ¬ (m : Int) < (kids.length : Int) := by omega
      go_wp2
      go_ret
      have e := HS.out
      rw [List.drop_of_length_le (by omega)] at e
      simp only [overAll] at e
      subst e
      exact ⟨rfl, HCR.out, HUR.out⟩
end Go.Proofs.YtgljglindgbjaaaGreatDoor


/- Small contracts of the program: how numbers are made, or refused, by the program. -/
namespace Go.Proofs.YtgljglindgbjaaaGreatDoor
open Go.RowKit
attribute [local go_sem] store_float

theorem isWhole_any (n : Int) (w : World) : Calls Tryz.prog 165 #[.int .i64 n] w fun e w' => e = .returned (.bool (whB n)) ∧ w' = w := by
  cases hb : whB n
  · rcases whB_no hb with h | h
    · clear hb
      go_enter Tryz.func165, Tryz.ntmps165
      go_wp2
      go_ret
      exact ⟨rfl, rfl⟩
    · have h2 : -576460752303423488 ≤ n := by omega
      clear hb
      go_enter Tryz.func165, Tryz.ntmps165
      go_wp2
      go_ret
      refine ⟨?_, rfl⟩
      simp
      omega
  · obtain ⟨h1, h2⟩ := whB_yes hb
    clear hb
    go_enter Tryz.func165, Tryz.ntmps165
    go_wp2
    go_ret
    refine ⟨?_, rfl⟩
    simp

theorem isFinite_any (u : Nat) (hu : u < 18446744073709551616) (w : World) : Calls Tryz.prog 167 #[.int .u64 u] w fun e w' => e = .returned (.bool (Flt.fin u)) ∧ w' = w := by
  have hx := Flt.and_exp u hu
  have hy := u64_and_nat u 9218868437227405312 hu (by decide)
  have hz : (bits .and .u64 (u : Int) 9218868437227405312 != 9218868437227405312) = Flt.fin u := by
    rw [show (9218868437227405312 : Int) = ((9218868437227405312 : Nat) : Int) from rfl, hy, Bool.eq_iff_iff]
    cases hf : Flt.fin u
    · have := hx.2 hf; rw [this]; simp
    · have : ¬ (u &&& 9218868437227405312 = 9218868437227405312) := fun h => by rw [hx.1 h] at hf; cases hf
      simp; omega
  clear hx hy
  go_enter Tryz.func167, Tryz.ntmps167
  go_wp2
  go_ret
  exact ⟨rfl, rfl⟩

theorem numInt_any (n : Int) (w : World) : Calls Tryz.prog 132 #[.int .i64 n] w fun e w' => e = .returned (.tuple #[.agg #[.int .i64 (numInt n).k, .int .i64 (numInt n).n, .float .f64 (numInt n).f, .string ⟨#[]⟩, .slice none 0 0], .int .i64 (numInt n).e]) ∧ Below w.heap.size w w' := by
  cases hb : whB n
  · have e : numInt n = ⟨0, 0, 0, 12⟩ := by simp [numInt, hb]
    rw [e]; clear e
    go_enter Tryz.func132, Tryz.ntmps132
    go_wp2_with (go_at_call 165; refine (isWhole_any _ _).mono ?_; rintro e w' ⟨rfl, rfl⟩)
    exact bodyPost_ret (v := .tuple #[.agg #[.int .i64 0, .int .i64 0, .float .f64 0, .string ⟨#[]⟩, .slice none 0 0], .int .i64 12]) (by simp [results, Tryz.results132, go_sem]) rfl ⟨rfl, (Below.refl _ _).alloc (Nat.le_refl _) _⟩
  · have e : numInt n = ⟨1, n, 0, 0⟩ := by simp [numInt, hb]
    rw [e]; clear e
    go_enter Tryz.func132, Tryz.ntmps132
    go_wp2_with (go_at_call 165; refine (isWhole_any _ _).mono ?_; rintro e w' ⟨rfl, rfl⟩)
    exact bodyPost_ret (v := .tuple #[.agg #[.int .i64 1, .int .i64 n, .float .f64 0, .string ⟨#[]⟩, .slice none 0 0], .int .i64 0]) (by simp [results, Tryz.results132, go_sem]) rfl ⟨rfl, (Below.refl _ _).alloc (Nat.le_refl _) _⟩

theorem numBits_any (u : Nat) (hu : u < 18446744073709551616) (w : World) : Calls Tryz.prog 134 #[.int .u64 u] w fun e w' => e = .returned (.tuple #[.agg #[.int .i64 (numBits u).k, .int .i64 (numBits u).n, .float .f64 (numBits u).f, .string ⟨#[]⟩, .slice none 0 0], .int .i64 (numBits u).e]) ∧ Below w.heap.size w w' := by
  have hf := f64frombits
  cases hb : Flt.fin u
  · have e : numBits u = ⟨0, 0, 0, 11⟩ := by simp [numBits, hb]
    rw [e]; clear e
    go_enter Tryz.func134, Tryz.ntmps134
    go_wp2_with (go_at_call 167; refine (isFinite_any _ hu _).mono ?_; rintro e w' ⟨rfl, rfl⟩)
    exact bodyPost_ret (v := .tuple #[.agg #[.int .i64 0, .int .i64 0, .float .f64 0, .string ⟨#[]⟩, .slice none 0 0], .int .i64 11]) (by simp [results, Tryz.results134, go_sem]) rfl ⟨rfl, (Below.refl _ _).alloc (Nat.le_refl _) _⟩
  · have e : numBits u = ⟨2, 0, u, 0⟩ := by simp [numBits, hb]
    rw [e]; clear e
    go_enter Tryz.func134, Tryz.ntmps134
    go_wp2_with (go_at_call 167; refine (isFinite_any _ hu _).mono ?_; rintro e w' ⟨rfl, rfl⟩)
    exact bodyPost_ret (v := .tuple #[.agg #[.int .i64 2, .int .i64 0, .float .f64 u, .string ⟨#[]⟩, .slice none 0 0], .int .i64 0]) (by simp [results, Tryz.results134, go_sem]) rfl ⟨rfl, (Below.refl _ _).alloc (Nat.le_refl _) _⟩

theorem numFloat_any (x : Nat) (hu : x < 18446744073709551616) (w : World) : Calls Tryz.prog 151 #[.float .f64 x] w fun e w' => e = .returned (.tuple #[.agg #[.int .i64 (numBits x).k, .int .i64 (numBits x).n, .float .f64 (numBits x).f, .string ⟨#[]⟩, .slice none 0 0], .int .i64 (numBits x).e]) ∧ Below w.heap.size w w' := by
  have hf := f64bits
  go_enter Tryz.func151, Tryz.ntmps151
  go_wp2_with fail
  refine (numBits_any x hu _).mono ?_
  rintro e w1 ⟨rfl, hb⟩
  obtain ⟨hc, hfr⟩ := bcell hb
  have hz := hb.size
  go_wp2
  exact bodyPost_ret (v := .tuple #[.agg #[.int .i64 ((numBits x).k), .int .i64 ((numBits x).n), .float .f64 ((numBits x).f), .string ⟨#[]⟩, .slice none 0 0], .int .i64 (numBits x).e]) (by simp [results, Tryz.results151, go_sem, hc]) rfl ⟨rfl, below_ret hb _ _ _ _ _⟩

end Go.Proofs.YtgljglindgbjaaaGreatDoor


