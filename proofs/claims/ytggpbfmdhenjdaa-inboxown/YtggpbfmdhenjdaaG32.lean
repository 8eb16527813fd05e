import Derived.Test.YtggpbfmdhenjdaaG30
import Derived.Test.YtggpbfmdhenjdaaG31
import Derived.Test.YtggpbfmdhenjdaaG26
import Derived.Test.YtggpbfmdhenjdaaG27
import Derived.Deep.DrawnRows
import Derived.OwnWalk
import Derived.Laws.OwnMore
import Derived.Test.YtggpbfmdhenjdaaG29
/- All: the terms are noted. -/
namespace Go.Proofs.Ytggpbfmdhenjdaa
open Go.RowKit Go.Shelf
attribute [local go_sem] store_float f64bits Oper.semAt_some
attribute [local go_sem ↓] Go.wp_at_zero Go.wp_at_succ

theorem OwnFrom.row {β : Type} {B C e size : Nat} (n : β → Nat) (v : β → Value) (f : β → List Value) : OwnFrom B (fun s W => W.ownsRow C e size (v s) (n s) (f s)) := by
  intro s A X row hs hg hr
  refine hs.kept hg ?_
  rcases hs.2 with ⟨hv, _⟩ | ⟨g, cap, cur, hv, _, hgg, _⟩
  · left; rw [hv]; rfl
  · right
    intro e
    rw [hv] at e
    obtain ⟨_, o, ho, hc⟩ := hr g (by rw [← e]; rfl)
    rw [hgg] at ho; cases ho; cases hc

theorem wpAnyD_twoL {P : Program} {md : Region.Mode} {Q : Exit → Act → World → Prop} {S : World → Prop} {D : List Nat} {l : List Oper} {i j : Nat} {oi oj : Oper} {fuel : Nat} {listed : Array Bool} {a : Act} {w : World} (hr : Region.ready md l.toArray listed = [i, j]) (hi : l[i]? = some oi) (hj : l[j]? = some oj)
    (h1 : ∀ K : Act → World → Prop, (∀ a' w', (i ∉ D → S w') → wpAnyD P md l.toArray Q S D fuel (listed.setIfInBounds i true) a' w' → K a' w') → if Region.wanted oi (yielded l.toArray a.tmps) = true then Oper.wp P oi a w K Q else K (a.put oi.dst undef) w)
    (h2 : ∀ K : Act → World → Prop, (∀ a' w', (j ∉ D → S w') → wpAnyD P md l.toArray Q S D fuel (listed.setIfInBounds j true) a' w' → K a' w') → if Region.wanted oj (yielded l.toArray a.tmps) = true then Oper.wp P oj a w K Q else K (a.put oj.dst undef) w) : wpAnyD P md l.toArray Q S D (fuel + 1) listed a w := by
  refine ⟨fun h0 => (by rw [hr] at h0; cases h0), fun k hk => ?_⟩
  rw [hr] at hk
  rcases List.mem_cons.1 hk with rfl | hk
  · have := h1 (fun a' w' => (k ∉ D → S w') ∧ wpAnyD P md l.toArray Q S D fuel (listed.setIfInBounds k true) a' w') (fun a' w' h1 h2 => ⟨h1, h2⟩)
    have hi' : l.toArray[k]? = some oi := by simpa using hi
    unfold wpOp
    simp only [hi']
    split
    · rename_i hw; rw [if_pos hw] at this; exact .inl this
    · rename_i hw; rw [if_neg hw] at this; exact this
  · obtain rfl : k = j := by simpa using hk
    have := h2 (fun a' w' => (k ∉ D → S w') ∧ wpAnyD P md l.toArray Q S D fuel (listed.setIfInBounds k true) a' w') (fun a' w' h1 h2 => ⟨h1, h2⟩)
    have hj' : l.toArray[k]? = some oj := by simpa using hj
    unfold wpOp
    simp only [hj']
    split
    · rename_i hw; rw [if_pos hw] at this; exact .inl this
    · rename_i hw; rw [if_neg hw] at this; exact this

theorem OwnFrom.taken {β : Type} {B : Nat} {I : β → World → Prop} (h : OwnFrom B I) {s : β} {W W' : World} {D : Nat} (hs : I s W) (hb : But (fun k => k ∈ [D]) W W') (hD : B ≤ D) (hK : W.heap[D]? = some (.deferred (some []))) : I s W' :=
  h s W W' (some D) hs ⟨hb.os, hb.tape, hb.output, hb.size, fun k hk hn => hb.block k hk (fun e => hn (by simpa using e))⟩ (fun r e => by cases e; exact ⟨hD, _, hK, rfl⟩)


theorem step_fits {P : Program} {w : World} {ops : Array Oper} {o : Oper} {a : Act} {K : Act → World → Prop} {Q : Exit → Act → World → Prop} {E : Prop} (hgd : o.guard = none) (s x : Operand) (t : TypeId)
    (ho : o.op = .call { callee := .builtin .append, args := #[s, x], argTypes := #[t, t] })
    (base : Nat) (e : TypeId) (i : TypeInfo) (size : Nat) (ht : P.underlying t = some (.slice e)) (hi : P.info? e = some i) (hsize : i.size = size)
    (g n cap : Nat) (xs : List Value) (hs : a.eval s = .slice (some ⟨g, 0, none⟩) n cap) (hown : w.ownsRow base e size (.slice (some ⟨g, 0, none⟩) n cap) n xs)
    (ad : Addr) (m c : Nat) (news : List Value) (hx : a.eval x = .slice (some ad) m c) (hl : news.length = m * size) (hnews : ∀ j u, news[j]? = some u → w.cell? (ad.add j) = some u) (h1 : ∀ u ∈ news, u.oneCell' = true) (hroom : n + m ≤ cap)
    (h : ∀ w', w'.ownsRow base e size (.slice (some ⟨g, 0, none⟩) (n + m) cap) (n + m) (xs ++ news) → w.grownBy w' (some g) → K (a.put o.dst (.slice (some ⟨g, 0, none⟩) (n + m) cap)) w') :
    if Region.wanted o (yielded ops a.tmps) = true then Oper.wp P o a w K Q else E := by
  have hw : Region.wanted o (yielded ops a.tmps) = true := by simp [Region.wanted, hgd]
  rw [if_pos hw]
  obtain ⟨w', hr, h2, h3⟩ := run_append_fits (P := P) w base t o.type e i size ht hi hsize g n cap xs hown ad m c news hl hnews h1 hroom
  unfold Oper.wp execOp
  simp only [ho, resolve, invoke, builtin, Sem.run_bind, Sem.run_pure, Result.andThen_ok, List.map_toArray, List.map_cons, List.map_nil, hs, hx, hr]
  exact h w' h2 h3

theorem msgs_call {w : World} {bb place most puts : Nat} {ms : List Msg} {R : Nat → Prop} (h : BX w bb ms place most puts R) : Calls Try.prog 27 #[.pointer (some ⟨bb, 0, none⟩)] w fun e w' => e = .returned (.func (.func 34) #[] #[.pointer (some ⟨w.heap.size, 0, none⟩), .pointer (some ⟨w.heap.size + 1, 0, none⟩)]) ∧ w' = (w.alloc (.cells #[.pointer (some ⟨bb, 0, none⟩)] 31)).alloc (.cells #[.int .i64 (puts : Int)] 3) := by
  have b6 := h.box.c (i := 6) rfl
  have hlt := h.box.2
  clear h
  go_enter Try.func27, Try.ntmps27
  go_wp2
  go_ret
  exact ⟨rfl, rfl⟩

abbrev mcs (ms : List Msg) : List Value := ms.flatMap fun m => m.t.cells
theorem mcs_len (ms : List Msg) : (mcs ms).length = ms.length * 5 := by
  induction ms with
  | nil => rfl
  | cons m r ih =>
    have := tr_len m.t
    simp only [mcs, List.flatMap_cons, List.length_append, List.length_cons] at ih ⊢
    omega
/-- What is noted while the messages are gone through. -/
def NI (wl : World) (M : Nat → Prop) (nv gr cap base : Nat) (pre : List Msg) (W : World) : Prop :=
  (W.cell? ⟨nv, 0, none⟩ = some (.slice (some ⟨gr, 0, none⟩) pre.length cap) ∧ W.frozen? ⟨nv, 0, none⟩ = false) ∧ W.ownsRow base 27 5 (.slice (some ⟨gr, 0, none⟩) pre.length cap) pre.length (mcs pre) ∧ But M wl W
theorem NI.own {wl : World} {M : Nat → Prop} {nv gr cap base : Nat} : OwnFrom wl.heap.size (NI wl M nv gr cap base) :=
  OwnFrom.and (OwnFrom.cells _ (fun s : List Msg => .slice (some ⟨gr, 0, none⟩) s.length cap)) (OwnFrom.and (OwnFrom.row (fun s : List Msg => s.length) (fun s => .slice (some ⟨gr, 0, none⟩) s.length cap) mcs) (OwnFrom.but (Nat.le_refl _)))

theorem row5 {w : World} {base e gr n cap o : Nat} {xs : List Value} {l0 l1 l2 l3 l4 : Value} (h : w.ownsRow base e 5 (.slice (some ⟨gr, 0, none⟩) n cap) n (xs ++ [l0, l1, l2, l3, l4])) (hx : xs.length = o) (u0 u1 u2 u3 u4 : Value) :
    (set5o w gr o u0 u1 u2 u3 u4).ownsRow base e 5 (.slice (some ⟨gr, 0, none⟩) n cap) n (xs ++ [u0, u1, u2, u3, u4]) := by
  have h5 := (((((h.stored o u0).1.stored (o + 1) u1).1.stored (o + 2) u2).1.stored (o + 3) u3).1.stored (o + 4) u4).1
  have e5 : (((((xs ++ [l0, l1, l2, l3, l4]).set o u0).set (o + 1) u1).set (o + 2) u2).set (o + 3) u3).set (o + 4) u4 = xs ++ [u0, u1, u2, u3, u4] := by
    subst hx
    simp
  rw [e5] at h5
  exact h5
theorem row_set {w : World} {base e gr n cap nv : Nat} {xs : List Value} (h : w.ownsRow base e 5 (.slice (some ⟨gr, 0, none⟩) n cap) n xs) (hne : gr ≠ nv) (u : Value) : (w.setCell ⟨nv, 0, none⟩ u).ownsRow base e 5 (.slice (some ⟨gr, 0, none⟩) n cap) n xs :=
  h.kept (row := some nv) ⟨rfl, rfl, rfl, by simp, fun k _ hk => heap_setCell_other w ⟨nv, 0, none⟩ k u (fun e => hk (by simp [e]))⟩ (.inr (by simpa [Value.ownBlock] using hne))
theorem NI.step {wl : World} {M : Nat → Prop} {nv gr cap base : Nat} {pre : List Msg} {m : Msg} {W1 W' : World} (h : NI wl M nv gr cap base pre W1) (hb : But (fun k => k = gr ∨ k = nv) W1 W') (hg : M gr) (hn : M nv) (hc : W'.cell? ⟨nv, 0, none⟩ = some (.slice (some ⟨gr, 0, none⟩) (pre.length + 1) cap)) (hf : W'.frozen? ⟨nv, 0, none⟩ = false) (hr : W'.ownsRow base 27 5 (.slice (some ⟨gr, 0, none⟩) (pre.length + 1) cap) (pre.length + 1) (mcs pre ++ m.t.cells)) (B : Nat) (hB : gr < B ∧ nv < B) :
    But (fun k => M k ∧ (k < B ∨ B + 2 + 0 ≤ k)) W1 W' ∧ NI wl M nv gr cap base (pre ++ [m]) W' := by
  refine ⟨hb.mono (fun k _ hk => ?_), ?_⟩
  · rcases hk with rfl | rfl
    · exact ⟨hg, .inl hB.1⟩
    · exact ⟨hn, .inl hB.2⟩
  · have e1 : (pre ++ [m]).length = pre.length + 1 := by simp
    have e2 : mcs (pre ++ [m]) = mcs pre ++ m.t.cells := by simp [mcs]
    unfold NI
    rw [e1, e2]
    exact ⟨⟨hc, hf⟩, hr, h.2.2.trans (hb.mono (fun k _ hk => hk.elim (fun e => e ▸ hg) (fun e => e ▸ hn)))⟩

set_option maxRecDepth 100000 in
set_option maxHeartbeats 4000000 in
theorem all_any {w : World} {bb place most puts : Nat} {ms : List Msg} {R : Nat → Prop} (h : BX w bb ms place most puts R) (hl : ms.length ≤ 100000) (hnum : ∀ m : Msg, m ∈ ms → m.num ≤ puts) :
    Calls Try.prog 16 #[.pointer (some ⟨bb, 0, none⟩)] w fun e w' => ∃ nv gr cap, e = .returned (.func (.func 28) #[] #[.pointer (some ⟨nv, 0, none⟩)]) ∧ Below w.heap.size w w' ∧ w.heap.size ≤ nv ∧ w.heap.size ≤ gr ∧ nv ≠ gr ∧ w'.cell? ⟨nv, 0, none⟩ = some (.slice (some ⟨gr, 0, none⟩) ms.length cap) ∧ w'.ownsRow w.heap.size 27 5 (.slice (some ⟨gr, 0, none⟩) ms.length cap) ms.length (mcs ms) := by
  obtain ⟨i0, hi, hz0, hz1, hz2⟩ := infoT
  have b3 := h.box.c (i := 3) rfl
  have HX := hidb h
  have HL := hidb (And.intro hl hnum)
  have hbl := h.box.2
  clear h hl hnum
  refine calls_marks Try.func16 rfl ?_
  simp only [Try.ntmps16, List.size_toArray, List.length_cons, List.length_nil, Nat.reduceAdd, Nat.reduceSub, Array.replicate_succ, Array.replicate_zero, List.push_toArray, List.append_toArray, List.nil_append, List.cons_append]
  go_wp2_with (first
    | (at_make; refine wpList_make_own _ rfl _ _ 22 rfl w.heap.size 27 i0 (.agg #[.int .i64 0, .int .i64 0, .float .f64 0, .string ⟨#[]⟩, .slice none 0 0]) 5 Try.underlying22 hi hz0 hz1 _ _ _ ms.length rfl rfl rfl (by rw [hz2]; have := HL.out.1; omega) (by have := HL.out.1; unfold maxLen; omega) (Nat.le_refl _) ?_; intro w1 hrow1 hg1
       have HR1 := hidb hrow1
       have HG1 := hidb hg1
       have hw1 := hg1.size
       clear hrow1 hg1)
    | (go_at_call 27; refine (msgs_call (HX.out.keep (((Below.refl _ _).grown HG1.out (Nat.le_refl _) (fun k e => by cases e)).alloc hw1 _))).mono ?_; rintro e w3 ⟨rfl, rfl⟩))
  have hw1 : w.heap.size < w1.heap.size := (HR1.out.lt w.heap.size rfl).2
  obtain ⟨WL, hWL⟩ : ∃ WL, ((w1.alloc (.cells #[.slice (some ⟨w.heap.size, 0, none⟩) 0 ms.length] 22)).alloc (.cells #[.pointer (some ⟨bb, 0, none⟩)] 31)).alloc (.cells #[.int .i64 (puts : Int)] 3) = WL := ⟨_, rfl⟩
  have hsz : WL.heap.size = w1.heap.size + 3 := by rw [← hWL]; simp
  have hb1 : Below w1.heap.size w1 WL := by rw [← hWL]; exact ((below_new w1 _).alloc (by simp) _).alloc (by simp; omega) _
  have hb0 : Below w.heap.size w WL := ((Below.refl _ _).grown HG1.out (Nat.le_refl _) (fun k e => by cases e)).trans (hb1.mono (by omega))
  have c1 : WL.cell? ⟨w1.heap.size, 0, none⟩ = some (.slice (some ⟨w.heap.size, 0, none⟩) 0 ms.length) ∧ WL.frozen? ⟨w1.heap.size, 0, none⟩ = false := by rw [← hWL]; constructor <;> simp [go_sem]
  have c2 : WL.cell? ⟨w1.heap.size + 1, 0, none⟩ = some (.pointer (some ⟨bb, 0, none⟩)) := by rw [← hWL]; simp [go_sem]
  have c3 : WL.cell? ⟨w1.heap.size + 1 + 1, 0, none⟩ = some (.int .i64 (puts : Int)) := by rw [← hWL]; simp [go_sem]
  have hBX := HX.out.keep hb0
  have hNI : NI WL (fun k => WL.heap.size ≤ k ∨ k = w1.heap.size ∨ k = w.heap.size) w1.heap.size w.heap.size ms.length w.heap.size [] WL := ⟨c1, by
    have := HR1.out.kept (w' := WL) ⟨hb1.os, hb1.tape, hb1.output, hb1.size, fun k hk _ => hb1.block k hk⟩ (row := none) (Or.inr (by simp [Value.ownBlock]))
    exact this, But.refl _ _⟩
  have hMB : ∀ k, BS bb ms k → ¬ (WL.heap.size ≤ k ∨ k = w1.heap.size ∨ k = w.heap.size) := fun k hk => by
    have hlt : k < w.heap.size := by
      rcases hk with rfl | ⟨m, hm, rfl⟩
      · exact hbl
      · obtain ⟨j, hj⟩ := List.getElem?_of_mem hm
        exact (HX.out.msg j m hj).2
    omega
  have hseq := msgs_o (M := fun k => WL.heap.size ≤ k ∨ k = w1.heap.size ∨ k = w.heap.size) hBX c2 c3 (fun m hm => by have := HL.out.2 m hm; omega) hMB (by omega) (by omega)
  have HBX := hidb hBX
  have HMB := hidb hMB
  have HB0 := hidb hb0
  have HSZ := hidb (And.intro hw1 hsz)
  clear hBX c1 c2 c3 hb1 hMB hb0 hw1 hsz
  rw [hWL]
  clear hWL b3
  refine range_p (gf := 34) (lb := #[.pointer (some ⟨w1.heap.size + 1, 0, none⟩), .pointer (some ⟨w1.heap.size + 1 + 1, 0, none⟩)]) rfl (enters_of Try.func34 (by kernel_rfl) rfl) hseq (fun k hk => .inl hk) (Below.refl _ _) (fun _ => rfl)
    (NI WL (fun k => WL.heap.size ≤ k ∨ k = w1.heap.size ∨ k = w.heap.size) w1.heap.size w.heap.size ms.length w.heap.size) (fun _ _ _ => False) NI.own (fun c => fun _ _ _ _ hs _ _ => hs) hNI ?round ?done ?stop
  case stop => intro D c pre W _ _ hf; exact hf.elim
  case done =>
    intro D xs W hD hS hI hK
    have hS' : xs = ms := hS
    subst hS'
    go_wp2_with fail
    refine retM [D] rfl (fun E hE => by simp at hE; rw [hE]; exact hK) (by simp) (fun W' hb => ?_)
    have hI' := OwnFrom.taken NI.own hI hb hD hK
    have hz := HSZ.out
    refine ⟨_, by simp [results, Try.results16, go_sem], w1.heap.size, rfl, HB0.out.trans (hI'.2.2.below HB0.out.size (fun k hk => by omega)), by omega, w.heap.size, Nat.le_refl _, by omega, _, hI'.1.1, hI'.2.1⟩
  case round =>
    intro l pre m W hok hlen
    gi_wp2
    refine ⟨trivial, fun W1 hI hsz2 => ?_⟩
    refine wpIn_block ?_
    have hmb : m.b < WL.heap.size := by
      obtain ⟨j, hj⟩ := List.getElem?_of_mem hok
      exact (HBX.out.msg j m hj).2
    have HAT : Hid (∃ ah bh, At W1 m.b (m.cells ah bh false)) := hidb (by
      obtain ⟨j, hj⟩ := List.getElem?_of_mem hok
      exact ⟨_, _, (HBX.out.msg j m hj).but hI.2.2 (HMB.out m.b (.inr ⟨m, hok, rfl⟩))⟩)
    obtain ⟨ah, bh, hat⟩ := HAT.out
    have S0 : W1.cell? ⟨w1.heap.size, 0, none⟩ = some (.slice (some ⟨w.heap.size, 0, none⟩) pre.length ms.length) ∧ W1.cell? ⟨m.b, 2, none⟩ = some (.int .i64 m.k) ∧ W1.cell? ⟨m.b, 3, none⟩ = some (.int .i64 m.n) ∧ W1.cell? ⟨m.b, 4, none⟩ = some (.float .f64 m.f) ∧ W1.cell? ⟨m.b, 5, none⟩ = some (.string m.s) ∧ W1.cell? ⟨m.b, 6, none⟩ = some (.slice m.a m.kids.length m.c) := ⟨hI.1.1, hat.c (i := 2) rfl, hat.c (i := 3) rfl, hat.c (i := 4) rfl, hat.c (i := 5) rfl, hat.c (i := 6) rfl⟩
    have HS0 : Hid (W1.drew.cell? ⟨w1.heap.size, 0, none⟩ = some (.slice (some ⟨w.heap.size, 0, none⟩) pre.length ms.length) ∧ W1.drew.cell? ⟨m.b, 2, none⟩ = some (.int .i64 m.k) ∧ W1.drew.cell? ⟨m.b, 3, none⟩ = some (.int .i64 m.n) ∧ W1.drew.cell? ⟨m.b, 4, none⟩ = some (.float .f64 m.f) ∧ W1.drew.cell? ⟨m.b, 5, none⟩ = some (.string m.s) ∧ W1.drew.cell? ⟨m.b, 6, none⟩ = some (.slice m.a m.kids.length m.c)) := hidb S0
    have hne1 : m.b ≠ w.heap.size := fun e => HMB.out m.b (.inr ⟨m, hok, rfl⟩) (.inr (.inr e))
    have hnvl : w1.heap.size < W1.heap.size := World.block_lt_of_cell? _ _ S0.1
    have hmbl : m.b < W1.heap.size := World.block_lt_of_cell? _ _ S0.2.1
    have hzz := HSZ.out
    have HKP : Hid (∀ W, But (fun k => k = w.heap.size) W1 W → W.cell? ⟨w1.heap.size, 0, none⟩ = some (.slice (some ⟨w.heap.size, 0, none⟩) pre.length ms.length) ∧ W.cell? ⟨m.b, 2, none⟩ = some (.int .i64 m.k) ∧ W.cell? ⟨m.b, 3, none⟩ = some (.int .i64 m.n) ∧ W.cell? ⟨m.b, 4, none⟩ = some (.float .f64 m.f) ∧ W.cell? ⟨m.b, 5, none⟩ = some (.string m.s) ∧ W.cell? ⟨m.b, 6, none⟩ = some (.slice m.a m.kids.length m.c)) := hidb (fun W hW => ⟨(hW.cell (p := ⟨w1.heap.size, 0, none⟩) hnvl (show ¬ w1.heap.size = w.heap.size by omega)).trans S0.1, (hW.cell (p := ⟨m.b, 2, none⟩) hmbl hne1).trans S0.2.1, (hW.cell (p := ⟨m.b, 3, none⟩) hmbl hne1).trans S0.2.2.1, (hW.cell (p := ⟨m.b, 4, none⟩) hmbl hne1).trans S0.2.2.2.1, (hW.cell (p := ⟨m.b, 5, none⟩) hmbl hne1).trans S0.2.2.2.2.1, (hW.cell (p := ⟨m.b, 6, none⟩) hmbl hne1).trans S0.2.2.2.2.2⟩)
    have HNI := hidb hI
    have HLE := hidb hlen
    have HNE := hidb (And.intro hnvl (And.intro hzz.1 hsz2))
    clear hne1 hmbl hzz hnvl
    clear hI S0 hat
    refine region_round_D l (fun W => W.cell? ⟨w1.heap.size, 0, none⟩ = some (.slice (some ⟨w.heap.size, 0, none⟩) pre.length ms.length) ∧ W.cell? ⟨m.b, 2, none⟩ = some (.int .i64 m.k) ∧ W.cell? ⟨m.b, 3, none⟩ = some (.int .i64 m.n) ∧ W.cell? ⟨m.b, 4, none⟩ = some (.float .f64 m.f) ∧ W.cell? ⟨m.b, 5, none⟩ = some (.string m.s) ∧ W.cell? ⟨m.b, 6, none⟩ = some (.slice m.a m.kids.length m.c)) [8, 9, 10] (by kernel_rfl) (by kernel_rfl) (fun ⟨_, _, hh⟩ => hh) ?_
    refine wpAnyD_takeL (i := 0) (v := ?vv0) rfl (by kernel_rfl) (by kernel_rfl) (by kernel_rfl) (by kernel_rfl) (fun _ _ _ h => h) HS0.out rfl ?hy0 ?_
    case hy0 => intro wy hSw; go_simp; try with_reducible rfl
    simp only [Act.put, List.setIfInBounds_toArray, List.set_cons_zero, List.set_cons_succ]
    refine wpAnyD_takeL (i := 1) (v := ?vv1) rfl (by kernel_rfl) (by kernel_rfl) (by kernel_rfl) (by kernel_rfl) (fun _ _ _ h => h) HS0.out rfl ?hy1 ?_
    case hy1 => intro wy hSw; go_simp; try with_reducible rfl
    simp only [Act.put, List.setIfInBounds_toArray, List.set_cons_zero, List.set_cons_succ]
    refine wpAnyD_takeL (i := 2) (v := ?vv2) rfl (by kernel_rfl) (by kernel_rfl) (by kernel_rfl) (by kernel_rfl) (fun _ _ _ h => h) HS0.out rfl ?hy2 ?_
    case hy2 => intro wy hSw; go_simp; try with_reducible rfl
    simp only [Act.put, List.setIfInBounds_toArray, List.set_cons_zero, List.set_cons_succ]
    refine wpAnyD_takeL (i := 3) (v := ?vv3) rfl (by kernel_rfl) (by kernel_rfl) (by kernel_rfl) (by kernel_rfl) (fun _ _ _ h => h) HS0.out rfl ?hy3 ?_
    case hy3 => intro wy hSw; go_simp; try with_reducible rfl
    simp only [Act.put, List.setIfInBounds_toArray, List.set_cons_zero, List.set_cons_succ]
    refine wpAnyD_takeL (i := 4) (v := ?vv4) rfl (by kernel_rfl) (by kernel_rfl) (by kernel_rfl) (by kernel_rfl) (fun _ _ _ h => h) HS0.out rfl ?hy4 ?_
    case hy4 => intro wy hSw; go_simp; try with_reducible rfl
    simp only [Act.put, List.setIfInBounds_toArray, List.set_cons_zero, List.set_cons_succ]
    refine wpAnyD_takeL (i := 5) (v := ?vv5) rfl (by kernel_rfl) (by kernel_rfl) (by kernel_rfl) (by kernel_rfl) (fun _ _ _ h => h) HS0.out rfl ?hy5 ?_
    case hy5 => intro wy hSw; go_simp; try with_reducible rfl
    simp only [Act.put, List.setIfInBounds_toArray, List.set_cons_zero, List.set_cons_succ]
    have hb6 : But (fun k => k = w.heap.size) W1 (W1.alloc (.cells #[.int .i64 0, .int .i64 0, .float .f64 0, .string ⟨#[]⟩, .slice none 0 0] 27)).drew := ((But.refl _ _).alloc _).drew
    refine wpAnyD_stepL (i := 6) (by kernel_rfl) rfl (fun K hK => ?_)
    go_simp
    refine hK _ _ (fun _ => HKP.out _ hb6) ?_
    clear hK K
    refine wpAnyD_stepL (i := 7) (by kernel_rfl) rfl (fun K hK => ?_)
    refine step_fits rfl (.tmp 13) (.tmp 19) 22 rfl w.heap.size 27 i0 5 Try.underlying22 hi hz1 w.heap.size pre.length ms.length (mcs pre) rfl ?own ⟨W1.heap.size, 0, none⟩ 1 1 [.int .i64 0, .int .i64 0, .float .f64 0, .string ⟨#[]⟩, .slice none 0 0] rfl rfl ?news ?one ?room ?_
    case own => exact HNI.out.2.1.alloc _
    case news => exact World.news_of_block ((MapKept.heap_alloc W1 _).1)
    case one => simp [Value.oneCell']
    case room => have : pre.length < ms.length := HLE.out; omega
    intro w4 hown4 hgr4
    have hb4 : But (fun k => k = w.heap.size) W1 w4 := hb6.trans ⟨hgr4.os, hgr4.tape, hgr4.output, hgr4.size, fun k hk hs => hgr4.block k hk (fun e => hs (by simpa using e))⟩
    refine hK _ _ (fun _ => HKP.out _ hb4) ?_
    clear hK K
    simp only [Act.put, List.setIfInBounds_toArray, List.set_cons_zero, List.set_cons_succ]
    have hsm : pre.length < ms.length := HLE.out
    have s1 : (0 : Int) ≤ (pre.length : Int) := by omega
    have s2 : (pre.length : Int) < ((pre.length + 1 : Nat) : Int) := by omega
    have s3 : pre.length < pre.length + 1 := by omega
    have s4 : (pre.length : Int) < (pre.length : Int) + 1 := by omega
    have s5 : (pre.length : Int) + 1 - 1 = (pre.length : Int) := by omega
    have hz9 : ∀ i, i < 5 → w4.cell? ⟨w.heap.size, pre.length * 5 + i, none⟩ = ([.int .i64 0, .int .i64 0, .float .f64 0, .string ⟨#[]⟩, .slice none 0 0] : List Value)[i]? := fun i hi5 => by
      rw [hown4.cellAt (pre.length * 5 + i) (by omega), List.getElem?_append_right (by rw [mcs_len]; omega), mcs_len, show pre.length * 5 + i - pre.length * 5 = i by omega]
    have x0 := hz9 0 (by omega); have x1 := hz9 1 (by omega); have x2 := hz9 2 (by omega); have x3 := hz9 3 (by omega); have x4 := hz9 4 (by omega)
    simp only [Nat.add_zero, List.getElem?_cons_zero, List.getElem?_cons_succ] at x0 x1 x2 x3 x4
    have y0 := hown4.frozenAt (pre.length * 5); have y1 := hown4.frozenAt (pre.length * 5 + 1); have y2 := hown4.frozenAt (pre.length * 5 + 2); have y3 := hown4.frozenAt (pre.length * 5 + 3); have y4 := hown4.frozenAt (pre.length * 5 + 4)
    have kn := (HKP.out _ hb4).1
    have fn := (hb4.frozen (p := ⟨w1.heap.size, 0, none⟩) HNE.out.1 (show ¬ w1.heap.size = w.heap.size by have := HNE.out.2.1; omega)).trans HNI.out.1.2
    have HB4 := hidb hb4
    have HO4 := hidb hown4
    clear hz9 hb4 hown4 hgr4 hb6 hsm
    have hN := HSZ.out
    have hgn : w.heap.size ≠ w1.heap.size := by omega
    have hng : w1.heap.size ≠ w.heap.size := by omega
    have kn9 : (set5o w4 w.heap.size (pre.length * 5) (.int .i64 m.k) (.int .i64 m.n) (.float .f64 m.f) (.string m.s) (.slice m.a m.kids.length m.c)).cell? ⟨w1.heap.size, 0, none⟩ = some (.slice (some ⟨w.heap.size, 0, none⟩) pre.length ms.length) := (HKP.out _ (HB4.out.trans (set5o_but _ _ _ _ _ _ _ _))).1
    have fn9 := (set5o_frozen w4 w.heap.size (pre.length * 5) (.int .i64 m.k) (.int .i64 m.n) (.float .f64 m.f) (.string m.s) (.slice m.a m.kids.length m.c) ⟨w1.heap.size, 0, none⟩).trans fn
    unfold set5o at kn9 fn9
    have F1 : Hid (Exit.inBlock 1 (postO (fun k => WL.heap.size ≤ k ∨ k = w1.heap.size ∨ k = w.heap.size) 0 WL.heap.size (NI WL (fun k => WL.heap.size ≤ k ∨ k = w1.heap.size ∨ k = w.heap.size) w1.heap.size w.heap.size ms.length w.heap.size) (fun _ _ _ => False) (pre ++ [m]) W1) .normal = fun _ W' => But (fun k => (WL.heap.size ≤ k ∨ k = w1.heap.size ∨ k = w.heap.size) ∧ (k < WL.heap.size ∨ WL.heap.size + 2 + 0 ≤ k)) W1 W' ∧ NI WL (fun k => WL.heap.size ≤ k ∨ k = w1.heap.size ∨ k = w.heap.size) w1.heap.size w.heap.size ms.length w.heap.size (pre ++ [m]) W') := hidb rfl
    have G1 : Hid (But (fun k => (WL.heap.size ≤ k ∨ k = w1.heap.size ∨ k = w.heap.size) ∧ (k < WL.heap.size ∨ WL.heap.size + 2 + 0 ≤ k)) W1 ((set5o w4 w.heap.size (pre.length * 5) (.int .i64 m.k) (.int .i64 m.n) (.float .f64 m.f) (.string m.s) (.slice m.a m.kids.length m.c)).setCell ⟨w1.heap.size, 0, none⟩ (.slice (some ⟨w.heap.size, 0, none⟩) (pre.length + 1) ms.length)) ∧ NI WL (fun k => WL.heap.size ≤ k ∨ k = w1.heap.size ∨ k = w.heap.size) w1.heap.size w.heap.size ms.length w.heap.size (pre ++ [m]) ((set5o w4 w.heap.size (pre.length * 5) (.int .i64 m.k) (.int .i64 m.n) (.float .f64 m.f) (.string m.s) (.slice m.a m.kids.length m.c)).setCell ⟨w1.heap.size, 0, none⟩ (.slice (some ⟨w.heap.size, 0, none⟩) (pre.length + 1) ms.length))) := hidb (HNI.out.step (((HB4.out.trans (set5o_but _ _ _ _ _ _ _ _)).mono (fun k _ e => .inl e)).setCell (p := ⟨w1.heap.size, 0, none⟩) (fun _ => .inr rfl) _) (.inr (.inr rfl)) (.inr (.inl rfl)) (World.cell?_setCell_same _ _ _ kn9) ((World.frozen?_setCell ..).trans fn9) (row_set (row5 HO4.out (mcs_len pre) _ _ _ _ _) hgn _) _ (by omega))
    have G2 : Hid (But (fun k => (WL.heap.size ≤ k ∨ k = w1.heap.size ∨ k = w.heap.size) ∧ (k < WL.heap.size ∨ WL.heap.size + 2 + 0 ≤ k)) W1 (set5o (w4.setCell ⟨w1.heap.size, 0, none⟩ (.slice (some ⟨w.heap.size, 0, none⟩) (pre.length + 1) ms.length)) w.heap.size (pre.length * 5) (.int .i64 m.k) (.int .i64 m.n) (.float .f64 m.f) (.string m.s) (.slice m.a m.kids.length m.c)) ∧ NI WL (fun k => WL.heap.size ≤ k ∨ k = w1.heap.size ∨ k = w.heap.size) w1.heap.size w.heap.size ms.length w.heap.size (pre ++ [m]) (set5o (w4.setCell ⟨w1.heap.size, 0, none⟩ (.slice (some ⟨w.heap.size, 0, none⟩) (pre.length + 1) ms.length)) w.heap.size (pre.length * 5) (.int .i64 m.k) (.int .i64 m.n) (.float .f64 m.f) (.string m.s) (.slice m.a m.kids.length m.c))) := hidb (HNI.out.step (((HB4.out.mono (S' := fun k => k = w.heap.size ∨ k = w1.heap.size) (fun k _ e => .inl e)).setCell (p := ⟨w1.heap.size, 0, none⟩) (fun _ => .inr rfl) _).trans ((set5o_but _ _ _ _ _ _ _ _).mono (fun k _ e => .inl e))) (.inr (.inr rfl)) (.inr (.inl rfl)) (((set5o_but _ _ _ _ _ _ _ _).cell (p := ⟨w1.heap.size, 0, none⟩) (by simp; exact World.block_lt_of_cell? _ _ kn) hng).trans (World.cell?_setCell_same _ _ _ kn)) ((set5o_frozen ..).trans ((World.frozen?_setCell ..).trans fn)) (row5 (row_set HO4.out hgn _) (mcs_len pre) _ _ _ _ _) _ (by omega))
    unfold set5o at G1 G2
    have xx : ∀ o, (w4.setCell ⟨w1.heap.size, 0, none⟩ (.slice (some ⟨w.heap.size, 0, none⟩) (pre.length + 1) ms.length)).cell? ⟨w.heap.size, o, none⟩ = w4.cell? ⟨w.heap.size, o, none⟩ := fun o => World.cell?_setCell_other _ _ _ _ (fun e => hng (congrArg Addr.block e))
    have z0 := (xx (pre.length * 5)).trans x0; have z1 := (xx (pre.length * 5 + 1)).trans x1; have z2 := (xx (pre.length * 5 + 2)).trans x2; have z3 := (xx (pre.length * 5 + 3)).trans x3; have z4 := (xx (pre.length * 5 + 4)).trans x4
    clear hN xx
    refine wpAnyD_twoL (i := 8) (j := 10) (by kernel_rfl) rfl rfl (fun K hK => ?_) (fun K hK => ?_)
    · go_simp
      refine hK _ _ (fun h => absurd (by decide) h) ?_
      clear hK K
      refine wpAnyD_twoL (i := 9) (j := 10) (by kernel_rfl) rfl rfl (fun K hK => ?_) (fun K hK => ?_)
      · go_simp
        refine hK _ _ (fun h => absurd (by decide) h) ?_
        clear hK K
        refine wpAnyD_stepL (i := 10) (by kernel_rfl) rfl (fun K hK => ?_)
        go_simp
        refine hK _ _ (fun h => absurd (by decide) h) ?_
        clear hK K
        refine wpAnyD_done (by kernel_rfl) ?_ _
        rw [F1.out]
        exact G1.out
      · go_simp
        refine hK _ _ (fun h => absurd (by decide) h) ?_
        clear hK K
        refine wpAnyD_stepL (i := 9) (by kernel_rfl) rfl (fun K hK => ?_)
        go_simp
        refine hK _ _ (fun h => absurd (by decide) h) ?_
        clear hK K
        refine wpAnyD_done (by kernel_rfl) ?_ _
        rw [F1.out]
        exact G2.out
    · go_simp
      refine hK _ _ (fun h => absurd (by decide) h) ?_
      clear hK K
      refine wpAnyD_stepL (i := 8) (by kernel_rfl) rfl (fun K hK => ?_)
      go_simp
      refine hK _ _ (fun h => absurd (by decide) h) ?_
      clear hK K
      refine wpAnyD_stepL (i := 9) (by kernel_rfl) rfl (fun K hK => ?_)
      go_simp
      refine hK _ _ (fun h => absurd (by decide) h) ?_
      clear hK K
      refine wpAnyD_done (by kernel_rfl) ?_ _
      rw [F1.out]
      exact G2.out
end Go.Proofs.Ytggpbfmdhenjdaa


/- A loop over an iterator that hands over what lies in memory. -/
namespace Go.Proofs.Ytggpbfmdhenjdaa
open Go.RowKit Go.Shelf

/-- An iterator: whatever body keeps all but blocks of M, and the c blocks that the iterator lays at its beginning, may be handed to it. -/
def SeqW {α : Type} (P : Program) (g : Nat) (lb : Array Value) (encs : α → Array Value) (Ok : List α → α → World → Prop) (M : Nat → Prop) (c : Nat) (S Sp : List α → Prop) (N : Nat) (w : World) : Prop :=
  ∀ (l : Nat) (J Jx : List α → World → Prop) (W : World), Below w.heap.size w W → OwnFrom W.heap.size J → OwnFrom W.heap.size Jx →
    (∀ pre x W1, Ok pre x W1 → J pre W1 → pre.length < N → W.heap.size + c ≤ W1.heap.size → YieldAt Fence.wide 0 P l (encs x) W1 fun e W' => But (fun k => M k ∧ (k < W.heap.size ∨ W.heap.size + c ≤ k)) W1 W' ∧
      ((e = .returned (.bool true) ∧ J (pre ++ [x]) W') ∨ (e = .returned (.bool false) ∧ Jx (pre ++ [x]) W'))) →
    J [] W →
    CallsIn Fence.wide 0 P g (#[.func (.yield l) #[] #[]] ++ lb) W fun e W' => (∃ v, e = .returned v) ∧ ((∃ xs, S xs ∧ J xs W') ∨ (∃ pre, Sp pre ∧ Jx pre W'))

set_option maxHeartbeats 1000000 in
theorem range_w {α : Type} {P : Program} {g : Operand} {ps : Array Tmp} {assign body : Code} {Q : Exit → Act → World → Prop} {a : Act} {w : World}
    {gf : Nat} {lb : Array Value} (hg : a.eval g = .func (.func gf) #[] lb) (eg : ∀ args w, (callFunc gf args).run P w = .ok (.enter gf args) w)
    {encs : α → Array Value} {Ok : List α → α → World → Prop} {M : Nat → Prop} {c : Nat} {S Sp : List α → Prop} {N : Nat} {w0 : World} (hseq : SeqW P gf lb encs Ok M c S Sp N w0) (hM : ∀ k, w.heap.size ≤ k → M k) (hb0 : Below w0.heap.size w0 w) (hps : ∀ x, (encs x).size = ps.size)
    (I : List α → World → Prop) (Ix : Code → List α → World → Prop) (hI : OwnFrom w.heap.size I) (hIx : ∀ c, OwnFrom w.heap.size (Ix c)) (h0 : I [] w) (H : List α × α × Act → World → Prop) (hH : OwnFrom w.heap.size H)
    (hround : ∀ (l : Nat) (pre : List α) (x : α) (W : World), Ok pre x W → pre.length < N → I pre W → w.heap.size + 2 + c ≤ W.heap.size →
      assign.wpIn (Fence.wide.inRound l) 0 P (Exit.then (fun a' W' => Below W.heap.size W W' ∧ H (pre, x, a') W' ∧ ∀ W1, H (pre, x, a') W1 → w.heap.size + 2 + c ≤ W1.heap.size → body.wpIn (Fence.wide.inRound l) 0 P (postO M c w.heap.size I Ix (pre ++ [x]) W1) a' W1) (fun _ _ _ => False)) { tmps := (ps.zip (encs x)).foldl (fun t (p, v) => t.setIfInBounds p v) a.tmps, defers := [] } W)
    (hdone : ∀ (D : Nat) (xs : List α) (W : World), w.heap.size ≤ D → S xs → I xs W → W.heap[D]? = some (.deferred (some [])) → Q .normal { a with defers := { target := .collected D, args := #[] } :: a.defers } W)
    (hstop : ∀ (D : Nat) (c : Code) (pre : List α) (W : World), w.heap.size ≤ D → Sp pre → Ix c pre W → W.heap[D]? = some (.deferred (some [])) → c.wp P Q { a with defers := { target := .collected D, args := #[] } :: a.defers } W) :
    (Code.rangeFunc g ps assign body).wp P Q a w := by
  refine (wpIn_wide (n := 0)).1 (wpIn_rangeFunc ?_)
  intro fn hfn
  rw [Fence.wide_round]
  obtain ⟨rec, hrec⟩ : ∃ rec : LoopState → Option Code → Loop, rec = fun st pe => { state := st, pending := pe, fn, tmps := a.tmps, params := ps, assign, body, defers := w.heap.size } := ⟨_, rfl⟩
  obtain ⟨W1, hW1⟩ : ∃ W1, (w.alloc (.deferred (some []))).alloc (.loop (rec .ready none)) = W1 := ⟨_, rfl⟩
  have hsz : W1.heap.size = w.heap.size + 2 := by rw [← hW1]; simp
  have hL1 : W1.heap[w.heap.size + 1]? = some (.loop (rec .ready none)) := by
    rw [← hW1]; have := World.alloc_heap_new (w.alloc (.deferred (some []))) (.loop (rec .ready none)); rwa [World.size_alloc] at this
  have hK1 : W1.heap[w.heap.size]? = some (.deferred (some [])) := by
    rw [← hW1]; exact (Below.heap_alloc _ _ _ (by simp)).trans (World.alloc_heap_new w _)
  have hI1 : I [] W1 := by rw [← hW1]; exact hI.alloc _ (hI.alloc _ h0)
  have hb1 : Below w0.heap.size w0 W1 := by
    rw [← hW1]; exact hb0.trans ((((Below.refl _ w).alloc (Nat.le_refl _) _).alloc (by simp) _).mono hb0.size)
  refine ⟨w.heap.size + 1, [{ target := .collected w.heap.size, args := #[] }], W1, { target := .fn (.func gf) lb, args := #[.func (.yield (w.heap.size + 1)) #[] #[]] }, W1, gf,
    #[.func (.yield (w.heap.size + 1)) #[] #[]] ++ lb, W1, ?_, ?_, ?_, ?_, (fun h => by cases h), ?_⟩
  · rw [← hW1, hrec]; exact run_enterLoop_outer _ _ _ _ _
  · simp only [resolve, hg]
    simp [go_sem]
  · intro f' hf'; trivial
  · simp [invoke, go_sem, eg]
  · have keep : ∀ {A B : World} {row : Option Nat} {k : Nat} {o : Obj}, A.grownBy B row → (∀ r, row = some r → W1.heap.size ≤ r ∧ ∃ o : Obj, A.heap[r]? = some o ∧ o.isCells = false) → k < w.heap.size + 2 → A.heap[k]? = some o → B.heap[k]? = some o := fun hg' hr hk h =>
      (hg'.block _ (Array.getElem?_eq_some_iff.1 h).1 (fun e => by have := (hr _ e.symm).1; omega)).trans h
    have hnw : ∀ {A : World} {row : Option Nat}, (∀ r, row = some r → W1.heap.size ≤ r ∧ ∃ o : Obj, A.heap[r]? = some o ∧ o.isCells = false) → (∀ r, row = some r → w.heap.size ≤ r ∧ ∃ o : Obj, A.heap[r]? = some o ∧ o.isCells = false) :=
      fun hr r e => ⟨by have := (hr r e).1; omega, (hr r e).2⟩
    refine (hseq (w.heap.size + 1)
      (fun pre W => I pre W ∧ W.heap[w.heap.size + 1]? = some (.loop (rec .ready none)) ∧ W.heap[w.heap.size]? = some (.deferred (some [])))
      (fun pre W => ∃ c, Ix c pre W ∧ W.heap[w.heap.size + 1]? = some (.loop (rec .done (some c))) ∧ W.heap[w.heap.size]? = some (.deferred (some [])))
      W1 hb1
      (fun s A B row hs hg' hr => ⟨hI s A B row hs.1 hg' (hnw hr), keep hg' hr (by omega) hs.2.1, keep hg' hr (by omega) hs.2.2⟩)
      (fun s A B row hs hg' hr => by
        obtain ⟨c, hc, hl, hk⟩ := hs
        exact ⟨c, hIx c s A B row hc hg' (hnw hr), keep hg' hr (by omega) hl, keep hg' hr (by omega) hk⟩)
      ?_ ⟨hI1, hL1, hK1⟩).mono ?_
    · -- one round
      rintro pre x W hok ⟨hi, hl, hk⟩ hlen hszW
      have hlt : w.heap.size + 1 < W.heap.size := (Array.getElem?_eq_some_iff.1 hl).1
      have hy := run_yield (P := P) (args := encs x) hl (by rw [hrec]; exact hps x)
      rw [hrec] at hy
      refine ⟨fn, _, assign, body, hy, roundIn_of_wpIn hfn (wpIn_mono (hround _ pre x W hok hlen hi (by omega)) ?_)⟩
      rintro e0 a₁ W₀ hx0
      cases e0 with
      | ret => exact hx0.elim
      | exit id => exact hx0.elim
      | goto t => exact hx0.elim
      | panic _ => exact hx0.elim
      | outgrown => exact hx0.elim
      | normal =>
      obtain ⟨hb0', hh, hbody⟩ := hx0
      have hlA : W₀.heap[w.heap.size + 1]? = some (.loop (rec .ready none)) := ((But.of_below (S := fun _ => False) hb0').block _ hlt id).trans hl
      have hkA : W₀.heap[w.heap.size]? = some (.deferred (some [])) := ((But.of_below (S := fun _ => False) hb0').block _ (by omega) id).trans hk
      have hltA : w.heap.size + 1 < W₀.heap.size := (Array.getElem?_eq_some_iff.1 hlA).1
      refine ⟨_, run_beginRound hlA (by rw [hrec]), ?_⟩
      have hl2 : (W₀.putObj (w.heap.size + 1) (.loop { rec .ready none with state := .busy })).heap[w.heap.size + 1]? = some (.loop { rec .ready none with state := .busy }) := World.putObj_heap_same hltA
      have hk2 : (W₀.putObj (w.heap.size + 1) (.loop { rec .ready none with state := .busy })).heap[w.heap.size]? = some (.deferred (some [])) := (World.putObj_heap_other (by omega)).trans hkA
      have hw2 : But (fun k => M k ∧ (k < W1.heap.size ∨ W1.heap.size + c ≤ k)) W (W₀.putObj (w.heap.size + 1) (.loop { rec .ready none with state := .busy })) := (But.of_below hb0').trans (But.putObj _ _ _ (fun _ => ⟨hM _ (by omega), by omega⟩))
      have hszA := hb0'.size
      refine wpIn_mono (hbody _ (hH.putObj _ hh (by omega) hlA rfl) (Nat.le_trans (by omega) (grownBy_putObj' W₀ _ _).size)) ?_
      have fin : ∀ (jump : Option Code) (W3 : World), But (fun k => M k ∧ (k < w.heap.size ∨ w.heap.size + 2 + c ≤ k)) (W₀.putObj (w.heap.size + 1) (.loop { rec .ready none with state := .busy })) W3 →
          (Instr.endRound (w.heap.size + 1) jump).run P W3 = .ok (.bool jump.isNone) (W3.putObj (w.heap.size + 1) (.loop (rec (if jump.isNone then .ready else .done) jump))) ∧
          W3.heap[w.heap.size + 1]? = some (.loop { rec .ready none with state := .busy }) ∧
          (W3.putObj (w.heap.size + 1) (.loop (rec (if jump.isNone then .ready else .done) jump))).heap[w.heap.size + 1]? = some (.loop (rec (if jump.isNone then .ready else .done) jump)) ∧
          (W3.putObj (w.heap.size + 1) (.loop (rec (if jump.isNone then .ready else .done) jump))).heap[w.heap.size]? = some (.deferred (some [])) ∧
          But (fun k => M k ∧ (k < W1.heap.size ∨ W1.heap.size + c ≤ k)) W (W3.putObj (w.heap.size + 1) (.loop (rec (if jump.isNone then .ready else .done) jump))) := fun jump W3 hk3 => by
        have hl3 := (hk3.block _ (Array.getElem?_eq_some_iff.1 hl2).1 (by omega)).trans hl2
        have hd3 := (hk3.block _ (Array.getElem?_eq_some_iff.1 hk2).1 (by omega)).trans hk2
        have := run_endRound (P := P) jump hl3
        rw [hrec] at this ⊢
        exact ⟨this, by rw [hrec] at hl3; exact hl3, World.putObj_heap_same (Array.getElem?_eq_some_iff.1 hl3).1, (World.putObj_heap_other (by omega)).trans hd3, by rw [hrec] at hw2 hk3; exact (hw2.trans (hk3.mono (fun k _ h => ⟨h.1, by have := h.2; omega⟩))).trans (But.putObj _ _ _ (fun _ => ⟨hM _ (by omega), by omega⟩))⟩
      rintro e a3 W3 hp
      cases e with
      | normal =>
        obtain ⟨hk3, hi3⟩ := hp
        obtain ⟨hr, hl3, hl4, hk4, hb4⟩ := fin none W3 hk3
        exact ⟨_, _, hr, hb4, .inl ⟨rfl, hI.putObj _ hi3 (by omega) hl3 rfl, hl4, hk4⟩⟩
      | ret =>
        obtain ⟨hk3, hi3⟩ := hp
        obtain ⟨hr, hl3, hl4, hk4, hb4⟩ := fin (some .ret) W3 hk3
        exact ⟨_, _, hr, hb4, .inr ⟨rfl, .ret, (hIx _).putObj _ hi3 (by omega) hl3 rfl, hl4, hk4⟩⟩
      | exit id =>
        obtain ⟨hk3, hi3⟩ := hp
        obtain ⟨hr, hl3, hl4, hk4, hb4⟩ := fin (some (.exit id)) W3 hk3
        exact ⟨_, _, hr, hb4, .inr ⟨rfl, .exit id, (hIx _).putObj _ hi3 (by omega) hl3 rfl, hl4, hk4⟩⟩
      | goto t =>
        obtain ⟨hk3, hi3⟩ := hp
        obtain ⟨hr, hl3, hl4, hk4, hb4⟩ := fin (some (.goto t)) W3 hk3
        exact ⟨_, _, hr, hb4, .inr ⟨rfl, .goto t, (hIx _).putObj _ hi3 (by omega) hl3 rfl, hl4, hk4⟩⟩
      | panic ch => exact hp.elim
      | outgrown => exact hp.elim
    · -- behind the iterator
      rintro e W2 ⟨⟨v, rfl⟩, (⟨xs, hS, hi, hl, hk⟩ | ⟨pre, hSp, c, hi, hl, hk⟩)⟩
      · exact ⟨none, _, by have := run_endLoop (P := P) hl (by rw [hrec]; simp); rw [hrec] at this; exact this, hdone _ xs _ (Nat.le_refl _) hS (hI.putObj _ hi (by omega) hl rfl) ((World.putObj_heap_other (by omega)).trans hk)⟩
      · exact ⟨some c, _, by have := run_endLoop (P := P) hl (by rw [hrec]; simp); rw [hrec] at this; exact this, wpIn_wide.2 (hstop _ c pre _ (Nat.le_refl _) hSp ((hIx c).putObj _ hi (by omega) hl rfl) ((World.putObj_heap_other (by omega)).trans hk))⟩


end Go.Proofs.Ytggpbfmdhenjdaa


