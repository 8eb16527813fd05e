import Derived.Test.YtliebilpddmhkaaGreatG20
import Derived.Test.YtliebilpddmhkaaGreatG21
import Derived.ArgAppend
/- exits.message of an exit signal. -/
namespace Go.Proofs.YtliebilpddmhkaaGreat
open Go.RowKit Go.Lib Go.Deep
attribute [local go_sem] store_float f64bits
attribute [local go_sem ↓] Go.wp_at_zero Go.wp_at_succ

theorem flat_cells {w : World} {base : Nat} : ∀ (fs : List Tr) (a : Addr), Tr.InAll w base a fs → ∀ j u, (fs.flatMap Tr.cells)[j]? = some u → w.cell? (a.add j) = some u := by
  intro fs
  induction fs with
  | nil => intro a _ j u h; simp at h
  | cons t r ih =>
    intro a h j u hj
    unfold Tr.InAll at h
    have hl : t.cells.length = 5 := tr_len t
    simp only [List.flatMap_cons] at hj
    by_cases h5 : j < 5
    · rw [List.getElem?_append_left (by omega)] at hj
      rw [h.1 j h5]
      exact hj
    · rw [List.getElem?_append_right (by omega), hl] at hj
      have := ih (a.add 5) h.2.2 (j - 5) u hj
      rw [add_add, show 5 + (j - 5) = j by omega] at this
      exact this

theorem own_tree {w : World} {base : Nat} {v : Value} {ds : List Tr} (h : w.ownsRow base 25 5 v ds.length (ds.flatMap Tr.cells)) (hin : ∀ t, t ∈ ds → t.In w 0) : ∃ a c, v = .slice a ds.length c ∧ (Tr.mk 7 0 0 ⟨#[]⟩ a c ds).In w 0 := by
  obtain ⟨hlen, ⟨rfl, h0⟩ | ⟨g, cap, cur, rfl, hbg, hobj, hnc, hcm, hcs, htk⟩⟩ := h
  · have e : ds = [] := List.length_eq_zero_iff.1 h0
    subst e
    refine ⟨none, 0, rfl, ?_⟩
    unfold Tr.In
    exact ⟨⟨by decide, by decide, by decide, by decide, by simp, by omega, fun _ => rfl⟩, fun ad h => by simp at h⟩
  · refine ⟨some ⟨g, 0, none⟩, cap, rfl, ?_⟩
    unfold Tr.In
    refine ⟨⟨by decide, by decide, by decide, by decide, hnc, hcm, fun h => by simp at h⟩, fun ad had => ?_⟩
    obtain rfl : (⟨g, 0, none⟩ : Addr) = ad := by simpa using had
    refine ⟨Nat.zero_le _, inAll_of fun j t hj => ⟨fun i hi => ?_, hin t (List.mem_of_getElem? hj)⟩⟩
    have e : ((⟨g, 0, none⟩ : Addr).add (j * 5)).add i = ⟨g, j * 5 + i, none⟩ := by
      rw [add_add]
      unfold Addr.add
      split
      · rename_i h0; rw [h0]
      · simp
    rw [e, Joins.cell_of_block hobj, ← flat_get ds j t hj i hi, ← htk]
    have hjl := get_lt hj
    rw [List.getElem?_take]
    rw [if_pos (by omega)]
    simp

theorem smallAll_mk {ds : List Tr} (h : ∀ t, t ∈ ds → Small t) : SmallAll ds := by
  induction ds with
  | nil => unfold SmallAll; trivial
  | cons t r ih => unfold SmallAll; exact ⟨h t (List.mem_cons_self ..), ih fun u hu => h u (List.mem_cons_of_mem _ hu)⟩

theorem TupR.room {ds : List Tr} {a : Option Addr} {c : Nat} {w0 w' : World} {e : Ending} (h : TupR (.mk 7 0 0 ⟨#[]⟩ a c ds) w0 e w') : TupR (.mk 7 0 0 ⟨#[]⟩ none 0 ds) w0 e w' := by
  have he := err_room 7 0 0 ⟨#[]⟩ a none c 0 ds
  obtain ⟨hb, ⟨h0, u, rfl, hs, hi⟩ | ⟨h0, rfl⟩⟩ := h
  · refine TupR.ok hb (he.symm.trans h0) u ?_ hi
    obtain ⟨k2, n2, f2, s2, a2, c2, kids2⟩ := u
    unfold Sm at hs ⊢
    exact hs
  · exact TupR.bad hb (fun q => h0 (he.trans q))

theorem tup_of {w : World} {B : Nat} {v : Value} {ds : List Tr} (ho : w.ownsRow B 25 5 v ds.length (ds.flatMap Tr.cells)) (hd : ∀ t, t ∈ ds → t.In w 0 ∧ Small t ∧ errT t = 0) (hl : ds.length ≤ 10) (hc : cnA ds ≤ 900000000) : ∃ a c, v = .slice a ds.length c ∧ Calls Tryz.prog 40 #[v] w (TupR (.mk 7 0 0 ⟨#[]⟩ none 0 ds) w) := by
  obtain ⟨a, c, rfl, hin⟩ := own_tree ho (fun t ht => (hd t ht).1)
  refine ⟨a, c, rfl, (Tuple_any a c ds w hin ?_ ?_ (fun t ht => (hd t ht).2.2)).mono fun e w' h => h.room⟩
  · unfold Small
    exact ⟨by omega, smallAll_mk fun t ht => (hd t ht).2.1⟩
  · unfold cnT
    omega

theorem systemLimit_val (w : World) : Calls Tryz.prog 42 #[] w fun e w' => e = .returned (.agg #[.int .i64 3, .int .i64 0, .float .f64 0, .string ⟨#[115, 121, 115, 116, 101, 109, 95, 108, 105, 109, 105, 116]⟩, .slice none 0 0]) ∧ Below w.heap.size w w' := by
  have AT := hidb (fun w => atom_val ⟨#[115, 121, 115, 116, 101, 109, 95, 108, 105, 109, 105, 116]⟩ w)
  have HB : Hid (Below w.heap.size w (w.alloc (.cells #[.int .i64 0, .int .i64 0, .float .f64 0, .string ⟨#[]⟩, .slice none 0 0] 25))) := hidb (below_new w _)
  have HR : Hid ((w.alloc (.cells #[.int .i64 0, .int .i64 0, .float .f64 0, .string ⟨#[]⟩, .slice none 0 0] 25)).heap[w.heap.size]? = some (.cells #[.int .i64 0, .int .i64 0, .float .f64 0, .string ⟨#[]⟩, .slice none 0 0] 25)) := hidb (at_new w _)
  go_enter Tryz.func42, Tryz.ntmps42
  go_wp2_with (go_at_call 41; refine (AT.out _).mono ?_; rintro e w1 ⟨rfl, hb1⟩; have HB := hidb (HB.out.trans (hb1.mono HB.out.size)); obtain ⟨r0, r1, r2, r3, r4⟩ := box5 (at_keep HR.out hb1); obtain ⟨g0, g1, g2, g3, g4⟩ := fro5 (at_keep HR.out hb1); clear hb1)
  exact bodyPost_ret (v := .agg #[.int .i64 3, .int .i64 0, .float .f64 0, .string ⟨#[115, 121, 115, 116, 101, 109, 95, 108, 105, 109, 105, 116]⟩, .slice none 0 0]) (by simp [results, Tryz.results42, go_sem, r0, r1, r2, r3, r4]) rfl ⟨rfl, by (repeat (refine Below.setCell ?_ (by first | (simp; done) | (simp; omega)) _)); exact HB.out⟩

theorem grown_below {w w' : World} (h : w.grownBy w' none) : Below w.heap.size w w' := ⟨h.os, h.tape, h.output, h.size, fun k hk => h.block k hk (by simp)⟩
end Go.Proofs.YtliebilpddmhkaaGreat


/- exits.message of an exit signal. -/
namespace Go.Proofs.YtliebilpddmhkaaGreat
open Go.RowKit Go.Lib Go.Deep
attribute [local go_sem] store_float f64bits
attribute [local go_sem ↓] Go.wp_at_zero Go.wp_at_succ

theorem one_cells (w : World) (v0 v1 v2 v3 v4 : Value) (t : TypeId) : ∀ j u, [v0, v1, v2, v3, v4][j]? = some u → (w.alloc (.cells #[v0, v1, v2, v3, v4] t)).cell? ((⟨w.heap.size, 0, none⟩ : Addr).add j) = some u := World.news_of_block ((MapKept.heap_alloc w _).1)

/-- What message needs of its arguments. -/
structure MsgIn (x0 : Int) (t : Tr) (ad : Addr) (w : World) : Prop where
  fr : Tr.InAll w 0 ad [aTr ⟨#[69, 88, 73, 84]⟩, pTr x0]
  tin : t.In w 0
  sm : Small t
  cn : cnT t ≤ 800000000
  ok : errT t = 0
  lo : 0 ≤ x0
  hi : x0 ≤ 1099511627776

theorem err_exit : errT (aTr ⟨#[69, 88, 73, 84]⟩) = 0 := by decide
theorem err_sys : errT sysT = 0 := by decide
theorem err_pid {x0 : Int} (h0 : 0 ≤ x0) (h1 : x0 ≤ 1099511627776) : errT (pTr x0) = 0 := by
  simp [errT, pTr, meas, measAll, own, allT, allAll, goodT, h0, h1, ByteArray.toList_eq]
theorem leaf_small (k n : Int) (f : Nat) (s : ByteArray) (a : Option Addr) (c : Nat) : Small (.mk k n f s a c []) := by unfold Small SmallAll; exact ⟨by simp, trivial⟩
theorem MsgIn.all {x0 : Int} {t : Tr} {ad : Addr} {w w' : World} (h : MsgIn x0 t ad w) (hb : Below w.heap.size w w') : ∀ u, u ∈ [aTr ⟨#[69, 88, 73, 84]⟩, pTr x0] ++ [t] → u.In w' 0 ∧ Small u ∧ errT u = 0 := by
  have h3 := h.fr
  unfold Tr.InAll Tr.InAll at h3
  intro u hu
  simp at hu
  rcases hu with rfl | rfl | rfl
  · exact ⟨in_below hb h3.2.1, leaf_small _ _ _ _ _ _, err_exit⟩
  · exact ⟨in_below hb h3.2.2.2.1, leaf_small _ _ _ _ _ _, err_pid h.lo h.hi⟩
  · exact ⟨in_below hb h.tin, h.sm, h.ok⟩
theorem sys_in (w : World) : sysT.In w 0 := by
  unfold sysT aTr Tr.In
  exact ⟨⟨by decide, by decide, by decide, by decide, Nat.le_refl _, Nat.zero_le _, fun _ => rfl⟩, fun ad h => by simp at h⟩
theorem MsgIn.alls {x0 : Int} {t : Tr} {ad : Addr} {w w' : World} (h : MsgIn x0 t ad w) (hb : Below w.heap.size w w') : ∀ u, u ∈ [aTr ⟨#[69, 88, 73, 84]⟩, pTr x0] ++ [sysT] → u.In w' 0 ∧ Small u ∧ errT u = 0 := by
  intro u hu
  rcases List.mem_append.1 hu with hu | hu
  · exact h.all hb u (List.mem_append.2 (.inl hu))
  · obtain rfl : u = sysT := by simpa using hu
    exact ⟨sys_in _, leaf_small _ _ _ _ _ _, err_sys⟩
theorem err_msgs {x0 : Int} (h0 : 0 ≤ x0) (h1 : x0 ≤ 1099511627776) : errT (msgOf x0 sysT) = 0 := by
  simp [errT, msgOf, sysT, aTr, pTr, meas, measAll, own, allT, allAll, goodT, h0, h1, ByteArray.toList_eq]
  decide
theorem cn_fs (x0 : Int) (t : Tr) : cnA ([aTr ⟨#[69, 88, 73, 84]⟩, pTr x0] ++ [t]) = 2 + cnT t := by simp [cnA, cnT, aTr, pTr]; omega
end Go.Proofs.YtliebilpddmhkaaGreat


