/- The document's registry: a name is dropped. -/
import Derived.Test.YtfhgohpldpnkbaaNn0
import Derived.Test.YtfhgohpldpnkbaaRgD
import Derived.Deep.DrawnRows
import Derived.Laws.AppendOwnNone
namespace Go.Proofs.Ytfhgohpldpnkbaa
open Go.RowKit Go.Lib Go.Maps
attribute [local go_sem ↓] Go.wp_at_zero Go.wp_at_succ

/-- An append at a step of a region that draws its order. -/
theorem step_app {P : Program} {w : World} {ops : Array Oper} {o : Oper} {a : Act} {K : Act → World → Prop} {Q : Exit → Act → World → Prop} {E : Prop} (hgd : o.guard = none) (s x : Operand) (t : TypeId)
    (ho : o.op = .call { callee := .builtin .append, args := #[s, x], argTypes := #[t, t] })
    (base : Nat) (e : TypeId) (i : TypeInfo) (z : Value) (size bytes : Nat) (ht : P.underlying t = some (.slice e)) (hi : P.info? e = some i) (hz : i.zero = some z)
    (hsize : i.size = size) (hby : i.bytes = bytes) (hzs : z.cells.size = size) (hsz : 0 < size)
    (v : Value) (n : Nat) (xs : List Value) (hs : a.eval s = v) (hown : w.ownsRow base e size v n xs)
    (ad : Addr) (m c : Nat) (news : List Value) (hx : a.eval x = .slice (some ad) m c) (hl : news.length = m * size) (hnews : ∀ j u, news[j]? = some u → w.cell? (ad.add j) = some u) (h1 : ∀ u ∈ news, u.oneCell' = true)
    (h63 : n + m ≤ maxLen) (hbytes : (n + m) * bytes ≤ 140737488355328) (hbase : base ≤ w.heap.size)
    (h : ∀ v' w', w'.ownsRow base e size v' (n + m) (xs ++ news) → w.grownBy w' v.ownBlock → (v'.ownBlock = v.ownBlock ∨ v'.ownBlock = some w.heap.size) → K (a.put o.dst v') w') :
    if Region.wanted o (yielded ops a.tmps) = true then Oper.wp P o a w K Q else E := by
  have hw : Region.wanted o (yielded ops a.tmps) = true := by simp [Region.wanted, hgd]
  rw [if_pos hw]
  obtain ⟨v', w', hr, h2, h3, h4, h5⟩ := run_append_own_at (P := P) w base t o.type e i z size bytes ht hi hz hsize hby hzs hsz v n xs hown ad m c news hl hnews h1 h63 hbytes hbase
  unfold Oper.wp execOp
  simp only [ho, resolve, invoke, builtin, Sem.run_bind, Sem.run_pure, Result.andThen_ok, List.map_toArray, List.map_cons, List.map_nil, hs, hx, hr]
  exact h v' w' h2 h3 h5

theorem infoI : (Try.prog.info? 3).map (fun i => (i.zero, i.size, i.bytes)) = some (some (.int .i64 0), 1, 8) := by kernel_rfl
theorem row_keep {w w' : World} {base : Nat} {v : Value} {n : Nat} {e : TypeId} {xs : List Value} (h : w.ownsRow base e 1 v n xs) (hb : Below w.heap.size w w') : w'.ownsRow base e 1 v n xs := row_but h (But.of_below (S := fun _ => False) hb) (fun _ _ h => h)
theorem row_cap {w : World} {B g c n e : Nat} {xs : List Value} (h : w.ownsRow B e 1 (.slice (some ⟨g, 0, none⟩) n c) n xs) : n ≤ c := by
  obtain ⟨a, c', e, hc⟩ := row_sl h
  injection e with _ _ e
  omega
theorem add_pl (b o m : Nat) : (⟨b, o, none⟩ : Addr).add m = ⟨b, o + m, none⟩ := by unfold Addr.add; split <;> simp_all
theorem head_news {w w' : World} {B g c n e i : Nat} {xs : List Value} (h : w.ownsRow B e 1 (.slice (some ⟨g, 0, none⟩) n c) n xs) (hb : Below w.heap.size w w') (hi : i ≤ n) : ∀ (j : Nat) (u : Value), (xs.take i)[j]? = some u → w'.cell? ((⟨g, 0, none⟩ : Addr).add j) = some u := by
  intro j u hj
  have hl := h.1
  have hji : j < i := by
    rcases Nat.lt_or_ge j i with k | k
    · exact k
    · rw [List.getElem?_eq_none (by rw [List.length_take]; omega)] at hj; cases hj
  rw [List.getElem?_take_of_lt hji] at hj
  have hc : w.cell? ⟨g, j, none⟩ = some u := by rw [h.cellAt j (by omega), hj]
  rw [add_pl, Nat.zero_add, hb.cell (World.block_lt_of_cell? _ _ hc), hc]
theorem cut_from {w w' : World} {B g c n e i : Nat} {xs : List Value} (h : w.ownsRow B e 1 (.slice (some ⟨g, 0, none⟩) n c) n xs) (hb : Below w.heap.size w w') (hi : i ≤ n) {ad : Addr} (had : (if c = i then some (⟨g, 0, none⟩ : Addr) else some ⟨g, i, none⟩) = some ad) :
    ∀ (j : Nat) (u : Value), (xs.drop i)[j]? = some u → w'.cell? (ad.add j) = some u := by
  intro j u hj
  have hl := h.1
  have hcap := row_cap h
  have hjl := (List.getElem?_eq_some_iff.1 hj).1
  rw [List.length_drop] at hjl
  rw [if_neg (by omega)] at had
  obtain rfl : (⟨g, i, none⟩ : Addr) = ad := by simpa using had
  rw [List.getElem?_drop] at hj
  have hc : w.cell? ⟨g, i + j, none⟩ = some u := by rw [h.cellAt (i + j) (by omega), hj]
  rw [add_pl, hb.cell (World.block_lt_of_cell? _ _ hc), hc]
theorem made0 (w : World) (e : TypeId) : (w.alloc (.cells #[] e)).ownsRow w.heap.size e 1 (.slice (some ⟨w.heap.size, 0, none⟩) 0 0) 0 [] := World.ownsRow_made w #[] 0 (Nat.le_refl _) (by unfold maxLen; omega) (by simp)

/-- The document's two rows, in a block r. -/
structure Fd (w : World) (r : Nat) (V0 V1 : Value) (n0 n1 : Nat) (xs ys : List Value) : Prop where
  duo : Duo w r V0 V1
  o0 : w.ownsRow 0 ST 1 V0 n0 xs
  o1 : w.ownsRow 0 IT 1 V1 n1 ys
  d0 : V0.ownBlock ≠ some r
  d1 : V1.ownBlock ≠ some r
theorem Fd.keep {w w' : World} {r n0 n1 : Nat} {V0 V1 : Value} {xs ys : List Value} (h : Fd w r V0 V1 n0 n1 xs ys) (hb : Below w.heap.size w w') : Fd w' r V0 V1 n0 n1 xs ys := ⟨h.duo.keep hb, row_keep h.o0 hb, row_keep h.o1 hb, h.d0, h.d1⟩
theorem Fd.new0 {w Y : World} {r n0 n1 m : Nat} {V0 V1 V' : Value} {xs ys zs : List Value} (h : Fd w r V0 V1 n0 n1 xs ys) (hb : Below w.heap.size w Y) (ho : Y.ownsRow w.heap.size ST 1 V' m zs) :
    Fd (Y.setCell ⟨r, 0, none⟩ V') r V' V1 m n1 zs ys ∧ But (fun k => k = r) w (Y.setCell ⟨r, 0, none⟩ V') ∧ ∀ g, V'.ownBlock = some g → w.heap.size ≤ g ∧ g < Y.heap.size := by
  have hl := h.duo.lt
  have hg : ∀ g, V'.ownBlock = some g → w.heap.size ≤ g ∧ g < Y.heap.size := fun g e => ho.lt g e
  have hs : But (fun k => k = r) Y (Y.setCell ⟨r, 0, none⟩ V') := (But.refl (fun k => k = r) Y).setCell (p := ⟨r, 0, none⟩) (fun _ => rfl) _
  have hk := h.keep hb
  exact ⟨⟨hk.duo.set0 _, row_base (row_but ho hs (fun g e e' => by have := hg g e; omega)) (Nat.zero_le _), row_but hk.o1 hs (fun g e e' => h.d1 (e' ▸ e)), fun e => by have := hg r e; omega, h.d1⟩, (But.of_below hb).trans hs, hg⟩
theorem Fd.new1 {w Y : World} {r n0 n1 m : Nat} {V0 V1 V' : Value} {xs ys zs : List Value} (h : Fd w r V0 V1 n0 n1 xs ys) (hb : Below w.heap.size w Y) (ho : Y.ownsRow w.heap.size IT 1 V' m zs) :
    Fd (Y.setCell ⟨r, 1, none⟩ V') r V0 V' n0 m xs zs ∧ But (fun k => k = r) w (Y.setCell ⟨r, 1, none⟩ V') ∧ ∀ g, V'.ownBlock = some g → w.heap.size ≤ g ∧ g < Y.heap.size := by
  have hl := h.duo.lt
  have hg : ∀ g, V'.ownBlock = some g → w.heap.size ≤ g ∧ g < Y.heap.size := fun g e => ho.lt g e
  have hs : But (fun k => k = r) Y (Y.setCell ⟨r, 1, none⟩ V') := (But.refl (fun k => k = r) Y).setCell (p := ⟨r, 1, none⟩) (fun _ => rfl) _
  have hk := h.keep hb
  exact ⟨⟨hk.duo.set1 _, row_but hk.o0 hs (fun g e e' => h.d0 (e' ▸ e)), row_base (row_but ho hs (fun g e e' => by have := hg g e; omega)) (Nat.zero_le _), h.d0, fun e => by have := hg r e; omega⟩, (But.of_below hb).trans hs, hg⟩

/-- What a call has made of the document's registry. -/
structure RU (w w' : World) (r : Nat) (E : Nat → Prop) (R : List NP) : Prop where
  bt : But (fun k => k = r) w w'
  rn : RN w' r (fun k => E k ∨ w.heap.size ≤ k ∧ k < w'.heap.size) R
theorem RU.same {w : World} {r : Nat} {E : Nat → Prop} {R : List NP} (h : RN w r E R) : RU w w r E R := by
  obtain ⟨v0, v1, h1, h2, h3, h4, h5⟩ := h.rows
  exact ⟨But.refl _ _, v0, v1, h1, h2, h3, fun k hk => ⟨.inl (h4 k hk).1, (h4 k hk).2⟩, fun k hk => ⟨.inl (h5 k hk).1, (h5 k hk).2⟩⟩
theorem nms_take (R : List NP) (i : Nat) : (nms R).take i = nms (R.take i) := by simp [List.map_take]
theorem nms_drop (R : List NP) (i : Nat) : (nms R).drop i = nms (R.drop i) := by simp [List.map_drop]
theorem pds_take (R : List NP) (i : Nat) : (pds R).take i = pds (R.take i) := by simp [List.map_take]
theorem pds_drop (R : List NP) (i : Nat) : (pds R).drop i = pds (R.drop i) := by simp [List.map_drop]
theorem nms_one (R : List NP) : ∀ u ∈ nms R, u.oneCell' = true := by
  intro u hu
  obtain ⟨x, _, rfl⟩ := List.mem_map.1 hu
  simp [Value.oneCell']
theorem pds_one (R : List NP) : ∀ u ∈ pds R, u.oneCell' = true := by
  intro u hu
  obtain ⟨x, _, rfl⟩ := List.mem_map.1 hu
  simp [Value.oneCell']

set_option maxRecDepth 100000 in
set_option maxHeartbeats 8000000 in
theorem rdrop {w : World} {r : Nat} {E : Nat → Prop} {R : List NP} (h : RN w r E R) (hN : R.length ≤ 90000) {i : Nat} (hi : i < R.length) :
    Calls Try.prog 26 #[.pointer (some ⟨r, 0, none⟩), .int .i64 (i : Int)] w fun e w' => e = .returned (.tuple #[]) ∧ RU w w' r E (R.eraseIdx i) := by
  obtain ⟨V0, V1, hd, h0, h1, he0, he1⟩ := h.rows
  obtain ⟨n, hn⟩ : ∃ n, R.length = n := ⟨_, rfl⟩
  rw [hn] at h0 h1 hN hi
  obtain ⟨g0, c0, rfl, -⟩ := row_at h0 (i := i) (x := .string (R[i]'(by omega)).1) (by simp [hn, hi])
  obtain ⟨g1, c1, rfl, -⟩ := row_at h1 (i := i) (x := .int .i64 (R[i]'(by omega)).2) (by simp [hn, hi])
  have hF : Fd w r (.slice (some ⟨g0, 0, none⟩) n c0) (.slice (some ⟨g1, 0, none⟩) n c1) n n (nms R) (pds R) := ⟨hd, h0, h1, fun e => (he0 r e).2 rfl, fun e => (he1 r e).2 rfl⟩
  have HAB : Hid (R.length = n ∧ i < n ∧ n ≤ 90000 ∧ n ≤ c0 ∧ n ≤ c1) := hidb ⟨hn, hi, hN, row_cap h0, row_cap h1⟩
  have HF := hidb hF
  obtain ⟨i0, hi0, hz0, hz1, hz2⟩ := info_parts infoS
  obtain ⟨j0, hj0, hy0, hy1, hy2⟩ := info_parts infoI
  clear hd h0 h1 hN hn hi he0 he1 hF h
  go_enter Try.func26, Try.ntmps26
  go_wp2_with fail
  have hab := HAB.out
  have s1 : (0 : Int) ≤ (i : Int) := by omega
  have s2 : (i : Int) ≤ (c0 : Int) := by omega
  have s3 : IntKind.i64.wrap ((i : Int) + 1) = ((i + 1 : Nat) : Int) := by rw [IntKind.wrap_i64]; omega
  have s4 : (0 : Int) ≤ (i : Int) + 1 := by omega
  have s5 : (i : Int) + 1 ≤ (n : Int) := by omega
  have s6 : (n : Int) ≤ (c0 : Int) := by omega
  clear hab
  have HS0 : Hid (w.drew.cell? ⟨r, 0, none⟩ = some (.slice (some ⟨g0, 0, none⟩) n c0)) := hidb HF.out.duo.c0
  obtain ⟨ad, had⟩ : ∃ ad : Addr, (if c0 = i + 1 then some (⟨g0, 0, none⟩ : Addr) else some ⟨g0, i + 1, none⟩) = some ad := by split <;> exact ⟨_, rfl⟩
  have HAD := hidb had
  clear had
  have hbA : Below w.heap.size w (w.alloc (.cells #[] 9)).drew := (below_new _ _).drew
  refine wp_region_D (fun w' => w'.cell? ⟨r, 0, none⟩ = some (.slice (some ⟨g0, 0, none⟩) n c0)) [19] (by kernel_rfl) ?_
  refine wpAnyD_takeL (i := 0) (v := ?vv0x0) rfl (by kernel_rfl) (by kernel_rfl) (by kernel_rfl) (by kernel_rfl) (fun _ _ _ h => h) HS0.out rfl ?hy0x0 ?_
  case hy0x0 => intro wy hSw; go_simp; try with_reducible rfl
  simp only [Act.put, List.setIfInBounds_toArray, List.set_cons_zero, List.set_cons_succ]
  refine wpAnyD_takeL (i := 2) (v := ?vv2x0) rfl (by kernel_rfl) (by kernel_rfl) (by kernel_rfl) (by kernel_rfl) (fun _ _ _ h => h) HS0.out rfl ?hy2x0 ?_
  case hy2x0 => intro wy hSw; go_simp; try with_reducible rfl
  simp only [Act.put, List.setIfInBounds_toArray, List.set_cons_zero, List.set_cons_succ]
  refine wpAnyD_takeL (i := 3) (v := ?vv3x0) rfl (by kernel_rfl) (by kernel_rfl) (by kernel_rfl) (by kernel_rfl) (fun _ _ _ h => h) HS0.out rfl ?hy3x0 ?_
  case hy3x0 => intro wy hSw; go_simp; try with_reducible rfl
  simp only [Act.put, List.setIfInBounds_toArray, List.set_cons_zero, List.set_cons_succ]
  refine wpAnyD_takeL (i := 4) (v := ?vv4x0) rfl (by kernel_rfl) (by kernel_rfl) (by kernel_rfl) (by kernel_rfl) (fun _ _ _ h => h) HS0.out rfl ?hy4x0 ?_
  case hy4x0 => intro wy hSw; go_simp; try with_reducible rfl
  simp only [Act.put, List.setIfInBounds_toArray, List.set_cons_zero, List.set_cons_succ]
  refine wpAnyD_takeL (i := 5) (v := ?vv5x0) rfl (by kernel_rfl) (by kernel_rfl) (by kernel_rfl) (by kernel_rfl) (fun _ _ _ h => h) HS0.out rfl ?hy5x0 ?_
  case hy5x0 => intro wy hSw; go_simp; try with_reducible rfl
  simp only [Act.put, List.setIfInBounds_toArray, List.set_cons_zero, List.set_cons_succ]
  refine wpAnyD_takeL (i := 6) (v := ?vv6x0) rfl (by kernel_rfl) (by kernel_rfl) (by kernel_rfl) (by kernel_rfl) (fun _ _ _ h => h) HS0.out rfl ?hy6x0 ?_
  case hy6x0 => intro wy hSw; go_simp; try with_reducible rfl
  simp only [Act.put, List.setIfInBounds_toArray, List.set_cons_zero, List.set_cons_succ]
  refine wpAnyD_takeL (i := 7) (v := ?vv7x0) rfl (by kernel_rfl) (by kernel_rfl) (by kernel_rfl) (by kernel_rfl) (fun _ _ _ h => h) HS0.out rfl ?hy7x0 ?_
  case hy7x0 => intro wy hSw; go_simp; try with_reducible rfl
  simp only [Act.put, List.setIfInBounds_toArray, List.set_cons_zero, List.set_cons_succ]
  refine wpAnyD_takeL (i := 9) (v := ?vv9x0) rfl (by kernel_rfl) (by kernel_rfl) (by kernel_rfl) (by kernel_rfl) (fun _ _ _ h => h) HS0.out rfl ?hy9x0 ?_
  case hy9x0 => intro wy hSw; go_simp; try with_reducible rfl
  simp only [Act.put, List.setIfInBounds_toArray, List.set_cons_zero, List.set_cons_succ]
  refine wpAnyD_takeL (i := 10) (v := ?vv10x0) rfl (by kernel_rfl) (by kernel_rfl) (by kernel_rfl) (by kernel_rfl) (fun _ _ _ h => h) HS0.out rfl ?hy10x0 ?_
  case hy10x0 => intro wy hSw; go_simp; try with_reducible rfl
  simp only [Act.put, List.setIfInBounds_toArray, List.set_cons_zero, List.set_cons_succ]
  refine wpAnyD_takeL (i := 11) (v := ?vv11x0) rfl (by kernel_rfl) (by kernel_rfl) (by kernel_rfl) (by kernel_rfl) (fun _ _ _ h => h) HS0.out rfl ?hy11x0 ?_
  case hy11x0 => intro wy hSw; go_simp; try with_reducible rfl
  simp only [Act.put, List.setIfInBounds_toArray, List.set_cons_zero, List.set_cons_succ]
  refine wpAnyD_takeL (i := 12) (v := ?vv12x0) rfl (by kernel_rfl) (by kernel_rfl) (by kernel_rfl) (by kernel_rfl) (fun _ _ _ h => h) HS0.out rfl ?hy12x0 ?_
  case hy12x0 => intro wy hSw; go_simp; try with_reducible rfl
  simp only [Act.put, List.setIfInBounds_toArray, List.set_cons_zero, List.set_cons_succ]
  refine wpAnyD_takeL (i := 13) (v := ?vv13x0) rfl (by kernel_rfl) (by kernel_rfl) (by kernel_rfl) (by kernel_rfl) (fun _ _ _ h => h) HS0.out rfl ?hy13x0 ?_
  case hy13x0 => intro wy hSw; go_simp; try with_reducible rfl
  simp only [Act.put, List.setIfInBounds_toArray, List.set_cons_zero, List.set_cons_succ]
  refine wpAnyD_takeL (i := 14) (v := ?vv14x0) rfl (by kernel_rfl) (by kernel_rfl) (by kernel_rfl) (by kernel_rfl) (fun _ _ _ h => h) HS0.out rfl ?hy14x0 ?_
  case hy14x0 => intro wy hSw; go_simp; try with_reducible rfl
  simp only [Act.put, List.setIfInBounds_toArray, List.set_cons_zero, List.set_cons_succ]
  refine wpAnyD_takeL (i := 15) (v := ?vv15x0) rfl (by kernel_rfl) (by kernel_rfl) (by kernel_rfl) (by kernel_rfl) (fun _ _ _ h => h) HS0.out rfl ?hy15x0 ?_
  case hy15x0 => intro wy hSw; go_simp; try with_reducible rfl
  simp only [Act.put, List.setIfInBounds_toArray, List.set_cons_zero, List.set_cons_succ]
  rw [HAD.out]
  refine wpAnyD_stepL (i := 1) (by kernel_rfl) rfl (fun K hK => ?_)
  go_simp
  refine hK _ _ (fun _ => (HF.out.keep hbA).duo.c0) ?_
  clear hK K
  refine wpAnyD_stepL (i := 8) (by kernel_rfl) rfl (fun K hK => ?_)
  refine step_app rfl (.tmp 5) (.tmp 11) 27 rfl w.heap.size 9 i0 (.string ⟨#[]⟩) 1 16 Try.underlying27 hi0 hz0 hz1 hz2 rfl (by decide) (.slice (some ⟨w.heap.size, 0, none⟩) 0 0) 0 [] rfl (row_keep (made0 w 9) ((Below.refl _ _).drew)) ⟨g0, 0, none⟩ i c0 (nms (R.take i)) rfl ?len1x0 ?news1x0 (nms_one _) ?m1x0 ?b1x0 ?base1x0 ?_
  case len1x0 => have := HAB.out; simp; omega
  case news1x0 => rw [← nms_take]; exact head_news HF.out.o0 hbA (by have := HAB.out; omega)
  case m1x0 => have := HAB.out; unfold maxLen; omega
  case b1x0 => have := HAB.out; omega
  case base1x0 => exact hbA.size
  intro v1 Y1 hown1 hgrow1 hat1
  have hbY : Below w.heap.size w Y1 := hbA.grown hgrow1 hbA.size (fun k e => by have : k = w.heap.size := (by simpa [Value.ownBlock] using e.symm); omega)
  rw [Nat.zero_add, List.nil_append] at hown1
  obtain ⟨b1, d1, rfl, -⟩ := row_sl hown1
  refine hK _ _ (fun _ => (HF.out.keep hbY).duo.c0) ?_
  clear hK K
  simp only [Act.put, List.setIfInBounds_toArray, List.set_cons_zero, List.set_cons_succ]
  refine wpAnyD_stepL (i := 16) (by kernel_rfl) rfl (fun K hK => ?_)
  refine step_app rfl (.tmp 12) (.tmp 19) 27 rfl w.heap.size 9 i0 (.string ⟨#[]⟩) 1 16 Try.underlying27 hi0 hz0 hz1 hz2 rfl (by decide) (.slice b1 i d1) i _ rfl hown1 ad (n - (i + 1)) (c0 - (i + 1)) (nms (R.drop (i + 1))) ?ev2x0 ?len2x0 ?news2x0 (nms_one _) ?m2x0 ?b2x0 ?base2x0 ?_
  case ev2x0 => rfl
  case len2x0 => have := HAB.out; simp; omega
  case news2x0 => rw [← nms_drop]; exact cut_from HF.out.o0 hbY (by have := HAB.out; omega) HAD.out
  case m2x0 => have := HAB.out; unfold maxLen; omega
  case b2x0 => have := HAB.out; omega
  case base2x0 => exact hbY.size
  intro v2 Y2 hown2 hgrow2 hat2
  obtain ⟨b2, d2, rfl, -⟩ := row_sl hown2
  have hbZ : Below w.heap.size w Y2 := hbY.grown hgrow2 hbY.size (fun k e => (hown1.lt k e).1)
  have hzs : nms (R.take i) ++ nms (R.drop (i + 1)) = nms (R.eraseIdx i) := by rw [List.eraseIdx_eq_take_drop_succ]; exact List.map_append.symm
  rw [hzs] at hown2
  have HNEW := hidb (HF.out.new0 hbZ hown2)
  have HFZ := hidb (HF.out.keep hbZ)
  have z0 := HFZ.out.duo.c0
  have z1 := HFZ.out.duo.f0
  refine hK _ _ (fun _ => HFZ.out.duo.c0) ?_
  clear hK K
  simp only [Act.put, List.setIfInBounds_toArray, List.set_cons_zero, List.set_cons_succ]
  refine wpAnyD_stepL (i := 17) (by kernel_rfl) rfl (fun K hK => ?_)
  go_simp
  refine hK _ _ (fun _ => HFZ.out.duo.c0) ?_
  clear hK K
  refine wpAnyD_stepL (i := 18) (by kernel_rfl) rfl (fun K hK => ?_)
  go_simp
  refine hK _ _ (fun _ => HFZ.out.duo.c0) ?_
  clear hK K
  clear hown1 hgrow1 hat1 hown2 hgrow2 hat2 hzs hbA hbY hbZ
  refine wpAnyD_stepL (i := 19) (by kernel_rfl) rfl (fun K hK => ?_)
  go_simp
  refine hK _ _ (fun h => absurd (List.mem_singleton.2 rfl) h) ?_
  clear hK K
  refine wpAnyD_done (by kernel_rfl) ?_ _
  obtain ⟨W2, hW2⟩ : ∃ W2, (Y2.setCell ⟨r, 0, none⟩ (.slice b2 (i + (n - (i + 1))) d2)) = W2 := ⟨_, rfl⟩
  rw [hW2]
  rw [hW2] at HNEW
  have HF2 := hidb HNEW.out.1
  have HB2 := hidb HNEW.out.2.1
  have HG2 : Hid (∀ g, (Value.slice b2 (i + (n - (i + 1))) d2).ownBlock = some g → w.heap.size ≤ g ∧ g < W2.heap.size) := hidb (fun g e => by have := HNEW.out.2.2 g e; rw [← hW2]; simpa using this)
  clear hW2 HNEW HFZ z0 z1 HS0 HAD s1 s2 s3 s4 s5 s6
  generalize i + (n - (i + 1)) = m0 at *
  go_wp2_with fail
  have hab := HAB.out
  have s1 : (0 : Int) ≤ (i : Int) := by omega
  have s2 : (i : Int) ≤ (c1 : Int) := by omega
  have s3 : IntKind.i64.wrap ((i : Int) + 1) = ((i + 1 : Nat) : Int) := by rw [IntKind.wrap_i64]; omega
  have s4 : (0 : Int) ≤ (i : Int) + 1 := by omega
  have s5 : (i : Int) + 1 ≤ (n : Int) := by omega
  have s6 : (n : Int) ≤ (c1 : Int) := by omega
  clear hab
  have HS0 : Hid (W2.drew.cell? ⟨r, 1, none⟩ = some (.slice (some ⟨g1, 0, none⟩) n c1)) := hidb HF2.out.duo.c1
  obtain ⟨ad, had⟩ : ∃ ad : Addr, (if c1 = i + 1 then some (⟨g1, 0, none⟩ : Addr) else some ⟨g1, i + 1, none⟩) = some ad := by split <;> exact ⟨_, rfl⟩
  have HAD := hidb had
  clear had
  have hbA : Below W2.heap.size W2 (W2.alloc (.cells #[] 3)).drew := (below_new _ _).drew
  refine wp_region_D (fun w' => w'.cell? ⟨r, 1, none⟩ = some (.slice (some ⟨g1, 0, none⟩) n c1)) [19] (by kernel_rfl) ?_
  refine wpAnyD_takeL (i := 0) (v := ?vv0x1) rfl (by kernel_rfl) (by kernel_rfl) (by kernel_rfl) (by kernel_rfl) (fun _ _ _ h => h) HS0.out rfl ?hy0x1 ?_
  case hy0x1 => intro wy hSw; go_simp; try with_reducible rfl
  simp only [Act.put, List.setIfInBounds_toArray, List.set_cons_zero, List.set_cons_succ]
  refine wpAnyD_takeL (i := 2) (v := ?vv2x1) rfl (by kernel_rfl) (by kernel_rfl) (by kernel_rfl) (by kernel_rfl) (fun _ _ _ h => h) HS0.out rfl ?hy2x1 ?_
  case hy2x1 => intro wy hSw; go_simp; try with_reducible rfl
  simp only [Act.put, List.setIfInBounds_toArray, List.set_cons_zero, List.set_cons_succ]
  refine wpAnyD_takeL (i := 3) (v := ?vv3x1) rfl (by kernel_rfl) (by kernel_rfl) (by kernel_rfl) (by kernel_rfl) (fun _ _ _ h => h) HS0.out rfl ?hy3x1 ?_
  case hy3x1 => intro wy hSw; go_simp; try with_reducible rfl
  simp only [Act.put, List.setIfInBounds_toArray, List.set_cons_zero, List.set_cons_succ]
  refine wpAnyD_takeL (i := 4) (v := ?vv4x1) rfl (by kernel_rfl) (by kernel_rfl) (by kernel_rfl) (by kernel_rfl) (fun _ _ _ h => h) HS0.out rfl ?hy4x1 ?_
  case hy4x1 => intro wy hSw; go_simp; try with_reducible rfl
  simp only [Act.put, List.setIfInBounds_toArray, List.set_cons_zero, List.set_cons_succ]
  refine wpAnyD_takeL (i := 5) (v := ?vv5x1) rfl (by kernel_rfl) (by kernel_rfl) (by kernel_rfl) (by kernel_rfl) (fun _ _ _ h => h) HS0.out rfl ?hy5x1 ?_
  case hy5x1 => intro wy hSw; go_simp; try with_reducible rfl
  simp only [Act.put, List.setIfInBounds_toArray, List.set_cons_zero, List.set_cons_succ]
  refine wpAnyD_takeL (i := 6) (v := ?vv6x1) rfl (by kernel_rfl) (by kernel_rfl) (by kernel_rfl) (by kernel_rfl) (fun _ _ _ h => h) HS0.out rfl ?hy6x1 ?_
  case hy6x1 => intro wy hSw; go_simp; try with_reducible rfl
  simp only [Act.put, List.setIfInBounds_toArray, List.set_cons_zero, List.set_cons_succ]
  refine wpAnyD_takeL (i := 7) (v := ?vv7x1) rfl (by kernel_rfl) (by kernel_rfl) (by kernel_rfl) (by kernel_rfl) (fun _ _ _ h => h) HS0.out rfl ?hy7x1 ?_
  case hy7x1 => intro wy hSw; go_simp; try with_reducible rfl
  simp only [Act.put, List.setIfInBounds_toArray, List.set_cons_zero, List.set_cons_succ]
  refine wpAnyD_takeL (i := 9) (v := ?vv9x1) rfl (by kernel_rfl) (by kernel_rfl) (by kernel_rfl) (by kernel_rfl) (fun _ _ _ h => h) HS0.out rfl ?hy9x1 ?_
  case hy9x1 => intro wy hSw; go_simp; try with_reducible rfl
  simp only [Act.put, List.setIfInBounds_toArray, List.set_cons_zero, List.set_cons_succ]
  refine wpAnyD_takeL (i := 10) (v := ?vv10x1) rfl (by kernel_rfl) (by kernel_rfl) (by kernel_rfl) (by kernel_rfl) (fun _ _ _ h => h) HS0.out rfl ?hy10x1 ?_
  case hy10x1 => intro wy hSw; go_simp; try with_reducible rfl
  simp only [Act.put, List.setIfInBounds_toArray, List.set_cons_zero, List.set_cons_succ]
  refine wpAnyD_takeL (i := 11) (v := ?vv11x1) rfl (by kernel_rfl) (by kernel_rfl) (by kernel_rfl) (by kernel_rfl) (fun _ _ _ h => h) HS0.out rfl ?hy11x1 ?_
  case hy11x1 => intro wy hSw; go_simp; try with_reducible rfl
  simp only [Act.put, List.setIfInBounds_toArray, List.set_cons_zero, List.set_cons_succ]
  refine wpAnyD_takeL (i := 12) (v := ?vv12x1) rfl (by kernel_rfl) (by kernel_rfl) (by kernel_rfl) (by kernel_rfl) (fun _ _ _ h => h) HS0.out rfl ?hy12x1 ?_
  case hy12x1 => intro wy hSw; go_simp; try with_reducible rfl
  simp only [Act.put, List.setIfInBounds_toArray, List.set_cons_zero, List.set_cons_succ]
  refine wpAnyD_takeL (i := 13) (v := ?vv13x1) rfl (by kernel_rfl) (by kernel_rfl) (by kernel_rfl) (by kernel_rfl) (fun _ _ _ h => h) HS0.out rfl ?hy13x1 ?_
  case hy13x1 => intro wy hSw; go_simp; try with_reducible rfl
  simp only [Act.put, List.setIfInBounds_toArray, List.set_cons_zero, List.set_cons_succ]
  refine wpAnyD_takeL (i := 14) (v := ?vv14x1) rfl (by kernel_rfl) (by kernel_rfl) (by kernel_rfl) (by kernel_rfl) (fun _ _ _ h => h) HS0.out rfl ?hy14x1 ?_
  case hy14x1 => intro wy hSw; go_simp; try with_reducible rfl
  simp only [Act.put, List.setIfInBounds_toArray, List.set_cons_zero, List.set_cons_succ]
  refine wpAnyD_takeL (i := 15) (v := ?vv15x1) rfl (by kernel_rfl) (by kernel_rfl) (by kernel_rfl) (by kernel_rfl) (fun _ _ _ h => h) HS0.out rfl ?hy15x1 ?_
  case hy15x1 => intro wy hSw; go_simp; try with_reducible rfl
  simp only [Act.put, List.setIfInBounds_toArray, List.set_cons_zero, List.set_cons_succ]
  rw [HAD.out]
  refine wpAnyD_stepL (i := 1) (by kernel_rfl) rfl (fun K hK => ?_)
  go_simp
  refine hK _ _ (fun _ => (HF2.out.keep hbA).duo.c1) ?_
  clear hK K
  refine wpAnyD_stepL (i := 8) (by kernel_rfl) rfl (fun K hK => ?_)
  refine step_app rfl (.tmp 24) (.tmp 30) 28 rfl W2.heap.size 3 j0 (.int .i64 0) 1 8 Try.underlying28 hj0 hy0 hy1 hy2 rfl (by decide) (.slice (some ⟨W2.heap.size, 0, none⟩) 0 0) 0 [] rfl (row_keep (made0 W2 3) ((Below.refl _ _).drew)) ⟨g1, 0, none⟩ i c1 (pds (R.take i)) rfl ?len1x1 ?news1x1 (pds_one _) ?m1x1 ?b1x1 ?base1x1 ?_
  case len1x1 => have := HAB.out; simp; omega
  case news1x1 => rw [← pds_take]; exact head_news HF2.out.o1 hbA (by have := HAB.out; omega)
  case m1x1 => have := HAB.out; unfold maxLen; omega
  case b1x1 => have := HAB.out; omega
  case base1x1 => exact hbA.size
  intro v1 Y1 hown1 hgrow1 hat1
  have hbY : Below W2.heap.size W2 Y1 := hbA.grown hgrow1 hbA.size (fun k e => by have : k = W2.heap.size := (by simpa [Value.ownBlock] using e.symm); omega)
  rw [Nat.zero_add, List.nil_append] at hown1
  obtain ⟨b1, d1, rfl, -⟩ := row_sl hown1
  refine hK _ _ (fun _ => (HF2.out.keep hbY).duo.c1) ?_
  clear hK K
  simp only [Act.put, List.setIfInBounds_toArray, List.set_cons_zero, List.set_cons_succ]
  refine wpAnyD_stepL (i := 16) (by kernel_rfl) rfl (fun K hK => ?_)
  refine step_app rfl (.tmp 31) (.tmp 38) 28 rfl W2.heap.size 3 j0 (.int .i64 0) 1 8 Try.underlying28 hj0 hy0 hy1 hy2 rfl (by decide) (.slice b1 i d1) i _ rfl hown1 ad (n - (i + 1)) (c1 - (i + 1)) (pds (R.drop (i + 1))) ?ev2x1 ?len2x1 ?news2x1 (pds_one _) ?m2x1 ?b2x1 ?base2x1 ?_
  case ev2x1 => rfl
  case len2x1 => have := HAB.out; simp; omega
  case news2x1 => rw [← pds_drop]; exact cut_from HF2.out.o1 hbY (by have := HAB.out; omega) HAD.out
  case m2x1 => have := HAB.out; unfold maxLen; omega
  case b2x1 => have := HAB.out; omega
  case base2x1 => exact hbY.size
  intro v2 Y2 hown2 hgrow2 hat2
  obtain ⟨b2, d2, rfl, -⟩ := row_sl hown2
  have hbZ : Below W2.heap.size W2 Y2 := hbY.grown hgrow2 hbY.size (fun k e => (hown1.lt k e).1)
  have hzs : pds (R.take i) ++ pds (R.drop (i + 1)) = pds (R.eraseIdx i) := by rw [List.eraseIdx_eq_take_drop_succ]; exact List.map_append.symm
  rw [hzs] at hown2
  have HNEW := hidb (HF2.out.new1 hbZ hown2)
  have HFZ := hidb (HF2.out.keep hbZ)
  have z0 := HFZ.out.duo.c1
  have z1 := HFZ.out.duo.f1
  refine hK _ _ (fun _ => HFZ.out.duo.c1) ?_
  clear hK K
  simp only [Act.put, List.setIfInBounds_toArray, List.set_cons_zero, List.set_cons_succ]
  refine wpAnyD_stepL (i := 17) (by kernel_rfl) rfl (fun K hK => ?_)
  go_simp
  refine hK _ _ (fun _ => HFZ.out.duo.c1) ?_
  clear hK K
  refine wpAnyD_stepL (i := 18) (by kernel_rfl) rfl (fun K hK => ?_)
  go_simp
  refine hK _ _ (fun _ => HFZ.out.duo.c1) ?_
  clear hK K
  clear hown1 hgrow1 hat1 hown2 hgrow2 hat2 hzs hbA hbY hbZ
  refine wpAnyD_stepL (i := 19) (by kernel_rfl) rfl (fun K hK => ?_)
  go_simp
  refine hK _ _ (fun h => absurd (List.mem_singleton.2 rfl) h) ?_
  clear hK K
  refine wpAnyD_done (by kernel_rfl) ?_ _
  go_wp2_with fail
  go_end0
  refine ⟨rfl, HB2.out.trans HNEW.out.2.1, ?_⟩
  have hm : n - 1 = (R.eraseIdx i).length := by have := HAB.out; rw [List.length_eraseIdx]; split <;> omega
  have f := HNEW.out.1
  have hs2 := HB2.out.size
  have q0 : m0 = (R.eraseIdx i).length := by have := f.o0.1; simpa using this.symm
  have q1 : i + (n - (i + 1)) = (R.eraseIdx i).length := by have := f.o1.1; simpa using this.symm
  refine ⟨_, _, f.duo, by have := f.o0; rw [q0] at this ⊢; exact this, by have := f.o1; rw [q1] at this ⊢; exact this, fun k e => ⟨.inr ?_, fun e' => f.d0 (e' ▸ e)⟩, fun k e => ⟨.inr ?_, fun e' => f.d1 (e' ▸ e)⟩⟩
  · have := HG2.out k e
    have := HNEW.out.2.1.size
    omega
  · have := HNEW.out.2.2 k e
    simp; omega
end Go.Proofs.Ytfhgohpldpnkbaa
