/- The document's tree: Drop. -/
import Derived.Test.YtejjffgolipdmaaAvG
import Derived.Test.YtejjffgolipdmaaRgD
namespace Go.Proofs.Ytejjffgolipdmaa
open Go.RowKit Go.Lib
attribute [local go_sem ↓] Go.wp_at_zero Go.wp_at_succ

/-- An append at a step of a region that draws its order. -/
theorem step_app {P : Program} {w : World} {ops : Array Oper} {o : Oper} {a : Act} {K : Act → World → Prop} {Q : Exit → Act → World → Prop} {E : Prop} (hgd : o.guard = none) (s x : Operand) (t : TypeId)
    (ho : o.op = .call { callee := .builtin .append, args := #[s, x], argTypes := #[t, t] })
    (base : Nat) (e : TypeId) (i : TypeInfo) (z : Value) (size bytes : Nat) (ht : P.underlying t = some (.slice e)) (hi : P.info? e = some i) (hz : i.zero = some z)
    (hsize : i.size = size) (hby : i.bytes = bytes) (hzs : z.cells.size = size) (hsz : 0 < size)
    (v : Value) (n : Nat) (xs : List Value) (hs : a.eval s = v) (hown : w.ownsRow base e size v n xs)
    (ad : Addr) (m c : Nat) (news : List Value) (hx : a.eval x = .slice (some ad) m c) (hl : news.length = m * size) (hnews : ∀ j u, news[j]? = some u → w.cell? (ad.add j) = some u) (h1 : ∀ u ∈ news, u.oneCell' = true)
    (h63 : n + m ≤ maxLen) (hbytes : (n + m) * bytes ≤ 140737488355328) (hbase : base ≤ w.heap.size)
    (h : ∀ v' w', w'.ownsRow base e size v' (n + m) (xs ++ news) → w.grownBy w' v.ownBlock → (v'.ownBlock = v.ownBlock ∨ v'.ownBlock = some w.heap.size) → K (a.put o.dst v') w') :
    if Region.wanted o (yielded ops a.tmps) = true then Oper.wp P o a w K Q else E := by
  have hw : Region.wanted o (yielded ops a.tmps) = true := by simp [Region.wanted, hgd]
  rw [if_pos hw]
  obtain ⟨v', w', hr, h2, h3, h4, h5⟩ := run_append_own_at (P := P) w base t o.type e i z size bytes ht hi hz hsize hby hzs hsz v n xs hown ad m c news hl hnews h1 h63 hbytes hbase
  unfold Oper.wp execOp
  simp only [ho, resolve, invoke, builtin, Sem.run_bind, Sem.run_pure, Result.andThen_ok, List.map_toArray, List.map_cons, List.map_nil, hs, hx, hr]
  exact h v' w' h2 h3 h5

theorem drop_mid (a b : List Int) (x : Int) : (a ++ x :: b).drop (a.length + 1) = b := by
  induction a with
  | nil => rfl
  | cons y a ih => simp [ih]

theorem Fld.new1 {w Y : World} {rb : Nat} {V1 V2 V' : Value} {ks vs zs : List Int} {n1 n2 m : Nat} (h : Fld w rb V1 V2 ks vs n1 n2) (hb : Below w.heap.size w Y) (ho : Y.ownsRow w.heap.size IT 1 V' m (ivs zs)) :
    Fld (Y.setCell ⟨rb, 0, none⟩ V') rb V' V2 zs vs m n2 ∧ But (fun k => k = rb) w (Y.setCell ⟨rb, 0, none⟩ V') ∧ ∀ g, V'.ownBlock = some g → w.heap.size ≤ g := by
  have hl := h.duo.lt
  have hg : ∀ g, V'.ownBlock = some g → w.heap.size ≤ g := fun g e => (ho.lt g e).1
  have hs : But (fun k => k = rb) Y (Y.setCell ⟨rb, 0, none⟩ V') := (But.refl (fun k => k = rb) Y).setCell (p := ⟨rb, 0, none⟩) (fun _ => rfl) _
  have hk := h.keep hb
  exact ⟨⟨hk.duo.set0 _, row_lift (row_but ho hs (fun g e e' => by have := hg g e; omega)) (fun _ _ => Nat.zero_le _), row_but hk.o2 hs (fun g e e' => h.d2 (e' ▸ e)), fun e => by have := hg rb e; omega, h.d2, fun g e e' => by have := hg g e; have := (h.o2.lt g e').2; omega⟩, (But.of_below hb).trans hs, hg⟩

theorem Fld.new2 {w Y : World} {rb : Nat} {V1 V2 V' : Value} {ks vs zs : List Int} {n1 n2 m : Nat} (h : Fld w rb V1 V2 ks vs n1 n2) (hb : Below w.heap.size w Y) (ho : Y.ownsRow w.heap.size IT 1 V' m (ivs zs)) :
    Fld (Y.setCell ⟨rb, 1, none⟩ V') rb V1 V' ks zs n1 m ∧ But (fun k => k = rb) w (Y.setCell ⟨rb, 1, none⟩ V') ∧ ∀ g, V'.ownBlock = some g → w.heap.size ≤ g := by
  have hl := h.duo.lt
  have hg : ∀ g, V'.ownBlock = some g → w.heap.size ≤ g := fun g e => (ho.lt g e).1
  have hs : But (fun k => k = rb) Y (Y.setCell ⟨rb, 1, none⟩ V') := (But.refl (fun k => k = rb) Y).setCell (p := ⟨rb, 1, none⟩) (fun _ => rfl) _
  have hk := h.keep hb
  exact ⟨⟨hk.duo.set1 _, row_but hk.o1 hs (fun g e e' => h.d1 (e' ▸ e)), row_lift (row_but ho hs (fun g e e' => by have := hg g e; omega)) (fun _ _ => Nat.zero_le _), h.d1, fun e => by have := hg rb e; omega, fun g e e' => by have := hg g e'; have := (h.o1.lt g e).2; omega⟩, (But.of_below hb).trans hs, hg⟩

/-- What lies behind a place of a row, as a slice. -/
theorem cut_news {w : World} {B g c n i k : Nat} {l : List Int} (h : w.ownsRow B IT 1 (.slice (some ⟨g, 0, none⟩) n c) n (ivs l)) (hn : n = i + 1 + k) (hc : n ≤ c) {ad : Addr} (had : (if c = i + 1 then some (⟨g, 0, none⟩ : Addr) else some ⟨g, i + 1, none⟩) = some ad) :
    ad.block = g ∧ ∀ j u, (ivs (l.drop (i + 1)))[j]? = some u → w.cell? (ad.add j) = some u := by
  have hl : n = l.length := by have := h.1; rw [ivs_length] at this; omega
  by_cases e : c = i + 1
  · rw [if_pos e] at had
    obtain rfl : (⟨g, 0, none⟩ : Addr) = ad := by simpa using had
    refine ⟨rfl, fun j u hj => ?_⟩
    have := (List.getElem?_eq_some_iff.1 hj).1
    rw [ivs_length, List.length_drop] at this
    omega
  · rw [if_neg e] at had
    obtain rfl : (⟨g, i + 1, none⟩ : Addr) = ad := by simpa using had
    refine ⟨rfl, fun j u hj => ?_⟩
    have hjl := (List.getElem?_eq_some_iff.1 hj).1
    rw [ivs_length, List.length_drop] at hjl
    have e1 : (⟨g, i + 1, none⟩ : Addr).add j = ⟨g, i + 1 + j, none⟩ := by unfold Addr.add; split <;> simp_all
    rw [e1, h.cellAt (i + 1 + j) (by omega), ← hj]
    simp [ivs]

set_option maxRecDepth 100000 in
set_option maxHeartbeats 8000000 in
theorem rdrop_any {w : World} {rb : Nat} {E : Nat → Prop} {L : List KV} (h : RB w rb E L) (hr : Rise L) (key : Int) (hN : L.length ≤ 90000) :
    Calls Try.prog 16 #[.pointer (some ⟨rb, 0, none⟩), .int .i64 key] w fun e w' => e = .returned (.bool (getL key L).isSome) ∧ RB w' rb (Ne E w w') (delL key L) ∧ But (fun k => k = rb ∨ E k) w w' := by
  obtain ⟨A, B, rfl, h1, h2⟩ := split_at (key := key) hr
  have hf := rfind_any h hr key h1 h2 (by omega)
  have hgs := getL_split hr h1 h2
  cases hg : getL key (A ++ B) with
  | none =>
    rw [hg] at hf
    have HR : Hid (∀ w1, Below w.heap.size w w1 → RB w1 rb (Ne E w w1) (delL key (A ++ B))) := hidb (fun w1 hb => by
      rw [del_of_none hg]
      exact (h.keep hb).mono (fun k _ hk => .inl hk))
    clear h hr h1 h2 hN hgs
    have HF := hidb hf
    clear hf
    go_enter Try.func16, Try.ntmps16
    go_wp2_with (go_at_call 24; refine HF.out.mono ?_; clear HF; rintro e w1 ⟨rfl, hb⟩; have HBL := hidb hb; clear hb)
    go_ret
    exact ⟨rfl, HR.out _ HBL.out, But.of_below HBL.out⟩
  | some v0 =>
    rw [hg] at hf hgs
    cases B with
    | nil => cases hgs
    | cons y r =>
      obtain ⟨yk, yv⟩ := y
      have hyk : yk = key := by
        by_cases e : yk = key
        · exact e
        · simp [e] at hgs
      subst hyk
      rw [del_here hr]
      obtain ⟨n, hn⟩ : ∃ n, (A ++ (yk, yv) :: r).length = n := ⟨_, rfl⟩
      rw [hn] at hN
      have C : Hid (Calls Try.prog 24 #[.pointer (some ⟨rb, 0, none⟩), .int .i64 yk] w fun e w1 => ∃ g1 c1 g2 c2, e = .returned (.tuple #[.int .i64 (A.length : Int), .bool true]) ∧ Fld w1 rb (.slice (some ⟨g1, 0, none⟩) n c1) (.slice (some ⟨g2, 0, none⟩) n c2) (keysOf (A ++ (yk, yv) :: r)) (valsOf (A ++ (yk, yv) :: r)) n n ∧ Hid (E g1 ∧ E g2 ∧ n ≤ c1 ∧ n ≤ c2 ∧ Below w.heap.size w w1)) := by
        refine hidb (hf.mono ?_)
        rintro e w1 ⟨rfl, hb⟩
        obtain ⟨V1, V2, hF, e1, e2⟩ := Fld.of (h.keep hb)
        rw [hn] at hF
        have hk1 : (keysOf (A ++ (yk, yv) :: r))[A.length]? = some yk := by simp [keysOf]
        have hk2 : (valsOf (A ++ (yk, yv) :: r))[A.length]? = some yv := by simp [valsOf]
        obtain ⟨g1, c1, rfl, -⟩ := row_get hF.o1 hk1
        obtain ⟨g2, c2, rfl, -⟩ := row_get hF.o2 hk2
        have hc1 : n ≤ c1 := by
          rcases hF.o1.2 with ⟨h0, _⟩ | ⟨g', cap, cur, h0, _, _, hc, _⟩
          · cases h0
          · obtain ⟨_, rfl⟩ : g1 = g' ∧ c1 = cap := by simpa using h0
            exact hc
        have hc2 : n ≤ c2 := by
          rcases hF.o2.2 with ⟨h0, _⟩ | ⟨g', cap, cur, h0, _, _, hc, _⟩
          · cases h0
          · obtain ⟨_, rfl⟩ : g2 = g' ∧ c2 = cap := by simpa using h0
            exact hc
        exact ⟨g1, c1, g2, c2, rfl, hF, hidb ⟨e1 g1 rfl, e2 g2 rfl, hc1, hc2, hb⟩⟩
      have HAB : Hid (n = A.length + 1 + r.length ∧ n ≤ 90000) := hidb (by simp at hn; omega)
      obtain ⟨i0, hi0, hz0, hz1, hz2⟩ := infoI
      have HL := hidb h.lt
      clear h hr h1 h2 hN hgs hf hg hn
      go_enter Try.func16, Try.ntmps16
      go_wp2_with (go_at_call 24; refine C.out.mono ?_; clear C; rintro e w1 ⟨g1, c1, g2, c2, rfl, hF, HE⟩; have HF := hidb hF; clear hF)
      have hab := HAB.out
      have he := HE.out
      have s1 : (0 : Int) ≤ (A.length : Int) := by omega
      have s2 : (A.length : Int) ≤ (c1 : Int) := by omega
      have s3 : IntKind.i64.wrap ((A.length : Int) + 1) = ((A.length + 1 : Nat) : Int) := by rw [IntKind.wrap_i64]; omega
      have s4 : (0 : Int) ≤ (A.length : Int) + 1 := by omega
      have s5 : (A.length : Int) + 1 ≤ (n : Int) := by omega
      have s6 : (n : Int) ≤ (c1 : Int) := by omega
      clear he hab
      have HS0 : Hid (w1.drew.cell? ⟨rb, 0, none⟩ = some (.slice (some ⟨g1, 0, none⟩) n c1)) := hidb HF.out.duo.c0
      obtain ⟨ad, had⟩ : ∃ ad : Addr, (if c1 = A.length + 1 then some (⟨g1, 0, none⟩ : Addr) else some ⟨g1, A.length + 1, none⟩) = some ad := by split <;> exact ⟨_, rfl⟩
      have HAD := hidb had
      clear had
      have hbA : Below w1.heap.size w1 (w1.alloc (.cells #[] 3)).drew := (below_new _ _).drew
      have HFA := hidb (HF.out.keep hbA)
      refine wp_region_D (fun w' => w'.cell? ⟨rb, 0, none⟩ = some (.slice (some ⟨g1, 0, none⟩) n c1)) [19] (by kernel_rfl) ?_
      refine wpAnyD_takeL (i := 0) (v := ?vv0x0) rfl (by kernel_rfl) (by kernel_rfl) (by kernel_rfl) (by kernel_rfl) (fun _ _ _ h => h) HS0.out rfl ?hy0x0 ?_
      case hy0x0 => intro wy hSw; go_simp; try with_reducible rfl
      simp only [Act.put, List.setIfInBounds_toArray, List.set_cons_zero, List.set_cons_succ]
      refine wpAnyD_takeL (i := 2) (v := ?vv2x0) rfl (by kernel_rfl) (by kernel_rfl) (by kernel_rfl) (by kernel_rfl) (fun _ _ _ h => h) HS0.out rfl ?hy2x0 ?_
      case hy2x0 => intro wy hSw; go_simp; try with_reducible rfl
      simp only [Act.put, List.setIfInBounds_toArray, List.set_cons_zero, List.set_cons_succ]
      refine wpAnyD_takeL (i := 3) (v := ?vv3x0) rfl (by kernel_rfl) (by kernel_rfl) (by kernel_rfl) (by kernel_rfl) (fun _ _ _ h => h) HS0.out rfl ?hy3x0 ?_
      case hy3x0 => intro wy hSw; go_simp; try with_reducible rfl
      simp only [Act.put, List.setIfInBounds_toArray, List.set_cons_zero, List.set_cons_succ]
      refine wpAnyD_takeL (i := 4) (v := ?vv4x0) rfl (by kernel_rfl) (by kernel_rfl) (by kernel_rfl) (by kernel_rfl) (fun _ _ _ h => h) HS0.out rfl ?hy4x0 ?_
      case hy4x0 => intro wy hSw; go_simp; try with_reducible rfl
      simp only [Act.put, List.setIfInBounds_toArray, List.set_cons_zero, List.set_cons_succ]
      refine wpAnyD_takeL (i := 5) (v := ?vv5x0) rfl (by kernel_rfl) (by kernel_rfl) (by kernel_rfl) (by kernel_rfl) (fun _ _ _ h => h) HS0.out rfl ?hy5x0 ?_
      case hy5x0 => intro wy hSw; go_simp; try with_reducible rfl
      simp only [Act.put, List.setIfInBounds_toArray, List.set_cons_zero, List.set_cons_succ]
      refine wpAnyD_takeL (i := 6) (v := ?vv6x0) rfl (by kernel_rfl) (by kernel_rfl) (by kernel_rfl) (by kernel_rfl) (fun _ _ _ h => h) HS0.out rfl ?hy6x0 ?_
      case hy6x0 => intro wy hSw; go_simp; try with_reducible rfl
      simp only [Act.put, List.setIfInBounds_toArray, List.set_cons_zero, List.set_cons_succ]
      refine wpAnyD_takeL (i := 7) (v := ?vv7x0) rfl (by kernel_rfl) (by kernel_rfl) (by kernel_rfl) (by kernel_rfl) (fun _ _ _ h => h) HS0.out rfl ?hy7x0 ?_
      case hy7x0 => intro wy hSw; go_simp; try with_reducible rfl
      simp only [Act.put, List.setIfInBounds_toArray, List.set_cons_zero, List.set_cons_succ]
      refine wpAnyD_takeL (i := 9) (v := ?vv9x0) rfl (by kernel_rfl) (by kernel_rfl) (by kernel_rfl) (by kernel_rfl) (fun _ _ _ h => h) HS0.out rfl ?hy9x0 ?_
      case hy9x0 => intro wy hSw; go_simp; try with_reducible rfl
      simp only [Act.put, List.setIfInBounds_toArray, List.set_cons_zero, List.set_cons_succ]
      refine wpAnyD_takeL (i := 10) (v := ?vv10x0) rfl (by kernel_rfl) (by kernel_rfl) (by kernel_rfl) (by kernel_rfl) (fun _ _ _ h => h) HS0.out rfl ?hy10x0 ?_
      case hy10x0 => intro wy hSw; go_simp; try with_reducible rfl
      simp only [Act.put, List.setIfInBounds_toArray, List.set_cons_zero, List.set_cons_succ]
      refine wpAnyD_takeL (i := 11) (v := ?vv11x0) rfl (by kernel_rfl) (by kernel_rfl) (by kernel_rfl) (by kernel_rfl) (fun _ _ _ h => h) HS0.out rfl ?hy11x0 ?_
      case hy11x0 => intro wy hSw; go_simp; try with_reducible rfl
      simp only [Act.put, List.setIfInBounds_toArray, List.set_cons_zero, List.set_cons_succ]
      refine wpAnyD_takeL (i := 12) (v := ?vv12x0) rfl (by kernel_rfl) (by kernel_rfl) (by kernel_rfl) (by kernel_rfl) (fun _ _ _ h => h) HS0.out rfl ?hy12x0 ?_
      case hy12x0 => intro wy hSw; go_simp; try with_reducible rfl
      simp only [Act.put, List.setIfInBounds_toArray, List.set_cons_zero, List.set_cons_succ]
      refine wpAnyD_takeL (i := 13) (v := ?vv13x0) rfl (by kernel_rfl) (by kernel_rfl) (by kernel_rfl) (by kernel_rfl) (fun _ _ _ h => h) HS0.out rfl ?hy13x0 ?_
      case hy13x0 => intro wy hSw; go_simp; try with_reducible rfl
      simp only [Act.put, List.setIfInBounds_toArray, List.set_cons_zero, List.set_cons_succ]
      refine wpAnyD_takeL (i := 14) (v := ?vv14x0) rfl (by kernel_rfl) (by kernel_rfl) (by kernel_rfl) (by kernel_rfl) (fun _ _ _ h => h) HS0.out rfl ?hy14x0 ?_
      case hy14x0 => intro wy hSw; go_simp; try with_reducible rfl
      simp only [Act.put, List.setIfInBounds_toArray, List.set_cons_zero, List.set_cons_succ]
      refine wpAnyD_takeL (i := 15) (v := ?vv15x0) rfl (by kernel_rfl) (by kernel_rfl) (by kernel_rfl) (by kernel_rfl) (fun _ _ _ h => h) HS0.out rfl ?hy15x0 ?_
      case hy15x0 => intro wy hSw; go_simp; try with_reducible rfl
      simp only [Act.put, List.setIfInBounds_toArray, List.set_cons_zero, List.set_cons_succ]
      rw [HAD.out]
      refine wpAnyD_stepL (i := 1) (by kernel_rfl) rfl (fun K hK => ?_)
      go_simp
      refine hK _ _ (fun _ => HFA.out.duo.c0) ?_
      clear hK K
      refine wpAnyD_stepL (i := 8) (by kernel_rfl) rfl (fun K hK => ?_)
      refine step_app rfl (.tmp 16) (.tmp 22) 27 rfl w1.heap.size IT i0 (.int .i64 0) 1 8 Try.underlying27 hi0 hz0 hz1 hz2 rfl (by decide) (.slice (some ⟨w1.heap.size, 0, none⟩) 0 0) 0 [] rfl ?own1x0 ⟨g1, 0, none⟩ A.length c1 (ivs (keysOf A)) rfl ?len1x0 ?news1x0 (ivs_one _) ?m1x0 ?b1x0 ?base1x0 ?_
      case own1x0 => exact row_but (World.ownsRow_made w1 #[] 0 (Nat.le_refl _) (by unfold maxLen; omega) (by simp)) (But.of_below (S := fun _ => False) ((Below.refl _ _).drew)) (fun _ _ h => h)
      case len1x0 => simp [ivs]
      case news1x0 =>
        intro j u hj
        have hjl := (List.getElem?_eq_some_iff.1 hj).1
        rw [ivs_length, List.length_map] at hjl
        have e1 : (⟨g1, 0, none⟩ : Addr).add j = ⟨g1, j, none⟩ := by unfold Addr.add; split <;> simp_all
        rw [e1, HFA.out.o1.cellAt j (by have := HAB.out; omega), ← hj, keys_split, ivs_append, List.getElem?_append_left (by rw [ivs_length, List.length_map]; exact hjl)]
      case m1x0 => have := HAB.out; unfold maxLen; omega
      case b1x0 => have := HAB.out; omega
      case base1x0 => show w1.heap.size ≤ (w1.alloc (.cells #[] 3)).heap.size; simp
      intro v1 Y1 hown1 hgrow1 hat1
      have hbY : Below w1.heap.size w1 Y1 := hbA.grown hgrow1 (by have := hbA.size; omega) (fun k e => by have : k = w1.heap.size := (by simpa [Value.ownBlock] using e.symm); omega)
      have HFY := hidb (HF.out.keep hbY)
      obtain ⟨b1, d1, rfl⟩ := own_sl hown1
      refine hK _ _ (fun _ => HFY.out.duo.c0) ?_
      clear hK K
      simp only [Act.put, List.setIfInBounds_toArray, List.set_cons_zero, List.set_cons_succ]
      refine wpAnyD_stepL (i := 16) (by kernel_rfl) rfl (fun K hK => ?_)
      refine step_app rfl (.tmp 23) (.tmp 30) 27 rfl w1.heap.size IT i0 (.int .i64 0) 1 8 Try.underlying27 hi0 hz0 hz1 hz2 rfl (by decide) (.slice b1 (0 + A.length) d1) (0 + A.length) _ rfl hown1 ad (n - (A.length + 1)) (c1 - (A.length + 1)) (ivs (keysOf r)) ?ev2x0 ?len2x0 ?news2x0 (ivs_one _) ?m2x0 ?b2x0 ?base2x0 ?_
      case ev2x0 => rfl
      case len2x0 => have := HAB.out; simp [ivs]; omega
      case news2x0 =>
        intro j u hj
        have hd : (keysOf (A ++ (yk, yv) :: r)).drop (A.length + 1) = keysOf r := by
          have := drop_mid (keysOf A) (keysOf r) yk
          rw [show (keysOf A).length = A.length by simp] at this
          rw [keys_split]; exact this
        have hcy := cut_news HFY.out.o1 HAB.out.1 HE.out.2.2.1 HAD.out
        rw [hd] at hcy
        exact hcy.2 j u hj
      case m2x0 => have := HAB.out; unfold maxLen; omega
      case b2x0 => have := HAB.out; omega
      case base2x0 => exact hbY.size
      intro v2 Y2 hown2 hgrow2 hat2
      obtain ⟨b2, d2, rfl⟩ := own_sl hown2
      have hbZ : Below w1.heap.size w1 Y2 := hbY.grown hgrow2 hbY.size (fun k e => (hown1.lt k e).1)
      have hzs : [] ++ ivs (keysOf A) ++ ivs (keysOf r) = ivs (keysOf (A ++ r)) := by rw [keys_split, ivs_append]; rfl
      rw [hzs] at hown2
      have HNEW := hidb (HF.out.new1 hbZ hown2)
      have HFZ := hidb (HF.out.keep hbZ)
      have z0 := HFZ.out.duo.c0
      have z1 := HFZ.out.duo.f0
      refine hK _ _ (fun _ => HFZ.out.duo.c0) ?_
      clear hK K
      simp only [Act.put, List.setIfInBounds_toArray, List.set_cons_zero, List.set_cons_succ]
      refine wpAnyD_stepL (i := 17) (by kernel_rfl) rfl (fun K hK => ?_)
      go_simp
      refine hK _ _ (fun _ => HFZ.out.duo.c0) ?_
      clear hK K
      refine wpAnyD_stepL (i := 18) (by kernel_rfl) rfl (fun K hK => ?_)
      go_simp
      refine hK _ _ (fun _ => HFZ.out.duo.c0) ?_
      clear hK K
      clear hown1 hgrow1 hat1 hown2 hgrow2 hat2 hzs hbA hbY hbZ HFA HFY
      refine wpAnyD_stepL (i := 19) (by kernel_rfl) rfl (fun K hK => ?_)
      go_simp
      refine hK _ _ (fun h => absurd (List.mem_singleton.2 rfl) h) ?_
      clear hK K
      refine wpAnyD_done (by kernel_rfl) ?_ _
      go_wp2_with fail
      simp only [Nat.zero_add] at HNEW
      obtain ⟨hF2, hBm, hgm⟩ := HNEW.out
      have HGM := hidb hgm
      obtain ⟨W2, hW2⟩ : ∃ W2, (Y2.setCell ⟨rb, 0, none⟩ (.slice b2 (A.length + (n - (A.length + 1))) d2)) = W2 := ⟨_, rfl⟩
      rw [hW2] at hF2 hBm ⊢
      have HF2 := hidb hF2
      have HBM := hidb hBm
      clear hF2 hBm hgm HNEW HFZ z0 z1 hW2 HS0 HAD s1 s2 s3 s4 s5 s6 HF
      have hab := HAB.out
      have he := HE.out
      have s1 : (0 : Int) ≤ (A.length : Int) := by omega
      have s2 : (A.length : Int) ≤ (c2 : Int) := by omega
      have s3 : IntKind.i64.wrap ((A.length : Int) + 1) = ((A.length + 1 : Nat) : Int) := by rw [IntKind.wrap_i64]; omega
      have s4 : (0 : Int) ≤ (A.length : Int) + 1 := by omega
      have s5 : (A.length : Int) + 1 ≤ (n : Int) := by omega
      have s6 : (n : Int) ≤ (c2 : Int) := by omega
      clear he hab
      have HS0 : Hid (W2.drew.cell? ⟨rb, 1, none⟩ = some (.slice (some ⟨g2, 0, none⟩) n c2)) := hidb HF2.out.duo.c1
      obtain ⟨ad, had⟩ : ∃ ad : Addr, (if c2 = A.length + 1 then some (⟨g2, 0, none⟩ : Addr) else some ⟨g2, A.length + 1, none⟩) = some ad := by split <;> exact ⟨_, rfl⟩
      have HAD := hidb had
      clear had
      have hbA : Below W2.heap.size W2 (W2.alloc (.cells #[] 3)).drew := (below_new _ _).drew
      have HFA := hidb (HF2.out.keep hbA)
      refine wp_region_D (fun w' => w'.cell? ⟨rb, 1, none⟩ = some (.slice (some ⟨g2, 0, none⟩) n c2)) [19] (by kernel_rfl) ?_
      refine wpAnyD_takeL (i := 0) (v := ?vv0x1) rfl (by kernel_rfl) (by kernel_rfl) (by kernel_rfl) (by kernel_rfl) (fun _ _ _ h => h) HS0.out rfl ?hy0x1 ?_
      case hy0x1 => intro wy hSw; go_simp; try with_reducible rfl
      simp only [Act.put, List.setIfInBounds_toArray, List.set_cons_zero, List.set_cons_succ]
      refine wpAnyD_takeL (i := 2) (v := ?vv2x1) rfl (by kernel_rfl) (by kernel_rfl) (by kernel_rfl) (by kernel_rfl) (fun _ _ _ h => h) HS0.out rfl ?hy2x1 ?_
      case hy2x1 => intro wy hSw; go_simp; try with_reducible rfl
      simp only [Act.put, List.setIfInBounds_toArray, List.set_cons_zero, List.set_cons_succ]
      refine wpAnyD_takeL (i := 3) (v := ?vv3x1) rfl (by kernel_rfl) (by kernel_rfl) (by kernel_rfl) (by kernel_rfl) (fun _ _ _ h => h) HS0.out rfl ?hy3x1 ?_
      case hy3x1 => intro wy hSw; go_simp; try with_reducible rfl
      simp only [Act.put, List.setIfInBounds_toArray, List.set_cons_zero, List.set_cons_succ]
      refine wpAnyD_takeL (i := 4) (v := ?vv4x1) rfl (by kernel_rfl) (by kernel_rfl) (by kernel_rfl) (by kernel_rfl) (fun _ _ _ h => h) HS0.out rfl ?hy4x1 ?_
      case hy4x1 => intro wy hSw; go_simp; try with_reducible rfl
      simp only [Act.put, List.setIfInBounds_toArray, List.set_cons_zero, List.set_cons_succ]
      refine wpAnyD_takeL (i := 5) (v := ?vv5x1) rfl (by kernel_rfl) (by kernel_rfl) (by kernel_rfl) (by kernel_rfl) (fun _ _ _ h => h) HS0.out rfl ?hy5x1 ?_
      case hy5x1 => intro wy hSw; go_simp; try with_reducible rfl
      simp only [Act.put, List.setIfInBounds_toArray, List.set_cons_zero, List.set_cons_succ]
      refine wpAnyD_takeL (i := 6) (v := ?vv6x1) rfl (by kernel_rfl) (by kernel_rfl) (by kernel_rfl) (by kernel_rfl) (fun _ _ _ h => h) HS0.out rfl ?hy6x1 ?_
      case hy6x1 => intro wy hSw; go_simp; try with_reducible rfl
      simp only [Act.put, List.setIfInBounds_toArray, List.set_cons_zero, List.set_cons_succ]
      refine wpAnyD_takeL (i := 7) (v := ?vv7x1) rfl (by kernel_rfl) (by kernel_rfl) (by kernel_rfl) (by kernel_rfl) (fun _ _ _ h => h) HS0.out rfl ?hy7x1 ?_
      case hy7x1 => intro wy hSw; go_simp; try with_reducible rfl
      simp only [Act.put, List.setIfInBounds_toArray, List.set_cons_zero, List.set_cons_succ]
      refine wpAnyD_takeL (i := 9) (v := ?vv9x1) rfl (by kernel_rfl) (by kernel_rfl) (by kernel_rfl) (by kernel_rfl) (fun _ _ _ h => h) HS0.out rfl ?hy9x1 ?_
      case hy9x1 => intro wy hSw; go_simp; try with_reducible rfl
      simp only [Act.put, List.setIfInBounds_toArray, List.set_cons_zero, List.set_cons_succ]
      refine wpAnyD_takeL (i := 10) (v := ?vv10x1) rfl (by kernel_rfl) (by kernel_rfl) (by kernel_rfl) (by kernel_rfl) (fun _ _ _ h => h) HS0.out rfl ?hy10x1 ?_
      case hy10x1 => intro wy hSw; go_simp; try with_reducible rfl
      simp only [Act.put, List.setIfInBounds_toArray, List.set_cons_zero, List.set_cons_succ]
      refine wpAnyD_takeL (i := 11) (v := ?vv11x1) rfl (by kernel_rfl) (by kernel_rfl) (by kernel_rfl) (by kernel_rfl) (fun _ _ _ h => h) HS0.out rfl ?hy11x1 ?_
      case hy11x1 => intro wy hSw; go_simp; try with_reducible rfl
      simp only [Act.put, List.setIfInBounds_toArray, List.set_cons_zero, List.set_cons_succ]
      refine wpAnyD_takeL (i := 12) (v := ?vv12x1) rfl (by kernel_rfl) (by kernel_rfl) (by kernel_rfl) (by kernel_rfl) (fun _ _ _ h => h) HS0.out rfl ?hy12x1 ?_
      case hy12x1 => intro wy hSw; go_simp; try with_reducible rfl
      simp only [Act.put, List.setIfInBounds_toArray, List.set_cons_zero, List.set_cons_succ]
      refine wpAnyD_takeL (i := 13) (v := ?vv13x1) rfl (by kernel_rfl) (by kernel_rfl) (by kernel_rfl) (by kernel_rfl) (fun _ _ _ h => h) HS0.out rfl ?hy13x1 ?_
      case hy13x1 => intro wy hSw; go_simp; try with_reducible rfl
      simp only [Act.put, List.setIfInBounds_toArray, List.set_cons_zero, List.set_cons_succ]
      refine wpAnyD_takeL (i := 14) (v := ?vv14x1) rfl (by kernel_rfl) (by kernel_rfl) (by kernel_rfl) (by kernel_rfl) (fun _ _ _ h => h) HS0.out rfl ?hy14x1 ?_
      case hy14x1 => intro wy hSw; go_simp; try with_reducible rfl
      simp only [Act.put, List.setIfInBounds_toArray, List.set_cons_zero, List.set_cons_succ]
      refine wpAnyD_takeL (i := 15) (v := ?vv15x1) rfl (by kernel_rfl) (by kernel_rfl) (by kernel_rfl) (by kernel_rfl) (fun _ _ _ h => h) HS0.out rfl ?hy15x1 ?_
      case hy15x1 => intro wy hSw; go_simp; try with_reducible rfl
      simp only [Act.put, List.setIfInBounds_toArray, List.set_cons_zero, List.set_cons_succ]
      rw [HAD.out]
      refine wpAnyD_stepL (i := 1) (by kernel_rfl) rfl (fun K hK => ?_)
      go_simp
      refine hK _ _ (fun _ => HFA.out.duo.c1) ?_
      clear hK K
      refine wpAnyD_stepL (i := 8) (by kernel_rfl) rfl (fun K hK => ?_)
      refine step_app rfl (.tmp 35) (.tmp 41) 27 rfl W2.heap.size IT i0 (.int .i64 0) 1 8 Try.underlying27 hi0 hz0 hz1 hz2 rfl (by decide) (.slice (some ⟨W2.heap.size, 0, none⟩) 0 0) 0 [] rfl ?own1x1 ⟨g2, 0, none⟩ A.length c2 (ivs (valsOf A)) rfl ?len1x1 ?news1x1 (ivs_one _) ?m1x1 ?b1x1 ?base1x1 ?_
      case own1x1 => exact row_but (World.ownsRow_made W2 #[] 0 (Nat.le_refl _) (by unfold maxLen; omega) (by simp)) (But.of_below (S := fun _ => False) ((Below.refl _ _).drew)) (fun _ _ h => h)
      case len1x1 => simp [ivs]
      case news1x1 =>
        intro j u hj
        have hjl := (List.getElem?_eq_some_iff.1 hj).1
        rw [ivs_length, List.length_map] at hjl
        have e1 : (⟨g2, 0, none⟩ : Addr).add j = ⟨g2, j, none⟩ := by unfold Addr.add; split <;> simp_all
        rw [e1, HFA.out.o2.cellAt j (by have := HAB.out; omega), ← hj, vals_split, ivs_append, List.getElem?_append_left (by rw [ivs_length, List.length_map]; exact hjl)]
      case m1x1 => have := HAB.out; unfold maxLen; omega
      case b1x1 => have := HAB.out; omega
      case base1x1 => show W2.heap.size ≤ (W2.alloc (.cells #[] 3)).heap.size; simp
      intro v1 Y1 hown1 hgrow1 hat1
      have hbY : Below W2.heap.size W2 Y1 := hbA.grown hgrow1 (by have := hbA.size; omega) (fun k e => by have : k = W2.heap.size := (by simpa [Value.ownBlock] using e.symm); omega)
      have HFY := hidb (HF2.out.keep hbY)
      obtain ⟨b1, d1, rfl⟩ := own_sl hown1
      refine hK _ _ (fun _ => HFY.out.duo.c1) ?_
      clear hK K
      simp only [Act.put, List.setIfInBounds_toArray, List.set_cons_zero, List.set_cons_succ]
      refine wpAnyD_stepL (i := 16) (by kernel_rfl) rfl (fun K hK => ?_)
      refine step_app rfl (.tmp 42) (.tmp 49) 27 rfl W2.heap.size IT i0 (.int .i64 0) 1 8 Try.underlying27 hi0 hz0 hz1 hz2 rfl (by decide) (.slice b1 (0 + A.length) d1) (0 + A.length) _ rfl hown1 ad (n - (A.length + 1)) (c2 - (A.length + 1)) (ivs (valsOf r)) ?ev2x1 ?len2x1 ?news2x1 (ivs_one _) ?m2x1 ?b2x1 ?base2x1 ?_
      case ev2x1 => rfl
      case len2x1 => have := HAB.out; simp [ivs]; omega
      case news2x1 =>
        intro j u hj
        have hd : (valsOf (A ++ (yk, yv) :: r)).drop (A.length + 1) = valsOf r := by
          have := drop_mid (valsOf A) (valsOf r) yv
          rw [show (valsOf A).length = A.length by simp] at this
          rw [vals_split]; exact this
        have hcy := cut_news HFY.out.o2 HAB.out.1 HE.out.2.2.2.1 HAD.out
        rw [hd] at hcy
        exact hcy.2 j u hj
      case m2x1 => have := HAB.out; unfold maxLen; omega
      case b2x1 => have := HAB.out; omega
      case base2x1 => exact hbY.size
      intro v2 Y2 hown2 hgrow2 hat2
      obtain ⟨b2, d2, rfl⟩ := own_sl hown2
      have hbZ : Below W2.heap.size W2 Y2 := hbY.grown hgrow2 hbY.size (fun k e => (hown1.lt k e).1)
      have hzs : [] ++ ivs (valsOf A) ++ ivs (valsOf r) = ivs (valsOf (A ++ r)) := by rw [vals_split, ivs_append]; rfl
      rw [hzs] at hown2
      have HNEW := hidb (HF2.out.new2 hbZ hown2)
      have HFZ := hidb (HF2.out.keep hbZ)
      have z0 := HFZ.out.duo.c1
      have z1 := HFZ.out.duo.f1
      refine hK _ _ (fun _ => HFZ.out.duo.c1) ?_
      clear hK K
      simp only [Act.put, List.setIfInBounds_toArray, List.set_cons_zero, List.set_cons_succ]
      refine wpAnyD_stepL (i := 17) (by kernel_rfl) rfl (fun K hK => ?_)
      go_simp
      refine hK _ _ (fun _ => HFZ.out.duo.c1) ?_
      clear hK K
      refine wpAnyD_stepL (i := 18) (by kernel_rfl) rfl (fun K hK => ?_)
      go_simp
      refine hK _ _ (fun _ => HFZ.out.duo.c1) ?_
      clear hK K
      clear hown1 hgrow1 hat1 hown2 hgrow2 hat2 hzs hbA hbY hbZ HFA HFY
      refine wpAnyD_stepL (i := 19) (by kernel_rfl) rfl (fun K hK => ?_)
      go_simp
      refine hK _ _ (fun h => absurd (List.mem_singleton.2 rfl) h) ?_
      clear hK K
      refine wpAnyD_done (by kernel_rfl) ?_ _
      go_wp2_with fail
      simp only [Nat.zero_add] at HNEW
      obtain ⟨hF3, hBn, hgn⟩ := HNEW.out
      have hlen : A.length + (n - (A.length + 1)) = (A ++ r).length := by have := HAB.out; simp; omega
      have hgm := HGM.out
      have hb1 := HE.out.2.2.2.2
      have hs1 := hb1.size
      have hs2 := HBM.out.size
      rw [hlen] at hF3 hBn hgn hgm ⊢
      go_ret
      refine ⟨rfl, (hF3.rb (E := fun k => E k ∨ w.heap.size ≤ k) (fun g e => .inr (Nat.le_trans hs1 (hgm g e))) (fun g e => .inr (Nat.le_trans (Nat.le_trans hs1 hs2) (hgn g e)))).mono (fun k hlt h => h.elim .inl (fun h => .inr ⟨h, hlt⟩)), ((But.of_below hb1).trans (HBM.out.mono (fun k _ h => .inl h))).trans (hBn.mono (fun k _ h => .inl h))⟩

end Go.Proofs.Ytejjffgolipdmaa
