/- The document's half-links: drop, and what uses it. -/
import Derived.Test.YtodelafnboimnaaLr2
import Derived.Test.YtodelafnboimnaaRgD
namespace Go.Proofs.Ytodelafnboimnaa
open Go.RowKit Go.Lib
namespace HV
attribute [local go_sem ↓] Go.wp_at_zero Go.wp_at_succ

/-- An append at a step of a region that draws its order. -/
theorem step_app {P : Program} {w : World} {ops : Array Oper} {o : Oper} {a : Act} {K : Act → World → Prop} {Q : Exit → Act → World → Prop} {E : Prop} (hgd : o.guard = none) (s x : Operand) (t : TypeId)
    (ho : o.op = .call { callee := .builtin .append, args := #[s, x], argTypes := #[t, t] })
    (base : Nat) (e : TypeId) (i : TypeInfo) (z : Value) (size bytes : Nat) (ht : P.underlying t = some (.slice e)) (hi : P.info? e = some i) (hz : i.zero = some z)
    (hsize : i.size = size) (hby : i.bytes = bytes) (hzs : z.cells.size = size) (hsz : 0 < size)
    (v : Value) (n : Nat) (xs : List Value) (hs : a.eval s = v) (hown : w.ownsRow base e size v n xs)
    (ad : Addr) (m c : Nat) (news : List Value) (hx : a.eval x = .slice (some ad) m c) (hl : news.length = m * size) (hnews : ∀ j u, news[j]? = some u → w.cell? (ad.add j) = some u) (h1 : ∀ u ∈ news, u.oneCell' = true)
    (h63 : n + m ≤ maxLen) (hbytes : (n + m) * bytes ≤ 140737488355328) (hbase : base ≤ w.heap.size)
    (h : ∀ v' w', w'.ownsRow base e size v' (n + m) (xs ++ news) → w.grownBy w' v.ownBlock → (v'.ownBlock = v.ownBlock ∨ v'.ownBlock = some w.heap.size) → K (a.put o.dst v') w') :
    if Region.wanted o (yielded ops a.tmps) = true then Oper.wp P o a w K Q else E := by
  have hw : Region.wanted o (yielded ops a.tmps) = true := by simp [Region.wanted, hgd]
  rw [if_pos hw]
  obtain ⟨v', w', hr, h2, h3, h4, h5⟩ := run_append_own_at (P := P) w base t o.type e i z size bytes ht hi hz hsize hby hzs hsz v n xs hown ad m c news hl hnews h1 h63 hbytes hbase
  unfold Oper.wp execOp
  simp only [ho, resolve, invoke, builtin, Sem.run_bind, Sem.run_pure, Result.andThen_ok, List.map_toArray, List.map_cons, List.map_nil, hs, hx, hr]
  exact h v' w' h2 h3 h5

theorem drop_mid (a b : List KV) (x : KV) : (a ++ x :: b).drop (a.length + 1) = b := by
  induction a with
  | nil => rfl
  | cons y a ih => simp [ih]

set_option maxRecDepth 100000 in
set_option maxHeartbeats 8000000 in
theorem rdrop_any {w : World} {rb : Nat} {E : Nat → Prop} {A r : List KV} {y : KV} {nn : Int} (h : RT w rb E (A ++ y :: r) nn) (hN : (A ++ y :: r).length ≤ 90000) :
    Calls Try.prog 36 #[.pointer (some ⟨rb, 0, none⟩), .int .i64 (A.length : Int)] w fun e w' => e = .returned (.tuple #[]) ∧ RU w w' rb E (A ++ r) nn := by
  obtain ⟨V, hd, ho, he⟩ := h
  obtain ⟨n, hn⟩ : ∃ n, (A ++ y :: r).length = n := ⟨_, rfl⟩
  rw [hn] at hN ho
  obtain ⟨g1, c1, rfl, -⟩ := row_get ho (show (A ++ y :: r)[A.length]? = some y by simp)
  have hcap := row_cap ho
  have HAB : Hid (n = A.length + 1 + r.length ∧ n ≤ 90000 ∧ n ≤ c1) := hidb (by simp at hn; omega)
  have HD := hidb hd
  have HO := hidb ho
  obtain ⟨i0, hi0, hz0, hz1, hz2⟩ := infoH
  clear hd ho he hN hn hcap
  go_enter Try.func36, Try.ntmps36
  go_wp2_with fail
  have hab := HAB.out
  have s1 : (0 : Int) ≤ (A.length : Int) := by omega
  have s2 : (A.length : Int) ≤ (c1 : Int) := by omega
  have s3 : IntKind.i64.wrap ((A.length : Int) + 1) = ((A.length + 1 : Nat) : Int) := by rw [IntKind.wrap_i64]; omega
  have s4 : (0 : Int) ≤ (A.length : Int) + 1 := by omega
  have s5 : (A.length : Int) + 1 ≤ (n : Int) := by omega
  have s6 : (n : Int) ≤ (c1 : Int) := by omega
  clear hab
  have HS0 : Hid (w.drew.cell? ⟨rb, 0, none⟩ = some (.slice (some ⟨g1, 0, none⟩) n c1)) := hidb HD.out.c0
  obtain ⟨ad, had⟩ : ∃ ad : Addr, (if c1 = A.length + 1 then some (⟨g1, 0, none⟩ : Addr) else some ⟨g1, (A.length + 1) * 3, none⟩) = some ad := by split <;> exact ⟨_, rfl⟩
  have HAD := hidb had
  clear had
  have hbA : Below w.heap.size w (w.alloc (.cells #[] HT)).drew := (below_new _ _).drew
  refine wp_region_D (fun w' => w'.cell? ⟨rb, 0, none⟩ = some (.slice (some ⟨g1, 0, none⟩) n c1)) [19] (by kernel_rfl) ?_
  refine wpAnyD_takeL (i := 0) (v := ?vv0) rfl (by kernel_rfl) (by kernel_rfl) (by kernel_rfl) (by kernel_rfl) (fun _ _ _ h => h) HS0.out rfl ?hy0 ?_
  case hy0 => intro wy hSw; go_simp; try with_reducible rfl
  simp only [Act.put, List.setIfInBounds_toArray, List.set_cons_zero, List.set_cons_succ]
  refine wpAnyD_takeL (i := 2) (v := ?vv2) rfl (by kernel_rfl) (by kernel_rfl) (by kernel_rfl) (by kernel_rfl) (fun _ _ _ h => h) HS0.out rfl ?hy2 ?_
  case hy2 => intro wy hSw; go_simp; try with_reducible rfl
  simp only [Act.put, List.setIfInBounds_toArray, List.set_cons_zero, List.set_cons_succ]
  refine wpAnyD_takeL (i := 3) (v := ?vv3) rfl (by kernel_rfl) (by kernel_rfl) (by kernel_rfl) (by kernel_rfl) (fun _ _ _ h => h) HS0.out rfl ?hy3 ?_
  case hy3 => intro wy hSw; go_simp; try with_reducible rfl
  simp only [Act.put, List.setIfInBounds_toArray, List.set_cons_zero, List.set_cons_succ]
  refine wpAnyD_takeL (i := 4) (v := ?vv4) rfl (by kernel_rfl) (by kernel_rfl) (by kernel_rfl) (by kernel_rfl) (fun _ _ _ h => h) HS0.out rfl ?hy4 ?_
  case hy4 => intro wy hSw; go_simp; try with_reducible rfl
  simp only [Act.put, List.setIfInBounds_toArray, List.set_cons_zero, List.set_cons_succ]
  refine wpAnyD_takeL (i := 5) (v := ?vv5) rfl (by kernel_rfl) (by kernel_rfl) (by kernel_rfl) (by kernel_rfl) (fun _ _ _ h => h) HS0.out rfl ?hy5 ?_
  case hy5 => intro wy hSw; go_simp; try with_reducible rfl
  simp only [Act.put, List.setIfInBounds_toArray, List.set_cons_zero, List.set_cons_succ]
  refine wpAnyD_takeL (i := 6) (v := ?vv6) rfl (by kernel_rfl) (by kernel_rfl) (by kernel_rfl) (by kernel_rfl) (fun _ _ _ h => h) HS0.out rfl ?hy6 ?_
  case hy6 => intro wy hSw; go_simp; try with_reducible rfl
  simp only [Act.put, List.setIfInBounds_toArray, List.set_cons_zero, List.set_cons_succ]
  refine wpAnyD_takeL (i := 7) (v := ?vv7) rfl (by kernel_rfl) (by kernel_rfl) (by kernel_rfl) (by kernel_rfl) (fun _ _ _ h => h) HS0.out rfl ?hy7 ?_
  case hy7 => intro wy hSw; go_simp; try with_reducible rfl
  simp only [Act.put, List.setIfInBounds_toArray, List.set_cons_zero, List.set_cons_succ]
  refine wpAnyD_takeL (i := 9) (v := ?vv9) rfl (by kernel_rfl) (by kernel_rfl) (by kernel_rfl) (by kernel_rfl) (fun _ _ _ h => h) HS0.out rfl ?hy9 ?_
  case hy9 => intro wy hSw; go_simp; try with_reducible rfl
  simp only [Act.put, List.setIfInBounds_toArray, List.set_cons_zero, List.set_cons_succ]
  refine wpAnyD_takeL (i := 10) (v := ?vv10) rfl (by kernel_rfl) (by kernel_rfl) (by kernel_rfl) (by kernel_rfl) (fun _ _ _ h => h) HS0.out rfl ?hy10 ?_
  case hy10 => intro wy hSw; go_simp; try with_reducible rfl
  simp only [Act.put, List.setIfInBounds_toArray, List.set_cons_zero, List.set_cons_succ]
  refine wpAnyD_takeL (i := 11) (v := ?vv11) rfl (by kernel_rfl) (by kernel_rfl) (by kernel_rfl) (by kernel_rfl) (fun _ _ _ h => h) HS0.out rfl ?hy11 ?_
  case hy11 => intro wy hSw; go_simp; try with_reducible rfl
  simp only [Act.put, List.setIfInBounds_toArray, List.set_cons_zero, List.set_cons_succ]
  refine wpAnyD_takeL (i := 12) (v := ?vv12) rfl (by kernel_rfl) (by kernel_rfl) (by kernel_rfl) (by kernel_rfl) (fun _ _ _ h => h) HS0.out rfl ?hy12 ?_
  case hy12 => intro wy hSw; go_simp; try with_reducible rfl
  simp only [Act.put, List.setIfInBounds_toArray, List.set_cons_zero, List.set_cons_succ]
  refine wpAnyD_takeL (i := 13) (v := ?vv13) rfl (by kernel_rfl) (by kernel_rfl) (by kernel_rfl) (by kernel_rfl) (fun _ _ _ h => h) HS0.out rfl ?hy13 ?_
  case hy13 => intro wy hSw; go_simp; try with_reducible rfl
  simp only [Act.put, List.setIfInBounds_toArray, List.set_cons_zero, List.set_cons_succ]
  refine wpAnyD_takeL (i := 14) (v := ?vv14) rfl (by kernel_rfl) (by kernel_rfl) (by kernel_rfl) (by kernel_rfl) (fun _ _ _ h => h) HS0.out rfl ?hy14 ?_
  case hy14 => intro wy hSw; go_simp; try with_reducible rfl
  simp only [Act.put, List.setIfInBounds_toArray, List.set_cons_zero, List.set_cons_succ]
  refine wpAnyD_takeL (i := 15) (v := ?vv15) rfl (by kernel_rfl) (by kernel_rfl) (by kernel_rfl) (by kernel_rfl) (fun _ _ _ h => h) HS0.out rfl ?hy15 ?_
  case hy15 => intro wy hSw; go_simp; try with_reducible rfl
  simp only [Act.put, List.setIfInBounds_toArray, List.set_cons_zero, List.set_cons_succ]
  rw [HAD.out]
  refine wpAnyD_stepL (i := 1) (by kernel_rfl) rfl (fun K hK => ?_)
  go_simp
  refine hK _ _ (fun _ => (HD.out.keep hbA).c0) ?_
  clear hK K
  refine wpAnyD_stepL (i := 8) (by kernel_rfl) rfl (fun K hK => ?_)
  refine step_app rfl (.tmp 5) (.tmp 11) 27 rfl w.heap.size HT i0 (.agg #[.int .i64 0, .int .i64 0, .int .i64 0]) 3 24 Try.underlying27 hi0 hz0 hz1 hz2 rfl (by decide) (.slice (some ⟨w.heap.size, 0, none⟩) 0 0) 0 [] rfl ((made0 w).keep9 ((Below.refl _ _).drew)) ⟨g1, 0, none⟩ A.length c1 (hvs A) rfl (hvs_length A) (head_news HO.out hbA) (hvs_one _) ?m1 ?b1 ?base1 ?_
  case m1 => have := HAB.out; unfold maxLen; omega
  case b1 => have := HAB.out; omega
  case base1 => exact hbA.size
  intro v1 Y1 hown1 hgrow1 hat1
  have hbY : Below w.heap.size w Y1 := hbA.grown hgrow1 hbA.size (fun k e => by have : k = w.heap.size := (by simpa [Value.ownBlock] using e.symm); omega)
  rw [Nat.zero_add, List.nil_append] at hown1
  obtain ⟨b1, d1, rfl⟩ := own_sl hown1
  refine hK _ _ (fun _ => (HD.out.keep hbY).c0) ?_
  clear hK K
  simp only [Act.put, List.setIfInBounds_toArray, List.set_cons_zero, List.set_cons_succ]
  refine wpAnyD_stepL (i := 16) (by kernel_rfl) rfl (fun K hK => ?_)
  refine step_app rfl (.tmp 12) (.tmp 19) 27 rfl w.heap.size HT i0 (.agg #[.int .i64 0, .int .i64 0, .int .i64 0]) 3 24 Try.underlying27 hi0 hz0 hz1 hz2 rfl (by decide) (.slice b1 A.length d1) A.length _ rfl hown1 ad (n - (A.length + 1)) (c1 - (A.length + 1)) (hvs r) ?ev2 ?len2 ?news2 (hvs_one _) ?m2 ?b2 ?base2 ?_
  case ev2 => rfl
  case len2 => have := HAB.out; rw [hvs_length]; omega
  case news2 =>
    have hcy := cut_from (HO.out.keep9 hbY) (i := A.length + 1) (by have := HAB.out; omega) HAB.out.2.2 HAD.out
    rw [drop_mid] at hcy
    exact hcy
  case m2 => have := HAB.out; unfold maxLen; omega
  case b2 => have := HAB.out; omega
  case base2 => exact hbY.size
  intro v2 Y2 hown2 hgrow2 hat2
  have hbZ : Below w.heap.size w Y2 := hbY.grown hgrow2 hbY.size (fun k e => (hown1.lt k e).1)
  rw [← hvs_append] at hown2
  obtain ⟨b2, d2, rfl⟩ := own_sl hown2
  have HNEW := hidb (RT.fresh (E := E) HD.out hbZ hown2)
  have z0 := HNEW.out.1.c0
  have z1 := HNEW.out.1.f0
  refine hK _ _ (fun _ => HNEW.out.1.c0) ?_
  clear hK K
  simp only [Act.put, List.setIfInBounds_toArray, List.set_cons_zero, List.set_cons_succ]
  refine wpAnyD_stepL (i := 17) (by kernel_rfl) rfl (fun K hK => ?_)
  go_simp
  refine hK _ _ (fun _ => HNEW.out.1.c0) ?_
  clear hK K
  refine wpAnyD_stepL (i := 18) (by kernel_rfl) rfl (fun K hK => ?_)
  go_simp
  refine hK _ _ (fun _ => HNEW.out.1.c0) ?_
  clear hK K
  clear hown1 hgrow1 hat1 hown2 hgrow2 hat2 hbA hbY hbZ
  refine wpAnyD_stepL (i := 19) (by kernel_rfl) rfl (fun K hK => ?_)
  go_simp
  refine hK _ _ (fun h => absurd (List.mem_singleton.2 rfl) h) ?_
  clear hK K
  refine wpAnyD_done (by kernel_rfl) ?_ _
  go_wp2_with fail
  obtain ⟨-, -, -, q3, -, q5⟩ := HNEW.out
  exact bodyPost_end (v := .tuple #[]) (by simp [results, Try.results36, go_sem]) rfl ⟨rfl, ⟨q5, q3.mono (fun _ _ h => .inl h)⟩⟩

end HV
end Go.Proofs.Ytodelafnboimnaa
