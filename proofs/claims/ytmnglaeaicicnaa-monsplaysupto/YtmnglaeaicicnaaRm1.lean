/- The document's halves of monitors: with, without. -/
import Derived.Test.YtmnglaeaicicnaaRm0
import Derived.Test.YtmnglaeaicicnaaRgD
namespace Go.Proofs.Ytmnglaeaicicnaa
open Go.RowKit Go.Lib
namespace MV
attribute [local go_sem ↓] Go.wp_at_zero Go.wp_at_succ

/-- An append at a step of a region that draws its order. -/
theorem step_app {P : Program} {w : World} {ops : Array Oper} {o : Oper} {a : Act} {K : Act → World → Prop} {Q : Exit → Act → World → Prop} {E : Prop} (hgd : o.guard = none) (s x : Operand) (t : TypeId)
    (ho : o.op = .call { callee := .builtin .append, args := #[s, x], argTypes := #[t, t] })
    (base : Nat) (e : TypeId) (i : TypeInfo) (z : Value) (size bytes : Nat) (ht : P.underlying t = some (.slice e)) (hi : P.info? e = some i) (hz : i.zero = some z)
    (hsize : i.size = size) (hby : i.bytes = bytes) (hzs : z.cells.size = size) (hsz : 0 < size)
    (v : Value) (n : Nat) (xs : List Value) (hs : a.eval s = v) (hown : w.ownsRow base e size v n xs)
    (ad : Addr) (m c : Nat) (news : List Value) (hx : a.eval x = .slice (some ad) m c) (hl : news.length = m * size) (hnews : ∀ j u, news[j]? = some u → w.cell? (ad.add j) = some u) (h1 : ∀ u ∈ news, u.oneCell' = true)
    (h63 : n + m ≤ maxLen) (hbytes : (n + m) * bytes ≤ 140737488355328) (hbase : base ≤ w.heap.size)
    (h : ∀ v' w', w'.ownsRow base e size v' (n + m) (xs ++ news) → w.grownBy w' v.ownBlock → (v'.ownBlock = v.ownBlock ∨ v'.ownBlock = some w.heap.size) → K (a.put o.dst v') w') :
    if Region.wanted o (yielded ops a.tmps) = true then Oper.wp P o a w K Q else E := by
  have hw : Region.wanted o (yielded ops a.tmps) = true := by simp [Region.wanted, hgd]
  rw [if_pos hw]
  obtain ⟨v', w', hr, h2, h3, h4, h5⟩ := run_append_own_at (P := P) w base t o.type e i z size bytes ht hi hz hsize hby hzs hsz v n xs hown ad m c news hl hnews h1 h63 hbytes hbase
  unfold Oper.wp execOp
  simp only [ho, resolve, invoke, builtin, Sem.run_bind, Sem.run_pure, Result.andThen_ok, List.map_toArray, List.map_cons, List.map_nil, hs, hx, hr]
  exact h v' w' h2 h3 h5

theorem wpAnyD_twoL {P : Program} {md : Region.Mode} {Q : Exit → Act → World → Prop} {S : World → Prop} {D : List Nat} {l : List Oper} {i j : Nat} {oi oj : Oper} {fuel : Nat} {listed : Array Bool} {a : Act} {w : World} (hr : Region.ready md l.toArray listed = [i, j]) (hi : l[i]? = some oi) (hj : l[j]? = some oj)
    (h1 : ∀ K : Act → World → Prop, (∀ a' w', (i ∉ D → S w') → wpAnyD P md l.toArray Q S D fuel (listed.setIfInBounds i true) a' w' → K a' w') → if Region.wanted oi (yielded l.toArray a.tmps) = true then Oper.wp P oi a w K Q else K (a.put oi.dst undef) w)
    (h2 : ∀ K : Act → World → Prop, (∀ a' w', (j ∉ D → S w') → wpAnyD P md l.toArray Q S D fuel (listed.setIfInBounds j true) a' w' → K a' w') → if Region.wanted oj (yielded l.toArray a.tmps) = true then Oper.wp P oj a w K Q else K (a.put oj.dst undef) w) : wpAnyD P md l.toArray Q S D (fuel + 1) listed a w := by
  refine ⟨fun h0 => (by rw [hr] at h0; cases h0), fun k hk => ?_⟩
  rw [hr] at hk
  rcases List.mem_cons.1 hk with rfl | hk
  · have := h1 (fun a' w' => (k ∉ D → S w') ∧ wpAnyD P md l.toArray Q S D fuel (listed.setIfInBounds k true) a' w') (fun a' w' h1 h2 => ⟨h1, h2⟩)
    have hi' : l.toArray[k]? = some oi := by simpa using hi
    unfold wpOp
    simp only [hi']
    split
    · rename_i hw; rw [if_pos hw] at this; exact .inl this
    · rename_i hw; rw [if_neg hw] at this; exact this
  · obtain rfl : k = j := by simpa using hk
    have := h2 (fun a' w' => (k ∉ D → S w') ∧ wpAnyD P md l.toArray Q S D fuel (listed.setIfInBounds k true) a' w') (fun a' w' h1 h2 => ⟨h1, h2⟩)
    have hj' : l.toArray[k]? = some oj := by simpa using hj
    unfold wpOp
    simp only [hj']
    split
    · rename_i hw; rw [if_pos hw] at this; exact .inl this
    · rename_i hw; rw [if_neg hw] at this; exact this

theorem step_app0 {P : Program} {w : World} {ops : Array Oper} {o : Oper} {a : Act} {K : Act → World → Prop} {Q : Exit → Act → World → Prop} {E : Prop} (hgd : o.guard = none) (s x : Operand) (t : TypeId)
    (ho : o.op = .call { callee := .builtin .append, args := #[s, x], argTypes := #[t, t] })
    (base : Nat) (e : TypeId) (i : TypeInfo) (size : Nat) (ht : P.underlying t = some (.slice e)) (hi : P.info? e = some i)
    (v : Value) (n : Nat) (xs : List Value) (hs : a.eval s = v) (hown : w.ownsRow base e size v n xs) (hx : a.eval x = .slice none 0 0)
    (h : K (a.put o.dst v) w) : if Region.wanted o (yielded ops a.tmps) = true then Oper.wp P o a w K Q else E := by
  have hw : Region.wanted o (yielded ops a.tmps) = true := by simp [Region.wanted, hgd]
  rw [if_pos hw]
  have hrun := run_append_owned_none (P := P) (w := w) base t o.type e i size ht hi v n xs hown
  unfold Oper.wp
  simp [execOp, ho, resolve, invoke, builtin, hs, hx, hrun, Result.andThen]
  exact h

theorem tri_news {w : World} {b : Nat} {v0 v1 v2 : Value} (h : Tri w b v0 v1 v2) : ∀ (j : Nat) (u : Value), [v0, v1, v2][j]? = some u → w.cell? ((⟨b, 0, none⟩ : Addr).add j) = some u := by
  intro j u hj
  have e1 : (⟨b, 0, none⟩ : Addr).add j = ⟨b, j, none⟩ := by unfold Addr.add; split <;> simp_all
  rw [e1]
  match j, hj with
  | 0, hj => simp at hj; subst hj; exact h.c0
  | 1, hj => simp at hj; subst hj; exact h.c1
  | 2, hj => simp at hj; subst hj; exact h.c2
  | j + 3, hj => simp at hj
theorem made_at {B : Nat} (w : World) (hB : B ≤ w.heap.size) : (w.alloc (.cells #[] MnT)).ownsRow B MnT 3 (.slice (some ⟨w.heap.size, 0, none⟩) 0 0) 0 [] := row_lift (made0 w) (fun g e => by have : w.heap.size = g := (by simpa [Value.ownBlock] using e); omega)
theorem grown_tri {w w' : World} {row : Option Nat} {b : Nat} {v0 v1 v2 : Value} (h : Tri w b v0 v1 v2) (hg : w.grownBy w' row) (hr : row ≠ some b) : Tri w' b v0 v1 v2 := h.but (But.of_grown (S := fun k => row = some k) hg (fun _ e => e)) hr

set_option maxRecDepth 100000 in
set_option maxHeartbeats 8000000 in
theorem rwithout_any {w : World} {V : Value} {A r : List KV} {y : KV} (ho : w.ownsRow 0 MnT 3 V (A ++ y :: r).length (mvs (A ++ y :: r))) (hN : (A ++ y :: r).length ≤ 90000) :
    Calls Try.prog 33 #[V, .int .i64 (A.length : Int)] w fun e w' => ∃ V', e = .returned V' ∧ Below w.heap.size w w' ∧ w'.ownsRow w.heap.size MnT 3 V' (A ++ r).length (mvs (A ++ r)) := by
  obtain ⟨n, hn⟩ : ∃ n, (A ++ y :: r).length = n := ⟨_, rfl⟩
  rw [hn] at hN ho
  obtain ⟨g1, c1, rfl, -⟩ := row_get ho (show (A ++ y :: r)[A.length]? = some y by simp)
  have hcap := row_cap ho
  have HAB : Hid (n = A.length + 1 + r.length ∧ n ≤ 90000 ∧ n ≤ c1) := hidb (by simp at hn; omega)
  have HO := hidb ho
  obtain ⟨i0, hi0, hz0, hz1, hz2⟩ := infoM
  clear ho hN hn hcap
  go_enter Try.func33, Try.ntmps33
  go_wp2_with fail
  have hab := HAB.out
  have s1 : (0 : Int) ≤ (A.length : Int) := by omega
  have s2 : (A.length : Int) ≤ (c1 : Int) := by omega
  have s3 : IntKind.i64.wrap ((A.length : Int) + 1) = ((A.length + 1 : Nat) : Int) := by rw [IntKind.wrap_i64]; omega
  have s4 : (0 : Int) ≤ (A.length : Int) + 1 := by omega
  have s5 : (A.length : Int) + 1 ≤ (n : Int) := by omega
  have s6 : (n : Int) ≤ (c1 : Int) := by omega
  clear hab
  have HS0 : Hid True := hidb trivial
  obtain ⟨ad, had⟩ : ∃ ad : Addr, (if c1 = A.length + 1 then some (⟨g1, 0, none⟩ : Addr) else some ⟨g1, (A.length + 1) * 3, none⟩) = some ad := by split <;> exact ⟨_, rfl⟩
  have HAD := hidb had
  clear had
  have hbA : Below w.heap.size w (w.alloc (.cells #[] MnT)).drew := (below_new _ _).drew
  refine wp_region_D (fun _ => True) [10] (by kernel_rfl) ?_
  refine wpAnyD_takeL (i := 1) (v := ?vv1) rfl (by kernel_rfl) (by kernel_rfl) (by kernel_rfl) (by kernel_rfl) (fun _ _ _ h => h) HS0.out rfl ?hy1 ?_
  case hy1 => intro wy hSw; go_simp; try with_reducible rfl
  simp only [Act.put, List.setIfInBounds_toArray, List.set_cons_zero, List.set_cons_succ]
  refine wpAnyD_takeL (i := 2) (v := ?vv2) rfl (by kernel_rfl) (by kernel_rfl) (by kernel_rfl) (by kernel_rfl) (fun _ _ _ h => h) HS0.out rfl ?hy2 ?_
  case hy2 => intro wy hSw; go_simp; try with_reducible rfl
  simp only [Act.put, List.setIfInBounds_toArray, List.set_cons_zero, List.set_cons_succ]
  refine wpAnyD_takeL (i := 3) (v := ?vv3) rfl (by kernel_rfl) (by kernel_rfl) (by kernel_rfl) (by kernel_rfl) (fun _ _ _ h => h) HS0.out rfl ?hy3 ?_
  case hy3 => intro wy hSw; go_simp; try with_reducible rfl
  simp only [Act.put, List.setIfInBounds_toArray, List.set_cons_zero, List.set_cons_succ]
  refine wpAnyD_takeL (i := 5) (v := ?vv5) rfl (by kernel_rfl) (by kernel_rfl) (by kernel_rfl) (by kernel_rfl) (fun _ _ _ h => h) HS0.out rfl ?hy5 ?_
  case hy5 => intro wy hSw; go_simp; try with_reducible rfl
  simp only [Act.put, List.setIfInBounds_toArray, List.set_cons_zero, List.set_cons_succ]
  refine wpAnyD_takeL (i := 6) (v := ?vv6) rfl (by kernel_rfl) (by kernel_rfl) (by kernel_rfl) (by kernel_rfl) (fun _ _ _ h => h) HS0.out rfl ?hy6 ?_
  case hy6 => intro wy hSw; go_simp; try with_reducible rfl
  simp only [Act.put, List.setIfInBounds_toArray, List.set_cons_zero, List.set_cons_succ]
  refine wpAnyD_takeL (i := 7) (v := ?vv7) rfl (by kernel_rfl) (by kernel_rfl) (by kernel_rfl) (by kernel_rfl) (fun _ _ _ h => h) HS0.out rfl ?hy7 ?_
  case hy7 => intro wy hSw; go_simp; try with_reducible rfl
  simp only [Act.put, List.setIfInBounds_toArray, List.set_cons_zero, List.set_cons_succ]
  refine wpAnyD_takeL (i := 8) (v := ?vv8) rfl (by kernel_rfl) (by kernel_rfl) (by kernel_rfl) (by kernel_rfl) (fun _ _ _ h => h) HS0.out rfl ?hy8 ?_
  case hy8 => intro wy hSw; go_simp; try with_reducible rfl
  simp only [Act.put, List.setIfInBounds_toArray, List.set_cons_zero, List.set_cons_succ]
  rw [HAD.out]
  refine wpAnyD_stepL (i := 0) (by kernel_rfl) rfl (fun K hK => ?_)
  go_simp
  refine hK _ _ (fun _ => trivial) ?_
  clear hK K
  refine wpAnyD_stepL (i := 4) (by kernel_rfl) rfl (fun K hK => ?_)
  refine step_app rfl (.tmp 5) (.tmp 8) 27 rfl w.heap.size MnT i0 (.agg #[.int .i64 0, .int .i64 0, .string ⟨#[]⟩]) 3 32 Try.underlying27 hi0 hz0 hz1 hz2 rfl (by decide) (.slice (some ⟨w.heap.size, 0, none⟩) 0 0) 0 [] rfl ((made0 w).keep9 ((Below.refl _ _).drew)) ⟨g1, 0, none⟩ A.length c1 (mvs A) rfl (mvs_length A) (head_news HO.out hbA) (mvs_one _) ?m1 ?b1 ?base1 ?_
  case m1 => have := HAB.out; unfold maxLen; omega
  case b1 => have := HAB.out; omega
  case base1 => exact hbA.size
  intro v1 Y1 hown1 hgrow1 hat1
  have hbY : Below w.heap.size w Y1 := hbA.grown hgrow1 hbA.size (fun k e => by have : k = w.heap.size := (by simpa [Value.ownBlock] using e.symm); omega)
  rw [Nat.zero_add, List.nil_append] at hown1
  obtain ⟨b1, d1, rfl⟩ := own_sl hown1
  refine hK _ _ (fun _ => trivial) ?_
  clear hK K
  simp only [Act.put, List.setIfInBounds_toArray, List.set_cons_zero, List.set_cons_succ]
  refine wpAnyD_stepL (i := 9) (by kernel_rfl) rfl (fun K hK => ?_)
  refine step_app rfl (.tmp 9) (.tmp 13) 27 rfl w.heap.size MnT i0 (.agg #[.int .i64 0, .int .i64 0, .string ⟨#[]⟩]) 3 32 Try.underlying27 hi0 hz0 hz1 hz2 rfl (by decide) (.slice b1 A.length d1) A.length _ rfl hown1 ad (n - (A.length + 1)) (c1 - (A.length + 1)) (mvs r) ?ev2 ?len2 ?news2 (mvs_one _) ?m2 ?b2 ?base2 ?_
  case ev2 => rfl
  case len2 => have := HAB.out; rw [mvs_length]; omega
  case news2 =>
    have hcy := cut_from (HO.out.keep9 hbY) (i := A.length + 1) (by have := HAB.out; omega) HAB.out.2.2 HAD.out
    rw [drop_mid] at hcy
    exact hcy
  case m2 => have := HAB.out; unfold maxLen; omega
  case b2 => have := HAB.out; omega
  case base2 => exact hbY.size
  intro v2 Y2 hown2 hgrow2 hat2
  have hbZ : Below w.heap.size w Y2 := hbY.grown hgrow2 hbY.size (fun k e => (hown1.lt k e).1)
  rw [← mvs_append] at hown2
  obtain ⟨b2, d2, rfl⟩ := own_sl hown2
  refine hK _ _ (fun _ => trivial) ?_
  clear hK K
  simp only [Act.put, List.setIfInBounds_toArray, List.set_cons_zero, List.set_cons_succ]
  have HNEW := hidb (⟨hbZ, hown2⟩ : Below w.heap.size w Y2 ∧ Y2.ownsRow w.heap.size MnT 3 (.slice b2 (A.length + (n - (A.length + 1))) d2) (A.length + (n - (A.length + 1))) (mvs (A ++ r)))
  clear hown1 hgrow1 hat1 hown2 hgrow2 hat2 hbA hbY hbZ
  refine wpAnyD_stepL (i := 10) (by kernel_rfl) rfl (fun K hK => ?_)
  go_simp
  refine hK _ _ (fun _ => trivial) ?_
  clear hK K
  refine wpAnyD_done (by kernel_rfl) ?_ _
  go_wp2_with fail
  go_ret
  refine ⟨_, rfl, HNEW.out.1, ?_⟩
  have h9 := HNEW.out.2
  rw [show A.length + (n - (A.length + 1)) = (A ++ r).length by have := HAB.out; rw [List.length_append]; omega] at h9 ⊢
  exact h9

set_option maxRecDepth 100000 in
set_option maxHeartbeats 16000000 in
theorem rwith_any {w : World} {V : Value} {A B : List KV} (v : Hf) (k : Int) (ho : w.ownsRow 0 MnT 3 V (A ++ B).length (mvs (A ++ B))) (hN : (A ++ B).length ≤ 90000) :
    Calls Try.prog 32 #[V, .int .i64 (A.length : Int), .agg #[.int .i64 v.a, .int .i64 v.b, .string v.c]] w fun e w' => ∃ V', e = .returned V' ∧ Below w.heap.size w w' ∧ w'.ownsRow w.heap.size MnT 3 V' (A ++ (k, v) :: B).length (mvs (A ++ (k, v) :: B)) := by
  obtain ⟨i0, hi0, hz0, hz1, hz2⟩ := infoM
  obtain ⟨n, hn⟩ : ∃ n, (A ++ B).length = n := ⟨_, rfl⟩
  rw [hn] at hN ho
  have HAB : Hid (n = A.length + B.length ∧ n ≤ 90000) := hidb (by simp at hn; omega)
  obtain ⟨W0, hW0⟩ : ∃ W0, (w.alloc (.cells #[.int .i64 v.a, .int .i64 v.b, .string v.c] 38)).drew = W0 := ⟨_, rfl⟩
  have HW0 : Hid (Below w.heap.size w W0 ∧ W0.heap.size = w.heap.size + 1) := hidb (by rw [← hW0]; exact ⟨(below_new _ _).drew, by simp⟩)
  have P0 : Tri W0 w.heap.size (.int .i64 v.a) (.int .i64 v.b) (.string v.c) := by rw [← hW0]; exact (Tri.new _ _ _ _ _).keep ((Below.refl _ _).drew)
  have PS : ∀ {W : World}, Below W0.heap.size W0 W → (fun w' => w'.cell? ⟨w.heap.size, 0, none⟩ = some (.int .i64 v.a) ∧ w'.cell? ⟨w.heap.size, 1, none⟩ = some (.int .i64 v.b) ∧ w'.cell? ⟨w.heap.size, 2, none⟩ = some (.string v.c)) W := fun hb => ⟨(P0.keep hb).c0, (P0.keep hb).c1, (P0.keep hb).c2⟩
  have HS0 : Hid ((fun w' => w'.cell? ⟨w.heap.size, 0, none⟩ = some (.int .i64 v.a) ∧ w'.cell? ⟨w.heap.size, 1, none⟩ = some (.int .i64 v.b) ∧ w'.cell? ⟨w.heap.size, 2, none⟩ = some (.string v.c)) W0) := hidb (PS (Below.refl _ _))
  clear P0
  rcases ho.2 with ⟨rfl, hz⟩ | ⟨g1, c1, cur, rfl, -⟩
  · have hA : A = [] := by cases A with | nil => rfl | cons a b => simp at hn; omega
    have hB : B = [] := by cases B with | nil => rfl | cons a b => simp at hn; omega
    subst hA hB
    clear ho hN hn
    go_enter Try.func32, Try.ntmps32
    go_wp2_with fail
    refine wp_region_D (fun w' => w'.cell? ⟨w.heap.size, 0, none⟩ = some (.int .i64 v.a) ∧ w'.cell? ⟨w.heap.size, 1, none⟩ = some (.int .i64 v.b) ∧ w'.cell? ⟨w.heap.size, 2, none⟩ = some (.string v.c)) [8] (by kernel_rfl) ?_
    rw [hW0]
    clear hW0
    refine wpAnyD_takeL (i := 1) (v := ?vv1n) rfl (by kernel_rfl) (by kernel_rfl) (by kernel_rfl) (by kernel_rfl) (fun _ _ _ h => h) HS0.out rfl ?hy1n ?_
    case hy1n => intro wy hSw; go_simp; try with_reducible rfl
    simp only [Act.put, List.setIfInBounds_toArray, List.set_cons_zero, List.set_cons_succ]
    refine wpAnyD_takeL (i := 2) (v := ?vv2n) rfl (by kernel_rfl) (by kernel_rfl) (by kernel_rfl) (by kernel_rfl) (fun _ _ _ h => h) HS0.out rfl ?hy2n ?_
    case hy2n => intro wy hSw; go_simp; try with_reducible rfl
    simp only [Act.put, List.setIfInBounds_toArray, List.set_cons_zero, List.set_cons_succ]
    refine wpAnyD_takeL (i := 3) (v := ?vv3n) rfl (by kernel_rfl) (by kernel_rfl) (by kernel_rfl) (by kernel_rfl) (fun _ _ _ h => h) HS0.out rfl ?hy3n ?_
    case hy3n => intro wy hSw; go_simp; try with_reducible rfl
    simp only [Act.put, List.setIfInBounds_toArray, List.set_cons_zero, List.set_cons_succ]
    refine wpAnyD_takeL (i := 5) (v := ?vv5n) rfl (by kernel_rfl) (by kernel_rfl) (by kernel_rfl) (by kernel_rfl) (fun _ _ _ h => h) HS0.out rfl ?hy5n ?_
    case hy5n => intro wy hSw; go_simp; try with_reducible rfl
    simp only [Act.put, List.setIfInBounds_toArray, List.set_cons_zero, List.set_cons_succ]
    refine wpAnyD_twoL (i := 0) (j := 6) (by kernel_rfl) rfl rfl (fun K hK => ?_) (fun K hK => ?_)
    · go_simp
      refine hK _ _ (fun _ => PS (below_new _ _)) ?_
      clear hK K
      refine wpAnyD_twoL (i := 4) (j := 6) (by kernel_rfl) rfl rfl (fun K hK => ?_) (fun K hK => ?_)
      · have hbW := below_new W0 (.cells #[] MnT)
        have hown0 := made_at W0 (Nat.le_refl _)
        refine step_app0 rfl (.tmp 8) (.tmp 11) 27 rfl W0.heap.size MnT i0 3 Try.underlying27 hi0 (.slice (some ⟨W0.heap.size, 0, none⟩) 0 0) 0 [] rfl hown0 rfl ?_
        have hbY := hbW
        have hown1 := hown0
        refine hK _ _ (fun _ => PS hbY) ?_
        clear hK K
        simp only [Act.put, List.setIfInBounds_toArray, List.set_cons_zero, List.set_cons_succ]
        refine wpAnyD_stepL (i := 6) (by kernel_rfl) rfl (fun K hK => ?_)
        go_simp
        have hbX := hbY.alloc hbY.size (.cells #[.int .i64 v.a, .int .i64 v.b, .string v.c] MnT)
        refine hK _ _ (fun _ => PS hbX) ?_
        clear hK K
        have hownX := hown1.alloc (.cells #[.int .i64 v.a, .int .i64 v.b, .string v.c] MnT)
        have PX : Tri ((W0.alloc (.cells #[] MnT)).alloc (.cells #[.int .i64 v.a, .int .i64 v.b, .string v.c] MnT)) (W0.heap.size + 1) (.int .i64 v.a) (.int .i64 v.b) (.string v.c) := by have := Tri.new (W0.alloc (.cells #[] MnT)) MnT (.int .i64 v.a) (.int .i64 v.b) (.string v.c); simpa using this
        refine wpAnyD_stepL (i := 7) (by kernel_rfl) rfl (fun K hK => ?_)
        refine step_app rfl (.tmp 12) (.tmp 14) 27 rfl W0.heap.size MnT i0 (.agg #[.int .i64 0, .int .i64 0, .string ⟨#[]⟩]) 3 32 Try.underlying27 hi0 hz0 hz1 hz2 rfl (by decide) (.slice (some ⟨W0.heap.size, 0, none⟩) 0 0) 0 _ rfl hownX ⟨W0.heap.size + 1, 0, none⟩ 1 1 [.int .i64 v.a, .int .i64 v.b, .string v.c] rfl rfl (tri_news PX) (by simp [Value.oneCell']) ?_ ?_ ?_ ?_
        · unfold maxLen; omega
        · omega
        · exact hbX.size
        intro v2 Y2 hown2 hgrow2 hat2
        have hbZ : Below W0.heap.size W0 Y2 := hbX.grown hgrow2 hbX.size (fun k e => (hownX.lt k e).1)
        obtain ⟨b2, d2, rfl⟩ := own_sl hown2
        refine hK _ _ (fun _ => PS hbZ) ?_
        clear hK K
        simp only [Act.put, List.setIfInBounds_toArray, List.set_cons_zero, List.set_cons_succ]
        have HNEW := hidb (And.intro hbZ hown2)
        clear hownX hgrow2 hat2 hown2 hbX hbZ PX hown1 hown0 hbW hbY
        refine wpAnyD_stepL (i := 8) (by kernel_rfl) rfl (fun K hK => ?_)
        go_simp
        refine hK _ _ (fun h => PS HNEW.out.1) ?_
        clear hK K
        refine wpAnyD_done (by kernel_rfl) ?_ _
        go_wp2_with (at_builtin; refine wpList_append_own_none rfl (.tmp 16) (.tmp 19) 27 rfl W0.heap.size MnT i0 3 Try.underlying27 hi0 _ _ _ rfl HNEW.out.2 rfl ?_)
        go_ret
        refine ⟨_, rfl, HW0.out.1.trans (HNEW.out.1.mono (by have := HW0.out; omega)), row_lift HNEW.out.2 (fun g e => ?_)⟩
        have h8 := (HNEW.out.2.lt g e).1
        have h9 := HW0.out
        omega
      · go_simp
        have hbW := (below_new W0 (.cells #[] MnT)).alloc (by simp) (.cells #[.int .i64 v.a, .int .i64 v.b, .string v.c] MnT)
        refine hK _ _ (fun _ => PS hbW) ?_
        clear hK K
        have hown0 := (made_at W0 (Nat.le_refl _)).alloc (.cells #[.int .i64 v.a, .int .i64 v.b, .string v.c] MnT)
        have P6 : Tri ((W0.alloc (.cells #[] MnT)).alloc (.cells #[.int .i64 v.a, .int .i64 v.b, .string v.c] MnT)) (W0.heap.size + 1) (.int .i64 v.a) (.int .i64 v.b) (.string v.c) := by have := Tri.new (W0.alloc (.cells #[] MnT)) MnT (.int .i64 v.a) (.int .i64 v.b) (.string v.c); simpa using this
        refine wpAnyD_stepL (i := 4) (by kernel_rfl) rfl (fun K hK => ?_)
        refine step_app0 rfl (.tmp 8) (.tmp 11) 27 rfl W0.heap.size MnT i0 3 Try.underlying27 hi0 (.slice (some ⟨W0.heap.size, 0, none⟩) 0 0) 0 [] rfl hown0 rfl ?_
        have hbY := hbW
        have hown1 := hown0
        refine hK _ _ (fun _ => PS hbY) ?_
        clear hK K
        simp only [Act.put, List.setIfInBounds_toArray, List.set_cons_zero, List.set_cons_succ]
        have hownX := hown1
        have hbX := hbY
        have PX := P6
        refine wpAnyD_stepL (i := 7) (by kernel_rfl) rfl (fun K hK => ?_)
        refine step_app rfl (.tmp 12) (.tmp 14) 27 rfl W0.heap.size MnT i0 (.agg #[.int .i64 0, .int .i64 0, .string ⟨#[]⟩]) 3 32 Try.underlying27 hi0 hz0 hz1 hz2 rfl (by decide) (.slice (some ⟨W0.heap.size, 0, none⟩) 0 0) 0 _ rfl hownX ⟨W0.heap.size + 1, 0, none⟩ 1 1 [.int .i64 v.a, .int .i64 v.b, .string v.c] rfl rfl (tri_news PX) (by simp [Value.oneCell']) ?_ ?_ ?_ ?_
        · unfold maxLen; omega
        · omega
        · exact hbX.size
        intro v2 Y2 hown2 hgrow2 hat2
        have hbZ : Below W0.heap.size W0 Y2 := hbX.grown hgrow2 hbX.size (fun k e => (hownX.lt k e).1)
        obtain ⟨b2, d2, rfl⟩ := own_sl hown2
        refine hK _ _ (fun _ => PS hbZ) ?_
        clear hK K
        simp only [Act.put, List.setIfInBounds_toArray, List.set_cons_zero, List.set_cons_succ]
        have HNEW := hidb (And.intro hbZ hown2)
        clear hownX hgrow2 hat2 hown2 hbX hbZ PX hown1 hown0 hbW hbY
        refine wpAnyD_stepL (i := 8) (by kernel_rfl) rfl (fun K hK => ?_)
        go_simp
        refine hK _ _ (fun h => PS HNEW.out.1) ?_
        clear hK K
        refine wpAnyD_done (by kernel_rfl) ?_ _
        go_wp2_with (at_builtin; refine wpList_append_own_none rfl (.tmp 16) (.tmp 19) 27 rfl W0.heap.size MnT i0 3 Try.underlying27 hi0 _ _ _ rfl HNEW.out.2 rfl ?_)
        go_ret
        refine ⟨_, rfl, HW0.out.1.trans (HNEW.out.1.mono (by have := HW0.out; omega)), row_lift HNEW.out.2 (fun g e => ?_)⟩
        have h8 := (HNEW.out.2.lt g e).1
        have h9 := HW0.out
        omega
    · go_simp
      refine hK _ _ (fun _ => PS (below_new _ _)) ?_
      clear hK K
      refine wpAnyD_stepL (i := 0) (by kernel_rfl) rfl (fun K hK => ?_)
      go_simp
      have hbW := (below_new W0 (.cells #[.int .i64 v.a, .int .i64 v.b, .string v.c] MnT)).alloc (by simp) (.cells #[] MnT)
      refine hK _ _ (fun _ => PS hbW) ?_
      clear hK K
      have hown0 : ((W0.alloc (.cells #[.int .i64 v.a, .int .i64 v.b, .string v.c] MnT)).alloc (.cells #[] MnT)).ownsRow W0.heap.size MnT 3 (.slice (some ⟨W0.heap.size + 1, 0, none⟩) 0 0) 0 [] := by have := made_at (B := W0.heap.size) (W0.alloc (.cells #[.int .i64 v.a, .int .i64 v.b, .string v.c] MnT)) (by simp); simpa using this
      have P6 := (Tri.new W0 MnT (.int .i64 v.a) (.int .i64 v.b) (.string v.c)).keep (below_new _ (.cells #[] MnT))
      refine wpAnyD_stepL (i := 4) (by kernel_rfl) rfl (fun K hK => ?_)
      refine step_app0 rfl (.tmp 8) (.tmp 11) 27 rfl W0.heap.size MnT i0 3 Try.underlying27 hi0 (.slice (some ⟨W0.heap.size + 1, 0, none⟩) 0 0) 0 [] rfl hown0 rfl ?_
      have hbY := hbW
      have hown1 := hown0
      refine hK _ _ (fun _ => PS hbY) ?_
      clear hK K
      simp only [Act.put, List.setIfInBounds_toArray, List.set_cons_zero, List.set_cons_succ]
      have hownX := hown1
      have hbX := hbY
      have PX := P6
      refine wpAnyD_stepL (i := 7) (by kernel_rfl) rfl (fun K hK => ?_)
      refine step_app rfl (.tmp 12) (.tmp 14) 27 rfl W0.heap.size MnT i0 (.agg #[.int .i64 0, .int .i64 0, .string ⟨#[]⟩]) 3 32 Try.underlying27 hi0 hz0 hz1 hz2 rfl (by decide) (.slice (some ⟨W0.heap.size + 1, 0, none⟩) 0 0) 0 _ rfl hownX ⟨W0.heap.size, 0, none⟩ 1 1 [.int .i64 v.a, .int .i64 v.b, .string v.c] rfl rfl (tri_news PX) (by simp [Value.oneCell']) ?_ ?_ ?_ ?_
      · unfold maxLen; omega
      · omega
      · exact hbX.size
      intro v2 Y2 hown2 hgrow2 hat2
      have hbZ : Below W0.heap.size W0 Y2 := hbX.grown hgrow2 hbX.size (fun k e => (hownX.lt k e).1)
      obtain ⟨b2, d2, rfl⟩ := own_sl hown2
      refine hK _ _ (fun _ => PS hbZ) ?_
      clear hK K
      simp only [Act.put, List.setIfInBounds_toArray, List.set_cons_zero, List.set_cons_succ]
      have HNEW := hidb (And.intro hbZ hown2)
      clear hownX hgrow2 hat2 hown2 hbX hbZ PX hown1 hown0 hbW hbY
      refine wpAnyD_stepL (i := 8) (by kernel_rfl) rfl (fun K hK => ?_)
      go_simp
      refine hK _ _ (fun h => PS HNEW.out.1) ?_
      clear hK K
      refine wpAnyD_done (by kernel_rfl) ?_ _
      go_wp2_with (at_builtin; refine wpList_append_own_none rfl (.tmp 16) (.tmp 19) 27 rfl W0.heap.size MnT i0 3 Try.underlying27 hi0 _ _ _ rfl HNEW.out.2 rfl ?_)
      go_ret
      refine ⟨_, rfl, HW0.out.1.trans (HNEW.out.1.mono (by have := HW0.out; omega)), row_lift HNEW.out.2 (fun g e => ?_)⟩
      have h8 := (HNEW.out.2.lt g e).1
      have h9 := HW0.out
      omega
  · have hcap := row_cap ho
    have HO := hidb (ho.keep9 HW0.out.1)
    have HCP : Hid (n ≤ c1) := hidb hcap
    have s1 : (0 : Int) ≤ (A.length : Int) := by omega
    have s2 : (A.length : Int) ≤ (c1 : Int) := by have := HAB.out; omega
    have s3 : (A.length : Int) ≤ (n : Int) := by have := HAB.out; omega
    have s6 : (n : Int) ≤ (c1 : Int) := by omega
    clear ho hN hn hcap
    by_cases hcA : c1 = A.length
    · subst hcA
      obtain rfl : n = A.length := by have := HAB.out; have := HCP.out; omega
      obtain rfl : B = [] := by have := HAB.out; exact List.length_eq_zero_iff.1 (by omega)
      go_enter Try.func32, Try.ntmps32
      go_wp2_with fail
      refine wp_region_D (fun w' => w'.cell? ⟨w.heap.size, 0, none⟩ = some (.int .i64 v.a) ∧ w'.cell? ⟨w.heap.size, 1, none⟩ = some (.int .i64 v.b) ∧ w'.cell? ⟨w.heap.size, 2, none⟩ = some (.string v.c)) [8] (by kernel_rfl) ?_
      rw [hW0]
      clear hW0
      refine wpAnyD_takeL (i := 1) (v := ?vv1p) rfl (by kernel_rfl) (by kernel_rfl) (by kernel_rfl) (by kernel_rfl) (fun _ _ _ h => h) HS0.out rfl ?hy1p ?_
      case hy1p => intro wy hSw; go_simp; try with_reducible rfl
      simp only [Act.put, List.setIfInBounds_toArray, List.set_cons_zero, List.set_cons_succ]
      refine wpAnyD_takeL (i := 2) (v := ?vv2p) rfl (by kernel_rfl) (by kernel_rfl) (by kernel_rfl) (by kernel_rfl) (fun _ _ _ h => h) HS0.out rfl ?hy2p ?_
      case hy2p => intro wy hSw; go_simp; try with_reducible rfl
      simp only [Act.put, List.setIfInBounds_toArray, List.set_cons_zero, List.set_cons_succ]
      refine wpAnyD_takeL (i := 3) (v := ?vv3p) rfl (by kernel_rfl) (by kernel_rfl) (by kernel_rfl) (by kernel_rfl) (fun _ _ _ h => h) HS0.out rfl ?hy3p ?_
      case hy3p => intro wy hSw; go_simp; try with_reducible rfl
      simp only [Act.put, List.setIfInBounds_toArray, List.set_cons_zero, List.set_cons_succ]
      refine wpAnyD_takeL (i := 5) (v := ?vv5p) rfl (by kernel_rfl) (by kernel_rfl) (by kernel_rfl) (by kernel_rfl) (fun _ _ _ h => h) HS0.out rfl ?hy5p ?_
      case hy5p => intro wy hSw; go_simp; try with_reducible rfl
      simp only [Act.put, List.setIfInBounds_toArray, List.set_cons_zero, List.set_cons_succ]
      refine wpAnyD_twoL (i := 0) (j := 6) (by kernel_rfl) rfl rfl (fun K hK => ?_) (fun K hK => ?_)
      · go_simp
        refine hK _ _ (fun _ => PS (below_new _ _)) ?_
        clear hK K
        refine wpAnyD_twoL (i := 4) (j := 6) (by kernel_rfl) rfl rfl (fun K hK => ?_) (fun K hK => ?_)
        · have hbW := below_new W0 (.cells #[] MnT)
          have hown0 := made_at W0 (Nat.le_refl _)
          refine step_app rfl (.tmp 8) (.tmp 11) 27 rfl W0.heap.size MnT i0 (.agg #[.int .i64 0, .int .i64 0, .string ⟨#[]⟩]) 3 32 Try.underlying27 hi0 hz0 hz1 hz2 rfl (by decide) (.slice (some ⟨W0.heap.size, 0, none⟩) 0 0) 0 [] rfl hown0 ⟨g1, 0, none⟩ A.length A.length (mvs A) rfl (mvs_length A) (head_news HO.out hbW) (mvs_one _) ?_ ?_ ?_ ?_
          · have := HAB.out; unfold maxLen; omega
          · have := HAB.out; omega
          · exact hbW.size
          intro v1 Y1 hown1 hgrow1 hat1
          have hbY : Below W0.heap.size W0 Y1 := hbW.grown hgrow1 hbW.size (fun k e => (hown0.lt k e).1)
          rw [Nat.zero_add, List.nil_append] at hown1
          obtain ⟨b1, d1, rfl⟩ := own_sl hown1
          refine hK _ _ (fun _ => PS hbY) ?_
          clear hK K
          simp only [Act.put, List.setIfInBounds_toArray, List.set_cons_zero, List.set_cons_succ]
          refine wpAnyD_stepL (i := 6) (by kernel_rfl) rfl (fun K hK => ?_)
          go_simp
          have hbX := hbY.alloc hbY.size (.cells #[.int .i64 v.a, .int .i64 v.b, .string v.c] MnT)
          refine hK _ _ (fun _ => PS hbX) ?_
          clear hK K
          have hownX := hown1.alloc (.cells #[.int .i64 v.a, .int .i64 v.b, .string v.c] MnT)
          have PX : Tri (Y1.alloc (.cells #[.int .i64 v.a, .int .i64 v.b, .string v.c] MnT)) Y1.heap.size (.int .i64 v.a) (.int .i64 v.b) (.string v.c) := Tri.new _ _ _ _ _
          refine wpAnyD_stepL (i := 7) (by kernel_rfl) rfl (fun K hK => ?_)
          refine step_app rfl (.tmp 12) (.tmp 14) 27 rfl W0.heap.size MnT i0 (.agg #[.int .i64 0, .int .i64 0, .string ⟨#[]⟩]) 3 32 Try.underlying27 hi0 hz0 hz1 hz2 rfl (by decide) (.slice b1 A.length d1) A.length _ rfl hownX ⟨Y1.heap.size, 0, none⟩ 1 1 [.int .i64 v.a, .int .i64 v.b, .string v.c] rfl rfl (tri_news PX) (by simp [Value.oneCell']) ?_ ?_ ?_ ?_
          · have := HAB.out; unfold maxLen; omega
          · have := HAB.out; omega
          · exact hbX.size
          intro v2 Y2 hown2 hgrow2 hat2
          have hbZ : Below W0.heap.size W0 Y2 := hbX.grown hgrow2 hbX.size (fun k e => (hownX.lt k e).1)
          obtain ⟨b2, d2, rfl⟩ := own_sl hown2
          refine hK _ _ (fun _ => PS hbZ) ?_
          clear hK K
          simp only [Act.put, List.setIfInBounds_toArray, List.set_cons_zero, List.set_cons_succ]
          have HNEW := hidb (And.intro hbZ hown2)
          clear hownX hgrow2 hat2 hown2 hbX hbZ PX hgrow1 hat1 hown1 hown0 hbW hbY
          refine wpAnyD_stepL (i := 8) (by kernel_rfl) rfl (fun K hK => ?_)
          go_simp
          refine hK _ _ (fun h => PS HNEW.out.1) ?_
          clear hK K
          refine wpAnyD_done (by kernel_rfl) ?_ _
          go_wp2_with (at_builtin; refine wpList_append_own_at _ rfl (.tmp 16) (.tmp 19) 27 rfl W0.heap.size MnT i0 (.agg #[.int .i64 0, .int .i64 0, .string ⟨#[]⟩]) 3 32 Try.underlying27 hi0 hz0 hz1 hz2 rfl (by decide) (.slice b2 (A.length + 1) d2) (A.length + 1) _ rfl HNEW.out.2 ⟨g1, 0, none⟩ 0 0 (mvs []) rfl rfl (fun j u hj => by simp [mvs] at hj) (mvs_one _) (by have := HAB.out; unfold maxLen; omega) (by have := HAB.out; omega) (by have := HNEW.out.1.size; omega) ?_; intro v3 Y3 hown3 hgrow3 _ hat3; have hbY3 : Below W0.heap.size W0 Y3 := (HNEW.out.1.grown hgrow3 HNEW.out.1.size (fun k e => (HNEW.out.2.lt k e).1)); rw [show mvs A ++ [Value.int .i64 v.a, Value.int .i64 v.b, Value.string v.c] ++ (mvs []) = mvs (A ++ (k, v) :: []) by rw [mvs_append]; simp [mvs], show A.length + 1 + 0 = (A ++ (k, v) :: []).length by (have := HAB.out; simp; try omega)] at hown3; obtain ⟨b3, d3, rfl⟩ := own_sl hown3; have HEND := hidb (And.intro hbY3 hown3); clear hown3 hgrow3 hat3 hbY3)
          go_ret
          refine ⟨_, rfl, HW0.out.1.trans (HEND.out.1.mono (by have := HW0.out; omega)), ?_⟩
          have hE := row_lift (B := w.heap.size) HEND.out.2 (fun g e => by have h8 := (HEND.out.2.lt g e).1; have h9 := HW0.out; omega)
          simp only [List.length_append, List.length_cons, List.length_nil, Nat.zero_add] at hE ⊢
          exact hE
        · go_simp
          have hbW := (below_new W0 (.cells #[] MnT)).alloc (by simp) (.cells #[.int .i64 v.a, .int .i64 v.b, .string v.c] MnT)
          refine hK _ _ (fun _ => PS hbW) ?_
          clear hK K
          have hown0 := (made_at W0 (Nat.le_refl _)).alloc (.cells #[.int .i64 v.a, .int .i64 v.b, .string v.c] MnT)
          have P6 : Tri ((W0.alloc (.cells #[] MnT)).alloc (.cells #[.int .i64 v.a, .int .i64 v.b, .string v.c] MnT)) (W0.heap.size + 1) (.int .i64 v.a) (.int .i64 v.b) (.string v.c) := by have := Tri.new (W0.alloc (.cells #[] MnT)) MnT (.int .i64 v.a) (.int .i64 v.b) (.string v.c); simpa using this
          refine wpAnyD_stepL (i := 4) (by kernel_rfl) rfl (fun K hK => ?_)
          refine step_app rfl (.tmp 8) (.tmp 11) 27 rfl W0.heap.size MnT i0 (.agg #[.int .i64 0, .int .i64 0, .string ⟨#[]⟩]) 3 32 Try.underlying27 hi0 hz0 hz1 hz2 rfl (by decide) (.slice (some ⟨W0.heap.size, 0, none⟩) 0 0) 0 [] rfl hown0 ⟨g1, 0, none⟩ A.length A.length (mvs A) rfl (mvs_length A) (head_news HO.out hbW) (mvs_one _) ?_ ?_ ?_ ?_
          · have := HAB.out; unfold maxLen; omega
          · have := HAB.out; omega
          · exact hbW.size
          intro v1 Y1 hown1 hgrow1 hat1
          have hbY : Below W0.heap.size W0 Y1 := hbW.grown hgrow1 hbW.size (fun k e => (hown0.lt k e).1)
          rw [Nat.zero_add, List.nil_append] at hown1
          obtain ⟨b1, d1, rfl⟩ := own_sl hown1
          refine hK _ _ (fun _ => PS hbY) ?_
          clear hK K
          simp only [Act.put, List.setIfInBounds_toArray, List.set_cons_zero, List.set_cons_succ]
          have hownX := hown1
          have hbX := hbY
          have PX := grown_tri P6 hgrow1 (by simp [Value.ownBlock])
          refine wpAnyD_stepL (i := 7) (by kernel_rfl) rfl (fun K hK => ?_)
          refine step_app rfl (.tmp 12) (.tmp 14) 27 rfl W0.heap.size MnT i0 (.agg #[.int .i64 0, .int .i64 0, .string ⟨#[]⟩]) 3 32 Try.underlying27 hi0 hz0 hz1 hz2 rfl (by decide) (.slice b1 A.length d1) A.length _ rfl hownX ⟨W0.heap.size + 1, 0, none⟩ 1 1 [.int .i64 v.a, .int .i64 v.b, .string v.c] rfl rfl (tri_news PX) (by simp [Value.oneCell']) ?_ ?_ ?_ ?_
          · have := HAB.out; unfold maxLen; omega
          · have := HAB.out; omega
          · exact hbX.size
          intro v2 Y2 hown2 hgrow2 hat2
          have hbZ : Below W0.heap.size W0 Y2 := hbX.grown hgrow2 hbX.size (fun k e => (hownX.lt k e).1)
          obtain ⟨b2, d2, rfl⟩ := own_sl hown2
          refine hK _ _ (fun _ => PS hbZ) ?_
          clear hK K
          simp only [Act.put, List.setIfInBounds_toArray, List.set_cons_zero, List.set_cons_succ]
          have HNEW := hidb (And.intro hbZ hown2)
          clear hownX hgrow2 hat2 hown2 hbX hbZ PX hgrow1 hat1 hown1 hown0 hbW hbY
          refine wpAnyD_stepL (i := 8) (by kernel_rfl) rfl (fun K hK => ?_)
          go_simp
          refine hK _ _ (fun h => PS HNEW.out.1) ?_
          clear hK K
          refine wpAnyD_done (by kernel_rfl) ?_ _
          go_wp2_with (at_builtin; refine wpList_append_own_at _ rfl (.tmp 16) (.tmp 19) 27 rfl W0.heap.size MnT i0 (.agg #[.int .i64 0, .int .i64 0, .string ⟨#[]⟩]) 3 32 Try.underlying27 hi0 hz0 hz1 hz2 rfl (by decide) (.slice b2 (A.length + 1) d2) (A.length + 1) _ rfl HNEW.out.2 ⟨g1, 0, none⟩ 0 0 (mvs []) rfl rfl (fun j u hj => by simp [mvs] at hj) (mvs_one _) (by have := HAB.out; unfold maxLen; omega) (by have := HAB.out; omega) (by have := HNEW.out.1.size; omega) ?_; intro v3 Y3 hown3 hgrow3 _ hat3; have hbY3 : Below W0.heap.size W0 Y3 := (HNEW.out.1.grown hgrow3 HNEW.out.1.size (fun k e => (HNEW.out.2.lt k e).1)); rw [show mvs A ++ [Value.int .i64 v.a, Value.int .i64 v.b, Value.string v.c] ++ (mvs []) = mvs (A ++ (k, v) :: []) by rw [mvs_append]; simp [mvs], show A.length + 1 + 0 = (A ++ (k, v) :: []).length by (have := HAB.out; simp; try omega)] at hown3; obtain ⟨b3, d3, rfl⟩ := own_sl hown3; have HEND := hidb (And.intro hbY3 hown3); clear hown3 hgrow3 hat3 hbY3)
          go_ret
          refine ⟨_, rfl, HW0.out.1.trans (HEND.out.1.mono (by have := HW0.out; omega)), ?_⟩
          have hE := row_lift (B := w.heap.size) HEND.out.2 (fun g e => by have h8 := (HEND.out.2.lt g e).1; have h9 := HW0.out; omega)
          simp only [List.length_append, List.length_cons, List.length_nil, Nat.zero_add] at hE ⊢
          exact hE
      · go_simp
        refine hK _ _ (fun _ => PS (below_new _ _)) ?_
        clear hK K
        refine wpAnyD_stepL (i := 0) (by kernel_rfl) rfl (fun K hK => ?_)
        go_simp
        have hbW := (below_new W0 (.cells #[.int .i64 v.a, .int .i64 v.b, .string v.c] MnT)).alloc (by simp) (.cells #[] MnT)
        refine hK _ _ (fun _ => PS hbW) ?_
        clear hK K
        have hown0 : ((W0.alloc (.cells #[.int .i64 v.a, .int .i64 v.b, .string v.c] MnT)).alloc (.cells #[] MnT)).ownsRow W0.heap.size MnT 3 (.slice (some ⟨W0.heap.size + 1, 0, none⟩) 0 0) 0 [] := by have := made_at (B := W0.heap.size) (W0.alloc (.cells #[.int .i64 v.a, .int .i64 v.b, .string v.c] MnT)) (by simp); simpa using this
        have P6 := (Tri.new W0 MnT (.int .i64 v.a) (.int .i64 v.b) (.string v.c)).keep (below_new _ (.cells #[] MnT))
        refine wpAnyD_stepL (i := 4) (by kernel_rfl) rfl (fun K hK => ?_)
        refine step_app rfl (.tmp 8) (.tmp 11) 27 rfl W0.heap.size MnT i0 (.agg #[.int .i64 0, .int .i64 0, .string ⟨#[]⟩]) 3 32 Try.underlying27 hi0 hz0 hz1 hz2 rfl (by decide) (.slice (some ⟨W0.heap.size + 1, 0, none⟩) 0 0) 0 [] rfl hown0 ⟨g1, 0, none⟩ A.length A.length (mvs A) rfl (mvs_length A) (head_news HO.out hbW) (mvs_one _) ?_ ?_ ?_ ?_
        · have := HAB.out; unfold maxLen; omega
        · have := HAB.out; omega
        · exact hbW.size
        intro v1 Y1 hown1 hgrow1 hat1
        have hbY : Below W0.heap.size W0 Y1 := hbW.grown hgrow1 hbW.size (fun k e => (hown0.lt k e).1)
        rw [Nat.zero_add, List.nil_append] at hown1
        obtain ⟨b1, d1, rfl⟩ := own_sl hown1
        refine hK _ _ (fun _ => PS hbY) ?_
        clear hK K
        simp only [Act.put, List.setIfInBounds_toArray, List.set_cons_zero, List.set_cons_succ]
        have hownX := hown1
        have hbX := hbY
        have PX := grown_tri P6 hgrow1 (by simp [Value.ownBlock])
        refine wpAnyD_stepL (i := 7) (by kernel_rfl) rfl (fun K hK => ?_)
        refine step_app rfl (.tmp 12) (.tmp 14) 27 rfl W0.heap.size MnT i0 (.agg #[.int .i64 0, .int .i64 0, .string ⟨#[]⟩]) 3 32 Try.underlying27 hi0 hz0 hz1 hz2 rfl (by decide) (.slice b1 A.length d1) A.length _ rfl hownX ⟨W0.heap.size, 0, none⟩ 1 1 [.int .i64 v.a, .int .i64 v.b, .string v.c] rfl rfl (tri_news PX) (by simp [Value.oneCell']) ?_ ?_ ?_ ?_
        · have := HAB.out; unfold maxLen; omega
        · have := HAB.out; omega
        · exact hbX.size
        intro v2 Y2 hown2 hgrow2 hat2
        have hbZ : Below W0.heap.size W0 Y2 := hbX.grown hgrow2 hbX.size (fun k e => (hownX.lt k e).1)
        obtain ⟨b2, d2, rfl⟩ := own_sl hown2
        refine hK _ _ (fun _ => PS hbZ) ?_
        clear hK K
        simp only [Act.put, List.setIfInBounds_toArray, List.set_cons_zero, List.set_cons_succ]
        have HNEW := hidb (And.intro hbZ hown2)
        clear hownX hgrow2 hat2 hown2 hbX hbZ PX hgrow1 hat1 hown1 hown0 hbW hbY
        refine wpAnyD_stepL (i := 8) (by kernel_rfl) rfl (fun K hK => ?_)
        go_simp
        refine hK _ _ (fun h => PS HNEW.out.1) ?_
        clear hK K
        refine wpAnyD_done (by kernel_rfl) ?_ _
        go_wp2_with (at_builtin; refine wpList_append_own_at _ rfl (.tmp 16) (.tmp 19) 27 rfl W0.heap.size MnT i0 (.agg #[.int .i64 0, .int .i64 0, .string ⟨#[]⟩]) 3 32 Try.underlying27 hi0 hz0 hz1 hz2 rfl (by decide) (.slice b2 (A.length + 1) d2) (A.length + 1) _ rfl HNEW.out.2 ⟨g1, 0, none⟩ 0 0 (mvs []) rfl rfl (fun j u hj => by simp [mvs] at hj) (mvs_one _) (by have := HAB.out; unfold maxLen; omega) (by have := HAB.out; omega) (by have := HNEW.out.1.size; omega) ?_; intro v3 Y3 hown3 hgrow3 _ hat3; have hbY3 : Below W0.heap.size W0 Y3 := (HNEW.out.1.grown hgrow3 HNEW.out.1.size (fun k e => (HNEW.out.2.lt k e).1)); rw [show mvs A ++ [Value.int .i64 v.a, Value.int .i64 v.b, Value.string v.c] ++ (mvs []) = mvs (A ++ (k, v) :: []) by rw [mvs_append]; simp [mvs], show A.length + 1 + 0 = (A ++ (k, v) :: []).length by (have := HAB.out; simp; try omega)] at hown3; obtain ⟨b3, d3, rfl⟩ := own_sl hown3; have HEND := hidb (And.intro hbY3 hown3); clear hown3 hgrow3 hat3 hbY3)
        go_ret
        refine ⟨_, rfl, HW0.out.1.trans (HEND.out.1.mono (by have := HW0.out; omega)), ?_⟩
        have hE := row_lift (B := w.heap.size) HEND.out.2 (fun g e => by have h8 := (HEND.out.2.lt g e).1; have h9 := HW0.out; omega)
        simp only [List.length_append, List.length_cons, List.length_nil, Nat.zero_add] at hE ⊢
        exact hE
    · have HCA := hidb hcA
      go_enter Try.func32, Try.ntmps32
      go_wp2_with fail
      refine wp_region_D (fun w' => w'.cell? ⟨w.heap.size, 0, none⟩ = some (.int .i64 v.a) ∧ w'.cell? ⟨w.heap.size, 1, none⟩ = some (.int .i64 v.b) ∧ w'.cell? ⟨w.heap.size, 2, none⟩ = some (.string v.c)) [8] (by kernel_rfl) ?_
      rw [hW0]
      clear hW0
      refine wpAnyD_takeL (i := 1) (v := ?vv1q) rfl (by kernel_rfl) (by kernel_rfl) (by kernel_rfl) (by kernel_rfl) (fun _ _ _ h => h) HS0.out rfl ?hy1q ?_
      case hy1q => intro wy hSw; go_simp; try with_reducible rfl
      simp only [Act.put, List.setIfInBounds_toArray, List.set_cons_zero, List.set_cons_succ]
      refine wpAnyD_takeL (i := 2) (v := ?vv2q) rfl (by kernel_rfl) (by kernel_rfl) (by kernel_rfl) (by kernel_rfl) (fun _ _ _ h => h) HS0.out rfl ?hy2q ?_
      case hy2q => intro wy hSw; go_simp; try with_reducible rfl
      simp only [Act.put, List.setIfInBounds_toArray, List.set_cons_zero, List.set_cons_succ]
      refine wpAnyD_takeL (i := 3) (v := ?vv3q) rfl (by kernel_rfl) (by kernel_rfl) (by kernel_rfl) (by kernel_rfl) (fun _ _ _ h => h) HS0.out rfl ?hy3q ?_
      case hy3q => intro wy hSw; go_simp; try with_reducible rfl
      simp only [Act.put, List.setIfInBounds_toArray, List.set_cons_zero, List.set_cons_succ]
      refine wpAnyD_takeL (i := 5) (v := ?vv5q) rfl (by kernel_rfl) (by kernel_rfl) (by kernel_rfl) (by kernel_rfl) (fun _ _ _ h => h) HS0.out rfl ?hy5q ?_
      case hy5q => intro wy hSw; go_simp; try with_reducible rfl
      simp only [Act.put, List.setIfInBounds_toArray, List.set_cons_zero, List.set_cons_succ]
      refine wpAnyD_twoL (i := 0) (j := 6) (by kernel_rfl) rfl rfl (fun K hK => ?_) (fun K hK => ?_)
      · go_simp
        refine hK _ _ (fun _ => PS (below_new _ _)) ?_
        clear hK K
        refine wpAnyD_twoL (i := 4) (j := 6) (by kernel_rfl) rfl rfl (fun K hK => ?_) (fun K hK => ?_)
        · have hbW := below_new W0 (.cells #[] MnT)
          have hown0 := made_at W0 (Nat.le_refl _)
          refine step_app rfl (.tmp 8) (.tmp 11) 27 rfl W0.heap.size MnT i0 (.agg #[.int .i64 0, .int .i64 0, .string ⟨#[]⟩]) 3 32 Try.underlying27 hi0 hz0 hz1 hz2 rfl (by decide) (.slice (some ⟨W0.heap.size, 0, none⟩) 0 0) 0 [] rfl hown0 ⟨g1, 0, none⟩ A.length c1 (mvs A) rfl (mvs_length A) (head_news HO.out hbW) (mvs_one _) ?_ ?_ ?_ ?_
          · have := HAB.out; unfold maxLen; omega
          · have := HAB.out; omega
          · exact hbW.size
          intro v1 Y1 hown1 hgrow1 hat1
          have hbY : Below W0.heap.size W0 Y1 := hbW.grown hgrow1 hbW.size (fun k e => (hown0.lt k e).1)
          rw [Nat.zero_add, List.nil_append] at hown1
          obtain ⟨b1, d1, rfl⟩ := own_sl hown1
          refine hK _ _ (fun _ => PS hbY) ?_
          clear hK K
          simp only [Act.put, List.setIfInBounds_toArray, List.set_cons_zero, List.set_cons_succ]
          refine wpAnyD_stepL (i := 6) (by kernel_rfl) rfl (fun K hK => ?_)
          go_simp
          have hbX := hbY.alloc hbY.size (.cells #[.int .i64 v.a, .int .i64 v.b, .string v.c] MnT)
          refine hK _ _ (fun _ => PS hbX) ?_
          clear hK K
          have hownX := hown1.alloc (.cells #[.int .i64 v.a, .int .i64 v.b, .string v.c] MnT)
          have PX : Tri (Y1.alloc (.cells #[.int .i64 v.a, .int .i64 v.b, .string v.c] MnT)) Y1.heap.size (.int .i64 v.a) (.int .i64 v.b) (.string v.c) := Tri.new _ _ _ _ _
          refine wpAnyD_stepL (i := 7) (by kernel_rfl) rfl (fun K hK => ?_)
          refine step_app rfl (.tmp 12) (.tmp 14) 27 rfl W0.heap.size MnT i0 (.agg #[.int .i64 0, .int .i64 0, .string ⟨#[]⟩]) 3 32 Try.underlying27 hi0 hz0 hz1 hz2 rfl (by decide) (.slice b1 A.length d1) A.length _ rfl hownX ⟨Y1.heap.size, 0, none⟩ 1 1 [.int .i64 v.a, .int .i64 v.b, .string v.c] rfl rfl (tri_news PX) (by simp [Value.oneCell']) ?_ ?_ ?_ ?_
          · have := HAB.out; unfold maxLen; omega
          · have := HAB.out; omega
          · exact hbX.size
          intro v2 Y2 hown2 hgrow2 hat2
          have hbZ : Below W0.heap.size W0 Y2 := hbX.grown hgrow2 hbX.size (fun k e => (hownX.lt k e).1)
          obtain ⟨b2, d2, rfl⟩ := own_sl hown2
          refine hK _ _ (fun _ => PS hbZ) ?_
          clear hK K
          simp only [Act.put, List.setIfInBounds_toArray, List.set_cons_zero, List.set_cons_succ]
          have HNEW := hidb (And.intro hbZ hown2)
          clear hownX hgrow2 hat2 hown2 hbX hbZ PX hgrow1 hat1 hown1 hown0 hbW hbY
          refine wpAnyD_stepL (i := 8) (by kernel_rfl) rfl (fun K hK => ?_)
          go_simp
          refine hK _ _ (fun h => PS HNEW.out.1) ?_
          clear hK K
          refine wpAnyD_done (by kernel_rfl) ?_ _
          go_wp2_with (at_builtin; refine wpList_append_own_at _ rfl (.tmp 16) (.tmp 19) 27 rfl W0.heap.size MnT i0 (.agg #[.int .i64 0, .int .i64 0, .string ⟨#[]⟩]) 3 32 Try.underlying27 hi0 hz0 hz1 hz2 rfl (by decide) (.slice b2 (A.length + 1) d2) (A.length + 1) _ rfl HNEW.out.2 ⟨g1, A.length * 3, none⟩ (n - A.length) (c1 - A.length) (mvs B) rfl (by rw [mvs_length]; have := HAB.out; omega) (by have hcf := cut_from (HO.out.keep9 HNEW.out.1) (i := A.length) (by have := HAB.out; omega) HCP.out (if_neg HCA.out); rw [List.drop_left] at hcf; exact hcf) (mvs_one _) (by have := HAB.out; unfold maxLen; omega) (by have := HAB.out; omega) (by have := HNEW.out.1.size; omega) ?_; intro v3 Y3 hown3 hgrow3 _ hat3; have hbY3 : Below W0.heap.size W0 Y3 := (HNEW.out.1.grown hgrow3 HNEW.out.1.size (fun k e => (HNEW.out.2.lt k e).1)); rw [show mvs A ++ [Value.int .i64 v.a, Value.int .i64 v.b, Value.string v.c] ++ (mvs B) = mvs (A ++ (k, v) :: B) by rw [mvs_append]; simp [mvs], show A.length + 1 + (n - A.length) = (A ++ (k, v) :: B).length by (have := HAB.out; simp; try omega)] at hown3; obtain ⟨b3, d3, rfl⟩ := own_sl hown3; have HEND := hidb (And.intro hbY3 hown3); clear hown3 hgrow3 hat3 hbY3)
          go_ret
          refine ⟨_, rfl, HW0.out.1.trans (HEND.out.1.mono (by have := HW0.out; omega)), ?_⟩
          have hE := row_lift (B := w.heap.size) HEND.out.2 (fun g e => by have h8 := (HEND.out.2.lt g e).1; have h9 := HW0.out; omega)
          simp only [List.length_append, List.length_cons] at hE ⊢
          exact hE
        · go_simp
          have hbW := (below_new W0 (.cells #[] MnT)).alloc (by simp) (.cells #[.int .i64 v.a, .int .i64 v.b, .string v.c] MnT)
          refine hK _ _ (fun _ => PS hbW) ?_
          clear hK K
          have hown0 := (made_at W0 (Nat.le_refl _)).alloc (.cells #[.int .i64 v.a, .int .i64 v.b, .string v.c] MnT)
          have P6 : Tri ((W0.alloc (.cells #[] MnT)).alloc (.cells #[.int .i64 v.a, .int .i64 v.b, .string v.c] MnT)) (W0.heap.size + 1) (.int .i64 v.a) (.int .i64 v.b) (.string v.c) := by have := Tri.new (W0.alloc (.cells #[] MnT)) MnT (.int .i64 v.a) (.int .i64 v.b) (.string v.c); simpa using this
          refine wpAnyD_stepL (i := 4) (by kernel_rfl) rfl (fun K hK => ?_)
          refine step_app rfl (.tmp 8) (.tmp 11) 27 rfl W0.heap.size MnT i0 (.agg #[.int .i64 0, .int .i64 0, .string ⟨#[]⟩]) 3 32 Try.underlying27 hi0 hz0 hz1 hz2 rfl (by decide) (.slice (some ⟨W0.heap.size, 0, none⟩) 0 0) 0 [] rfl hown0 ⟨g1, 0, none⟩ A.length c1 (mvs A) rfl (mvs_length A) (head_news HO.out hbW) (mvs_one _) ?_ ?_ ?_ ?_
          · have := HAB.out; unfold maxLen; omega
          · have := HAB.out; omega
          · exact hbW.size
          intro v1 Y1 hown1 hgrow1 hat1
          have hbY : Below W0.heap.size W0 Y1 := hbW.grown hgrow1 hbW.size (fun k e => (hown0.lt k e).1)
          rw [Nat.zero_add, List.nil_append] at hown1
          obtain ⟨b1, d1, rfl⟩ := own_sl hown1
          refine hK _ _ (fun _ => PS hbY) ?_
          clear hK K
          simp only [Act.put, List.setIfInBounds_toArray, List.set_cons_zero, List.set_cons_succ]
          have hownX := hown1
          have hbX := hbY
          have PX := grown_tri P6 hgrow1 (by simp [Value.ownBlock])
          refine wpAnyD_stepL (i := 7) (by kernel_rfl) rfl (fun K hK => ?_)
          refine step_app rfl (.tmp 12) (.tmp 14) 27 rfl W0.heap.size MnT i0 (.agg #[.int .i64 0, .int .i64 0, .string ⟨#[]⟩]) 3 32 Try.underlying27 hi0 hz0 hz1 hz2 rfl (by decide) (.slice b1 A.length d1) A.length _ rfl hownX ⟨W0.heap.size + 1, 0, none⟩ 1 1 [.int .i64 v.a, .int .i64 v.b, .string v.c] rfl rfl (tri_news PX) (by simp [Value.oneCell']) ?_ ?_ ?_ ?_
          · have := HAB.out; unfold maxLen; omega
          · have := HAB.out; omega
          · exact hbX.size
          intro v2 Y2 hown2 hgrow2 hat2
          have hbZ : Below W0.heap.size W0 Y2 := hbX.grown hgrow2 hbX.size (fun k e => (hownX.lt k e).1)
          obtain ⟨b2, d2, rfl⟩ := own_sl hown2
          refine hK _ _ (fun _ => PS hbZ) ?_
          clear hK K
          simp only [Act.put, List.setIfInBounds_toArray, List.set_cons_zero, List.set_cons_succ]
          have HNEW := hidb (And.intro hbZ hown2)
          clear hownX hgrow2 hat2 hown2 hbX hbZ PX hgrow1 hat1 hown1 hown0 hbW hbY
          refine wpAnyD_stepL (i := 8) (by kernel_rfl) rfl (fun K hK => ?_)
          go_simp
          refine hK _ _ (fun h => PS HNEW.out.1) ?_
          clear hK K
          refine wpAnyD_done (by kernel_rfl) ?_ _
          go_wp2_with (at_builtin; refine wpList_append_own_at _ rfl (.tmp 16) (.tmp 19) 27 rfl W0.heap.size MnT i0 (.agg #[.int .i64 0, .int .i64 0, .string ⟨#[]⟩]) 3 32 Try.underlying27 hi0 hz0 hz1 hz2 rfl (by decide) (.slice b2 (A.length + 1) d2) (A.length + 1) _ rfl HNEW.out.2 ⟨g1, A.length * 3, none⟩ (n - A.length) (c1 - A.length) (mvs B) rfl (by rw [mvs_length]; have := HAB.out; omega) (by have hcf := cut_from (HO.out.keep9 HNEW.out.1) (i := A.length) (by have := HAB.out; omega) HCP.out (if_neg HCA.out); rw [List.drop_left] at hcf; exact hcf) (mvs_one _) (by have := HAB.out; unfold maxLen; omega) (by have := HAB.out; omega) (by have := HNEW.out.1.size; omega) ?_; intro v3 Y3 hown3 hgrow3 _ hat3; have hbY3 : Below W0.heap.size W0 Y3 := (HNEW.out.1.grown hgrow3 HNEW.out.1.size (fun k e => (HNEW.out.2.lt k e).1)); rw [show mvs A ++ [Value.int .i64 v.a, Value.int .i64 v.b, Value.string v.c] ++ (mvs B) = mvs (A ++ (k, v) :: B) by rw [mvs_append]; simp [mvs], show A.length + 1 + (n - A.length) = (A ++ (k, v) :: B).length by (have := HAB.out; simp; try omega)] at hown3; obtain ⟨b3, d3, rfl⟩ := own_sl hown3; have HEND := hidb (And.intro hbY3 hown3); clear hown3 hgrow3 hat3 hbY3)
          go_ret
          refine ⟨_, rfl, HW0.out.1.trans (HEND.out.1.mono (by have := HW0.out; omega)), ?_⟩
          have hE := row_lift (B := w.heap.size) HEND.out.2 (fun g e => by have h8 := (HEND.out.2.lt g e).1; have h9 := HW0.out; omega)
          simp only [List.length_append, List.length_cons] at hE ⊢
          exact hE
      · go_simp
        refine hK _ _ (fun _ => PS (below_new _ _)) ?_
        clear hK K
        refine wpAnyD_stepL (i := 0) (by kernel_rfl) rfl (fun K hK => ?_)
        go_simp
        have hbW := (below_new W0 (.cells #[.int .i64 v.a, .int .i64 v.b, .string v.c] MnT)).alloc (by simp) (.cells #[] MnT)
        refine hK _ _ (fun _ => PS hbW) ?_
        clear hK K
        have hown0 : ((W0.alloc (.cells #[.int .i64 v.a, .int .i64 v.b, .string v.c] MnT)).alloc (.cells #[] MnT)).ownsRow W0.heap.size MnT 3 (.slice (some ⟨W0.heap.size + 1, 0, none⟩) 0 0) 0 [] := by have := made_at (B := W0.heap.size) (W0.alloc (.cells #[.int .i64 v.a, .int .i64 v.b, .string v.c] MnT)) (by simp); simpa using this
        have P6 := (Tri.new W0 MnT (.int .i64 v.a) (.int .i64 v.b) (.string v.c)).keep (below_new _ (.cells #[] MnT))
        refine wpAnyD_stepL (i := 4) (by kernel_rfl) rfl (fun K hK => ?_)
        refine step_app rfl (.tmp 8) (.tmp 11) 27 rfl W0.heap.size MnT i0 (.agg #[.int .i64 0, .int .i64 0, .string ⟨#[]⟩]) 3 32 Try.underlying27 hi0 hz0 hz1 hz2 rfl (by decide) (.slice (some ⟨W0.heap.size + 1, 0, none⟩) 0 0) 0 [] rfl hown0 ⟨g1, 0, none⟩ A.length c1 (mvs A) rfl (mvs_length A) (head_news HO.out hbW) (mvs_one _) ?_ ?_ ?_ ?_
        · have := HAB.out; unfold maxLen; omega
        · have := HAB.out; omega
        · exact hbW.size
        intro v1 Y1 hown1 hgrow1 hat1
        have hbY : Below W0.heap.size W0 Y1 := hbW.grown hgrow1 hbW.size (fun k e => (hown0.lt k e).1)
        rw [Nat.zero_add, List.nil_append] at hown1
        obtain ⟨b1, d1, rfl⟩ := own_sl hown1
        refine hK _ _ (fun _ => PS hbY) ?_
        clear hK K
        simp only [Act.put, List.setIfInBounds_toArray, List.set_cons_zero, List.set_cons_succ]
        have hownX := hown1
        have hbX := hbY
        have PX := grown_tri P6 hgrow1 (by simp [Value.ownBlock])
        refine wpAnyD_stepL (i := 7) (by kernel_rfl) rfl (fun K hK => ?_)
        refine step_app rfl (.tmp 12) (.tmp 14) 27 rfl W0.heap.size MnT i0 (.agg #[.int .i64 0, .int .i64 0, .string ⟨#[]⟩]) 3 32 Try.underlying27 hi0 hz0 hz1 hz2 rfl (by decide) (.slice b1 A.length d1) A.length _ rfl hownX ⟨W0.heap.size, 0, none⟩ 1 1 [.int .i64 v.a, .int .i64 v.b, .string v.c] rfl rfl (tri_news PX) (by simp [Value.oneCell']) ?_ ?_ ?_ ?_
        · have := HAB.out; unfold maxLen; omega
        · have := HAB.out; omega
        · exact hbX.size
        intro v2 Y2 hown2 hgrow2 hat2
        have hbZ : Below W0.heap.size W0 Y2 := hbX.grown hgrow2 hbX.size (fun k e => (hownX.lt k e).1)
        obtain ⟨b2, d2, rfl⟩ := own_sl hown2
        refine hK _ _ (fun _ => PS hbZ) ?_
        clear hK K
        simp only [Act.put, List.setIfInBounds_toArray, List.set_cons_zero, List.set_cons_succ]
        have HNEW := hidb (And.intro hbZ hown2)
        clear hownX hgrow2 hat2 hown2 hbX hbZ PX hgrow1 hat1 hown1 hown0 hbW hbY
        refine wpAnyD_stepL (i := 8) (by kernel_rfl) rfl (fun K hK => ?_)
        go_simp
        refine hK _ _ (fun h => PS HNEW.out.1) ?_
        clear hK K
        refine wpAnyD_done (by kernel_rfl) ?_ _
        go_wp2_with (at_builtin; refine wpList_append_own_at _ rfl (.tmp 16) (.tmp 19) 27 rfl W0.heap.size MnT i0 (.agg #[.int .i64 0, .int .i64 0, .string ⟨#[]⟩]) 3 32 Try.underlying27 hi0 hz0 hz1 hz2 rfl (by decide) (.slice b2 (A.length + 1) d2) (A.length + 1) _ rfl HNEW.out.2 ⟨g1, A.length * 3, none⟩ (n - A.length) (c1 - A.length) (mvs B) rfl (by rw [mvs_length]; have := HAB.out; omega) (by have hcf := cut_from (HO.out.keep9 HNEW.out.1) (i := A.length) (by have := HAB.out; omega) HCP.out (if_neg HCA.out); rw [List.drop_left] at hcf; exact hcf) (mvs_one _) (by have := HAB.out; unfold maxLen; omega) (by have := HAB.out; omega) (by have := HNEW.out.1.size; omega) ?_; intro v3 Y3 hown3 hgrow3 _ hat3; have hbY3 : Below W0.heap.size W0 Y3 := (HNEW.out.1.grown hgrow3 HNEW.out.1.size (fun k e => (HNEW.out.2.lt k e).1)); rw [show mvs A ++ [Value.int .i64 v.a, Value.int .i64 v.b, Value.string v.c] ++ (mvs B) = mvs (A ++ (k, v) :: B) by rw [mvs_append]; simp [mvs], show A.length + 1 + (n - A.length) = (A ++ (k, v) :: B).length by (have := HAB.out; simp; try omega)] at hown3; obtain ⟨b3, d3, rfl⟩ := own_sl hown3; have HEND := hidb (And.intro hbY3 hown3); clear hown3 hgrow3 hat3 hbY3)
        go_ret
        refine ⟨_, rfl, HW0.out.1.trans (HEND.out.1.mono (by have := HW0.out; omega)), ?_⟩
        have hE := row_lift (B := w.heap.size) HEND.out.2 (fun g e => by have h8 := (HEND.out.2.lt g e).1; have h9 := HW0.out; omega)
        simp only [List.length_append, List.length_cons] at hE ⊢
        exact hE

end MV
end Go.Proofs.Ytmnglaeaicicnaa
