/- The document's half-links: Set. -/
import Derived.Test.YtodelafnboimnaaLr1
namespace Go.Proofs.Ytodelafnboimnaa
open Go.RowKit Go.Lib
namespace HV
attribute [local go_sem ↓] Go.wp_at_zero Go.wp_at_succ

theorem cell3_new (w : World) (a b c : Value) (t : TypeId) : ∀ (j : Nat) (u : Value), [a, b, c][j]? = some u → (w.alloc (.cells #[a, b, c] t)).cell? ((⟨w.heap.size, 0, none⟩ : Addr).add j) = some u := by
  intro j u h
  have e1 : (⟨w.heap.size, 0, none⟩ : Addr).add j = ⟨w.heap.size, j, none⟩ := by unfold Addr.add; split <;> simp_all
  rw [e1, World.cell?_alloc_new]
  simpa using h

theorem made0 (w : World) : (w.alloc (.cells #[] HT)).ownsRow w.heap.size HT 3 (.slice (some ⟨w.heap.size, 0, none⟩) 0 0) 0 [] := World.ownsRow_made w #[] 0 (Nat.le_refl _) (by unfold maxLen; omega) (by simp)

theorem head_news {w w' : World} {B g c n : Nat} {A r : List KV} (h : w.ownsRow B HT 3 (.slice (some ⟨g, 0, none⟩) n c) n (hvs (A ++ r))) (hb : Below w.heap.size w w') : ∀ (j : Nat) (u : Value), (hvs A)[j]? = some u → w'.cell? ((⟨g, 0, none⟩ : Addr).add j) = some u := by
  intro j u hj
  have hl : n * 3 = (A ++ r).length * 3 := by have := h.1; rw [hvs_length] at this; omega
  have hjl := (List.getElem?_eq_some_iff.1 hj).1
  have e1 : (⟨g, 0, none⟩ : Addr).add j = ⟨g, j, none⟩ := by unfold Addr.add; split <;> simp_all
  rw [hvs_length] at hjl
  rw [List.length_append] at hl
  have hc : w.cell? ⟨g, j, none⟩ = some u := by rw [h.cellAt j (by omega), ← hj, hvs_append, List.getElem?_append_left (by rw [hvs_length]; exact hjl)]
  rw [e1, hb.cell (World.block_lt_of_cell? _ _ hc), hc]

theorem _root_.Go.World.ownsRow.keep9 {w w' : World} {C e size n : Nat} {v : Value} {xs : List Value} (h : w.ownsRow C e size v n xs) (hb : Below w.heap.size w w') : w'.ownsRow C e size v n xs := row_but h (But.of_below (S := fun _ => False) hb) (fun _ _ h => h)

/-- A new row in place of the old one. -/
theorem RT.fresh {w Y : World} {rb m : Nat} {V V' : Value} {E : Nat → Prop} {L : List KV} {nn : Int} (hd : Duo w rb V (.int .i64 nn)) (hb : Below w.heap.size w Y) (ho : Y.ownsRow w.heap.size HT 3 V' m (hvs L)) :
    Duo Y rb V (.int .i64 nn) ∧ Duo (Y.setCell ⟨rb, 0, none⟩ V') rb V' (.int .i64 nn) ∧ (Y.setCell ⟨rb, 0, none⟩ V').ownsRow 0 HT 3 V' m (hvs L) ∧ But (fun k => k = rb) w (Y.setCell ⟨rb, 0, none⟩ V') ∧ (∀ g, V'.ownBlock = some g → w.heap.size ≤ g ∧ g < Y.heap.size ∧ g ≠ rb) ∧ RT (Y.setCell ⟨rb, 0, none⟩ V') rb (Nw E w (Y.setCell ⟨rb, 0, none⟩ V')) L nn := by
  have hl := hd.lt
  have hg : ∀ g, V'.ownBlock = some g → w.heap.size ≤ g ∧ g < Y.heap.size := fun g e => ho.lt g e
  have hs : But (fun k => k = rb) Y (Y.setCell ⟨rb, 0, none⟩ V') := (But.refl (fun k => k = rb) Y).setCell (p := ⟨rb, 0, none⟩) (fun _ => rfl) _
  have hk := hd.keep hb
  have h1 := hk.set0 V'
  have h2 : (Y.setCell ⟨rb, 0, none⟩ V').ownsRow 0 HT 3 V' m (hvs L) := row_lift (row_but ho hs (fun g e e' => by have := hg g e; omega)) (fun _ _ => Nat.zero_le _)
  have hm : m = L.length := by have := ho.1; rw [hvs_length] at this; omega
  refine ⟨hk, h1, h2, (But.of_below hb).trans hs, fun g e => ⟨(hg g e).1, (hg g e).2, by have := hg g e; omega⟩, ⟨V', h1, hm ▸ h2, fun g e => ⟨.inr ⟨(hg g e).1, Nat.lt_of_lt_of_le (hg g e).2 hs.size⟩, by have := hg g e; omega⟩⟩⟩

/-- An element of the row is set. -/
theorem RT.put {w : World} {rb g c : Nat} {E : Nat → Prop} {A r : List KV} {x : KV} {nn : Int} (hd : Duo w rb (.slice (some ⟨g, 0, none⟩) (A ++ x :: r).length c) (.int .i64 nn)) (ho : w.ownsRow 0 HT 3 (.slice (some ⟨g, 0, none⟩) (A ++ x :: r).length c) (A ++ x :: r).length (hvs (A ++ x :: r))) (he : E g ∧ g ≠ rb) (y : KV) :
    RT (((w.setCell ⟨g, A.length * 3, none⟩ (.int .i64 y.2.a)).setCell ⟨g, A.length * 3 + 1, none⟩ (.int .i64 y.2.b)).setCell ⟨g, A.length * 3 + 2, none⟩ (.int .i64 y.2.c)) rb E (A ++ y :: r) nn ∧ But (fun k => k = g) w (((w.setCell ⟨g, A.length * 3, none⟩ (.int .i64 y.2.a)).setCell ⟨g, A.length * 3 + 1, none⟩ (.int .i64 y.2.b)).setCell ⟨g, A.length * 3 + 2, none⟩ (.int .i64 y.2.c)) := by
  have hs : But (fun k => k = g) w (((w.setCell ⟨g, A.length * 3, none⟩ (.int .i64 y.2.a)).setCell ⟨g, A.length * 3 + 1, none⟩ (.int .i64 y.2.b)).setCell ⟨g, A.length * 3 + 2, none⟩ (.int .i64 y.2.c)) := (((But.refl (fun k => k = g) w).setCell (p := ⟨g, A.length * 3, none⟩) (fun _ => rfl) _).setCell (p := ⟨g, A.length * 3 + 1, none⟩) (fun _ => rfl) _).setCell (p := ⟨g, A.length * 3 + 2, none⟩) (fun _ => rfl) _
  have h1 := (((ho.stored (A.length * 3) (.int .i64 y.2.a)).1.stored (A.length * 3 + 1) (.int .i64 y.2.b)).1.stored (A.length * 3 + 2) (.int .i64 y.2.c)).1
  rw [hvs_set, show (A ++ x :: r).length = (A ++ y :: r).length by simp] at h1
  rw [show (A ++ x :: r).length = (A ++ y :: r).length by simp] at hd
  refine ⟨⟨_, hd.but hs (fun e => he.2 e.symm), h1, fun q hq => ?_⟩, hs⟩
  obtain rfl : g = q := by simpa [Value.ownBlock] using hq
  exact he

set_option maxRecDepth 100000 in
set_option maxHeartbeats 8000000 in
theorem rset_any {w : World} {rb : Nat} {E : Nat → Prop} {L : List KV} {nn : Int} (h : RT w rb E L nn) (hr : Rise L) (hk : HOk L) (key : Int) (hN : L.length ≤ 90000) :
    Calls Try.prog 25 #[.pointer (some ⟨rb, 0, none⟩), .int .i64 key] w fun e w' => e = .returned (.tuple #[]) ∧ RU w w' rb E (insL key ⟨key, 1, 0⟩ L) nn := by
  obtain ⟨A, B, rfl, h1, h2⟩ := split_at (key := key) hr
  have hf := rfind_any h hr hk key h1 h2 (by omega)
  have hgs := getL_split hr h1 h2
  have his := ins_split (v := ⟨key, 1, 0⟩) hr h1 h2
  cases hg : getL key (A ++ B) with
  | some v0 =>
    rw [hg] at hf hgs
    cases B with
    | nil => cases hgs
    | cons y r =>
      have hyk : y.1 = key := by
        by_cases e : y.1 = key
        · exact e
        · simp [e] at hgs
      simp only [hyk, if_true] at his
      have C : Hid (Calls Try.prog 29 #[.pointer (some ⟨rb, 0, none⟩), .int .i64 key] w fun e w1 => ∃ g c n a0 a1 a2, e = .returned (.tuple #[.int .i64 (A.length : Int), .bool true]) ∧ w1.cell? ⟨rb, 0, none⟩ = some (.slice (some ⟨g, 0, none⟩) n c) ∧ w1.cell? ⟨g, A.length * 3, none⟩ = some (.int .i64 a0) ∧ w1.cell? ⟨g, A.length * 3 + 1, none⟩ = some (.int .i64 a1) ∧ w1.cell? ⟨g, A.length * 3 + 2, none⟩ = some (.int .i64 a2) ∧ w1.frozen? ⟨g, A.length * 3, none⟩ = false ∧ w1.frozen? ⟨g, A.length * 3 + 1, none⟩ = false ∧ w1.frozen? ⟨g, A.length * 3 + 2, none⟩ = false ∧ A.length < n ∧ Hid (RU w (((w1.setCell ⟨g, A.length * 3, none⟩ (.int .i64 key)).setCell ⟨g, A.length * 3 + 1, none⟩ (.int .i64 1)).setCell ⟨g, A.length * 3 + 2, none⟩ (.int .i64 0)) rb E (A ++ (key, ⟨key, 1, 0⟩) :: r) nn)) := by
        refine hidb (hf.mono ?_)
        rintro e w1 ⟨rfl, hb⟩
        obtain ⟨V1, hd, ho, he⟩ := h.keep hb
        have hyk : (A ++ y :: r)[A.length]? = some y := by simp
        obtain ⟨g, c, rfl, m1, m2, m3⟩ := row_get ho hyk
        obtain ⟨hF2, hs⟩ := RT.put hd ho (he g rfl) (key, ⟨key, 1, 0⟩)
        exact ⟨g, c, _, _, _, _, rfl, hd.c0, m1, m2, m3, row_free ho _, row_free ho _, row_free ho _, by simp, hidb ⟨hF2.mono (fun _ _ hk => .inl hk), (But.of_below hb).trans (hs.mono (fun k _ e => .inr (e ▸ (he g rfl).1)))⟩⟩
      rw [his]
      clear h hr h1 h2 hN hgs hf his hg hk hyk
      go_enter Try.func25, Try.ntmps25
      go_wp2_with (go_at_call 29; refine C.out.mono ?_; clear C; rintro e w1 ⟨g, c, n, a0, a1, a2, rfl, d1, d2, d3, d4, f0, f1, f2, dl, HF⟩; have e1 : (A.length : Int) < (n : Int) := (by omega); have e2 : (0 : Int) ≤ (A.length : Int) := (by omega))
      exact bodyPost_end (v := .tuple #[]) (by simp [results, Try.results25, go_sem]) rfl ⟨rfl, HF.out⟩
  | none =>
    rw [hg] at hf hgs
    have hin : insL key ⟨key, 1, 0⟩ (A ++ B) = A ++ (key, ⟨key, 1, 0⟩) :: B := by
      rw [his]
      cases B with
      | nil => rfl
      | cons x r =>
        by_cases e : x.1 = key
        · simp [e] at hgs
        · simp [e]
    rw [hin]
    obtain ⟨n, hn⟩ : ∃ n, (A ++ B).length = n := ⟨_, rfl⟩
    rw [hn] at hN
    have HAB : Hid (A.length ≤ n ∧ n ≤ 90000 ∧ n = A.length + B.length) := hidb (by refine ⟨?_, hN, ?_⟩ <;> simp at hn ⊢ <;> omega)
    obtain ⟨i0, hi0, hz0, hz1, hz2⟩ := infoH
    obtain ⟨V, hd0, ho0, he0⟩ := h
    have hlt := hd0.lt
    rcases ho0.2 with ⟨rfl, hz⟩ | ⟨g, cap, cur, rfl, -⟩
    · have hA : A = [] := by cases A with | nil => rfl | cons a b => simp at hz
      have hB : B = [] := by cases B with | nil => rfl | cons a b => simp at hz
      subst hA hB
      have C : Hid (Calls Try.prog 29 #[.pointer (some ⟨rb, 0, none⟩), .int .i64 key] w fun e w1 => e = .returned (.tuple #[.int .i64 0, .bool false]) ∧ Duo w1 rb (.slice none 0 0) (.int .i64 nn) ∧ Hid (Below w.heap.size w w1)) := by
        refine hidb (hf.mono ?_)
        rintro e w1 ⟨rfl, hb⟩
        exact ⟨rfl, hd0.keep hb, hidb hb⟩
      have HLT := hidb hlt
      clear hd0 ho0 he0 hr h1 h2 hN hgs hf his hg hin hn hk hz hlt
      go_enter Try.func25, Try.ntmps25
      go_wp2_with (first
        | (go_at_call 29; refine C.out.mono ?_; clear C; rintro e w1 ⟨rfl, hD, HBL⟩; have k0 := (hD.keep (below_new w1 (.cells #[] 34))).c0)
        | (at_builtin; refine wpList_append_own_none rfl (.tmp 15) (.tmp 21) 27 rfl w1.heap.size HT i0 3 Try.underlying27 hi0 (.slice (some ⟨w1.heap.size, 0, none⟩) 0 0) 0 [] rfl (made0 w1) rfl ?_)
        | (at_builtin; refine wpList_append_own_at _ rfl (.tmp 22) (.tmp 24) 27 rfl w1.heap.size HT i0 (.agg #[.int .i64 0, .int .i64 0, .int .i64 0]) 3 24 Try.underlying27 hi0 hz0 hz1 hz2 rfl (by decide) (.slice (some ⟨w1.heap.size, 0, none⟩) 0 0) 0 [] rfl ((made0 w1).alloc _) ⟨w1.heap.size + 1, 0, none⟩ 1 1 [.int .i64 0, .int .i64 0, .int .i64 0] rfl rfl (by have := cell3_new (w1.alloc (.cells #[] HT)) (.int .i64 0) (.int .i64 0) (.int .i64 0) HT; simpa using this) (by simp [Value.oneCell']) (by unfold maxLen; omega) (by omega) (by simp; omega) ?_; intro v2 Y2 hown2 hgrow2 _ hat2; obtain ⟨g2, d2, rfl⟩ := ownsRow_succ hown2; have hbY : Below w1.heap.size w1 Y2 := (((below_new w1 _).alloc (by simp) _).grown hgrow2 (by simp; omega) (fun k e => by have : k = w1.heap.size := (by simpa [Value.ownBlock] using e.symm); omega)); have HQ := hidb (RT.fresh (E := E) (L := [(0, hf0)]) hD hbY hown2); have j0 := HQ.out.1.c0; have j1 := HQ.out.1.f0; have HOW := hidb hown2; clear hown2 hgrow2 hat2 hbY)
        | (at_builtin; refine wpList_append_own_none rfl (.tmp 27) (.tmp 33) 27 rfl w1.heap.size HT i0 3 Try.underlying27 hi0 _ _ _ rfl HOW.out rfl ?_; have j2 := HQ.out.2.1.c0; have t0 := (HQ.out.2.2.1.cellAt 0 (by omega)); have t1 := (HQ.out.2.2.1.cellAt 1 (by omega)); have t2 := (HQ.out.2.2.1.cellAt 2 (by omega)); have u0 := row_free HQ.out.2.2.1 0; have u1 := row_free HQ.out.2.2.1 1; have u2 := row_free HQ.out.2.2.1 2; simp only [hvs, List.getElem?_cons_zero, List.getElem?_cons_succ] at t0 t1 t2))
      obtain ⟨-, q1, q2, q3, q4, -⟩ := HQ.out
      have hput := RT.put (A := []) (x := (0, hf0)) (r := []) (E := fun k => w1.heap.size ≤ k) q1 q2 ⟨(q4 g2 rfl).1, (q4 g2 rfl).2.2⟩ (key, ⟨key, 1, 0⟩)
      simp only [List.length_nil, Nat.zero_mul, Nat.zero_add, List.nil_append] at hput
      obtain ⟨hp1, hp2⟩ := hput
      have hbw := HBL.out
      have hsz := hbw.size
      refine bodyPost_end (v := .tuple #[]) (by simp [results, Try.results25, go_sem]) rfl ⟨rfl, ?_⟩
      refine RU.pre hbw ⟨hp1.mono (fun k hlt hk => .inr ⟨hk, hlt⟩), (q3.mono (fun _ _ h => .inl h)).trans' hp2 (fun k hk e => absurd (q4 g2 rfl).1 (by omega))⟩
    · rw [hn] at hd0 ho0
      have hcap := row_cap ho0
      have C : Hid (Calls Try.prog 29 #[.pointer (some ⟨rb, 0, none⟩), .int .i64 key] w fun e w1 => e = .returned (.tuple #[.int .i64 (A.length : Int), .bool false]) ∧ Duo w1 rb (.slice (some ⟨g, 0, none⟩) n cap) (.int .i64 nn) ∧ Hid (w1.ownsRow 0 HT 3 (.slice (some ⟨g, 0, none⟩) n cap) n (hvs (A ++ B)) ∧ Below w.heap.size w w1)) := by
        refine hidb (hf.mono ?_)
        rintro e w1 ⟨rfl, hb⟩
        exact ⟨rfl, hd0.keep hb, hidb ⟨row_but ho0 (But.of_below (S := fun _ => False) hb) (fun _ _ h => h), hb⟩⟩
      have HLT := hidb hlt
      have s1 : (0 : Int) ≤ (A.length : Int) := by omega
      have s2 : (A.length : Int) ≤ (cap : Int) := by have := HAB.out; omega
      have s3 : (A.length : Int) ≤ (n : Int) := by have := HAB.out; omega
      have s4 : (n : Int) ≤ (cap : Int) := by omega
      clear hd0 ho0 he0 hr h1 h2 hN hgs hf his hg hin hn hk hlt
      by_cases hcA : cap = A.length
      · subst hcA
        obtain rfl : n = A.length := by have := HAB.out; omega
        obtain rfl : B = [] := by have := HAB.out; exact List.length_eq_zero_iff.1 (by omega)
        go_enter Try.func25, Try.ntmps25
        go_wp2_with (first
          | (go_at_call 29; refine C.out.mono ?_; clear C; rintro e w1 ⟨rfl, hD, HO⟩; have k0 := (hD.keep (below_new w1 (.cells #[] 34))).c0)
          | (at_builtin; refine wpList_append_own_at _ rfl (.tmp 15) (.tmp 21) 27 rfl w1.heap.size HT i0 (.agg #[.int .i64 0, .int .i64 0, .int .i64 0]) 3 24 Try.underlying27 hi0 hz0 hz1 hz2 rfl (by decide) (.slice (some ⟨w1.heap.size, 0, none⟩) 0 0) 0 [] rfl (made0 w1) ⟨g, 0, none⟩ A.length A.length (hvs A) rfl (hvs_length A) (head_news HO.out.1 (below_new _ _)) (hvs_one A) (by have := HAB.out; unfold maxLen; omega) (by have := HAB.out; omega) (by simp) ?_; intro v1 Y1 hown1 hgrow1 _ hat1; have hbY1 : Below w1.heap.size w1 Y1 := ((below_new w1 _).grown hgrow1 (by simp) (fun k e => by have : k = w1.heap.size := (by simpa [Value.ownBlock] using e.symm); omega)); rw [Nat.zero_add, List.nil_append] at hown1; obtain ⟨b1, d1, rfl⟩ := own_sl hown1; have HO1 := hidb (And.intro hown1 hbY1); clear hown1 hgrow1 hat1 hbY1)
          | (at_builtin; refine wpList_append_own_at _ rfl (.tmp 22) (.tmp 24) 27 rfl w1.heap.size HT i0 (.agg #[.int .i64 0, .int .i64 0, .int .i64 0]) 3 24 Try.underlying27 hi0 hz0 hz1 hz2 rfl (by decide) (.slice b1 A.length d1) A.length (hvs A) rfl (HO1.out.1.alloc _) ⟨Y1.heap.size, 0, none⟩ 1 1 [.int .i64 0, .int .i64 0, .int .i64 0] rfl rfl (cell3_new Y1 _ _ _ _) (by simp [Value.oneCell']) (by have := HAB.out; unfold maxLen; omega) (by have := HAB.out; omega) (by have := HO1.out.2.size; simp; omega) ?_; intro v2 Y2 hown2 hgrow2 _ hat2; have hbY2 : Below w1.heap.size w1 Y2 := ((HO1.out.2.alloc HO1.out.2.size _).grown hgrow2 (by have := HO1.out.2.size; simp; omega) (fun k e => (HO1.out.1.lt k e).1)); obtain ⟨b2, d2, rfl⟩ := own_sl hown2; have HO2 := hidb (And.intro hown2 hbY2); have j0 := (hD.keep hbY2).c0; have j1 := (hD.keep hbY2).f0; clear hown2 hgrow2 hat2 hbY2)
          | (at_builtin; refine wpList_append_own_at _ rfl (.tmp 27) (.tmp 33) 27 rfl w1.heap.size HT i0 (.agg #[.int .i64 0, .int .i64 0, .int .i64 0]) 3 24 Try.underlying27 hi0 hz0 hz1 hz2 rfl (by decide) (.slice b2 (A.length + 1) d2) (A.length + 1) _ rfl HO2.out.1 ⟨g, 0, none⟩ 0 0 (hvs []) rfl rfl (fun j u hj => by simp [hvs] at hj) (hvs_one _) (by have := HAB.out; unfold maxLen; omega) (by have := HAB.out; omega) (by have := HO2.out.2.size; omega) ?_; intro v3 Y3 hown3 hgrow3 _ hat3; have hbY3 : Below w1.heap.size w1 Y3 := (HO2.out.2.grown hgrow3 HO2.out.2.size (fun k e => (HO2.out.1.lt k e).1)); rw [show hvs A ++ [Value.int .i64 0, Value.int .i64 0, Value.int .i64 0] ++ (hvs []) = hvs (A ++ (0, hf0) :: []) by rw [hvs_append]; simp [hvs], show A.length + 1 + 0 = (A ++ (0, hf0) :: []).length by (have := HAB.out; simp; try omega)] at hown3; obtain ⟨N3, hN3⟩ : ∃ N3, (A ++ (0, hf0) :: []).length = N3 := ⟨_, rfl⟩; rw [hN3] at hown3; obtain ⟨g3, d3, rfl, -⟩ := row_get hown3 (show (A ++ (0, hf0) :: [])[A.length]? = some (0, hf0) by simp); have HQ := hidb (RT.fresh (E := E) hD hbY3 hown3); have y0 := HQ.out.1.c0; have y1 := HQ.out.1.f0; have y2 := HQ.out.2.1.c0; obtain ⟨g4, d4, he4, t0, t1, t2⟩ := row_get HQ.out.2.2.1 (show (A ++ (0, hf0) :: [])[A.length]? = some (0, hf0) by simp); obtain ⟨rfl, rfl⟩ : g3 = g4 ∧ d3 = d4 := (by simpa using he4); have u0 := row_free HQ.out.2.2.1 (A.length * 3); have u1 := row_free HQ.out.2.2.1 (A.length * 3 + 1); have u2 := row_free HQ.out.2.2.1 (A.length * 3 + 2); have v1 : (A.length : Int) < (N3 : Int) := (by simp at hN3; omega); have HN3 := hidb hN3; clear hown3 hgrow3 hat3 hbY3 he4 hN3))
        obtain ⟨-, q1, q2, q3, q4, -⟩ := HQ.out
        rw [← HN3.out] at q1 q2
        have hput := RT.put (A := A) (x := (0, hf0)) (r := []) (E := fun k => w1.heap.size ≤ k) q1 q2 ⟨(q4 g3 rfl).1, (q4 g3 rfl).2.2⟩ (key, ⟨key, 1, 0⟩)
        rw [HN3.out] at hput
        obtain ⟨hp1, hp2⟩ := hput
        have hbw := HO.out.2
        have hsz := hbw.size
        refine bodyPost_end (v := .tuple #[]) (by simp [results, Try.results25, go_sem]) rfl ⟨rfl, ?_⟩
        refine RU.pre hbw ⟨hp1.mono (fun k hlt hk => .inr ⟨hk, hlt⟩), (q3.mono (fun _ _ h => .inl h)).trans' hp2 (fun k hk e => absurd (q4 g3 rfl).1 (by omega))⟩
      · skip
        go_enter Try.func25, Try.ntmps25
        go_wp2_with (first
          | (go_at_call 29; refine C.out.mono ?_; clear C; rintro e w1 ⟨rfl, hD, HO⟩; have k0 := (hD.keep (below_new w1 (.cells #[] 34))).c0)
          | (at_builtin; refine wpList_append_own_at _ rfl (.tmp 15) (.tmp 21) 27 rfl w1.heap.size HT i0 (.agg #[.int .i64 0, .int .i64 0, .int .i64 0]) 3 24 Try.underlying27 hi0 hz0 hz1 hz2 rfl (by decide) (.slice (some ⟨w1.heap.size, 0, none⟩) 0 0) 0 [] rfl (made0 w1) ⟨g, 0, none⟩ A.length cap (hvs A) rfl (hvs_length A) (head_news HO.out.1 (below_new _ _)) (hvs_one A) (by have := HAB.out; unfold maxLen; omega) (by have := HAB.out; omega) (by simp) ?_; intro v1 Y1 hown1 hgrow1 _ hat1; have hbY1 : Below w1.heap.size w1 Y1 := ((below_new w1 _).grown hgrow1 (by simp) (fun k e => by have : k = w1.heap.size := (by simpa [Value.ownBlock] using e.symm); omega)); rw [Nat.zero_add, List.nil_append] at hown1; obtain ⟨b1, d1, rfl⟩ := own_sl hown1; have HO1 := hidb (And.intro hown1 hbY1); clear hown1 hgrow1 hat1 hbY1)
          | (at_builtin; refine wpList_append_own_at _ rfl (.tmp 22) (.tmp 24) 27 rfl w1.heap.size HT i0 (.agg #[.int .i64 0, .int .i64 0, .int .i64 0]) 3 24 Try.underlying27 hi0 hz0 hz1 hz2 rfl (by decide) (.slice b1 A.length d1) A.length (hvs A) rfl (HO1.out.1.alloc _) ⟨Y1.heap.size, 0, none⟩ 1 1 [.int .i64 0, .int .i64 0, .int .i64 0] rfl rfl (cell3_new Y1 _ _ _ _) (by simp [Value.oneCell']) (by have := HAB.out; unfold maxLen; omega) (by have := HAB.out; omega) (by have := HO1.out.2.size; simp; omega) ?_; intro v2 Y2 hown2 hgrow2 _ hat2; have hbY2 : Below w1.heap.size w1 Y2 := ((HO1.out.2.alloc HO1.out.2.size _).grown hgrow2 (by have := HO1.out.2.size; simp; omega) (fun k e => (HO1.out.1.lt k e).1)); obtain ⟨b2, d2, rfl⟩ := own_sl hown2; have HO2 := hidb (And.intro hown2 hbY2); have j0 := (hD.keep hbY2).c0; have j1 := (hD.keep hbY2).f0; clear hown2 hgrow2 hat2 hbY2)
          | (at_builtin; refine wpList_append_own_at _ rfl (.tmp 27) (.tmp 33) 27 rfl w1.heap.size HT i0 (.agg #[.int .i64 0, .int .i64 0, .int .i64 0]) 3 24 Try.underlying27 hi0 hz0 hz1 hz2 rfl (by decide) (.slice b2 (A.length + 1) d2) (A.length + 1) _ rfl HO2.out.1 ⟨g, A.length * 3, none⟩ (n - A.length) (cap - A.length) (hvs B) rfl (by rw [hvs_length]; have := HAB.out; omega) (by have hcf := cut_from (HO.out.1.keep9 HO2.out.2) (i := A.length) (by have := HAB.out; omega) hcap (if_neg hcA); rw [List.drop_left] at hcf; exact hcf) (hvs_one _) (by have := HAB.out; unfold maxLen; omega) (by have := HAB.out; omega) (by have := HO2.out.2.size; omega) ?_; intro v3 Y3 hown3 hgrow3 _ hat3; have hbY3 : Below w1.heap.size w1 Y3 := (HO2.out.2.grown hgrow3 HO2.out.2.size (fun k e => (HO2.out.1.lt k e).1)); rw [show hvs A ++ [Value.int .i64 0, Value.int .i64 0, Value.int .i64 0] ++ (hvs B) = hvs (A ++ (0, hf0) :: B) by rw [hvs_append]; simp [hvs], show A.length + 1 + (n - A.length) = (A ++ (0, hf0) :: B).length by (have := HAB.out; simp; try omega)] at hown3; obtain ⟨N3, hN3⟩ : ∃ N3, (A ++ (0, hf0) :: B).length = N3 := ⟨_, rfl⟩; rw [hN3] at hown3; obtain ⟨g3, d3, rfl, -⟩ := row_get hown3 (show (A ++ (0, hf0) :: B)[A.length]? = some (0, hf0) by simp); have HQ := hidb (RT.fresh (E := E) hD hbY3 hown3); have y0 := HQ.out.1.c0; have y1 := HQ.out.1.f0; have y2 := HQ.out.2.1.c0; obtain ⟨g4, d4, he4, t0, t1, t2⟩ := row_get HQ.out.2.2.1 (show (A ++ (0, hf0) :: B)[A.length]? = some (0, hf0) by simp); obtain ⟨rfl, rfl⟩ : g3 = g4 ∧ d3 = d4 := (by simpa using he4); have u0 := row_free HQ.out.2.2.1 (A.length * 3); have u1 := row_free HQ.out.2.2.1 (A.length * 3 + 1); have u2 := row_free HQ.out.2.2.1 (A.length * 3 + 2); have v1 : (A.length : Int) < (N3 : Int) := (by simp at hN3; omega); have HN3 := hidb hN3; clear hown3 hgrow3 hat3 hbY3 he4 hN3))
        obtain ⟨-, q1, q2, q3, q4, -⟩ := HQ.out
        rw [← HN3.out] at q1 q2
        have hput := RT.put (A := A) (x := (0, hf0)) (r := B) (E := fun k => w1.heap.size ≤ k) q1 q2 ⟨(q4 g3 rfl).1, (q4 g3 rfl).2.2⟩ (key, ⟨key, 1, 0⟩)
        rw [HN3.out] at hput
        obtain ⟨hp1, hp2⟩ := hput
        have hbw := HO.out.2
        have hsz := hbw.size
        refine bodyPost_end (v := .tuple #[]) (by simp [results, Try.results25, go_sem]) rfl ⟨rfl, ?_⟩
        refine RU.pre hbw ⟨hp1.mono (fun k hlt hk => .inr ⟨hk, hlt⟩), (q3.mono (fun _ _ h => .inl h)).trans' hp2 (fun k hk e => absurd (q4 g3 rfl).1 (by omega))⟩

end HV
end Go.Proofs.Ytodelafnboimnaa
