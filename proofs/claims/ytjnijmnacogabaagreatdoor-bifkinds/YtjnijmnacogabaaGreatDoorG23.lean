import Derived.Test.YtjnijmnacogabaaGreatDoorG22
import Derived.ProofKit
/- Op, Call. -/
namespace Go.Proofs.YtjnijmnacogabaaGreatDoor
open Go.RowKit Go.Lib Go.Deep
attribute [local go_sem] store_float f64bits store_func store_nilFunc
attribute [local go_sem ↓] Go.wp_at_zero Go.wp_at_succ

theorem Tld.mono {P : Tr → Prop} {E : Int → Prop} {B B' : Nat} {w : World} {e : Ending} {w' : World} (h : Tld P E B w e w') (hB : B ≤ B') : Tld P E B' w e w' := by
  refine ⟨h.1, ?_⟩
  rcases h.2 with ⟨t, h1, h2, h3, h4, h5⟩ | h
  · exact .inl ⟨t, h1, h2, h3, on_mono (fun k hk => by omega) t h4, h5⟩
  · exact .inr h
/-- A builtin's contract: of arguments that lie in w. -/
structure TC (f : Nat) (P : Tr → Prop) (E : Int → Prop) (cv : Value) (w : World) : Prop where
  ent : ∀ args w, (callFunc f args).run Tryz.prog w = .ok (.enter f args) w
  ok : ∀ W, Below w.heap.size w W → Calls Tryz.prog f #[cv] W (Tld P E w.heap.size W)
theorem TC.ans {f : Nat} {P : Tr → Prop} {E : Int → Prop} {nm : ByteArray} {a : Option Addr} {n c : Nat} {ar : Value} {w : World} (h : TC f P E (.agg #[.string nm, .slice a n c, ar]) w) (har : ar = .nilFunc ∨ ∃ g, ar = .func (.func g) #[] #[]) {W1 : World} (hb : Below w.heap.size w W1) :
    Calls Tryz.prog 62 #[.agg #[.string nm, .slice a n c, ar], .func (.func f) #[] #[]] W1 (Ans P E W1) :=
  answer_any h.ent har fun W hW => (h.ok W (hb.trans (hW.mono hb.size))).mono fun _ _ q => q.mono hb.size

set_option maxHeartbeats 8000000 in
set_option maxRecDepth 100000 in
theorem op_any {P : Tr → Prop} {E : Int → Prop} {nm : ByteArray} {a : Option Addr} {n c : Nat} {w : World}
    (hA : ∀ r, bfnd opsL nm (n : Int) = some r → TC r.2.2 P E (.agg #[.string nm, .slice a n c, .nilFunc]) w) (hN : bfnd opsL nm (n : Int) = none → E 5) :
    Calls Tryz.prog 12 #[.string nm, .slice a n c] w (Ans P E w) := by
  have HA := hidb hA
  have HN := hidb hN
  have HX0 := hidb (Box.new w 29 (.int .i64 0) (.int .i64 0) (.float .f64 0) (.string ⟨#[]⟩) (.slice none 0 0))
  obtain ⟨PP, hPP⟩ : ∃ PP : Ending → World → Prop, Ans P E w = PP := ⟨_, rfl⟩
  have HPP := hidb hPP
  rw [hPP]
  clear hA hN hPP
  go_enter Tryz.func12, Tryz.ntmps12
  go_wp2_with fail
  refine (operators_any _).mono ?_
  rintro e w2 ⟨b, rfl, hT, hb2⟩
  have HT := hidb hT
  have HB2 := hidb hb2
  clear hT hb2
  go_wp2_with fail
  obtain ⟨V, hV⟩ : ∃ V, w2.alloc (.cells #[.slice (some ⟨b, 0, none⟩) 17 17] 49) = V := ⟨_, rfl⟩
  have hbV : Below w2.heap.size w2 V := by rw [← hV]; exact below_new _ _
  have hbX : Below (w.alloc (.cells #[.int .i64 0, .int .i64 0, .float .f64 0, .string ⟨#[]⟩, .slice none 0 0] 29)).heap.size (w.alloc (.cells #[.int .i64 0, .int .i64 0, .float .f64 0, .string ⟨#[]⟩, .slice none 0 0] 29)) V := HB2.out.trans (hbV.mono HB2.out.size)
  have hTS : TSs V w2.heap.size [(b, opsL)] := by
    intro i q hq
    cases i with
    | zero => obtain rfl : (b, opsL) = q := by simpa using hq
              exact ⟨by rw [← hV, World.cell?_alloc_new]; rfl, HT.out.keep hbV, by show opsL.length ≤ 1000; decide⟩
    | succ i => simp at hq
  rw [hV]
  have hbw : Below w.heap.size w V := (below_new w _).trans (hbX.mono (by simp))
  refine (reckon_any (P := P) (E := E) (cp := 1) (.inl rfl) hTS (by simp) (fun r hr W hW => (HA.out r (by simpa [bfndT] using hr)).ans (.inl rfl) (hbw.trans (hW.mono hbw.size))) (fun h => HN.out (by simpa [bfndT] using h))).mono ?_
  clear hTS hV hbV hbw
  rintro e w8 hans
  have HX8 := hidb (HX0.out.keep (hbX.trans (hans.1.mono hbX.size)))
  have HXL : Hid (w.heap.size < V.heap.size) := hidb (Nat.lt_of_lt_of_le HX0.out.lt hbX.size)
  have hbW0 : Below w.heap.size w V := (below_new w _).trans (hbX.mono (by simp))
  have HB8 := hidb (hbW0.trans (hans.1.mono hbW0.size))
  have HV := hidb hbW0.size
  clear hbX hbW0
  have x0 := HX8.out.c0; have x1 := HX8.out.c1; have x2 := HX8.out.c2; have x3 := HX8.out.c3; have x4 := HX8.out.c4
  have y0 := HX8.out.f0; have y1 := HX8.out.f1; have y2 := HX8.out.f2; have y3 := HX8.out.f3; have y4 := HX8.out.f4
  obtain ⟨-, ⟨t, ⟨k2, n2, f2, s2, a2, c2, ks2⟩, g1, g2, g3, g4, rfl⟩ | ⟨er, g1, rfl⟩⟩ := hans
  · have HG := hidb (And.intro g1 (And.intro g2 (And.intro g3 g4)))
    clear g1 g2 g3 g4
    simp only [Tr.val, Tr.cells]
    go_wp2_with fail
    have bx9 := HX8.out.set (.int .i64 k2) (.int .i64 n2) (.float .f64 f2) (.string s2) (.slice a2 ks2.length c2)
    have k0 := bx9.c0; have k1 := bx9.c1; have k2' := bx9.c2; have k3 := bx9.c3; have k4 := bx9.c4
    simp only [set5] at k0 k1 k2' k3 k4
    refine bodyPost_ret (v := .tuple #[Tr.val (.mk k2 n2 f2 s2 a2 c2 ks2), .int .i64 0]) (by simp [Tr.val, Tr.cells, results, Tryz.results12, go_sem, k0, k1, k2', k3, k4]) rfl ?_
    rw [← HPP.out]
    refine ⟨(((((HB8.out.setCell (by simp) _).setCell (by simp) _).setCell (by simp) _).setCell (by simp) _).setCell (by simp) _), .inl ⟨_, _, HG.out.1, HG.out.2.1, HG.out.2.2.1, ?_, rfl⟩⟩
    have hz := HXL.out
    have hv := HV.out
    exact in_base hv _ (in_set (in_set (in_set (in_set (in_set HG.out.2.2.2 (p := ⟨w.heap.size, 0, none⟩) hz _) (p := ⟨w.heap.size, 1, none⟩) hz _) (p := ⟨w.heap.size, 2, none⟩) hz _) (p := ⟨w.heap.size, 3, none⟩) hz _) (p := ⟨w.heap.size, 4, none⟩) hz _)
  · have HG := hidb g1
    clear g1
    go_wp2_with fail
    have bx9 := HX8.out.set (.int .i64 0) (.int .i64 0) (.float .f64 0) (.string ⟨#[]⟩) (.slice none 0 0)
    have k0 := bx9.c0; have k1 := bx9.c1; have k2' := bx9.c2; have k3 := bx9.c3; have k4 := bx9.c4
    simp only [set5] at k0 k1 k2' k3 k4
    refine bodyPost_ret (v := .tuple #[zterm, .int .i64 er]) (by simp [results, Tryz.results12, go_sem, k0, k1, k2', k3, k4]) rfl ?_
    rw [← HPP.out]
    exact ⟨(((((HB8.out.setCell (by simp) _).setCell (by simp) _).setCell (by simp) _).setCell (by simp) _).setCell (by simp) _), .inr ⟨_, HG.out, rfl⟩⟩
set_option maxHeartbeats 8000000 in
set_option maxRecDepth 100000 in
theorem call_any {P : Tr → Prop} {E : Int → Prop} {nm : ByteArray} {a : Option Addr} {n c g : Nat} {w : World}
    (hA : ∀ r, ((bfnd grdL nm (n : Int)).or (bfnd othL nm (n : Int))) = some r → TC r.2.2 P E (.agg #[.string nm, .slice a n c, .func (.func g) #[] #[]]) w) (hN : ((bfnd grdL nm (n : Int)).or (bfnd othL nm (n : Int))) = none → E 5) :
    Calls Tryz.prog 16 #[.string nm, .slice a n c, .func (.func g) #[] #[]] w (Ans P E w) := by
  have HA := hidb hA
  have HN := hidb hN
  have HX0 := hidb (Box.new w 29 (.int .i64 0) (.int .i64 0) (.float .f64 0) (.string ⟨#[]⟩) (.slice none 0 0))
  obtain ⟨PP, hPP⟩ : ∃ PP : Ending → World → Prop, Ans P E w = PP := ⟨_, rfl⟩
  have HPP := hidb hPP
  rw [hPP]
  clear hA hN hPP
  go_enter Tryz.func16, Tryz.ntmps16
  go_wp2_with fail
  refine (guards_any _).mono ?_
  rintro e w2 ⟨b, rfl, hT, hb2⟩
  have HT := hidb hT
  have HB2 := hidb hb2
  clear hT hb2
  go_wp2_with fail
  refine (others_any _).mono ?_
  rintro e w3 ⟨b3, rfl, hT3, hb3⟩
  have HT3 := hidb hT3
  have HTa := hidb (HT.out.keep hb3)
  have HB3 := hidb (HB2.out.trans (hb3.mono HB2.out.size))
  clear hT3 hb3
  go_wp2_with fail
  obtain ⟨V, hV⟩ : ∃ V, w3.alloc (.cells #[.slice (some ⟨b, 0, none⟩) 24 24, .slice (some ⟨b3, 0, none⟩) 14 14] 49) = V := ⟨_, rfl⟩
  have hbV : Below w3.heap.size w3 V := by rw [← hV]; exact below_new _ _
  have hbX : Below (w.alloc (.cells #[.int .i64 0, .int .i64 0, .float .f64 0, .string ⟨#[]⟩, .slice none 0 0] 29)).heap.size (w.alloc (.cells #[.int .i64 0, .int .i64 0, .float .f64 0, .string ⟨#[]⟩, .slice none 0 0] 29)) V := HB3.out.trans (hbV.mono HB3.out.size)
  have hTS : TSs V w3.heap.size [(b, grdL), (b3, othL)] := by
    intro i q hq
    cases i with
    | zero => obtain rfl : (b, grdL) = q := by simpa using hq
              exact ⟨by rw [← hV, World.cell?_alloc_new]; rfl, HTa.out.keep hbV, by show grdL.length ≤ 1000; decide⟩
    | succ i =>
      cases i with
      | zero => obtain rfl : (b3, othL) = q := by simpa using hq
                exact ⟨by rw [← hV, World.cell?_alloc_new]; rfl, HT3.out.keep hbV, by show othL.length ≤ 1000; decide⟩
      | succ i => simp at hq
  have hbf : bfndT [(b, grdL), (b3, othL)] nm (n : Int) = (bfnd grdL nm (n : Int)).or (bfnd othL nm (n : Int)) := by
    unfold bfndT
    cases h1 : bfnd grdL nm (n : Int) <;> cases h2 : bfnd othL nm (n : Int) <;> simp [List.findSome?, h1, h2]
  rw [hV]
  have hbw : Below w.heap.size w V := (below_new w _).trans (hbX.mono (by simp))
  refine (reckon_any (P := P) (E := E) (cp := 2) (.inr ⟨_, rfl⟩) hTS (by simp) (fun r hr W hW => (HA.out r (by rw [← hbf]; exact hr)).ans (.inr ⟨_, rfl⟩) (hbw.trans (hW.mono hbw.size))) (fun h => HN.out (by rw [← hbf]; exact h))).mono ?_
  clear hTS hV hbV hbw hbf
  rintro e w8 hans
  have HX8 := hidb (HX0.out.keep (hbX.trans (hans.1.mono hbX.size)))
  have HXL : Hid (w.heap.size < V.heap.size) := hidb (Nat.lt_of_lt_of_le HX0.out.lt hbX.size)
  have hbW0 : Below w.heap.size w V := (below_new w _).trans (hbX.mono (by simp))
  have HB8 := hidb (hbW0.trans (hans.1.mono hbW0.size))
  have HV := hidb hbW0.size
  clear hbX hbW0
  have x0 := HX8.out.c0; have x1 := HX8.out.c1; have x2 := HX8.out.c2; have x3 := HX8.out.c3; have x4 := HX8.out.c4
  have y0 := HX8.out.f0; have y1 := HX8.out.f1; have y2 := HX8.out.f2; have y3 := HX8.out.f3; have y4 := HX8.out.f4
  obtain ⟨-, ⟨t, ⟨k2, n2, f2, s2, a2, c2, ks2⟩, g1, g2, g3, g4, rfl⟩ | ⟨er, g1, rfl⟩⟩ := hans
  · have HG := hidb (And.intro g1 (And.intro g2 (And.intro g3 g4)))
    clear g1 g2 g3 g4
    simp only [Tr.val, Tr.cells]
    go_wp2_with fail
    have bx9 := HX8.out.set (.int .i64 k2) (.int .i64 n2) (.float .f64 f2) (.string s2) (.slice a2 ks2.length c2)
    have k0 := bx9.c0; have k1 := bx9.c1; have k2' := bx9.c2; have k3 := bx9.c3; have k4 := bx9.c4
    simp only [set5] at k0 k1 k2' k3 k4
    refine bodyPost_ret (v := .tuple #[Tr.val (.mk k2 n2 f2 s2 a2 c2 ks2), .int .i64 0]) (by simp [Tr.val, Tr.cells, results, Tryz.results16, go_sem, k0, k1, k2', k3, k4]) rfl ?_
    rw [← HPP.out]
    refine ⟨(((((HB8.out.setCell (by simp) _).setCell (by simp) _).setCell (by simp) _).setCell (by simp) _).setCell (by simp) _), .inl ⟨_, _, HG.out.1, HG.out.2.1, HG.out.2.2.1, ?_, rfl⟩⟩
    have hz := HXL.out
    have hv := HV.out
    exact in_base hv _ (in_set (in_set (in_set (in_set (in_set HG.out.2.2.2 (p := ⟨w.heap.size, 0, none⟩) hz _) (p := ⟨w.heap.size, 1, none⟩) hz _) (p := ⟨w.heap.size, 2, none⟩) hz _) (p := ⟨w.heap.size, 3, none⟩) hz _) (p := ⟨w.heap.size, 4, none⟩) hz _)
  · have HG := hidb g1
    clear g1
    go_wp2_with fail
    have bx9 := HX8.out.set (.int .i64 0) (.int .i64 0) (.float .f64 0) (.string ⟨#[]⟩) (.slice none 0 0)
    have k0 := bx9.c0; have k1 := bx9.c1; have k2' := bx9.c2; have k3 := bx9.c3; have k4 := bx9.c4
    simp only [set5] at k0 k1 k2' k3 k4
    refine bodyPost_ret (v := .tuple #[zterm, .int .i64 er]) (by simp [results, Tryz.results16, go_sem, k0, k1, k2', k3, k4]) rfl ?_
    rw [← HPP.out]
    exact ⟨(((((HB8.out.setCell (by simp) _).setCell (by simp) _).setCell (by simp) _).setCell (by simp) _).setCell (by simp) _), .inr ⟨_, HG.out, rfl⟩⟩
end Go.Proofs.YtjnijmnacogabaaGreatDoor


/- What builtins are made of: booleans, kinds. -/
namespace Go.Proofs.YtjnijmnacogabaaGreatDoor
open Go.RowKit Go.Lib Go.Deep
attribute [local go_sem] store_float f64bits store_func store_nilFunc
attribute [local go_sem ↓] Go.wp_at_zero Go.wp_at_succ

abbrev trueS : ByteArray := ⟨#[116, 114, 117, 101]⟩
abbrev falseS : ByteArray := ⟨#[102, 97, 108, 115, 101]⟩
def bolT (b : Bool) : Tr := .mk 3 0 0 (if b then trueS else falseS) none 0 []
theorem bolT_in (b : Bool) (w : World) (base : Nat) : (bolT b).In w base := by
  unfold bolT Tr.In
  refine ⟨⟨by decide, by decide, by decide, by cases b <;> (show _ ≤ maxLen; unfold maxLen; simp [ByteArray.size]), by simp, by simp, fun _ => rfl⟩, fun ad h => by simp at h⟩
theorem bolT_small (b : Bool) : Small (bolT b) ∧ cnT (bolT b) ≤ 1000000000 := by
  constructor
  · simp [bolT, Small, SmallAll]
  · simp [bolT, cnT, cnA]
theorem bolT_err (b : Bool) : errT (bolT b) = 0 := by cases b <;> kernel_rfl
theorem bolT_on (b : Bool) (S : Nat → Prop) : (bolT b).On S := by
  unfold bolT Tr.On
  exact ⟨fun h => by simp at h, by unfold Tr.OnAll; trivial⟩

theorem Box.six {w : World} {b : Nat} {v0 v1 v2 v3 v4 : Value} (h : Box w b v0 v1 v2 v3 v4) : (w.cell? ⟨b, 0, none⟩ = some v0 ∧ w.cell? ⟨b, 1, none⟩ = some v1 ∧ w.cell? ⟨b, 2, none⟩ = some v2 ∧ w.cell? ⟨b, 3, none⟩ = some v3 ∧ w.cell? ⟨b, 4, none⟩ = some v4) ∧ (w.frozen? ⟨b, 0, none⟩ = false ∧ w.frozen? ⟨b, 1, none⟩ = false ∧ w.frozen? ⟨b, 2, none⟩ = false ∧ w.frozen? ⟨b, 3, none⟩ = false ∧ w.frozen? ⟨b, 4, none⟩ = false) ∧ b < w.heap.size :=
  ⟨⟨h.c0, h.c1, h.c2, h.c3, h.c4⟩, ⟨h.f0, h.f1, h.f2, h.f3, h.f4⟩, h.lt⟩
set_option maxHeartbeats 2000000 in
set_option maxRecDepth 100000 in
theorem atomB_any (s : ByteArray) (w : World) : Calls Tryz.prog 96 #[.string s] w fun e w' => e = .returned (.agg #[.int .i64 3, .int .i64 0, .float .f64 0, .string s, .slice none 0 0]) ∧ Below w.heap.size w w' := by
  go_enter Tryz.func96, Tryz.ntmps96
  go_wp2_with fail
  exact bodyPost_ret (v := .agg #[.int .i64 3, .int .i64 0, .float .f64 0, .string s, .slice none 0 0]) (by simp [results, Tryz.results96, go_sem]) rfl ⟨rfl, below_new w _⟩
set_option maxHeartbeats 2000000 in
set_option maxRecDepth 100000 in
theorem boolean_any (b : Bool) (w : World) : Calls Tryz.prog 86 #[.bool b] w fun e w' => e = .returned (bolT b).val ∧ Below w.heap.size w w' := by
  have HX0 := hidb (Box.new w 29 (.int .i64 0) (.int .i64 0) (.float .f64 0) (.string ⟨#[]⟩) (.slice none 0 0))
  cases b
  · go_enter Tryz.func86, Tryz.ntmps86
    go_wp2_with (go_at_call 96; refine (atomB_any _ _).mono ?_; rintro e w1 ⟨rfl, hb⟩; have HB := hidb hb; have HX1 := hidb (HX0.out.keep hb); obtain ⟨⟨x0, x1, x2, x3, x4⟩, ⟨y0, y1, y2, y3, y4⟩, xl⟩ := Box.six HX1.out; clear hb)
    have bx9 := HX1.out.set (.int .i64 3) (.int .i64 0) (.float .f64 0) (.string falseS) (.slice none 0 0)
    obtain ⟨⟨k0, k1, k2, k3, k4⟩, -, -⟩ := Box.six bx9
    simp only [set5] at k0 k1 k2 k3 k4
    have hbW : Below w.heap.size w w1 := (below_new w _).trans (HB.out.mono (by simp))
    exact bodyPost_ret (v := (bolT false).val) (by simp [bolT, Tr.val, Tr.cells, results, Tryz.results86, go_sem, k0, k1, k2, k3, k4]) rfl ⟨rfl, (((((hbW.setCell (by simp) _).setCell (by simp) _).setCell (by simp) _).setCell (by simp) _).setCell (by simp) _)⟩
  · go_enter Tryz.func86, Tryz.ntmps86
    go_wp2_with (go_at_call 96; refine (atomB_any _ _).mono ?_; rintro e w1 ⟨rfl, hb⟩; have HB := hidb hb; have HX1 := hidb (HX0.out.keep hb); obtain ⟨⟨x0, x1, x2, x3, x4⟩, ⟨y0, y1, y2, y3, y4⟩, xl⟩ := Box.six HX1.out; clear hb)
    have bx9 := HX1.out.set (.int .i64 3) (.int .i64 0) (.float .f64 0) (.string trueS) (.slice none 0 0)
    obtain ⟨⟨k0, k1, k2, k3, k4⟩, -, -⟩ := Box.six bx9
    simp only [set5] at k0 k1 k2 k3 k4
    have hbW : Below w.heap.size w w1 := (below_new w _).trans (HB.out.mono (by simp))
    exact bodyPost_ret (v := (bolT true).val) (by simp [bolT, Tr.val, Tr.cells, results, Tryz.results86, go_sem, k0, k1, k2, k3, k4]) rfl ⟨rfl, (((((hbW.setCell (by simp) _).setCell (by simp) _).setCell (by simp) _).setCell (by simp) _).setCell (by simp) _)⟩

set_option maxHeartbeats 4000000 in
set_option maxRecDepth 100000 in
theorem index_any {w : World} {b cap : Nat} {ks : List Int} (hk : ∀ (i : Nat) (k : Int), ks[i]? = some k → w.cell? ⟨b, i, none⟩ = some (.int .i64 k)) (v : Int) (hl : ks.length ≤ 1000) :
    Calls Tryz.prog 158 #[.slice (some ⟨b, 0, none⟩) ks.length cap, .int .i64 v] w fun e w' => (∃ i : Int, e = .returned (.int .i64 i) ∧ -1 ≤ i ∧ (decide (0 ≤ i) = decide (v ∈ ks))) ∧ w' = w := by
  have HK := hidb hk
  have HL := hidb hl
  obtain ⟨N, hN⟩ : ∃ N, ks.length = N := ⟨_, rfl⟩
  have HN := hidb hN
  rw [hN]
  clear hk hl hN
  go_enter Tryz.func158, Tryz.ntmps158
  go_wp2_with fail
  go_loopw [8] (fun iv wr => ∃ i : Nat, i ≤ N ∧ iv = .int .i64 (i : Int) ∧ wr = w ∧ ∀ (j : Nat) (q : Int), j < i → ks[j]? = some q → q ≠ v) (fun iv _ => N - (RowKit.intOf iv).toNat)
  case atStart => exact ⟨0, by omega, rfl, rfl, fun j q hj => by omega⟩
  case round =>
  obtain ⟨i, hi, rfl, rfl, hno⟩ := hrel
  rename World => w
  have HO := hidb hno
  have HI := hidb hi
  clear hno hi
  by_cases hil : i < N
  · obtain ⟨k, hk⟩ : ∃ k, ks[i]? = some k := ⟨_, List.getElem?_eq_getElem (by have := HN.out; omega)⟩
    have z0 := HK.out i k hk
    have e1 : (i : Int) < (N : Int) := by omega
    have e2 : (0 : Int) ≤ (i : Int) := by omega
    have HE : Hid (wrap64 ((i : Int) + 1) = ((i + 1 : Nat) : Int)) := hidb (by have := HL.out; have := HN.out; unfold wrap64; omega)
    have HR := hidb hk
    clear hk
    by_cases hq : v = k
    · subst hq
      go_wp2_with fail
      go_ret
      refine ⟨⟨_, rfl, by omega, ?_⟩, rfl⟩
      have : v ∈ ks := List.mem_of_getElem? HR.out
      simp [this]
    · have hq' : (v == k) = false := by simpa using hq
      have HQ := hidb hq
      clear hq
      go_wp2_with fail
      go_roundw
      case rel => exact ⟨i + 1, by omega, by rw [HE.out], trivial, fun j q hj hjq => by
        by_cases e : j < i
        · exact HO.out j q e hjq
        · obtain rfl : j = i := by omega
          obtain rfl := Option.some.inj (HR.out.symm.trans hjq)
          exact fun h => HQ.out h.symm⟩
      case measure => rw [HE.out]; simp only [RowKit.intOf, Int.toNat_natCast]; omega
  · have e1 : ¬ (i : Int) < (N : Int) := by omega
    go_wp2_with fail
    go_ret
    refine ⟨⟨_, rfl, by omega, ?_⟩, rfl⟩
    have : ¬ v ∈ ks := fun h => by
      obtain ⟨j, hj⟩ := List.getElem?_of_mem h
      exact HO.out j v (by have := (List.getElem?_eq_some_iff.1 hj).1; have := HN.out; omega) hj rfl
    simp [this]

set_option maxHeartbeats 4000000 in
set_option maxRecDepth 100000 in
theorem contains_any {w : World} {b cap : Nat} {ks : List Int} (hk : ∀ (i : Nat) (k : Int), ks[i]? = some k → w.cell? ⟨b, i, none⟩ = some (.int .i64 k)) (v : Int) (hl : ks.length ≤ 1000) :
    Calls Tryz.prog 121 #[.slice (some ⟨b, 0, none⟩) ks.length cap, .int .i64 v] w fun e w' => e = .returned (.bool (decide (v ∈ ks))) ∧ w' = w := by
  have IX := hidb (index_any (cap := cap) hk v hl)
  generalize ks.length = N at *
  go_enter Tryz.func121, Tryz.ntmps121
  go_wp2_with fail
  refine IX.out.mono ?_
  rintro e w1 ⟨⟨i, rfl, h1, h2⟩, rfl⟩
  go_wp2_with fail
  go_ret
  exact ⟨by rw [← h2]; rfl, rfl⟩
end Go.Proofs.YtjnijmnacogabaaGreatDoor


