import Derived.Test.YthdljnakmekhkaaGreatDoorG12
/- The reference's parser: a node is laid down. -/
namespace Go.Proofs.YthdljnakmekhkaaGreatDoor
namespace Rf
open Go.RowKit Go.Lib
attribute [local go_sem] store_float f64bits
attribute [local go_sem ↓] Go.wp_at_zero Go.wp_at_succ
attribute [local go_sem] nd_p tk_k tk_x tk_n tk_f tk_p
variable {P : Nat → Prop}

theorem lay_done {w X w3 : World} {B g b i gq cq N : Nat} {o : Int} {TS : List Tk} {ns : List Nd} {vs : List Value} {n : Nd} {v V : Value} (hX : Below w.heap.size w X) (hg : g < w.heap.size) (hne : b ≠ g) (hlt : b < w.heap.size)
    (hQ : QB w3 g b TS i V o 0 0) (hG : X.grownBy w3 V.ownBlock) (hN : ns.length = N) (hfew : ns.length + 1 ≤ 16384) (hvl : vs.length = ns.length) (hO : w3.ownsRow B NT 6 (.slice (some ⟨gq, 0, none⟩) (N + 1) cq) (N + 1) (ndCells ns vs ++ n.cells v)) (hA : V.ownBlock = some gq ∨ gq = X.heap.size)
    (hVg : V.ownBlock ≠ some g) (hVb : V.ownBlock ≠ some b) (hr : ∀ (i : Nat) (n : Nd) (v : Value), ns[i]? = some n → vs[i]? = some v → LRow w v n.l ∧ v.ownBlock ≠ some g ∧ ∀ k, v.ownBlock = some k → V.ownBlock ≠ some k ∧ ¬ P k)
    (hv : LRow w v n.l) (hvg : v.ownBlock ≠ some g) (hvV : ∀ k, v.ownBlock = some k → V.ownBlock ≠ some k ∧ ¬ P k) :
    QB (w3.setCell ⟨g, 2, none⟩ (.slice (some ⟨gq, 0, none⟩) (N + 1) cq)) g b TS i (.slice (some ⟨gq, 0, none⟩) (N + 1) cq) o 0 0 ∧ NS (w3.setCell ⟨g, 2, none⟩ (.slice (some ⟨gq, 0, none⟩) (N + 1) cq)) B g b P (.slice (some ⟨gq, 0, none⟩) (N + 1) cq) (ns ++ [n]) ∧
      But (fun k => k = g ∨ V.ownBlock = some k) w (w3.setCell ⟨g, 2, none⟩ (.slice (some ⟨gq, 0, none⟩) (N + 1) cq)) ∧ ((Value.slice (some ⟨gq, 0, none⟩) (N + 1) cq).ownBlock = V.ownBlock ∨ ∀ k, (Value.slice (some ⟨gq, 0, none⟩) (N + 1) cq).ownBlock = some k → w.heap.size ≤ k) := by
  have hXs := hX.size
  have hB3 : But (fun k => V.ownBlock = some k) w w3 := (But.of_below hX).trans (grown_but hG)
  have hB4 : But (fun k => k = g ∨ V.ownBlock = some k) w (w3.setCell ⟨g, 2, none⟩ (.slice (some ⟨gq, 0, none⟩) (N + 1) cq)) := (hB3.mono (fun k _ h => .inr h)).setCell (fun _ => .inl rfl) _
  have hgq : gq ≠ g := by
    rintro rfl
    rcases hA with h | h
    · exact hVg h
    · omega
  have hgb : gq ≠ b := by
    rintro rfl
    rcases hA with h | h
    · exact hVb h
    · omega
  have hin : ∀ (u : Value) (l : List Nat), LRow w u l → u.ownBlock ≠ some g → (∀ k, u.ownBlock = some k → V.ownBlock ≠ some k ∧ ¬ P k) → LRow (w3.setCell ⟨g, 2, none⟩ (.slice (some ⟨gq, 0, none⟩) (N + 1) cq)) u l ∧ u.ownBlock ≠ some g ∧ ∀ k, u.ownBlock = some k → (Value.slice (some ⟨gq, 0, none⟩) (N + 1) cq).ownBlock ≠ some k ∧ ¬ P k := by
    intro u l h1 h2 h3
    refine ⟨h1.but hB4 ?_, h2, ?_⟩
    · rintro k hk (rfl | hS)
      · exact h2 hk
      · exact (h3 k hk).1 hS
    · intro k hk
      refine ⟨fun he => ?_, (h3 k hk).2⟩
      have he2 : gq = k := by simpa [Value.ownBlock] using he
      rcases hA with h | h
      · exact (h3 k hk).1 (he2 ▸ h)
      · have := h1.lt k hk; omega
  have hBg : But (· = g) w3 (w3.setCell ⟨g, 2, none⟩ (.slice (some ⟨gq, 0, none⟩) (N + 1) cq)) := (But.refl (· = g) w3).setCell (p := ⟨g, 2, none⟩) (fun _ => rfl) _
  refine ⟨?_, ⟨⟨vs ++ [v], by simp [hvl], ?_, ?_⟩, ?_, ?_, by simpa using hfew⟩, hB4, ?_⟩
  · obtain ⟨⟨cap, h6⟩, ht, hi, hf, hne', hl⟩ := hQ
    exact ⟨⟨cap, h6.set2 _⟩, ht.but hBg hl hne, hi, hf, hne, Nat.lt_of_lt_of_le hl hBg.size⟩
  · have := row_but hO hBg (fun k hk => by simp [Value.ownBlock] at hk; show ¬ k = g; omega)
    rw [ndCells_snoc ns vs n v hvl]
    simpa [hN] using this
  · intro j m u hm hu
    by_cases hj : j < ns.length
    · rw [List.getElem?_append_left hj] at hm
      rw [List.getElem?_append_left (by omega)] at hu
      obtain ⟨a1, a2, a3⟩ := hr j m u hm hu
      exact hin u _ a1 a2 a3
    · rw [List.getElem?_append_right (by omega)] at hm
      rw [List.getElem?_append_right (by omega)] at hu
      have hj0 : j - ns.length = 0 := by
        cases hd : j - ns.length with
        | zero => rfl
        | succ d => simp [hd] at hm
      rw [hvl] at hu
      simp [hj0] at hm hu
      subst hm hu
      exact hin v _ hv hvg hvV
  · simp [Value.ownBlock, hgq]
  · simp [Value.ownBlock, hgb]
  · rcases hA with h | h
    · exact .inl h.symm
    · exact .inr fun k hk => by simp [Value.ownBlock] at hk; omega

abbrev Nd.val (n : Nd) (v : Value) : Value := .agg #[.int .i64 n.k, .string n.x, .int .i64 n.n, .float .f64 n.f, v, .int .i64 (n.p : Int)]

set_option maxHeartbeats 2000000 in
theorem bNode {g b : Nat} {w0 w : World} {V0 : Value} {er : Int} {p : Nat} (k n q : Int) (x : ByteArray) (f : Nat) (v : Value) (h : Bd g b w0 V0 w er p) :
    Calls Tryz.prog 32 #[.pointer (some ⟨g, 0, none⟩), .agg #[.int .i64 k, .string x, .int .i64 n, .float .f64 f, v, .int .i64 q]] w fun r w' => r = .returned (iv 0) ∧ Bd g b w0 V0 w' er p ∧ But (· = g) w w' := by
  have hb1 := below_new w (.cells #[.int .i64 k, .string x, .int .i64 n, .float .f64 f, v, .int .i64 q] NT)
  have cB := bBad (h.keep hb1)
  have H := hidb (h.keep hb1)
  have HB := hidb hb1
  clear h hb1
  go_enter Tryz.func32, Tryz.ntmps32
  go_wp2_with (go_at_call 19; refine cB.mono ?_; rintro r1 w1 ⟨rfl, rfl⟩)
  exact bodyPost_ret (v := iv 0) (by simp [results, Tryz.results32, go_sem]) rfl ⟨rfl, H.out, But.of_below HB.out⟩

set_option maxHeartbeats 4000000 in
set_option maxRecDepth 100000 in
theorem sNode {w : World} {B g b o : Nat} {s : PS} {V : Value} (n : Nd) (v : Value) (h : At B g b o P w V s) (hv : LR w g P V v n.l) :
    Calls Tryz.prog 32 #[.pointer (some ⟨g, 0, none⟩), .agg #[.int .i64 n.k, .string n.x, .int .i64 n.n, .float .f64 n.f, v, .int .i64 (n.p : Int)]] w fun r w' => Rz B g b o P w V (Gm.lay n s) r w' := by
  have hA := h
  obtain ⟨hrow, hvg, hvV⟩ := hv
  have hAll := Gm.all_lay n s hA.ne
  have hb1 := below_new w (.cells #[.int .i64 n.k, .string n.x, .int .i64 n.n, .float .f64 n.f, v, .int .i64 (n.p : Int)] NT)
  have h1 := h.below hb1
  have cB := sBad h1
  have cF := sFail (e := 2) h1.at n.p (by decide)
  obtain ⟨TS, i, hq, hts, hg, hen⟩ := h.pb
  obtain ⟨⟨vs, hvl, ho, hr⟩, hVg, hVb, hlen⟩ := h.ns
  have hgl := hq.glt
  have hbl := hq.lt
  have hne := hq.ne
  have hB := h.le
  obtain ⟨⟨cap, h6⟩, -⟩ := hq.keep hb1
  obtain ⟨c0, c1, c2, c3, c4, c5, f0, f1, f2, f3, f4, f5, hg6⟩ := h6
  by_cases hm : s.ns.length = 16384
  · have hL : Gm.lay n s = .error (2, n.p) := by simp only [Gm.lay, if_pos hm]
    have hVs : ∃ q cap, V = .slice q 16384 cap := by
      rcases ho.2 with ⟨_, h0⟩ | ⟨q, cap, cur, rfl, _⟩
      · omega
      · exact ⟨_, _, by rw [hm]⟩
    obtain ⟨q, cap, rfl⟩ := hVs
    have HB1 := hidb hb1
    have HL := hidb hL
    clear hts ho hr hrow hvV hVg hVb hm hvl hlen h h1 hA hAll hL hb1 hq hg hen
    go_enter Tryz.func32, Tryz.ntmps32
    go_wp2_with (first
      | (go_at_call 19; refine cB.mono ?_; rintro r1 w1 ⟨rfl, rfl⟩)
      | (go_at_call 28; refine cF.mono ?_; rintro r1 w2 ⟨rfl, hbd⟩; have HBD := hidb hbd; clear hbd))
    exact bodyPost_ret (v := iv 0) (by simp [results, Tryz.results32, go_sem]) rfl (.inl ⟨2, _, 0, HL.out, rfl, HBD.out.no, HBD.out.ex, (But.of_below HB1.out).trans HBD.out.but⟩)
  · have hL : Gm.lay n s = .ok (s.ns.length, { s with ns := s.ns ++ [n] }) := by simp only [Gm.lay, if_neg hm]
    obtain ⟨q, cap', hVs⟩ : ∃ q cap, V = .slice q s.ns.length cap := by
      rcases ho.2 with ⟨h0, h1⟩ | ⟨q, cap, cur, h0, _⟩
      · exact ⟨none, 0, by rw [h0, h1]⟩
      · exact ⟨_, _, h0⟩
    obtain ⟨N, hNN⟩ : ∃ N, s.ns.length = N := ⟨_, rfl⟩
    have hm1 : ¬ (16384 : Int) ≤ (N : Int) := by omega
    rw [hNN] at hVs
    subst hVs
    have HO := hidb ho
    have HR := hidb hr
    have HV := hidb hrow
    have HQ := hidb hq
    have HST := hidb (And.intro hts (And.intro hg hen))
    have HALL := hidb hAll
    have HH := hidb hA
    have HL := hidb hL
    clear ho hr hrow hm hq hts hg hen hAll hA h h1 hb1 hL cF
    have hX1 : ∀ o1 o2 : Obj, Below w.heap.size w ((w.alloc o1).alloc o2).drew := fun o1 o2 => Below.drew (((Below.refl _ w).alloc (Nat.le_refl _) o1).alloc (by simp) o2)
    have HT2 := hidb (HQ.out.keep (hX1 (Obj.cells #[.int .i64 n.k, .string n.x, .int .i64 n.n, .float .f64 n.f, v, .int .i64 (n.p : Int)] NT) (Obj.cells #[.int .i64 n.k, .string n.x, .int .i64 n.n, .float .f64 n.f, v, .int .i64 (n.p : Int)] NT)))
    have ow : (((w.alloc (Obj.cells #[.int .i64 n.k, .string n.x, .int .i64 n.n, .float .f64 n.f, v, .int .i64 (n.p : Int)] NT)).alloc (Obj.cells #[.int .i64 n.k, .string n.x, .int .i64 n.n, .float .f64 n.f, v, .int .i64 (n.p : Int)] NT)).drew).ownsRow B NT 6 (.slice q N cap') N (ndCells s.ns vs) := by
      have := ((HO.out.alloc (Obj.cells #[.int .i64 n.k, .string n.x, .int .i64 n.n, .float .f64 n.f, v, .int .i64 (n.p : Int)] NT)).alloc (Obj.cells #[.int .i64 n.k, .string n.x, .int .i64 n.n, .float .f64 n.f, v, .int .i64 (n.p : Int)] NT)).drew
      rw [hNN] at this
      exact this
    have nw : ∀ j u, (n.cells v)[j]? = some u → (((w.alloc (Obj.cells #[.int .i64 n.k, .string n.x, .int .i64 n.n, .float .f64 n.f, v, .int .i64 (n.p : Int)] NT)).alloc (Obj.cells #[.int .i64 n.k, .string n.x, .int .i64 n.n, .float .f64 n.f, v, .int .i64 (n.p : Int)] NT)).drew).cell? ((⟨w.heap.size + 1, 0, none⟩ : Addr).add j) = some u := by
      have e1 : (w.alloc (Obj.cells #[.int .i64 n.k, .string n.x, .int .i64 n.n, .float .f64 n.f, v, .int .i64 (n.p : Int)] NT)).heap.size = w.heap.size + 1 := by simp
      intro j y hj
      rw [← e1]
      match j, hj with
      | 0, hj => simp [Nd.cells] at hj; subst hj; simp [Addr.add]
      | 1, hj => simp [Nd.cells] at hj; subst hj; simp [Addr.add]
      | 2, hj => simp [Nd.cells] at hj; subst hj; simp [Addr.add]
      | 3, hj => simp [Nd.cells] at hj; subst hj; simp [Addr.add]
      | 4, hj => simp [Nd.cells] at hj; subst hj; simp [Addr.add]
      | 5, hj => simp [Nd.cells] at hj; subst hj; simp [Addr.add]
      | j + 6, hj => simp [Nd.cells] at hj
    have h1c : ∀ u ∈ n.cells v, u.oneCell' = true := by
      intro y hy
      simp only [Nd.cells, List.mem_cons, List.not_mem_nil, or_false] at hy
      rcases hy with rfl | rfl | rfl | rfl | rfl | rfl
      · rfl
      · rfl
      · rfl
      · rfl
      · rcases HV.out with ⟨rfl, _⟩ | ⟨_, _, rfl, _⟩ <;> rfl
      · rfl
    have z1 : N + 1 ≤ maxLen := by unfold maxLen; omega
    have z2 : (N + 1) * 72 ≤ 140737488355328 := by omega
    have z4 : B ≤ (((w.alloc (Obj.cells #[.int .i64 n.k, .string n.x, .int .i64 n.n, .float .f64 n.f, v, .int .i64 (n.p : Int)] NT)).alloc (Obj.cells #[.int .i64 n.k, .string n.x, .int .i64 n.n, .float .f64 n.f, v, .int .i64 (n.p : Int)] NT)).drew).heap.size := by simp; omega
    have hsl : (n.cells v).length = 6 := rfl
    go_enter Tryz.func32, Tryz.ntmps32
    go_wp2_with (go_at_call 19; refine cB.mono ?_; rintro r1 w1 ⟨rfl, rfl⟩)
    go_region_law (first
      | (refine step_app6 rfl (.tmp 21) (.tmp 23) rfl B (.slice q N cap') N (ndCells s.ns vs) rfl ow ⟨w.heap.size + 1, 0, none⟩ (n.cells v) hsl rfl nw h1c z1 z2 z4 ?_; intro gq cq w3 hown' hgrow hat; have HT3 := hidb (HT2.out.but (grown_but hgrow) hVg hVb); obtain ⟨⟨cap3, h63⟩, -⟩ := HT3.out; have d2 := h63.c2; have e2 := h63.f2; have hl3 := h63.lt; have HG := hidb hgrow; have HO3 := hidb hown'; have HA := hidb hat; clear hgrow hown' hat h63))
    all_goals (
      obtain ⟨k1, k2, k3, k4⟩ := lay_done (hX1 _ _) hgl hne hbl HT3.out HG.out hNN (by omega) hvl HO3.out HA.out hVg hVb HR.out HV.out hvg hvV
      have k0 : (w3.setCell ⟨g, 2, none⟩ (.slice (some ⟨gq, 0, none⟩) (N + 1) cq)).cell? ⟨g, 2, none⟩ = some (.slice (some ⟨gq, 0, none⟩) (N + 1) cq) := World.cell?_setCell_same _ _ _ d2
      have hw : IntKind.i64.wrap (((N + 1 : Nat) : Int) - 1) = (N : Int) := by rw [IntKind.wrap_i64]; omega
      have hfin : Rz B g b o P w (.slice q N cap') (Gm.lay n s) (.returned (iv N)) (w3.setCell ⟨g, 2, none⟩ (.slice (some ⟨gq, 0, none⟩) (N + 1) cq)) := by
        have hR : Gm.lay n s = .ok (N, { s with ns := s.ns ++ [n] }) := by rw [HL.out, hNN]
        obtain ⟨a1, a2⟩ := HALL.out _ _ hR
        have hh := HH.out
        refine .inr ⟨N, { s with ns := s.ns ++ [n] }, _, hR, rfl, ⟨TS, i, by have e : ((PS.mk s.ts (s.ns ++ [n]) s.o).o) = s.o := rfl; exact k1, HST.out.1, HST.out.2.1, HST.out.2.2⟩, k2, Nat.le_trans hh.le k3.size, a2, hh.op, k3, k4, fun k hk => Nat.lt_of_lt_of_le (hh.plt k hk) k3.size, fun k hk => ⟨fun he => ?_, (hh.npv k hk).2⟩, hh.tl⟩
        rcases k4 with e | e
        · exact (hh.npv k hk).1 (e ▸ he)
        · have := e k he
          have := hh.plt k hk
          omega
      have HF := hidb hfin
      clear k1 k2 k3 k4 hfin HT2 HT3 HG HO HO3 HR HST HV HH HALL HQ ow nw
      go_wp2_with fail
      exact bodyPost_ret (v := iv N) (by simp [results, Tryz.results32, go_sem]) rfl HF.out)
end Rf
end Go.Proofs.YthdljnakmekhkaaGreatDoor


/- The reference's parser, in a fault: small steps. -/
namespace Go.Proofs.YthdljnakmekhkaaGreatDoor
namespace Rf
open Go.RowKit Go.Lib
attribute [local go_sem] store_float f64bits
attribute [local go_sem ↓] Go.wp_at_zero Go.wp_at_succ
attribute [local go_sem] nd_p tk_k tk_x tk_n tk_f tk_p
variable {B g b o : Nat} {P : Nat → Prop} {w0 w : World} {V0 V : Value} {s : PS} {er : Int} {p : Nat}

theorem own_sl {w : World} {C e size n : Nat} {v : Value} {xs : List Value} (h : w.ownsRow C e size v n xs) : ∃ a c, v = .slice a n c := by
  rcases h.2 with ⟨hv, hn⟩ | ⟨q, cap, cur, hv, _⟩
  · exact ⟨none, 0, by rw [hv, hn]⟩
  · exact ⟨_, _, hv⟩
theorem grown_below {X w' : World} (h : X.grownBy w' none) : Below X.heap.size X w' := ⟨h.os, h.tape, h.output, h.size, fun k hk => h.block k hk (fun e => by cases e)⟩

set_option maxHeartbeats 2000000 in
theorem bExpr (h : Bd g b w0 V0 w er p) : Calls Tryz.prog 104 #[.pointer (some ⟨g, 0, none⟩)] w fun r w' => r = .returned (iv 0) ∧ Bd g b w0 V0 w' er p ∧ But (· = g) w w' := by
  have H := hidb h
  have HB : Hid (But (· = g) w w) := hidb (But.refl _ _)
  clear h
  go_enter Tryz.func104, Tryz.ntmps104
  go_wp2_with (first
    | (go_at_call 19; refine (bBad H.out).mono ?_; rintro r1 w1 ⟨rfl, rfl⟩; skip))
  exact bodyPost_ret (v := iv 0) (by simp [results, Tryz.results104, go_sem]) rfl ⟨rfl, H.out, HB.out⟩

set_option maxHeartbeats 2000000 in
theorem bNone (k : Int) (h : Bd g b w0 V0 w er p) : Calls Tryz.prog 106 #[.pointer (some ⟨g, 0, none⟩), .int .i64 k] w fun r w' => r = .returned (iv 0) ∧ Bd g b w0 V0 w' er p ∧ But (· = g) w w' := by
  have H := hidb h
  have HB : Hid (But (· = g) w w) := hidb (But.refl _ _)
  clear h
  go_enter Tryz.func106, Tryz.ntmps106
  go_wp2_with (first
    | (go_at_call 26; refine (bNow H.out).mono ?_; rintro r1 w1 ⟨⟨tk, tx, tn, tf, tp⟩, rfl, hb⟩; have HB := hidb (HB.out.trans (But.of_below hb)); have H := hidb (H.out.keep hb); clear hb)
    | (go_at_call 32; refine (bNode _ _ _ _ _ _ H.out).mono ?_; rintro r1 w1 ⟨rfl, hd, hb⟩; have HB := hidb (HB.out.trans hb); have H := hidb hd; clear hb hd))
  exact bodyPost_ret (v := iv 0) (by simp [results, Tryz.results106, go_sem]) rfl ⟨rfl, H.out, HB.out⟩

set_option maxHeartbeats 2000000 in
theorem bTwo (x : ByteArray) (y z q : Int) (h : Bd g b w0 V0 w er p) : Calls Tryz.prog 123 #[.pointer (some ⟨g, 0, none⟩), .string x, .int .i64 y, .int .i64 z, .int .i64 q] w fun r w' => r = .returned (iv 0) ∧ Bd g b w0 V0 w' er p ∧ But (· = g) w w' := by
  have H := hidb h
  have HB : Hid (But (· = g) w w) := hidb (But.refl _ _)
  clear h
  go_enter Tryz.func123, Tryz.ntmps123
  go_wp2_with (first
    | (go_at_call 32; refine (bNode _ _ _ _ _ _ (H.out.keep (below_new _ _))).mono ?_; rintro r1 w1 ⟨rfl, hd, hb⟩; have HB := hidb ((HB.out.trans (But.of_below (below_new _ _))).trans hb); have H := hidb hd; clear hb hd))
  exact bodyPost_ret (v := iv 0) (by simp [results, Tryz.results123, go_sem]) rfl ⟨rfl, H.out, HB.out⟩

set_option maxHeartbeats 2000000 in
theorem bExprs (few : Bool) (h : Bd g b w0 V0 w er p) : Calls Tryz.prog 86 #[.pointer (some ⟨g, 0, none⟩), .bool few] w fun r w' => ∃ va vc, r = .returned (.slice va 1 vc) ∧ RB w' w.heap.size (.slice va 1 vc) [0] ∧ Bd g b w0 V0 w' er p ∧ But (· = g) w w' := by
  obtain ⟨i0, hi0, hz0, hz1, hz2⟩ := info_parts (P := Tryz.prog) (e := IT) (z := .int .i64 0) (size := 1) (bytes := 8) (by kernel_rfl)
  have H := hidb h
  have HB : Hid (But (· = g) w w) := hidb (But.refl _ _)
  clear h
  go_enter Tryz.func86, Tryz.ntmps86
  go_wp2_with fail
  go_loopg [5] 1 (fun gf s5 wx => s5 = .slice none 0 0 ∧ wx = w)
  case atStart => exact ⟨rfl, rfl⟩
  case round =>
    obtain ⟨rfl, hwx⟩ := hrel
    obtain rfl := hwx.symm
    cases few
    all_goals (
      go_wp2_with (first
        | (go_at_call 104; refine (bExpr H.out).mono ?_; rintro r1 w1 ⟨rfl, hd, hb⟩; have HB := hidb (HB.out.trans hb); have H := hidb hd; clear hb hd)
        | (go_at_call 64; refine (bSign _ H.out).mono ?_; rintro r1 w1 ⟨rfl, hb⟩; have HB := hidb (HB.out.trans (But.of_below hb)); have H := hidb (H.out.keep hb); clear hb)
        | (at_builtin; refine wpList_append_own_at _ rfl _ _ 44 rfl w.heap.size IT i0 (.int .i64 0) 1 8 Tryz.underlying44 hi0 hz0 hz1 hz2 rfl (by decide) _ _ _ rfl (World.ownsRow_nil _ _ _ _) ⟨w1.heap.size, 0, none⟩ 1 1 [iv 0] rfl rfl ?_ ?_ ?_ ?_ ?_ ?_))
      · intro q u hq; exact app_ints _ _ _ rfl q u hq
      · intro u hu; cases List.mem_singleton.1 hu; rfl
      · unfold maxLen; omega
      · omega
      · have := HB.out.size; simp; omega
      · intro v' w3 hown hgrow hnil hat
        have hb3 : Below w1.heap.size w1 w3 := (below_new w1 (.cells #[iv 0] IT)).trans ((grown_below hgrow).mono (below_new w1 _).size)
        have HB := hidb (HB.out.trans (But.of_below hb3))
        have H := hidb (H.out.keep hb3)
        obtain ⟨a', c', rfl⟩ := own_sl hown
        have HOW := hidb hown
        clear hown hgrow hnil hat hb3
        go_wp2_with (first
          | (go_at_call 64; refine (bSign _ H.out).mono ?_; rintro r1 w4 ⟨rfl, hbs⟩; have HB := hidb (HB.out.trans (But.of_below hbs)); have H := hidb (H.out.keep hbs)))
        exact bodyPost_ret (v := .slice a' 1 c') (by simp [results, Tryz.results86, go_sem]) rfl ⟨a', c', rfl, ⟨row_but HOW.out (But.of_below (S := fun _ => False) hbs) (fun _ _ h => h), by simp⟩, H.out, HB.out⟩)

theorem RB.base {w : World} {C C' : Nat} {v : Value} {l : List Nat} (h : RB w C v l) (hC : C' ≤ C) : RB w C' v l := ⟨row_base h.1 hC, h.2⟩
theorem RB.low {w : World} {C : Nat} {v : Value} {l : List Nat} (h : RB w C v l) : ∀ k, v.ownBlock = some k → C ≤ k := fun k hk => (h.1.lt k hk).1
theorem RB.but {S : Nat → Prop} {w w' : World} {C : Nat} {v : Value} {l : List Nat} (h : RB w C v l) (hb : But S w w') (hs : ∀ k, v.ownBlock = some k → ¬ S k) : RB w' C v l := ⟨row_but h.1 hb hs, h.2⟩

set_option maxHeartbeats 2000000 in
theorem bMaybe (x : ByteArray) (few : Bool) (h : Bd g b w0 V0 w er p) : Calls Tryz.prog 62 #[.pointer (some ⟨g, 0, none⟩), .string x, .bool few] w fun r w' => ∃ va vc, r = .returned (.slice va 1 vc) ∧ RB w' w.heap.size (.slice va 1 vc) [0] ∧ Bd g b w0 V0 w' er p ∧ But (· = g) w w' := by
  have H := hidb h
  have HB : Hid (But (· = g) w w) := hidb (But.refl _ _)
  have hgl : g < w.heap.size := by obtain ⟨_, ⟨TS, i, V, o, hq, _⟩, _⟩ := h; exact hq.glt
  clear h
  go_enter Tryz.func62, Tryz.ntmps62
  go_wp2_with (first
    | (go_at_call 64; refine (bSign _ H.out).mono ?_; rintro r1 w1 ⟨rfl, hb⟩; have HB := hidb (HB.out.trans (But.of_below hb)); have H := hidb (H.out.keep hb); clear hb)
    | (go_at_call 86; refine (bExprs _ H.out).mono ?_; rintro r1 w1 ⟨va, vc, rfl, hr, hd, hb⟩; have HRW := hidb (RB.base hr HB.out.size); have HGV := hidb (RB.low hr); have HSZ := hidb HB.out.size; clear hr; have HB := hidb (HB.out.trans hb); have H := hidb hd; clear hb hd)
    | (go_at_call 27; refine (bWant _ _ H.out).mono ?_; rintro r1 w1 ⟨rfl, hd, hb⟩; have HRW := hidb (RB.but HRW.out hb (fun k hk he => by have := HGV.out k hk; have := HSZ.out; have he2 : k = g := he; omega)); have HB := hidb (HB.out.trans hb); have H := hidb hd; clear hb hd))
  exact bodyPost_ret (v := .slice va 1 vc) (by simp [results, Tryz.results62, go_sem]) rfl ⟨va, vc, rfl, HRW.out, H.out, HB.out⟩

set_option maxHeartbeats 2000000 in
theorem bBody (h : Bd g b w0 V0 w er p) : Calls Tryz.prog 107 #[.pointer (some ⟨g, 0, none⟩)] w fun r w' => r = .returned (iv 0) ∧ Bd g b w0 V0 w' er p ∧ But (· = g) w w' := by
  have H := hidb h
  have HB : Hid (But (· = g) w w) := hidb (But.refl _ _)
  clear h
  go_enter Tryz.func107, Tryz.ntmps107
  go_wp2_with (first
    | (go_at_call 26; refine (bNow H.out).mono ?_; rintro r1 w1 ⟨⟨tk, tx, tn, tf, tp⟩, rfl, hb⟩; have HB := hidb (HB.out.trans (But.of_below hb)); have H := hidb (H.out.keep hb); clear hb)
    | (go_at_call 86; refine (bExprs _ H.out).mono ?_; rintro r1 w1 ⟨va, vc, rfl, hr, hd, hb⟩; have HRW := hidb hr; clear hr; have HB := hidb (HB.out.trans hb); have H := hidb hd; clear hb hd)
    | (go_at_call 32; refine (bNode _ _ _ _ _ _ H.out).mono ?_; rintro r1 w1 ⟨rfl, hd, hb⟩; have HB := hidb (HB.out.trans hb); have H := hidb hd; clear hb hd))
  exact bodyPost_ret (v := iv 0) (by simp [results, Tryz.results107, go_sem]) rfl ⟨rfl, H.out, HB.out⟩

set_option maxHeartbeats 2000000 in
theorem bTail (h : Bd g b w0 V0 w er p) : Calls Tryz.prog 87 #[.pointer (some ⟨g, 0, none⟩)] w fun r w' => r = .returned (.tuple #[iv 0, iv 0]) ∧ Bd g b w0 V0 w' er p ∧ But (· = g) w w' := by
  have H := hidb h
  have HB : Hid (But (· = g) w w) := hidb (But.refl _ _)
  clear h
  go_enter Tryz.func87, Tryz.ntmps87
  go_wp2_with (first
    | (go_at_call 105; refine (bKept _ H.out).mono ?_; rintro r1 w1 ⟨rfl, hb⟩; have HB := hidb (HB.out.trans (But.of_below hb)); have H := hidb (H.out.keep hb); clear hb)
    | (go_at_call 106; refine (bNone _ H.out).mono ?_; rintro r1 w1 ⟨rfl, hd, hb⟩; have HB := hidb (HB.out.trans hb); have H := hidb hd; clear hb hd)
    | (go_at_call 27; refine (bWant _ _ H.out).mono ?_; rintro r1 w1 ⟨rfl, hd, hb⟩; have HB := hidb (HB.out.trans hb); have H := hidb hd; clear hb hd)
    | (go_at_call 107; refine (bBody H.out).mono ?_; rintro r1 w1 ⟨rfl, hd, hb⟩; have HB := hidb (HB.out.trans hb); have H := hidb hd; clear hb hd))
  exact bodyPost_ret (v := .tuple #[iv 0, iv 0]) (by simp [results, Tryz.results87, go_sem]) rfl ⟨rfl, H.out, HB.out⟩

end Rf
end Go.Proofs.YthdljnakmekhkaaGreatDoor


/- The reference's parser, in a fault: clauses. -/
namespace Go.Proofs.YthdljnakmekhkaaGreatDoor
namespace Rf
open Go.RowKit Go.Lib
attribute [local go_sem] store_float f64bits
attribute [local go_sem ↓] Go.wp_at_zero Go.wp_at_succ
attribute [local go_sem] nd_p tk_k tk_x tk_n tk_f tk_p
variable {B g b o : Nat} {P : Nat → Prop} {w0 w : World} {V0 V : Value} {s : PS} {er : Int} {p : Nat}

theorem app_two (w : World) (a0 a1 : Value) (q : Nat) (hg : q = w.heap.size) (j : Nat) (u : Value) (hj : [a0, a1][j]? = some u) : (w.alloc (.cells #[a0, a1] IT)).cell? ((⟨q, 0, none⟩ : Addr).add j) = some u := by
  subst hg
  match j, hj with
  | 0, hj => simp at hj; subst hj; simp [Addr.add]
  | 1, hj => simp at hj; subst hj; simp [Addr.add]
  | (j + 2), hj => simp at hj
theorem grown_up {w X w' : World} {row : Option Nat} (hX : Below w.heap.size w X) (h : X.grownBy w' row) (hr : ∀ k, row = some k → w.heap.size ≤ k) : Below w.heap.size w w' :=
  ⟨h.os.trans hX.os, h.tape.trans hX.tape, h.output.trans hX.output, Nat.le_trans hX.size h.size, fun k hk => (h.block k (Nat.lt_of_lt_of_le hk hX.size) (fun e => by have := hr k e.symm; omega)).trans (hX.block k hk)⟩
theorem empty_row (w : World) (C : Nat) (hC : C ≤ w.heap.size) : (w.alloc (.cells #[] IT)).ownsRow C IT 1 (.slice (some ⟨w.heap.size, 0, none⟩) 0 0) 0 [] := World.ownsRow_lit (e := IT) (size := 1) (base := C) w #[] 0 hC (by unfold maxLen; omega) (by simp)

set_option maxHeartbeats 2000000 in
set_option maxRecDepth 100000 in
theorem bClause (v : Value) (l : List Nat) (x : ByteArray) (q : Int) {C : Nat} (hv : RB w C v l) (hvg : v.ownBlock ≠ some g) (h : Bd g b w0 V0 w er p) : Calls Tryz.prog 63 #[.pointer (some ⟨g, 0, none⟩), v, .string x, .int .i64 q] w fun r w' => r = .returned (iv 0) ∧ Bd g b w0 V0 w' er p ∧ But (· = g) w w' := by
  obtain ⟨i0, hi0, hz0, hz1, hz2⟩ := info_parts (P := Tryz.prog) (e := IT) (z := .int .i64 0) (size := 1) (bytes := 8) (by kernel_rfl)
  have H := hidb h
  have HB : Hid (But (· = g) w w) := hidb (But.refl _ _)
  have HV := hidb hv
  have hN := hv.2
  have hown := hv.1
  clear h hv
  rcases hown.2 with ⟨hv0, hn0⟩ | ⟨qa, ca, cur, hv0, -⟩
  · obtain rfl := List.length_eq_zero_iff.1 hn0
    subst hv0
    clear hown HV hN hn0
    go_enter Tryz.func63, Tryz.ntmps63
    go_wp2_with (first
      | (go_at_call 87; refine (bTail H.out).mono ?_; rintro r1 w1 ⟨rfl, hd, hb⟩; have HB := hidb (HB.out.trans hb); have H := hidb hd; clear hb hd)
      | (at_builtin; refine wpList_append_own_none rfl (.tmp 22) (.tmp 23) 44 rfl w.heap.size IT i0 1 Tryz.underlying44 hi0 _ _ _ rfl (empty_row w1 _ HB.out.size) rfl ?_)
      | (at_builtin; refine wpList_append_own_at _ rfl (.tmp 24) (.tmp 27) 44 rfl w.heap.size IT i0 (.int .i64 0) 1 8 Tryz.underlying44 hi0 hz0 hz1 hz2 rfl (by decide) _ _ _ rfl ((empty_row w1 _ HB.out.size).alloc _) ⟨w1.heap.size + 1, 0, none⟩ 2 2 [iv 0, iv 0] rfl rfl ?f1 ?f2 ?f3 ?f4 ?f5 ?_))
    case f1 => intro j u hj; exact app_two _ _ _ _ (by simp) j u hj
    case f2 => intro u hu; simp at hu; subst hu; rfl
    case f3 => unfold maxLen; omega
    case f4 => omega
    case f5 => have := HB.out.size; simp; omega
    intro v' w3 hown hgrow hnil hat
    have hb3 : Below w1.heap.size w1 w3 := grown_up (((below_new w1 _).alloc (by simp) _)) hgrow (fun k hk => by simp [Value.ownBlock] at hk; omega)
    have HB := hidb (HB.out.trans (But.of_below hb3))
    have H := hidb (H.out.keep hb3)
    obtain ⟨a', c', rfl⟩ := own_sl hown
    clear hown hgrow hnil hat hb3
    go_wp2_with (first
      | (go_at_call 32; refine (bNode _ _ _ _ _ _ H.out).mono ?_; rintro r1 w1 ⟨rfl, hd, hb⟩; have HB := hidb (HB.out.trans hb); have H := hidb hd; clear hb hd))
    exact bodyPost_ret (v := iv 0) (by simp [results, Tryz.results63, go_sem]) rfl ⟨rfl, H.out, HB.out⟩
  · subst hv0
    generalize hL : l.length = N at hN hown ⊢
    have HL := hidb hL
    clear hL
    go_enter Tryz.func63, Tryz.ntmps63
    go_wp2_with (first
      | (go_at_call 87; refine (bTail H.out).mono ?_; rintro r1 w1 ⟨rfl, hd, hb⟩; have HB := hidb (HB.out.trans hb); have H := hidb hd; clear hb hd)
      | (at_builtin; refine wpList_append_own_at _ rfl (.tmp 22) (.tmp 23) 44 rfl w.heap.size IT i0 (.int .i64 0) 1 8 Tryz.underlying44 hi0 hz0 hz1 hz2 rfl (by decide) _ _ _ rfl (empty_row w1 _ HB.out.size) ⟨qa, 0, none⟩ N ca (l.map iv) rfl ?g0 ?g1 ?g2 ?g3 ?g4 ?g5 ?_))
    case g0 => rw [List.length_map, HL.out]; simp
    case g1 => intro j u hj; exact (row_but (row_but hown HB.out (fun k hk he => hvg (he ▸ hk))) (But.of_below (S := fun _ => False) (below_new w1 _)) (fun _ _ h => h)).cells rfl j u hj
    case g2 => intro u hu; simp at hu; obtain ⟨y, _, rfl⟩ := hu; rfl
    case g3 => unfold maxLen; omega
    case g4 => omega
    case g5 => have := HB.out.size; simp; omega
    intro v1 w2 hown1 hgrow1 hnil1 hat1
    have hb2 : Below w1.heap.size w1 w2 := grown_up (below_new w1 _) hgrow1 (fun k hk => by simp [Value.ownBlock] at hk; omega)
    have hlo : ∀ k, v1.ownBlock = some k → w1.heap.size ≤ k := fun k hk => by
      rcases hat1 with e | e
      · rw [e] at hk; simp [Value.ownBlock] at hk; omega
      · rw [e] at hk; simp at hk; omega
    have hown1 : w2.ownsRow w.heap.size IT 1 v1 N (l.map iv) := by simpa using hown1
    obtain ⟨a1, c1, rfl⟩ := own_sl hown1
    have HB2 := hidb hb2
    have HO1 := hidb hown1
    have HLO := hidb hlo
    have hz2' := hb2.size
    clear hown1 hgrow1 hnil1 hat1 hb2 hlo
    go_wp2_with (first
      | (at_builtin; refine wpList_append_own_at _ rfl (.tmp 24) (.tmp 27) 44 rfl w.heap.size IT i0 (.int .i64 0) 1 8 Tryz.underlying44 hi0 hz0 hz1 hz2 rfl (by decide) _ _ _ rfl (HO1.out.alloc _) ⟨w2.heap.size, 0, none⟩ 2 2 [iv 0, iv 0] rfl rfl ?f1 ?f2 ?f3 ?f4 ?f5 ?_))
    case f1 => intro j u hj; exact app_two _ _ _ _ rfl j u hj
    case f2 => intro u hu; simp at hu; subst hu; rfl
    case f3 => unfold maxLen; omega
    case f4 => omega
    case f5 => have := HB.out.size; simp; omega
    intro v' w3 hown3 hgrow hnil hat
    have hB3 : But (fun k => w1.heap.size ≤ k) w2 w3 := (But.of_below (below_new w2 _)).trans ((grown_but hgrow).mono (fun k _ h => HLO.out k h))
    have hb3 : Below w1.heap.size w1 w3 := ⟨hB3.os.trans HB2.out.os, hB3.tape.trans HB2.out.tape, hB3.output.trans HB2.out.output, Nat.le_trans HB2.out.size hB3.size, fun k hk => (hB3.block k (Nat.lt_of_lt_of_le hk HB2.out.size) (by omega)).trans (HB2.out.block k hk)⟩
    have HB := hidb (HB.out.trans (But.of_below hb3))
    have H := hidb (H.out.keep hb3)
    obtain ⟨a', c', rfl⟩ := own_sl hown3
    clear hown3 hgrow hnil hat hb3 hB3
    go_wp2_with (first
      | (go_at_call 32; refine (bNode _ _ _ _ _ _ H.out).mono ?_; rintro r1 w1 ⟨rfl, hd, hb⟩; have HB := hidb (HB.out.trans hb); have H := hidb hd; clear hb hd))
    exact bodyPost_ret (v := iv 0) (by simp [results, Tryz.results63, go_sem]) rfl ⟨rfl, H.out, HB.out⟩

theorem lit_row (w : World) (cs : Array Value) (l : List Nat) (hc : cs.toList = l.map iv) (hl : l.length ≤ 1000) : RB (w.alloc (.cells cs IT)) w.heap.size (.slice (some ⟨w.heap.size, 0, none⟩) l.length l.length) l := by
  have hs : cs.size = l.length := by have := congrArg List.length hc; simpa using this
  have ho := World.ownsRow_lit (e := IT) (size := 1) (base := w.heap.size) w cs l.length (Nat.le_refl _) (by unfold maxLen; omega) (by omega)
  exact ⟨by rw [← hc]; exact ho, by omega⟩
theorem Bd.glt (h : Bd g b w0 V0 w er p) : g < w.heap.size := by obtain ⟨_, ⟨TS, i, V, o, hq, _⟩, _⟩ := h; exact hq.glt
theorem lit_ng (h : Bd g b w0 V0 w er p) (n c : Nat) : (Value.slice (some ⟨w.heap.size, 0, none⟩) n c).ownBlock ≠ some g := by
  have := h.glt
  simp [Value.ownBlock]; omega

set_option maxHeartbeats 2000000 in
theorem bOne (h : Bd g b w0 V0 w er p) : Calls Tryz.prog 154 #[.pointer (some ⟨g, 0, none⟩)] w fun r w' => r = .returned (iv 0) ∧ Bd g b w0 V0 w' er p ∧ But (· = g) w w' := by
  have H := hidb h
  have HB : Hid (But (· = g) w w) := hidb (But.refl _ _)
  clear h
  go_enter Tryz.func154, Tryz.ntmps154
  go_wp2_with (first
    | (go_at_call 26; refine (bNow H.out).mono ?_; rintro r1 w1 ⟨⟨tk, tx, tn, tf, tp⟩, rfl, hb⟩; have HB := hidb (HB.out.trans (But.of_below hb)); have H := hidb (H.out.keep hb); clear hb)
    | (go_at_call 104; refine (bExpr H.out).mono ?_; rintro r1 w1 ⟨rfl, hd, hb⟩; have HB := hidb (HB.out.trans hb); have H := hidb hd; clear hb hd)
    | (go_at_call 63; refine (bClause _ [0] _ _ (lit_row w1 #[iv 0] [0] rfl (by simp)) (lit_ng H.out 1 1) (H.out.keep (below_new _ _))).mono ?_; rintro r1 w1 ⟨rfl, hd, hb⟩; have HB := hidb ((HB.out.trans (But.of_below (below_new _ _))).trans hb); have H := hidb hd; clear hb hd))
  exact bodyPost_ret (v := iv 0) (by simp [results, Tryz.results154, go_sem]) rfl ⟨rfl, H.out, HB.out⟩

set_option maxHeartbeats 2000000 in
theorem bMany (h : Bd g b w0 V0 w er p) : Calls Tryz.prog 155 #[.pointer (some ⟨g, 0, none⟩)] w fun r w' => r = .returned (iv 0) ∧ Bd g b w0 V0 w' er p ∧ But (· = g) w w' := by
  have H := hidb h
  have HB : Hid (But (· = g) w w) := hidb (But.refl _ _)
  clear h
  go_enter Tryz.func155, Tryz.ntmps155
  go_wp2_with (first
    | (go_at_call 26; refine (bNow H.out).mono ?_; rintro r1 w1 ⟨⟨tk, tx, tn, tf, tp⟩, rfl, hb⟩; have HB := hidb (HB.out.trans (But.of_below hb)); have H := hidb (H.out.keep hb); clear hb)
    | (go_at_call 27; refine (bWant _ _ H.out).mono ?_; rintro r1 w1 ⟨rfl, hd, hb⟩; have HB := hidb (HB.out.trans hb); have H := hidb hd; clear hb hd)
    | (go_at_call 62; refine (bMaybe _ _ H.out).mono ?_; rintro r1 w1 ⟨va, vc, rfl, hr, hd, hb⟩; have HNG := hidb (fun e => by have := RB.low hr g e; have := H.out.glt; omega : (Value.slice va 1 vc).ownBlock ≠ some g); have HRW := hidb hr; clear hr; have HB := hidb (HB.out.trans hb); have H := hidb hd; clear hb hd)
    | (go_at_call 63; refine (bClause _ [0] _ _ HRW.out HNG.out H.out).mono ?_; rintro r1 w1 ⟨rfl, hd, hb⟩; have HB := hidb (HB.out.trans hb); have H := hidb hd; clear hb hd))
  exact bodyPost_ret (v := iv 0) (by simp [results, Tryz.results155, go_sem]) rfl ⟨rfl, H.out, HB.out⟩

end Rf
end Go.Proofs.YthdljnakmekhkaaGreatDoor


/- The reference's parser, in a fault: a clause of a catch. -/
namespace Go.Proofs.YthdljnakmekhkaaGreatDoor
namespace Rf
open Go.RowKit Go.Lib
attribute [local go_sem] store_float f64bits
attribute [local go_sem ↓] Go.wp_at_zero Go.wp_at_succ
attribute [local go_sem] nd_p tk_k tk_x tk_n tk_f tk_p
variable {B g b o : Nat} {P : Nat → Prop} {w0 w : World} {V0 V : Value} {s : PS} {er : Int} {p : Nat}

theorem QB.nextTok {w : World} {g b i : Nat} {TS : List Tk} {V : Value} {o er p : Int} {t : Tk} (h : QB w g b TS i V o er p) (he : End TS) (ht : TS[i]? = some t) (hk : t.k ≠ 8) : ∃ u, TS[i + 1]? = some u := by
  obtain ⟨a, z, rfl, hz, _⟩ := he
  have hi := h.ilt
  have hlt : i + 1 < (a ++ [z]).length := by
    rcases Nat.lt_or_ge (i + 1) (a ++ [z]).length with h1 | h1
    · exact h1
    · exfalso
      have : i = a.length := by simp at hi h1; omega
      subst this
      rw [List.getElem?_append_right (Nat.le_refl _), Nat.sub_self] at ht
      cases ht
      exact hk hz
  exact ⟨_, List.getElem?_eq_getElem hlt⟩

set_option maxHeartbeats 4000000 in
set_option maxRecDepth 100000 in
theorem bCaught (h : Bd g b w0 V0 w er p) : Calls Tryz.prog 156 #[.pointer (some ⟨g, 0, none⟩)] w fun r w' => r = .returned (iv 0) ∧ Bd g b w0 V0 w' er p ∧ But (· = g) w w' := by
  have H := hidb h
  have HB : Hid (But (· = g) w w) := hidb (But.refl _ _)
  obtain ⟨hn, ⟨TS, i, V, o, hq, hg, he⟩, hbut⟩ := h
  obtain ⟨t, ht⟩ := hq.tok
  have cN := qNow hq ht
  have HQ0 := hidb hq.glt
  have HQ := hidb hq
  have HNX : Hid (t.k ≠ 8 → ∃ u, TS[i + 1]? = some u) := hidb (fun hk => hq.nextTok he ht hk)
  obtain ⟨tk, tx, tn, tf, tp⟩ := t
  clear hn hq hg he hbut ht
  simp only [Tk.val] at *
  go_enter Tryz.func156, Tryz.ntmps156
  go_wp2_with (go_at_call 26; refine cN.mono ?_; rintro r1 w1 ⟨rfl, hb1⟩; have HB1 := hidb hb1; clear hb1)
  have hb2 : Below w.heap.size w (w1.alloc (.cells #[.int .i64 tk, .string tx, .int .i64 tn, .float .f64 tf, .int .i64 (tp : Int)] 41)) := HB1.out.alloc HB1.out.size _
  have X := Box.new w1 41 (.int .i64 tk) (.string tx) (.int .i64 tn) (.float .f64 tf) (.int .i64 (tp : Int))
  have H := hidb (H.out.keep hb2)
  have HB := hidb (HB.out.trans (But.of_below hb2))
  have HX := hidb X
  have HQ := hidb (HQ.out.keep hb2)
  have hxg1 : w1.heap.size ≠ g := by have := HQ0.out; have := HB1.out.size; omega
  clear hb2 X cN HB1
  generalize (w1.alloc (.cells #[.int .i64 tk, .string tx, .int .i64 tn, .float .f64 tf, .int .i64 (tp : Int)] 41)) = W1 at H HB HX HQ ⊢
  have hxg0 : w1.heap.size ≠ g := hxg1
  generalize w1.heap.size = xb at HX hxg0 ⊢
  obtain ⟨x0, x1, x2, x3, x4, -, -, -, -, -, xl⟩ := HX.out
  by_cases hA : tk = 1 ∨ tk = 2
  · obtain ⟨u, hu⟩ := HNX.out (by omega)
    have htk := HQ.out.toks
    obtain ⟨k0, k1, -, -, -⟩ := tks_at htk (i + 1) u hu
    simp only [Nat.zero_add] at k0 k1
    have hlt := (List.getElem?_eq_some_iff.1 hu).1
    have hfw := HQ.out.few
    have hbl := HQ.out.lt
    obtain ⟨⟨cap, h6⟩, -⟩ := HQ.out
    obtain ⟨c0, c1, -, -, -, -, -, -, -, -, -, -, gl⟩ := h6
    generalize TS.length = N at c0 hlt hfw
    obtain ⟨uk, ux, un, uf, up⟩ := u
    obtain ⟨J, hJ⟩ : ∃ J, i + 1 = J := ⟨_, rfl⟩
    have v1 : IntKind.i64.wrap ((i : Int) + 1) = (J : Int) := by rw [IntKind.wrap_i64]; omega
    have j0 : (0 : Int) ≤ (J : Int) := by omega
    have j1 : (J : Int) < (N : Int) := by omega
    rw [hJ] at k0 k1
    simp only at k0 k1
    clear hJ hlt hfw htk hu HNX
    have d1 : (tk == 1) = true ∨ ((tk == 1) = false ∧ (tk == 2) = true) := by
      rcases hA with rfl | rfl
      · exact .inl rfl
      · exact .inr ⟨rfl, rfl⟩
    have d2 : (uk == 6) = false ∨ ((uk == 6) = true ∧ ((ux.toList == (⟨#[58]⟩ : ByteArray).toList) = true ∨ (ux.toList == (⟨#[58]⟩ : ByteArray).toList) = false)) := by
      cases (uk == 6) <;> cases (ux.toList == (⟨#[58]⟩ : ByteArray).toList) <;> simp
    clear hA
    rcases d1 with d1 | ⟨d1, d3⟩ <;> rcases d2 with d2 | ⟨d2, d4 | d4⟩
    all_goals (
      go_big_quiet (fail)
      have hbd : Below W1.heap.size W1 (W1.drewN nq) := below_drewN (Below.refl _ _) nq
      have H := hidb (H.out.keep hbd)
      have HB := hidb (HB.out.trans (But.of_below hbd))
      have HX := hidb (HX.out.keep hbd)
      have hxg : xb ≠ g := hxg0
      clear hbd x0 x1 x2 x3 x4 xl c0 c1 k0 k1
      generalize W1.drewN nq = W2 at H HB HX ⊢
      obtain ⟨x0, x1, x2, x3, x4, -, -, -, -, -, xl⟩ := HX.out
      go_wp2_with (first
        | (go_at_call 28; refine (bFail _ _ H.out).mono ?_; rintro r1 w1 ⟨rfl, hd, hb⟩; have HX := hidb (Box.but HX.out hb hxg); obtain ⟨x0, x1, x2, x3, x4, -, -, -, -, -, xl⟩ := HX.out; have HB := hidb (HB.out.trans hb); have H := hidb hd; clear hb hd)
        | (go_at_call 32; refine (bNode _ _ _ _ _ _ H.out).mono ?_; rintro r1 w1 ⟨rfl, hd, hb⟩; have HB := hidb (HB.out.trans hb); have H := hidb hd; clear hb hd)
        | (go_at_call 29; refine (bNext H.out).mono ?_; rintro r1 w1 ⟨rfl, hb⟩; have HB := hidb (HB.out.trans (But.of_below hb)); have H := hidb (H.out.keep hb); clear hb)
        | (go_at_call 104; refine (bExpr H.out).mono ?_; rintro r1 w1 ⟨rfl, hd, hb⟩; have HB := hidb (HB.out.trans hb); have H := hidb hd; clear hb hd)
        | (go_at_call 63; refine (bClause _ [0, 0] _ _ (lit_row w1 #[iv 0, iv 0] [0, 0] rfl (by simp)) (lit_ng H.out 2 2) (H.out.keep (below_new _ _))).mono ?_; rintro r1 w1 ⟨rfl, hd, hb⟩; have HB := hidb ((HB.out.trans (But.of_below (below_new _ _))).trans hb); have H := hidb hd; clear hb hd))
      all_goals exact bodyPost_ret (v := iv 0) (by simp [results, Tryz.results156, go_sem]) rfl ⟨rfl, H.out, HB.out⟩)
  · have d1 : (tk == 1) = false := by simp; omega
    have d2 : (tk == 2) = false := by simp; omega
    clear hA HNX
    go_big_quiet (fail)
    have hbd : Below W1.heap.size W1 (W1.drewN nq) := below_drewN (Below.refl _ _) nq
    have H := hidb (H.out.keep hbd)
    have HB := hidb (HB.out.trans (But.of_below hbd))
    have HX := hidb (HX.out.keep hbd)
    clear hbd x0 x1 x2 x3 x4 xl
    generalize W1.drewN nq = W2 at H HB HX ⊢
    obtain ⟨x0, x1, x2, x3, x4, -, -, -, -, -, xl⟩ := HX.out
    go_wp2_with (first
      | (go_at_call 28; refine (bFail _ _ H.out).mono ?_; rintro r1 w1 ⟨rfl, hd, hb⟩; have HB := hidb (HB.out.trans hb); have H := hidb hd; clear hb hd)
      | (go_at_call 32; refine (bNode _ _ _ _ _ _ H.out).mono ?_; rintro r1 w1 ⟨rfl, hd, hb⟩; have HB := hidb (HB.out.trans hb); have H := hidb hd; clear hb hd)
      | (go_at_call 29; refine (bNext H.out).mono ?_; rintro r1 w1 ⟨rfl, hb⟩; have HB := hidb (HB.out.trans (But.of_below hb)); have H := hidb (H.out.keep hb); clear hb)
      | (go_at_call 104; refine (bExpr H.out).mono ?_; rintro r1 w1 ⟨rfl, hd, hb⟩; have HB := hidb (HB.out.trans hb); have H := hidb hd; clear hb hd)
      | (go_at_call 63; refine (bClause _ [0, 0] _ _ (lit_row w1 #[iv 0, iv 0] [0, 0] rfl (by simp)) (lit_ng H.out 2 2) (H.out.keep (below_new _ _))).mono ?_; rintro r1 w1 ⟨rfl, hd, hb⟩; have HB := hidb ((HB.out.trans (But.of_below (below_new _ _))).trans hb); have H := hidb hd; clear hb hd))
    exact bodyPost_ret (v := iv 0) (by simp [results, Tryz.results156, go_sem]) rfl ⟨rfl, H.out, HB.out⟩

end Rf
end Go.Proofs.YthdljnakmekhkaaGreatDoor


/- The reference's parser, in a fault: clauses. -/
namespace Go.Proofs.YthdljnakmekhkaaGreatDoor
namespace Rf
open Go.RowKit Go.Lib
attribute [local go_sem] store_float f64bits
attribute [local go_sem ↓] Go.wp_at_zero Go.wp_at_succ
attribute [local go_sem] nd_p tk_k tk_x tk_n tk_f tk_p
variable {B g b o : Nat} {P : Nat → Prop} {w0 w : World} {V0 V : Value} {s : PS} {er : Int} {p : Nat}

set_option maxHeartbeats 4000000 in
set_option maxRecDepth 100000 in
theorem bClauses (k : Int) (h : Bd g b w0 V0 w er p) : Calls Tryz.prog 148 #[.pointer (some ⟨g, 0, none⟩), .int .i64 k] w fun r w' => r = .returned (iv 0) ∧ Bd g b w0 V0 w' er p ∧ But (· = g) w w' := by
  obtain ⟨i0, hi0, hz0, hz1, hz2⟩ := info_parts (P := Tryz.prog) (e := IT) (z := .int .i64 0) (size := 1) (bytes := 8) (by kernel_rfl)
  have H := hidb h
  have HB : Hid (But (· = g) w w) := hidb (But.refl _ _)
  clear h
  go_enter Tryz.func148, Tryz.ntmps148
  go_wp2_with (first
    | (go_at_call 26; refine (bNow H.out).mono ?_; rintro r1 w1 ⟨⟨tk, tx, tn, tf, tp⟩, rfl, hb⟩; have HB := hidb (HB.out.trans (But.of_below hb)); have H := hidb (H.out.keep hb); clear hb))
  go_loopg [6] 1 (fun gf s6 wx => s6 = .slice none 0 0 ∧ wx = w1)
  case atStart => exact ⟨rfl, rfl⟩
  case round =>
    obtain ⟨rfl, hwx⟩ := hrel
    obtain rfl := hwx.symm
    have hk : k = 1 ∨ k = 2 ∨ ((k == 1) = false ∧ (k == 2) = false) := by
      by_cases h1 : k = 1
      · exact .inl h1
      · by_cases h2 : k = 2
        · exact .inr (.inl h2)
        · exact .inr (.inr ⟨by simpa using h1, by simpa using h2⟩)
    rcases hk with rfl | rfl | ⟨k1, k2⟩
    all_goals (
      go_wp2_with (first
        | (go_at_call 154; refine (bOne H.out).mono ?_; rintro r1 wz ⟨rfl, hd, hb⟩; have HB := hidb (HB.out.trans hb); have H := hidb hd; clear hb hd)
        | (go_at_call 155; refine (bMany H.out).mono ?_; rintro r1 wz ⟨rfl, hd, hb⟩; have HB := hidb (HB.out.trans hb); have H := hidb hd; clear hb hd)
        | (go_at_call 156; refine (bCaught H.out).mono ?_; rintro r1 wz ⟨rfl, hd, hb⟩; have HB := hidb (HB.out.trans hb); have H := hidb hd; clear hb hd)
        | (at_builtin; refine wpList_append_own_at _ rfl _ _ 44 rfl w.heap.size IT i0 (.int .i64 0) 1 8 Tryz.underlying44 hi0 hz0 hz1 hz2 rfl (by decide) _ _ _ rfl (World.ownsRow_nil _ _ _ _) ⟨wz.heap.size, 0, none⟩ 1 1 [iv 0] rfl rfl ?_ ?_ ?_ ?_ ?_ ?_))
      · intro q u hq; exact app_ints _ _ _ rfl q u hq
      · intro u hu; cases List.mem_singleton.1 hu; rfl
      · unfold maxLen; omega
      · omega
      · have := HB.out.size; simp; omega
      · intro v' w3 hown hgrow hnil hat
        have hb3 : Below wz.heap.size wz w3 := (below_new wz (.cells #[iv 0] IT)).trans ((grown_below hgrow).mono (below_new wz _).size)
        have HB := hidb (HB.out.trans (But.of_below hb3))
        have H := hidb (H.out.keep hb3)
        obtain ⟨a', c', rfl⟩ := own_sl hown
        clear hown hgrow hnil hat hb3
        go_wp2_with (first
          | (go_at_call 64; refine (bSign _ H.out).mono ?_; rintro r1 w1 ⟨rfl, hb⟩; have HB := hidb (HB.out.trans (But.of_below hb)); have H := hidb (H.out.keep hb); clear hb)
          | (go_at_call 32; refine (bNode _ _ _ _ _ _ H.out).mono ?_; rintro r1 w1 ⟨rfl, hd, hb⟩; have HB := hidb (HB.out.trans hb); have H := hidb hd; clear hb hd))
        exact bodyPost_ret (v := iv 0) (by simp [results, Tryz.results148, go_sem]) rfl ⟨rfl, H.out, HB.out⟩)

end Rf
end Go.Proofs.YthdljnakmekhkaaGreatDoor


