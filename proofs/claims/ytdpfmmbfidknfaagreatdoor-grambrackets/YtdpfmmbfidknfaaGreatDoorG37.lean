import Derived.Test.YtdpfmmbfidknfaaGreatDoorG36
/- A node's box. -/
namespace Go.Proofs.YtdpfmmbfidknfaaGreatDoor
open Go.RowKit Go.Lib
variable {B g b o : Nat} {e : PM Nat}

/-- Six cells of a block, not frozen. -/
structure Six (w : World) (k : Nat) (v0 v1 v2 v3 v4 v5 : Value) : Prop where
  c0 : w.cell? ⟨k, 0, none⟩ = some v0
  c1 : w.cell? ⟨k, 1, none⟩ = some v1
  c2 : w.cell? ⟨k, 2, none⟩ = some v2
  c3 : w.cell? ⟨k, 3, none⟩ = some v3
  c4 : w.cell? ⟨k, 4, none⟩ = some v4
  c5 : w.cell? ⟨k, 5, none⟩ = some v5
  f0 : w.frozen? ⟨k, 0, none⟩ = false
  f1 : w.frozen? ⟨k, 1, none⟩ = false
  f2 : w.frozen? ⟨k, 2, none⟩ = false
  f3 : w.frozen? ⟨k, 3, none⟩ = false
  f4 : w.frozen? ⟨k, 4, none⟩ = false
  f5 : w.frozen? ⟨k, 5, none⟩ = false
  lt : k < w.heap.size

theorem Six.new (w : World) (t : TypeId) (v0 v1 v2 v3 v4 v5 : Value) : Six (w.alloc (.cells #[v0, v1, v2, v3, v4, v5] t)) w.heap.size v0 v1 v2 v3 v4 v5 :=
  ⟨by rw [World.cell?_alloc_new]; rfl, by rw [World.cell?_alloc_new]; rfl, by rw [World.cell?_alloc_new]; rfl, by rw [World.cell?_alloc_new]; rfl, by rw [World.cell?_alloc_new]; rfl, by rw [World.cell?_alloc_new]; rfl, World.frozen?_alloc_new _ _ _ _, World.frozen?_alloc_new _ _ _ _, World.frozen?_alloc_new _ _ _ _, World.frozen?_alloc_new _ _ _ _, World.frozen?_alloc_new _ _ _ _, World.frozen?_alloc_new _ _ _ _, by simp⟩
theorem Six.but {S : Nat → Prop} {w w' : World} {k : Nat} {v0 v1 v2 v3 v4 v5 : Value} (h : Six w k v0 v1 v2 v3 v4 v5) (hb : But S w w') (hs : ¬ S k) : Six w' k v0 v1 v2 v3 v4 v5 :=
  ⟨(hb.cell h.lt hs).trans h.c0, (hb.cell h.lt hs).trans h.c1, (hb.cell h.lt hs).trans h.c2, (hb.cell h.lt hs).trans h.c3, (hb.cell h.lt hs).trans h.c4, (hb.cell h.lt hs).trans h.c5, (hb.frozen h.lt hs).trans h.f0, (hb.frozen h.lt hs).trans h.f1, (hb.frozen h.lt hs).trans h.f2, (hb.frozen h.lt hs).trans h.f3, (hb.frozen h.lt hs).trans h.f4, (hb.frozen h.lt hs).trans h.f5, Nat.lt_of_lt_of_le h.lt hb.size⟩
theorem Six.keep {w w' : World} {k : Nat} {v0 v1 v2 v3 v4 v5 : Value} (h : Six w k v0 v1 v2 v3 v4 v5) (hb : Below w.heap.size w w') : Six w' k v0 v1 v2 v3 v4 v5 := h.but (But.of_below (S := fun _ => False) hb) (fun h => h)
theorem Six.set0 {w : World} {k : Nat} {v0 v1 v2 v3 v4 v5 : Value} (h : Six w k v0 v1 v2 v3 v4 v5) (u : Value) : Six (w.setCell ⟨k, 0, none⟩ u) k u v1 v2 v3 v4 v5 :=
  ⟨World.cell?_setCell_same _ _ _ h.c0, (World.cell?_setCell_other _ _ _ _ (ne_off3 _ _ _ (by decide))).trans h.c1, (World.cell?_setCell_other _ _ _ _ (ne_off3 _ _ _ (by decide))).trans h.c2, (World.cell?_setCell_other _ _ _ _ (ne_off3 _ _ _ (by decide))).trans h.c3, (World.cell?_setCell_other _ _ _ _ (ne_off3 _ _ _ (by decide))).trans h.c4, (World.cell?_setCell_other _ _ _ _ (ne_off3 _ _ _ (by decide))).trans h.c5, (by rw [World.frozen?_setCell]; exact h.f0), (by rw [World.frozen?_setCell]; exact h.f1), (by rw [World.frozen?_setCell]; exact h.f2), (by rw [World.frozen?_setCell]; exact h.f3), (by rw [World.frozen?_setCell]; exact h.f4), (by rw [World.frozen?_setCell]; exact h.f5), by simp [World.setCell]; exact h.lt⟩
theorem Six.set2 {w : World} {k : Nat} {v0 v1 v2 v3 v4 v5 : Value} (h : Six w k v0 v1 v2 v3 v4 v5) (u : Value) : Six (w.setCell ⟨k, 2, none⟩ u) k v0 v1 u v3 v4 v5 :=
  ⟨(World.cell?_setCell_other _ _ _ _ (ne_off3 _ _ _ (by decide))).trans h.c0, (World.cell?_setCell_other _ _ _ _ (ne_off3 _ _ _ (by decide))).trans h.c1, World.cell?_setCell_same _ _ _ h.c2, (World.cell?_setCell_other _ _ _ _ (ne_off3 _ _ _ (by decide))).trans h.c3, (World.cell?_setCell_other _ _ _ _ (ne_off3 _ _ _ (by decide))).trans h.c4, (World.cell?_setCell_other _ _ _ _ (ne_off3 _ _ _ (by decide))).trans h.c5, (by rw [World.frozen?_setCell]; exact h.f0), (by rw [World.frozen?_setCell]; exact h.f1), (by rw [World.frozen?_setCell]; exact h.f2), (by rw [World.frozen?_setCell]; exact h.f3), (by rw [World.frozen?_setCell]; exact h.f4), (by rw [World.frozen?_setCell]; exact h.f5), by simp [World.setCell]; exact h.lt⟩
theorem Six.set4 {w : World} {k : Nat} {v0 v1 v2 v3 v4 v5 : Value} (h : Six w k v0 v1 v2 v3 v4 v5) (u : Value) : Six (w.setCell ⟨k, 4, none⟩ u) k v0 v1 v2 v3 u v5 :=
  ⟨(World.cell?_setCell_other _ _ _ _ (ne_off3 _ _ _ (by decide))).trans h.c0, (World.cell?_setCell_other _ _ _ _ (ne_off3 _ _ _ (by decide))).trans h.c1, (World.cell?_setCell_other _ _ _ _ (ne_off3 _ _ _ (by decide))).trans h.c2, (World.cell?_setCell_other _ _ _ _ (ne_off3 _ _ _ (by decide))).trans h.c3, World.cell?_setCell_same _ _ _ h.c4, (World.cell?_setCell_other _ _ _ _ (ne_off3 _ _ _ (by decide))).trans h.c5, (by rw [World.frozen?_setCell]; exact h.f0), (by rw [World.frozen?_setCell]; exact h.f1), (by rw [World.frozen?_setCell]; exact h.f2), (by rw [World.frozen?_setCell]; exact h.f3), (by rw [World.frozen?_setCell]; exact h.f4), (by rw [World.frozen?_setCell]; exact h.f5), by simp [World.setCell]; exact h.lt⟩

/-- A block that is held. -/
abbrev hv (k : Nat) : Value := .slice (some ⟨k, 0, none⟩) 0 0

section
variable {P Q : Nat → Prop} {w0 w w' : World} {V0 V V' v : Value} {s s' : PS} {k : Nat} {v0 v1 v2 v3 v4 v5 : Value}
theorem St.hold (h : St B g b o P w0 V0 w V s) (ob : Obj) : St B g b o (PV P (hv w.heap.size)) w0 V0 (w.alloc ob) V s := by
  have hb : Below w.heap.size w (w.alloc ob) := below_new _ _
  refine (h.below hb).more ?_ ((h.ns.newer (v := hv w.heap.size) (fun k hk => by simp [Value.ownBlock] at hk; omega)).but (But.of_below (S := fun _ => False) hb) (fun _ _ h => h) (fun _ h => h.elim))
  intro k hk
  simp [Value.ownBlock] at hk
  subst hk
  exact ⟨by simp, by have := h.glt; omega, h.at.fresh⟩
theorem St.poke (h : St B g b o Q w0 V0 w V s) (hq : Q k) (hk : w0.heap.size ≤ k) (hb : k ≠ b) (i : Nat) (u : Value) : St B g b o Q w0 V0 (w.setCell ⟨k, i, none⟩ u) V s := by
  have hB : But (· = k) w (w.setCell ⟨k, i, none⟩ u) := (But.refl (· = k) w).setCell (p := ⟨k, i, none⟩) (fun _ => rfl) u
  obtain ⟨hV, hg⟩ := h.npv k hq
  refine ⟨h.pb.but hB (fun e => hg e.symm) (fun e => hb e.symm), h.ns.but hB (fun j hj he => hV (he ▸ hj)) (fun j he => .inr (.inr (he ▸ hq))), by simpa [World.setCell] using h.le, h.ne, h.op, ?_, h.own, fun j hj => by simpa [World.setCell] using h.plt j hj, h.npv, h.tl⟩
  exact ⟨hB.os.trans h.but.os, hB.tape.trans h.but.tape, hB.output.trans h.but.output, Nat.le_trans h.but.size hB.size, fun j hj hs => (hB.block j (Nat.lt_of_lt_of_le hj h.but.size) (by omega)).trans (h.but.block j hj hs)⟩
theorem Six.step (h : Six w k v0 v1 v2 v3 v4 v5) (h' : St B g b o Q w V w' V' s') (hg : k ≠ g) (hV : V.ownBlock ≠ some k) : Six w' k v0 v1 v2 v3 v4 v5 := h.but h'.but (fun e => e.elim hg hV)
theorem IR.poke {C i : Nat} {l : List Nat} (h : IR w C g b V v l) (hk : v.ownBlock ≠ some k) (u : Value) : IR (w.setCell ⟨k, i, .none⟩ u) C g b V v l :=
  h.but ((But.refl (· = k) w).setCell (p := ⟨k, i, .none⟩) (fun _ => rfl) u) (fun _ hj he => hk (he ▸ hj))
theorem pv_self : PV P (hv k) k := .inr rfl
end
end Go.Proofs.YtdpfmmbfidknfaaGreatDoor


/- tuple, list. -/
namespace Go.Proofs.YtdpfmmbfidknfaaGreatDoor
open Go.RowKit Go.Lib
attribute [local go_sem] store_float f64bits
attribute [local go_sem ↓] Go.wp_at_zero Go.wp_at_succ
attribute [local go_sem] nd_p tk_k tk_x tk_n tk_f tk_p
variable {B g b o : Nat} {e : PM Nat}

set_option maxHeartbeats 2000000 in
set_option maxRecDepth 100000 in
theorem pTuple (hE : EC B g b o e) {P : Nat → Prop} {w : World} {V : Value} {s : PS} (h : At B g b o P w V s) (hk : (Gm.hd s).k ≠ 8) :
    Calls Tryz.prog 104 #[.pointer (some ⟨g, 0, none⟩)] w fun r w' => Rz B g b o P w V (Gm.tuple e s) iv r w' := by
  have H : Hid (St B g b o P w V w V s) := hidb h
  obtain ⟨R, hR⟩ : ∃ R, Gm.tuple e s = R := ⟨_, rfl⟩
  rw [hR]
  have HR := hidb hR.symm
  clear hR
  have HP := hidb h.plt
  have HK := hidb hk
  clear hk
  have HE := hidb hE
  clear h hE
  go_enter Tryz.func104, Tryz.ntmps104
  go_wp2_with (first
    | (go_at_call 36; refine (sNext H.out.at HK.out).mono ?_; rintro r1 wn ⟨t, s1, hq, rfl, hs⟩; have H := hidb (H.out.trans hs); have HR := hidb (HR.out.trans (Gm.bind_next hq)); have HW := hidb H.out.but.size; have HG := hidb H.out.glt; have HBB := hidb H.out.blt; have BX := hidb (Six.new wn NT (.int .i64 6) (.string ⟨#[]⟩) (.int .i64 0) (.float .f64 0) (.slice none 0 0) (.int .i64 (t.p : Int))); have H := hidb (H.out.hold (.cells #[.int .i64 6, .string ⟨#[]⟩, .int .i64 0, .float .f64 0, .slice none 0 0, .int .i64 (t.p : Int)] NT)); clear hs hq)
    | (go_at_call 69; refine (sIsU _ H.out.at).mono ?_; rintro r1 w1 ⟨u, hu, ⟨hq, rfl⟩ | ⟨hq, rfl⟩, hb⟩ <;> first | (have HR := hidb ((HR.out.trans (Gm.bind_here hu)).trans (Gm.ite_t hq)); have BX := hidb (BX.out.keep hb); obtain ⟨d0, d1, d2, d3, d4, d5, g0, g1, g2, g3, g4, g5, -⟩ := BX.out; have H := hidb (H.out.below hb); clear hb hq hu) | (have HR := hidb ((HR.out.trans (Gm.bind_here hu)).trans (Gm.ite_f (by simp [hq]))); have BX := hidb (BX.out.keep hb); obtain ⟨d0, d1, d2, d3, d4, d5, g0, g1, g2, g3, g4, g5, -⟩ := BX.out; have H := hidb (H.out.below hb); clear hb hq hu))
    | (go_at_call 33; refine (sNeed _ H.out.at).mono ?_; rintro r1 w1 (⟨er, q, hq, rfl, hbu⟩ | ⟨s1, hq, rfl, hs⟩) <;> first | (have BX := hidb (BX.out.step hs (by have := HG.out; omega) (H.out.npv wn.heap.size (by first | exact pv_self | exact .inl pv_self)).1); obtain ⟨d0, d1, d2, d3, d4, d5, g0, g1, g2, g3, g4, g5, -⟩ := BX.out; (try have HI := hidb (HI.out.step hs)); have H := hidb (H.out.trans hs); (first | (with_reducible have HR := hidb (HR.out.trans hq)) | have HR := hidb (HR.out.trans (Gm.bind_ok hq))); clear hs hq) | ((first | (with_reducible have HR := hidb (HR.out.trans hq)) | have HR := hidb (HR.out.trans (Gm.bind_err hq))); have HBU := hidb (but_then H.out.but H.out.own hbu); clear hq hbu))
    | (go_at_call 80; refine (pExprs HE.out Gm.noBound H.out.at).mono ?_; rintro r1 w1 (⟨er, q, hq, rfl, hbu⟩ | ⟨l, s1, V1, v, hq, rfl, hs, hs2, hi, hlen⟩) <;> first | (obtain ⟨la, lc, rfl⟩ := hi.sl; have HNE := hidb (fun e => (by have := (hi.own.lt _ e).1; have := BX.out.lt; omega) : (Value.slice la l.length lc).ownBlock ≠ some wn.heap.size); have BX := hidb (BX.out.step hs (by have := HG.out; omega) (H.out.npv wn.heap.size (by first | exact pv_self | exact .inl pv_self)).1); obtain ⟨d0, d1, d2, d3, d4, d5, g0, g1, g2, g3, g4, g5, -⟩ := BX.out; have HL2 := hidb hlen; have HI := hidb (((hi.rebase H.out.but.size)).poke (i := 4) HNE.out (.slice la l.length lc)); have BX := hidb (BX.out.set4 (.slice la l.length lc)); have H := hidb ((H.out.trans hs2).poke (k := wn.heap.size) (.inl pv_self) (by have := HW.out; omega) (by have := HBB.out; omega) 4 (.slice la l.length lc)); (first | (with_reducible have HR := hidb (HR.out.trans hq)) | have HR := hidb (HR.out.trans (Gm.bind_ok hq))); clear hs hs2 hi hq hlen) | ((first | (with_reducible have HR := hidb (HR.out.trans hq)) | have HR := hidb (HR.out.trans (Gm.bind_err hq))); have HBU := hidb (but_then H.out.but H.out.own hbu); clear hq hbu))
    | (go_at_call 39; (first | refine (sLayR HR.out H.out.drop.drop.at (HI.out.lr HP.out)).mono ?_ | refine (sLayR HR.out H.out.drop.at (LR.none _ _ _ _)).mono ?_); rintro r1 w1 (⟨er, q, hq, rfl, hbu⟩ | ⟨z, s1, V1, hq, rfl, hs⟩) <;> first | (have H := hidb (H.out.drop.drop.trans hs); have HR := hidb hq; clear hs hq) | (have H := hidb (H.out.drop.trans hs); have HR := hidb hq; clear hs hq) | (have HR := hidb hq; have HBU := hidb (but_then H.out.but H.out.own hbu); clear hq hbu)))
  all_goals first
    | exact ⟨rfl, .inl ⟨_, _, HR.out, rfl, HBU.out⟩⟩
    | exact bodyPost_ret (v := iv z) (by simp [results, Tryz.results104, go_sem]) rfl (.inr ⟨_, _, _, HR.out, rfl, H.out⟩)

theorem step_appI {ops : Array Oper} {o : Oper} {a : Act} {w : World} {K : Act → World → Prop} {Q : Exit → Act → World → Prop} {E : Prop} (hg : o.guard = none) (s x : Operand)
    (hop : o.op = Op.call { callee := .builtin .append, args := #[s, x], argTypes := #[32, 32] }) (base : Nat) (v : Value) (n : Nat) (xs : List Value) (hs : a.eval s = v) (how : w.ownsRow base IT 1 v n xs)
    (ad : Addr) (c : Value) (hx : a.eval x = .slice (some ad) 1 1) (hc : w.cell? (ad.add 0) = some c) (h1 : c.oneCell' = true) (z1 : n + 1 ≤ maxLen) (z2 : (n + 1) * 8 ≤ 140737488355328) (hb : base ≤ w.heap.size)
    (h : ∀ q cap w', w'.ownsRow base IT 1 (.slice (some ⟨q, 0, none⟩) (n + 1) cap) (n + 1) (xs ++ [c]) → w.grownBy w' v.ownBlock → (v.ownBlock = some q ∨ q = w.heap.size) → K (a.put o.dst (.slice (some ⟨q, 0, none⟩) (n + 1) cap)) w') :
    if Region.wanted o (yielded ops a.tmps) = true then Oper.wp Tryz.prog o a w K Q else E := by
  obtain ⟨i0, hi0, hz0, hz1, hz2⟩ := info_parts (P := Tryz.prog) (e := IT) (z := .int .i64 0) (size := 1) (bytes := 8) (by kernel_rfl)
  exact step_append_lies w hg s x 32 hop base IT i0 (.int .i64 0) 1 8 Tryz.underlying32 hi0 hz0 hz1 hz2 rfl (by decide) v n xs hs how ad 1 1 [c] hx rfl
    (fun j u hj => match j, hj with
      | 0, hj => by simp at hj; subst hj; exact hc
      | (j + 1), hj => by simp at hj) (fun u hu => by cases List.mem_singleton.1 hu; exact h1) (by decide) z1 z2 hb _ rfl (fun g cap w' h2 h3 h4 _ => h g cap w' h2 h3 h4)

set_option maxHeartbeats 2000000 in
set_option maxRecDepth 100000 in
theorem pList (hE : EC B g b o e) {P : Nat → Prop} {w : World} {V : Value} {s : PS} (h : At B g b o P w V s) (hk : (Gm.hd s).k ≠ 8) :
    Calls Tryz.prog 105 #[.pointer (some ⟨g, 0, none⟩)] w fun r w' => Rz B g b o P w V (Gm.list e s) iv r w' := by
  have H : Hid (St B g b o P w V w V s) := hidb h
  obtain ⟨R, hR⟩ : ∃ R, Gm.list e s = R := ⟨_, rfl⟩
  rw [hR]
  have HR := hidb hR.symm
  clear hR
  have HP := hidb h.plt
  have HK := hidb hk
  clear hk
  have HE := hidb hE
  clear h hE
  go_enter Tryz.func105, Tryz.ntmps105
  go_wp2_with (first
    | (go_at_call 36; refine (sNext H.out.at HK.out).mono ?_; rintro r1 wn ⟨t, s1, hq, rfl, hs⟩; have H := hidb (H.out.trans hs); have HR := hidb (HR.out.trans (Gm.bind_next hq)); have HW := hidb H.out.but.size; have HG := hidb H.out.glt; have HBB := hidb H.out.blt; have BX := hidb (Six.new wn NT (.int .i64 7) (.string ⟨#[]⟩) (.int .i64 0) (.float .f64 0) (.slice none 0 0) (.int .i64 (t.p : Int))); have H := hidb (H.out.hold (.cells #[.int .i64 7, .string ⟨#[]⟩, .int .i64 0, .float .f64 0, .slice none 0 0, .int .i64 (t.p : Int)] NT)); clear hs hq)
    | (go_at_call 69; refine (sIsU _ H.out.at).mono ?_; rintro r1 w1 ⟨u, hu, ⟨hq, rfl⟩ | ⟨hq, rfl⟩, hb⟩ <;> first | (have HR := hidb ((HR.out.trans (Gm.bind_here hu)).trans (Gm.ite_t hq)); have BX := hidb (BX.out.keep hb); obtain ⟨d0, d1, d2, d3, d4, d5, g0, g1, g2, g3, g4, g5, -⟩ := BX.out; have H := hidb (H.out.below hb); clear hb hq hu) | (have HR := hidb ((HR.out.trans (Gm.bind_here hu)).trans (Gm.ite_f (by simp [hq]))); have BX := hidb (BX.out.keep hb); obtain ⟨d0, d1, d2, d3, d4, d5, g0, g1, g2, g3, g4, g5, -⟩ := BX.out; have H := hidb (H.out.below hb); clear hb hq hu))
    | (go_at_call 33; refine (sNeed _ H.out.at).mono ?_; rintro r1 w1 (⟨er, q, hq, rfl, hbu⟩ | ⟨s1, hq, rfl, hs⟩) <;> first | (have BX := hidb (BX.out.step hs (by have := HG.out; omega) (H.out.npv wn.heap.size (by first | exact pv_self | exact .inl pv_self)).1); obtain ⟨d0, d1, d2, d3, d4, d5, g0, g1, g2, g3, g4, g5, -⟩ := BX.out; (try have HI := hidb (HI.out.step hs)); have H := hidb (H.out.trans hs); (first | (with_reducible have HR := hidb (HR.out.trans hq)) | have HR := hidb (HR.out.trans (Gm.bind_ok hq))); clear hs hq) | ((first | (with_reducible have HR := hidb (HR.out.trans hq)) | have HR := hidb (HR.out.trans (Gm.bind_err hq))); have HBU := hidb (but_then H.out.but H.out.own hbu); clear hq hbu))
    | (go_at_call 80; refine (pExprs HE.out Gm.noBound H.out.at).mono ?_; rintro r1 w1 (⟨er, q, hq, rfl, hbu⟩ | ⟨l, s1, V1, v, hq, rfl, hs, hs2, hi, hlen⟩) <;> first | (obtain ⟨la, lc, rfl⟩ := hi.sl; have HNE := hidb (fun e => (by have := (hi.own.lt _ e).1; have := BX.out.lt; omega) : (Value.slice la l.length lc).ownBlock ≠ some wn.heap.size); have BX := hidb (BX.out.step hs (by have := HG.out; omega) (H.out.npv wn.heap.size (by first | exact pv_self | exact .inl pv_self)).1); obtain ⟨d0, d1, d2, d3, d4, d5, g0, g1, g2, g3, g4, g5, -⟩ := BX.out; have HL2 := hidb hlen; have HI := hidb (((hi.rebase H.out.but.size)).poke (i := 4) HNE.out (.slice la l.length lc)); have BX := hidb (BX.out.set4 (.slice la l.length lc)); have H := hidb ((H.out.trans hs2).poke (k := wn.heap.size) (.inl pv_self) (by have := HW.out; omega) (by have := HBB.out; omega) 4 (.slice la l.length lc)); (first | (with_reducible have HR := hidb (HR.out.trans hq)) | have HR := hidb (HR.out.trans (Gm.bind_ok hq))); clear hs hs2 hi hq hlen) | ((first | (with_reducible have HR := hidb (HR.out.trans hq)) | have HR := hidb (HR.out.trans (Gm.bind_err hq))); have HBU := hidb (but_then H.out.but H.out.own hbu); clear hq hbu))
    | (go_at_call 51; refine (sTake _ H.out.at).mono ?_; rintro r1 w1 (⟨s1, hq, rfl, hs⟩ | ⟨hq, rfl, hs⟩) <;> first | (have HR := hidb (HR.out.trans (Gm.bind_t hq.1)); have BX := hidb (BX.out.step hs (by have := HG.out; omega) (H.out.npv wn.heap.size (by first | exact pv_self | exact .inl pv_self)).1); obtain ⟨d0, d1, d2, d3, d4, d5, g0, g1, g2, g3, g4, g5, -⟩ := BX.out; (try have HI := hidb (HI.out.step hs)); have H := hidb (H.out.trans hs); clear hs hq) | (have HR := hidb (HR.out.trans (Gm.bind_f hq)); have BX := hidb (BX.out.step hs (by have := HG.out; omega) (H.out.npv wn.heap.size (by first | exact pv_self | exact .inl pv_self)).1); obtain ⟨d0, d1, d2, d3, d4, d5, g0, g1, g2, g3, g4, g5, -⟩ := BX.out; (try have HI := hidb (HI.out.step hs)); have H := hidb (H.out.trans hs); clear hs hq))
    | (go_at_call 39; (first | refine (sLayR HR.out H.out.drop.drop.at (HI.out.lr HP.out)).mono ?_ | refine (sLayR HR.out H.out.drop.at (LR.none _ _ _ _)).mono ?_); rintro r1 w1 (⟨er, q, hq, rfl, hbu⟩ | ⟨z, s1, V1, hq, rfl, hs⟩) <;> first | (have H := hidb (H.out.drop.drop.trans hs); have HR := hidb hq; clear hs hq) | (have H := hidb (H.out.drop.trans hs); have HR := hidb hq; clear hs hq) | (have HR := hidb hq; have HBU := hidb (but_then H.out.but H.out.own hbu); clear hq hbu)))
  all_goals first
    | exact ⟨rfl, .inl ⟨_, _, HR.out, rfl, HBU.out⟩⟩
    | exact bodyPost_ret (v := iv z) (by simp [results, Tryz.results105, go_sem]) rfl (.inr ⟨_, _, _, HR.out, rfl, H.out⟩)
    | skip
  have hl := HL2.out
  have HY := hidb ((H.out.poke (k := wn.heap.size) (.inl pv_self) (by have := HW.out; omega) (by have := HBB.out; omega) 0 (.int .i64 8)).below (Below.drew (Below.refl _ _)))
  have HIY := hidb ((HI.out.poke (i := 0) HNE.out (.int .i64 8)).below (Below.drew (Below.refl _ _)))
  have BY := hidb ((BX.out.set0 (.int .i64 8)).keep (Below.drew (Below.refl _ _)))
  obtain ⟨x0, x1, x2, x3, x4, x5, y0, y1, y2, y3, y4, y5, -⟩ := BY.out
  have hc1 : l.length + 1 ≤ maxLen := by unfold maxLen; omega
  have hc2 : (l.length + 1) * 8 ≤ 140737488355328 := by omega
  go_region_law (first
    | (refine step_rz rfl (run_call ent_expr #[.tmp 19] _ rfl #[.pointer (some ⟨g, 0, none⟩)] rfl) (HE.out.run HY.out.at) (fun er q w' hq hbu => ⟨rfl, .inl ⟨_, _, HR.out.trans (Gm.bind_err hq), rfl, but_then HY.out.but HY.out.own hbu⟩⟩) ?_; intro x s3 V3 w3 hq hs; have B3 := hidb (BY.out.step hs (by have := HG.out; omega) (HY.out.npv wn.heap.size (by first | exact pv_self | exact .inl pv_self)).1); obtain ⟨m0, m1, m2, m3, m4, m5, n0, n1, n2, n3, n4, n5, -⟩ := B3.out; have ma4 := (B3.out.keep (below_new w3 (.cells #[.int .i64 (x : Int)] 3))).c4; have HI3 := hidb (HIY.out.step hs); have H3 := hidb (HY.out.trans hs); have HR3 := hidb (HR.out.trans (Gm.bind_ok hq)); have z4 : w.heap.size ≤ (w3.alloc (.cells #[iv x] IT)).heap.size := (by have := H3.out.but.size; simp; omega); clear hs hq)
    | (refine step_appI rfl (.tmp 18) (.tmp 21) rfl w.heap.size (Value.slice la l.length lc) l.length (l.map iv) rfl (HI3.out.own.alloc _) ⟨w3.heap.size, 0, none⟩ (iv x) rfl (app_ints _ _ _ rfl 0 _ rfl) rfl hc1 hc2 z4 ?_; intro q cap w4 hown hgrow hat; have hA2 : (Value.slice (some ⟨q, 0, none⟩) (l.length + 1) cap).ownBlock = (Value.slice la l.length lc).ownBlock ∨ (Value.slice (some ⟨q, 0, none⟩) (l.length + 1) cap).ownBlock = some (w3.heap.size + 1) := (hat.imp (fun h => h.symm) (fun h => by rw [h]; simp [Value.ownBlock])); have hN2 : (Value.slice (some ⟨q, 0, none⟩) (l.length + 1) cap).ownBlock ≠ some wn.heap.size := (fun e => hA2.elim (fun h => HNE.out (h ▸ e)) (fun h => by rw [h] at e; have := B3.out.lt; simp at e; omega)); obtain ⟨j1, j2⟩ := IR.app (xs := [x]) H3.out HI3.out hgrow hA2 hown; have HN2 := hidb hN2; have HI4 := hidb j1; have H4 := hidb j2; have B4 := hidb ((B3.out.keep (below_new _ _)).but (grown_but hgrow) (fun e => HNE.out e)); obtain ⟨k0, k1, k2, k3, k4, k5, o0, o1, o2, o3, o4, o5, -⟩ := B4.out; clear j1 j2 hown hgrow hat hA2 hN2))
  all_goals (
    have HI := hidb (HI4.out.poke (i := 4) HN2.out (.slice (some ⟨q, 0, none⟩) (l.length + 1) cap))
    have BX := hidb (B4.out.set4 (.slice (some ⟨q, 0, none⟩) (l.length + 1) cap))
    have H := hidb (H4.out.poke (k := wn.heap.size) (.inl pv_self) (by have := HW.out; omega) (by have := HBB.out; omega) 4 (.slice (some ⟨q, 0, none⟩) (l.length + 1) cap))
    have HR := hidb HR3.out
    go_wp2_with (first
      | (go_at_call 33; refine (sNeed _ H.out.at).mono ?_; rintro r1 w1 (⟨er, q, hq, rfl, hbu⟩ | ⟨s1, hq, rfl, hs⟩) <;> first | (have BX := hidb (BX.out.step hs (by have := HG.out; omega) (H.out.npv wn.heap.size (by first | exact pv_self | exact .inl pv_self)).1); obtain ⟨d0, d1, d2, d3, d4, d5, g0, g1, g2, g3, g4, g5, -⟩ := BX.out; (try have HI := hidb (HI.out.step hs)); have H := hidb (H.out.trans hs); (first | (with_reducible have HR := hidb (HR.out.trans hq)) | have HR := hidb (HR.out.trans (Gm.bind_ok hq))); clear hs hq) | ((first | (with_reducible have HR := hidb (HR.out.trans hq)) | have HR := hidb (HR.out.trans (Gm.bind_err hq))); have HBU := hidb (but_then H.out.but H.out.own hbu); clear hq hbu))
      | (go_at_call 39; (first | refine (sLayR HR.out H.out.drop.drop.at (HI.out.lr HP.out)).mono ?_ | refine (sLayR HR.out H.out.drop.at (LR.none _ _ _ _)).mono ?_); rintro r1 w1 (⟨er, q, hq, rfl, hbu⟩ | ⟨z, s1, V1, hq, rfl, hs⟩) <;> first | (have H := hidb (H.out.drop.drop.trans hs); have HR := hidb hq; clear hs hq) | (have H := hidb (H.out.drop.trans hs); have HR := hidb hq; clear hs hq) | (have HR := hidb hq; have HBU := hidb (but_then H.out.but H.out.own hbu); clear hq hbu)))
    all_goals first
      | exact ⟨rfl, .inl ⟨_, _, HR.out, rfl, HBU.out⟩⟩
      | exact bodyPost_ret (v := iv z) (by simp [results, Tryz.results105, go_sem]) rfl (.inr ⟨_, _, _, HR.out, rfl, H.out⟩))
end Go.Proofs.YtdpfmmbfidknfaaGreatDoor


