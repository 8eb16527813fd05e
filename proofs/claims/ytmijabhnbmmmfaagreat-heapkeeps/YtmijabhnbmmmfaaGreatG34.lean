import Derived.Test.YtmijabhnbmmmfaaGreatG33
import Derived.Test.YtmijabhnbmmmfaaGreatG32
import Derived.Deep.AppendLies
import Derived.Deep.RegionLaw
/- What a word that points may point to. -/
namespace Go.Proofs.YtmijabhnbmmmfaaGreat
open Go.RowKit Go.Deep
attribute [local go_sem] store_float f64bits f64frombits
attribute [local go_sem ↓] Go.wp_at_zero Go.wp_at_succ

abbrev zeroBlk : Value := .agg #[.slice none 0 0, .int .i64 0, .int .i64 0, .float .f64 0, .string ⟨#[]⟩, .slice none 0 0, .slice none 0 0, .int .u64 0]

section
variable {hb ab most : Nat} {ws : List Int} {L : List ByteArray} {F : List Nat} {a : Option Addr} {c : Nat}

set_option maxHeartbeats 1600000 in
theorem pair_none {w : World} (h : HP w hb ab most ws L F a c) (p : Int) (hp : p ≤ 1152921504606846976) (hl : (ws.length : Int) - 2 < p) :
    Calls Tryz.prog 84 #[.pointer (some ⟨hb, 0, none⟩), .int .i64 p] w fun e w' => e = .returned (.tuple #[zeroBlk, .bool false]) ∧ Below w.heap.size w w' := by
  have C1 := hidb (fun w' (hb' : Below w.heap.size w w') => hcut_no (h.keep hb') p 2 hp (by omega) (by omega))
  clear h hl hp
  go_enter Tryz.func84, Tryz.ntmps84
  go_wp2_with (go_at_call 97; refine (C1.out _ (below_new w _)).mono ?_; rintro e w' ⟨rfl, hw'⟩; obtain rfl := hw'.symm)
  all_goals exact bodyPost_ret (v := .tuple #[zeroBlk, .bool false]) (by simp [results, Tryz.results84, go_sem]) rfl ⟨rfl, by first | exact (below_new w _).drew | exact below_new w _⟩

set_option maxHeartbeats 1600000 in
set_option maxRecDepth 100000 in
theorem pair_bad {w : World} (h : HP w hb ab most ws L F a c) (g p : Nat) (ha : a = some ⟨g, 0, none⟩) (y : Int) (hy : ws[p + 1]? = some y) (y0 : 0 ≤ y) (y1 : y ≤ 18446744073709551615) (t4 : ¬ tagI y = 4) (t6 : ¬ tagI y = 6) :
    Calls Tryz.prog 84 #[.pointer (some ⟨hb, 0, none⟩), .int .i64 p] w fun e w' => e = .returned (.tuple #[zeroBlk, .bool false]) ∧ Below w.heap.size w w' := by
  obtain ⟨g1, e1, hgl, hl1, hc1⟩ := hp_cell h (p + 1) y hy
  rw [ha] at e1
  obtain rfl : g = g1 := by simpa using e1
  have C1 := hidb (fun w' (hb' : Below w.heap.size w w') => hcut_in (h.keep hb') g ha p 2 (by omega) (by omega))
  have TG := hidb (tag_any y y0 y1)
  have hcc : ∀ o, (w.alloc o).cell? ⟨g, p + 1, none⟩ = some (.int .u64 y) := fun o => hc1 _ (below_new w o)
  have hne1 : ¬ g = w.heap.size := by omega
  have hne2 : ¬ w.heap.size = g := by omega
  generalize tagI y = T at *
  have b4 : (T == 4) = false := by simpa using t4
  have b6 : (T == 6) = false := by simpa using t6
  have m4 : (T != 4) = true := by simpa using t4
  have m6 : (T != 6) = true := by simpa using t6
  clear h hy hc1
  go_enter Tryz.func84, Tryz.ntmps84
  go_wp2_with (first | (go_at_call 97; refine (C1.out _ (below_new w _)).mono ?_; rintro e w' ⟨rfl, hw'⟩; obtain rfl := hw'.symm) | (go_at_call 81; refine (TG.out _).mono ?_; rintro e w' ⟨rfl, hw'⟩; obtain rfl := hw'.symm))
  all_goals exact bodyPost_ret (v := .tuple #[zeroBlk, .bool false]) (by simp [results, Tryz.results84, go_sem]) rfl ⟨rfl, by first | exact (below_new w _).drew | exact below_new w _⟩

set_option maxHeartbeats 1600000 in
theorem box_none {w : World} (h : HP w hb ab most ws L F a c) (p : Int) (hp : p ≤ 1152921504606846976) (hl : (ws.length : Int) - 1 < p) :
    Calls Tryz.prog 85 #[.pointer (some ⟨hb, 0, none⟩), .int .i64 p] w fun e w' => e = .returned (.tuple #[zeroBlk, .bool false]) ∧ Below w.heap.size w w' := by
  have C1 := hidb (fun w' (hb' : Below w.heap.size w w') => hcut_no (h.keep hb') p 1 hp (by omega) (by omega))
  clear h hl hp
  go_enter Tryz.func85, Tryz.ntmps85
  go_wp2_with (go_at_call 97; refine (C1.out _ (below_new w _)).mono ?_; rintro e w' ⟨rfl, hw'⟩; obtain rfl := hw'.symm)
  all_goals exact bodyPost_ret (v := .tuple #[zeroBlk, .bool false]) (by simp [results, Tryz.results85, go_sem]) rfl ⟨rfl, below_new w _⟩

set_option maxHeartbeats 1600000 in
set_option maxRecDepth 100000 in
theorem box_fail {w : World} (h : HP w hb ab most ws L F a c) (g p n : Nat) (ha : a = some ⟨g, 0, none⟩) (hd : Int) (hw : ws[p]? = some hd) (d0 : 0 ≤ hd) (d1 : hd ≤ 18446744073709551615) (s0 : 0 ≤ hsI hd) (s1 : hsI hd ≤ 65536) (hn : lnN (hkI hd) (hsI hd) = n) (v : Value) (fits : Bool)
    (C20 : ∀ w', Below w.heap.size w w' → Calls Tryz.prog 97 #[.pointer (some ⟨hb, 0, none⟩), .int .i64 p, .int .i64 n] w' fun e w'' => e = .returned (.tuple #[v, .bool fits]) ∧ w'' = w') (hbad : isB hd = false ∨ lnB (hkI hd) (hsI hd) = false ∨ fits = false) :
    Calls Tryz.prog 85 #[.pointer (some ⟨hb, 0, none⟩), .int .i64 p] w fun e w' => e = .returned (.tuple #[zeroBlk, .bool false]) ∧ Below w.heap.size w w' := by
  obtain ⟨g1, e1, hgl, hl1, hc1⟩ := hp_cell h p hd hw
  rw [ha] at e1
  obtain rfl : g = g1 := by simpa using e1
  have C1 := hidb (fun w' (hb' : Below w.heap.size w w') => hcut_in (h.keep hb') g ha p 1 (by omega) (by omega))
  have C2 := hidb C20
  have WH := hidb (whead_any hd d0 d1)
  have LN := hidb (lengthOf_any (hkI hd) (hsI hd) s0 s1)
  rw [hn] at LN
  have hcc : ∀ o, (w.alloc o).cell? ⟨g, p, none⟩ = some (.int .u64 hd) := fun o => hc1 _ (below_new w o)
  clear h hw hn C20 hc1 s0 s1
  generalize lnB (hkI hd) (hsI hd) = B at *
  generalize isB hd = I at *
  generalize hkI hd = K at *
  generalize hsI hd = S at *
  cases I
  case false =>
    clear hbad
    go_enter Tryz.func85, Tryz.ntmps85
    go_wp2_with fail
    refine (C1.out _ (below_new w _)).mono ?_
    rintro e w' ⟨rfl, rfl⟩
    go_wp2_with (go_at_call 86; refine (WH.out _).mono ?_; rintro e w' ⟨rfl, rfl⟩)
    refine (LN.out _).mono ?_
    rintro e w' ⟨rfl, rfl⟩
    go_wp2_with fail
    refine (C2.out _ (below_new w _)).mono ?_
    rintro e w' ⟨rfl, rfl⟩
    go_wp2_with fail
    exact bodyPost_ret (v := .tuple #[zeroBlk, .bool false]) (by simp [results, Tryz.results85, go_sem]) rfl ⟨rfl, below_new w _⟩
  cases B
  case false =>
    clear hbad
    go_enter Tryz.func85, Tryz.ntmps85
    go_wp2_with fail
    refine (C1.out _ (below_new w _)).mono ?_
    rintro e w' ⟨rfl, rfl⟩
    go_wp2_with (go_at_call 86; refine (WH.out _).mono ?_; rintro e w' ⟨rfl, rfl⟩)
    refine (LN.out _).mono ?_
    rintro e w' ⟨rfl, rfl⟩
    go_wp2_with fail
    refine (C2.out _ (below_new w _)).mono ?_
    rintro e w' ⟨rfl, rfl⟩
    go_wp2_with fail
    exact bodyPost_ret (v := .tuple #[zeroBlk, .bool false]) (by simp [results, Tryz.results85, go_sem]) rfl ⟨rfl, below_new w _⟩
  obtain rfl : fits = false := by
    rcases hbad with h | h | h
    · cases h
    · cases h
    · exact h
  clear hbad
  go_enter Tryz.func85, Tryz.ntmps85
  go_wp2_with fail
  refine (C1.out _ (below_new w _)).mono ?_
  rintro e w' ⟨rfl, rfl⟩
  go_wp2_with (go_at_call 86; refine (WH.out _).mono ?_; rintro e w' ⟨rfl, rfl⟩)
  refine (LN.out _).mono ?_
  rintro e w' ⟨rfl, rfl⟩
  go_wp2_with fail
  refine (C2.out _ (below_new w _)).mono ?_
  rintro e w' ⟨rfl, rfl⟩
  go_wp2_with fail
  exact bodyPost_ret (v := .tuple #[zeroBlk, .bool false]) (by simp [results, Tryz.results85, go_sem]) rfl ⟨rfl, below_new w _⟩
end
end Go.Proofs.YtmijabhnbmmmfaaGreat


/- An append of a term, as a step of a drawn region. -/
namespace Go.Proofs.YtmijabhnbmmmfaaGreat
open Go.RowKit Go.Deep
attribute [local go_sem] store_float f64bits
attribute [local go_sem ↓] Go.wp_at_zero Go.wp_at_succ

theorem infoT5 : (Tryz.prog.info? 44).map (fun i => (i.zero, i.size, i.bytes)) = some (some (.agg #[.int .i64 0, .int .i64 0, .float .f64 0, .string ⟨#[]⟩, .slice none 0 0]), 5, 64) := by kernel_rfl

theorem step_app5 {ops : Array Oper} {o : Oper} {a : Act} {w : World} {K : Act → World → Prop} {Q : Exit → Act → World → Prop} {E : Prop} (hg : o.guard = none) (s x : Operand)
    (hop : o.op = Op.call { callee := .builtin .append, args := #[s, x], argTypes := #[42, 42] }) (base : Nat) (v : Value) (n : Nat) (xs : List Value) (hs : a.eval s = v) (how : w.ownsRow base 44 5 v n xs)
    (ad : Addr) (news : List Value) (hl : news.length = 5) (hx : a.eval x = .slice (some ad) 1 1) (hc : ∀ j u, news[j]? = some u → w.cell? (ad.add j) = some u) (h1 : ∀ u ∈ news, u.oneCell' = true) (z1 : n + 1 ≤ maxLen) (z2 : (n + 1) * 64 ≤ 140737488355328) (hb : base ≤ w.heap.size)
    (h : ∀ g cap w', w'.ownsRow base 44 5 (.slice (some ⟨g, 0, none⟩) (n + 1) cap) (n + 1) (xs ++ news) → w.grownBy w' v.ownBlock → (v.ownBlock = some g ∨ g = w.heap.size) → K (a.put o.dst (.slice (some ⟨g, 0, none⟩) (n + 1) cap)) w') :
    if Region.wanted o (yielded ops a.tmps) = true then Oper.wp Tryz.prog o a w K Q else E := by
  obtain ⟨i0, hi, hz0, hz1, hz2⟩ := info_parts infoT5
  exact step_append_lies w hg s x 42 hop base 44 i0 (.agg #[.int .i64 0, .int .i64 0, .float .f64 0, .string ⟨#[]⟩, .slice none 0 0]) 5 64 Tryz.underlying42 hi hz0 hz1 hz2 rfl (by decide) v n xs hs how ad 1 1 news hx (by omega)
    hc h1 (by decide) z1 z2 hb _ rfl (fun g cap w' h2 h3 h4 _ => h g cap w' h2 h3 h4)

theorem tr_one (t : Tr) : ∀ u ∈ t.cells, u.oneCell' = true := by
  obtain ⟨k, n, f, s, a, c, kids⟩ := t
  intro y hy
  simp only [Tr.cells, List.mem_cons, List.not_mem_nil, or_false] at hy
  rcases hy with rfl | rfl | rfl | rfl | rfl <;> rfl

theorem tr_len (t : Tr) : t.cells.length = 5 := by cases t; rfl

/-- A term that was told lies in no block of a row that was there. -/
theorem told_off {w w' : World} {base : Nat} {v : Value} {ds : List Tr} {t : Tr} (h : Rows w base v ds) (hb : base ≤ w.heap.size) (ht : t.In w' w.heap.size) : t.In w' base ∧ t.On (fun b => v.ownBlock ≠ some b ∧ b < w'.heap.size ∧ base ≤ b) := by
  refine ⟨in_mono hb t ht, on_mono (fun b hS => ⟨fun e => ?_, hS.1, by omega⟩) t (on_in t ht)⟩
  have := ownsRow_lt h.1 b e
  omega

abbrev Ent (f : Nat) : Prop := ∀ args w, (callFunc f args).run Tryz.prog w = .ok (.enter f args) w

theorem run_call {f : Nat} (ent : Ent f) {o : Oper} {a : Act} {w : World} (xs : Array Operand) (ts : Array TypeId) (hop : o.op = Op.call { callee := .value (.func f), args := xs, argTypes := ts }) (vs : Array Value) (hx' : xs.toList.map a.eval = vs.toList) :
    (execOp a.eval o).run Tryz.prog w = .ok (.enter f vs) w := by
  have hx : xs.map a.eval = vs := by apply Array.ext'; simpa using hx'
  unfold execOp
  rw [hop]
  have hf : a.eval (.func f) = ({ tmps := #[], defers := [] } : Act).eval (.func f) := rfl
  have ent2 := ent vs w
  simp only [resolve, hx, hf]
  go_simp

theorem ent_read : Ent 38 := by
  intro args w
  kernel_rfl

theorem step_call {f : Nat} {vs : Array Value} {ops : Array Oper} {o : Oper} {a : Act} {w : World} {K : Act → World → Prop} {Q : Exit → Act → World → Prop} {E : Prop} (hg : o.guard = none) (hrun : (execOp a.eval o).run Tryz.prog w = .ok (.enter f vs) w)
    {Post : Ending → World → Prop} (hc : Calls Tryz.prog f vs w Post) (h : ∀ e w', Post e w' → match e with | .returned v => K (a.put o.dst v) w' | .panicked c => Q (.panic c) a w' | .outgrown => LetsOut Q) :
    if Region.wanted o (yielded ops a.tmps) = true then Oper.wp Tryz.prog o a w K Q else E := by
  have hw : Region.wanted o (yielded ops a.tmps) = true := by simp [Region.wanted, hg]
  rw [if_pos hw]
  unfold Oper.wp
  rw [hrun, Oper.upon_enter]
  refine hc.mono fun e w'' hh => ?_
  have := h e w'' hh
  cases e <;> exact this

theorem step_read {vs : Array Value} {t : Tr} {ops : Array Oper} {o : Oper} {a : Act} {w : World} {K : Act → World → Prop} {Q : Exit → Act → World → Prop} {E : Prop} (hg : o.guard = none) (hrun : (execOp a.eval o).run Tryz.prog w = .ok (.enter 38 vs) w)
    (hc : Calls Tryz.prog 38 vs w fun e w' => ∃ t', e = .returned t'.val ∧ Same t t' ∧ t'.In w' w.heap.size ∧ Below w.heap.size w w')
    (hok : ∀ (k n : Int) (f : Nat) (s : ByteArray) (a2 : Option Addr) (c : Nat) (kids : List Tr) w', Same t (.mk k n f s a2 c kids) → (Tr.mk k n f s a2 c kids).In w' w.heap.size → Below w.heap.size w w' → K (a.put o.dst (.agg #[.int .i64 k, .int .i64 n, .float .f64 f, .string s, .slice a2 kids.length c])) w') :
    if Region.wanted o (yielded ops a.tmps) = true then Oper.wp Tryz.prog o a w K Q else E :=
  step_call hg hrun hc fun e w' hh => by
    obtain ⟨⟨k, n, f, s, a2, c, kids⟩, rfl, h1, h2, h3⟩ := hh
    exact hok k n f s a2 c kids w' h1 h2 h3
end Go.Proofs.YtmijabhnbmmmfaaGreat


