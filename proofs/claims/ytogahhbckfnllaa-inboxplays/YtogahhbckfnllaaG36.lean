import Derived.Test.YtogahhbckfnllaaG34
import Derived.LaidEqlPtr
import Derived.Test.YtogahhbckfnllaaG29
/- A message less, wherever the place is, walked. -/
namespace Go.Proofs.Ytogahhbckfnllaa
open Go.RowKit Go.Deep
attribute [local go_sem] store_float f64bits
attribute [local go_sem ↓] Go.wp_at_zero Go.wp_at_succ
variable {w : World} {bb place most puts : Nat} {ms : List Msg} {R : Nat → Prop}

set_option maxHeartbeats 1000000 in
set_option maxRecDepth 100000 in
theorem removeI (h : BX w bb ms place most puts R) {i : Nat} {m : Msg} (hm : ms[i]? = some m) (hpi : place ≠ i + 1) (hs : Small m.t) (hcn : cnT m.t ≤ 1000000000) (hl : ms.length ≤ 1000000) (hwd : wds ms ≤ 1000000000000) :
    Calls Try.prog 33 #[.pointer (some ⟨bb, 0, none⟩), .pointer (some ⟨m.b, 0, none⟩)] w fun e w' => ∃ (k' n' : Int) (f' : Nat) (s' : ByteArray) (a' : Option Addr) (c' : Nat) (kids' : List Tr), e = .returned (.agg #[.int .i64 k', .int .i64 n', .float .f64 f', .string s', .slice a' kids'.length c']) ∧ Sm m.t (.mk k' n' f' s' a' c' kids') ∧ (Tr.mk k' n' f' s' a' c' kids').In w' w.heap.size ∧ BX w' bb (ms.eraseIdx i) (rmP place i) most puts R ∧ But (BS bb ms) w w' := by
  have hpl : i < ms.length := (List.getElem?_eq_some_iff.1 hm).1
  have hmb := h.nb m (List.mem_of_getElem? hm)
  have hbm : ¬ bb = m.b := fun e => hmb e.symm
  have hX := h.keep (below_new w zT)
  have hB1 := (h.keep (below_new _ zT)).keep ((Below.refl _ _).drew)
  have hbl := h.box.2
  have hml := (h.msg _ m hm).2
  have HJ := hidb (hB1.joins i)
  have HE := hidb (hB1.erased_to (p2 := rmP place i) hm (rmP_prv ms hpi) (by have := h.pl; unfold rmP; split <;> omega))
  obtain ⟨c2, f2⟩ := hX.box.1 2 _ rfl
  obtain ⟨Lo, hLo, hpe⟩ : ∃ Lo, pt (prv ms place) = Value.pointer Lo ∧ (binOp .eql 54 (.pointer Lo) (.pointer (some ⟨m.b, 0, none⟩))).run Try.prog (w.alloc zT) = .ok (.bool false) (w.alloc zT) := by
    rcases prv_cases ms place with ⟨q, _⟩ | ⟨x, h0, hx, q⟩
    · rw [q]; exact ⟨none, rfl, by kernel_rfl⟩
    · rw [q]
      refine ⟨_, rfl, ?_⟩
      obtain ⟨cx, tx, ex⟩ := (hX.msg _ x hx).3
      obtain ⟨cm, tm, em⟩ := (hX.msg _ m hm).3
      obtain ⟨jG, hjG, hjs⟩ : ∃ j, Try.prog.info? GT = some j ∧ j.size ≠ 0 := by
        have hz : (Try.prog.info? GT).map (fun j => j.size) = some 10 := by kernel_rfl
        obtain ⟨j, hj⟩ : ∃ j, Try.prog.info? GT = some j := Option.isSome_iff_exists.1 (by kernel_rfl)
        rw [hj] at hz
        exact ⟨j, hj, by have e : j.size = 10 := by simpa using hz
                         omega⟩
      exact run_eql_ptr_other (P := Try.prog) (w.alloc zT) Try.underlying54 hjG hjs (fun e => h.apart hx hm (by omega) (congrArg Addr.block e)) ex em
  rw [hLo] at c2
  have a0 := ((hX.msg _ m hm).1 0 _ rfl).1
  have a0' := ((hB1.msg _ m hm).1 0 _ rfl).1
  have a1' := ((hB1.msg _ m hm).1 1 _ rfl).1
  have q3 := hB1.box.1 3 _ rfl
  have q4 := hB1.box.1 4 _ rfl
  have q7 := (hB1.msg _ m hm).1 7 _ rfl
  have q9 := (hB1.msg _ m hm).1 9 _ rfl
  have t0 := hB1.tr m (List.mem_of_getElem? hm)
  have hmr : ¬ R m.b := fun e => (hB1.far _ e).2.2 m (List.mem_of_getElem? hm) rfl
  have hbr : ¬ R bb := fun e => (hB1.far _ e).2.1 rfl
  have hAr : ¬ R (jA bb (prv ms i)).block := by
    rcases prv_cases ms i with ⟨q, _⟩ | ⟨x, _, hx, q⟩
    · rw [q]; exact hbr
    · rw [q]; exact fun e => (hB1.far _ e).2.2 x (List.mem_of_getElem? hx) rfl
  have hBr : ¬ R (jB bb (nxt ms i)).block := by
    rcases nxt_cases ms i with ⟨q, _⟩ | ⟨x, hx, q⟩
    · rw [q]; exact hbr
    · rw [q]; exact fun e => (hB1.far _ e).2.2 x (List.mem_of_getElem? hx) rfl
  have tE : m.t.In (rmW ((w.alloc zT).drew) bb ms i m) 0 := in_set1 (in_set1 (in_set1 (in_set1 (in_set1 t0.1 t0.2 hAr _) t0.2 hBr _) t0.2 hbr _) t0.2 hbr _) t0.2 hmr _
  have CP := hidb (fun W hb => copy_out (W := W) (in_below (w := rmW ((w.alloc zT).drew) bb ms i m) hb tE) hs hcn)
  have HBT : Hid (But (BS bb ms) w (rmW ((w.alloc zT).drew) bb ms i m)) := hidb (by
    have sA : BS bb ms (jA bb (prv ms i)).block := by
      rcases prv_cases ms i with ⟨q, _⟩ | ⟨x, _, hx, q⟩
      · rw [q]; exact .inl rfl
      · rw [q]; exact .inr ⟨x, List.mem_of_getElem? hx, rfl⟩
    have sB : BS bb ms (jB bb (nxt ms i)).block := by
      rcases nxt_cases ms i with ⟨q, _⟩ | ⟨x, hx, q⟩
      · rw [q]; exact .inl rfl
      · rw [q]; exact .inr ⟨x, List.mem_of_getElem? hx, rfl⟩
    have sb : BS bb ms bb := .inl rfl
    have sm : BS bb ms m.b := .inr ⟨m, List.mem_of_getElem? hm, rfl⟩
    exact ((((((But.refl _ w).alloc zT).drew.setCell (fun _ => sA) _).setCell (fun _ => sB) _).setCell (p := ⟨bb, 3, none⟩) (fun _ => sb) _).setCell (p := ⟨bb, 4, none⟩) (fun _ => sb) _).setCell (p := ⟨m.b, 9, none⟩) (fun _ => sm) _)
  have HSZ : Hid ((rmW ((w.alloc zT).drew) bb ms i m).heap.size = w.heap.size + 1) := hidb (by simp [rmW, World.setCell])
  have AZ := At.new w [.int .i64 0, .int .i64 0, .float .f64 0, .string ⟨#[]⟩, .slice none 0 0] 36
  replace AZ := AZ.keep ((Below.refl _ _).drew)
  have hltm : ∀ x : Msg, x ∈ ms → x.b < w.heap.size := fun x hx => by
    obtain ⟨i, hi⟩ := List.getElem?_of_mem hx
    exact (h.msg i x hi).2
  have AZ2 := (AZ.other (p := jA bb (prv ms i)) (by
    rcases prv_cases ms i with ⟨q, _⟩ | ⟨x, _, hx, q⟩
    · rw [q]; exact Nat.ne_of_lt hbl
    · rw [q]; exact Nat.ne_of_lt (hltm x (List.mem_of_getElem? hx))) (pt (nxt ms i))).other (p := jB bb (nxt ms i)) (by
    rcases nxt_cases ms i with ⟨q, _⟩ | ⟨x, hx, q⟩
    · rw [q]; exact Nat.ne_of_lt hbl
    · rw [q]; exact Nat.ne_of_lt (hltm x (List.mem_of_getElem? hx))) (pt (prv ms i))
  have HFR : Hid (∀ q, R q → q ≠ w.heap.size) := hidb (fun q hq => by have := (h.far q hq).1; omega)
  have HBS : Hid (∀ q, BS bb (ms.eraseIdx i) q → q ≠ w.heap.size) := hidb (by
    rintro q (e | ⟨x, hx, e⟩)
    · omega
    · have := hltm x (List.mem_of_mem_eraseIdx hx)
      omega)
  have hwb : ¬ w.heap.size = bb := by omega
  have hwm : ¬ w.heap.size = m.b := by omega
  have hjA : (jA bb (prv ms i)).block ≠ m.b := by
    rcases prv_cases ms i with ⟨q, _⟩ | ⟨x, h1, hx, q⟩
    · rw [q]; exact hbm
    · rw [q]; exact hB1.apart hx hm (by omega)
  have hjB : (jB bb (nxt ms i)).block ≠ m.b := by
    rcases nxt_cases ms i with ⟨q, _⟩ | ⟨x, hx, q⟩
    · rw [q]; exact hbm
    · rw [q]; exact hB1.apart hx hm (by omega)
  have hm2 := ((hB1.msg _ m hm).other hjA (pt (nxt ms i))).other hjB (pt (prv ms i))
  have n0 := (hm2.1 0 _ rfl).1
  have n1 := (hm2.1 1 _ rfl).1
  clear hm2 hjA hjB
  have y2 := (hB1.msg _ m hm).1 2 _ rfl
  have y3 := (hB1.msg _ m hm).1 3 _ rfl
  have y4 := (hB1.msg _ m hm).1 4 _ rfl
  have y5 := (hB1.msg _ m hm).1 5 _ rfl
  have y6 := (hB1.msg _ m hm).1 6 _ rfl
  have hwle : m.wd ≤ wds ms := by have := wds_erase ms i m hm; omega
  unfold rmW at HE CP HBT HSZ
  obtain ⟨Po, hPo⟩ : ∃ o, pt (prv ms i) = Value.pointer o := ⟨_, rfl⟩
  obtain ⟨No, hNo⟩ : ∃ o, pt (nxt ms i) = Value.pointer o := ⟨_, rfl⟩
  generalize pt (prv ms i) = P at *
  generalize pt (nxt ms i) = Nx at *
  subst hPo hNo
  have jo := fun (b k : Nat) (hk : 2 ≤ k) => join_off (bb := bb) (W := (w.alloc zT).drew) (o1 := prv ms i) (o2 := nxt ms i) (u := .pointer No) (v := .pointer Po) (b := b) hk
  have e3 := (jo bb 3 (by omega)).trans q3.1
  have e4 := (jo bb 4 (by omega)).trans q4.1
  have e7 := (jo m.b 7 (by omega)).trans q7.1
  have e9 := (jo m.b 9 (by omega)).trans q9.1
  have z2 := (jo m.b 2 (by omega)).trans y2.1
  have z3 := (jo m.b 3 (by omega)).trans y3.1
  have z4 := (jo m.b 4 (by omega)).trans y4.1
  have z5 := (jo m.b 5 (by omega)).trans y5.1
  have z6 := (jo m.b 6 (by omega)).trans y6.1
  have g3 : (((w.alloc zT).drew.setCell (jA bb (prv ms i)) (.pointer No)).setCell (jB bb (nxt ms i)) (.pointer Po)).frozen? ⟨bb, 3, none⟩ = false := by rw [World.frozen?_setCell, World.frozen?_setCell]; exact q3.2
  have g4 : (((w.alloc zT).drew.setCell (jA bb (prv ms i)) (.pointer No)).setCell (jB bb (nxt ms i)) (.pointer Po)).frozen? ⟨bb, 4, none⟩ = false := by rw [World.frozen?_setCell, World.frozen?_setCell]; exact q4.2
  have g9 : (((w.alloc zT).drew.setCell (jA bb (prv ms i)) (.pointer No)).setCell (jB bb (nxt ms i)) (.pointer Po)).frozen? ⟨m.b, 9, none⟩ = false := by rw [World.frozen?_setCell, World.frozen?_setCell]; exact q9.2
  generalize ((w.alloc zT).drew.setCell (jA bb (prv ms i)) (.pointer No)).setCell (jB bb (nxt ms i)) (.pointer Po) = W2 at *
  have HAZ := hidb AZ2
  clear AZ AZ2 hltm
  have hlw : IntKind.i64.wrap ((ms.length : Int) - 1) = ((ms.length - 1 : Nat) : Int) := by rw [IntKind.wrap_i64]; omega
  have hww : IntKind.i64.wrap ((wds ms : Int) - (m.wd : Int)) = ((wds ms - m.wd : Nat) : Int) := by rw [IntKind.wrap_i64]; omega
  generalize hL1 : ((ms.length - 1 : Nat) : Int) = L1 at *
  generalize hD1 : ((wds ms - m.wd : Nat) : Int) = D1 at *
  clear h hX hB1 hs hcn t0 hmr hbr hAr hBr tE q3 q4 q7 q9 y2 y3 y4 y5 y6 jo hL1 hD1 hm hmb
  go_enter Try.func33, Try.ntmps33
  have HS1 := hidb (And.intro a0' a1')
  have HS2 := hidb (And.intro n0 n1)
  clear a0' a1' n0 n1
  go_wp2_with fail
  go_region_held3 (fun w' => w'.cell? ⟨m.b, 0, none⟩ = some (.pointer Po) ∧ w'.cell? ⟨m.b, 1, none⟩ = some (.pointer No)) (first | with_reducible exact HS1.out | with_reducible exact HS2.out) (first
    | (go_at_call 42; refine HJ.out.mono ?_; rintro e w' ⟨rfl, hw'⟩; obtain rfl := hw'.symm))
  go_wp2_with fail
  go_region
  all_goals go_wp2_with (first
    | (go_at_call 29; refine (CP.out _ ((Below.refl _ _).drew)).mono ?_; rintro e w4 ⟨k', n', f', s', a', c', kids', rfl, hst, hti, hb4⟩; have AZ4 := ((((HAZ.out.other (p := ⟨bb, 3, none⟩) (fun e => hwb e.symm) (.int .i64 L1)).other (p := ⟨bb, 4, none⟩) (fun e => hwb e.symm) (.int .i64 D1)).other (p := ⟨m.b, 9, none⟩) (fun e => hwm e.symm) (.bool true)).keep ((Below.refl _ _).drew)).keep hb4; obtain ⟨r0, g0⟩ := AZ4.1 0 _ rfl; obtain ⟨r1, g1⟩ := AZ4.1 1 _ rfl; obtain ⟨r2, g2⟩ := AZ4.1 2 _ rfl; obtain ⟨r3, g3'⟩ := AZ4.1 3 _ rfl; obtain ⟨r4, g4'⟩ := AZ4.1 4 _ rfl; have HK4 := hidb ((HE.out.keep ((Below.refl _ _).drew)).keep hb4); have HTI := hidb hti; have HST := hidb hst; have HB4 := hidb (HBT.out.drew.trans (But.of_below (S := BS bb ms) hb4)); clear hti hst hb4 AZ4))
  all_goals
    have HF := hidb (next_fin2 (w := w) (S := BS bb ms) (u0 := .int .i64 k') (u1 := .int .i64 n') (u2 := .float .f64 f') (u3 := .string s') (u4 := .slice a' kids'.length c') HK4.out HTI.out HB4.out HFR.out HBS.out (by have := HSZ.out; show w.heap.size < _; exact Nat.lt_of_lt_of_eq (Nat.lt_succ_self _) this.symm))
    exact bodyPost_ret (v := .agg #[.int .i64 k', .int .i64 n', .float .f64 f', .string s', .slice a' kids'.length c']) (by simp [results, Try.results33, go_sem, r0, r1, r2, r3, r4]) rfl ⟨k', n', f', s', a', c', kids', rfl, HST.out, HF.out.1, HF.out.2.1, HF.out.2.2⟩
end Go.Proofs.Ytogahhbckfnllaa


/- A loop over an iterator that hands over what lies in memory. -/
namespace Go.Proofs.Ytogahhbckfnllaa
open Go.RowKit Go.Shelf

/-- An iterator: whatever body keeps all but blocks of M, and the c blocks that the iterator lays at its beginning, may be handed to it. -/
def SeqW {α : Type} (P : Program) (g : Nat) (lb : Array Value) (encs : α → Array Value) (Ok : List α → α → World → Prop) (M : Nat → Prop) (c : Nat) (S Sp : List α → Prop) (N : Nat) (w : World) : Prop :=
  ∀ (l : Nat) (J Jx : List α → World → Prop) (W : World), Below w.heap.size w W → OwnFrom W.heap.size J → OwnFrom W.heap.size Jx →
    (∀ pre x W1, Ok pre x W1 → J pre W1 → pre.length < N → W.heap.size + c ≤ W1.heap.size → YieldAt Fence.wide 0 P l (encs x) W1 fun e W' => But (fun k => M k ∧ (k < W.heap.size ∨ W.heap.size + c ≤ k)) W1 W' ∧
      ((e = .returned (.bool true) ∧ J (pre ++ [x]) W') ∨ (e = .returned (.bool false) ∧ Jx (pre ++ [x]) W'))) →
    J [] W →
    CallsIn Fence.wide 0 P g (#[.func (.yield l) #[] #[]] ++ lb) W fun e W' => (∃ v, e = .returned v) ∧ ((∃ xs, S xs ∧ J xs W') ∨ (∃ pre, Sp pre ∧ Jx pre W'))

set_option maxHeartbeats 1000000 in
theorem range_w {α : Type} {P : Program} {g : Operand} {ps : Array Tmp} {assign body : Code} {Q : Exit → Act → World → Prop} {a : Act} {w : World}
    {gf : Nat} {lb : Array Value} (hg : a.eval g = .func (.func gf) #[] lb) (eg : ∀ args w, (callFunc gf args).run P w = .ok (.enter gf args) w)
    {encs : α → Array Value} {Ok : List α → α → World → Prop} {M : Nat → Prop} {c : Nat} {S Sp : List α → Prop} {N : Nat} {w0 : World} (hseq : SeqW P gf lb encs Ok M c S Sp N w0) (hM : ∀ k, w.heap.size ≤ k → M k) (hb0 : Below w0.heap.size w0 w) (hps : ∀ x, (encs x).size = ps.size)
    (I : List α → World → Prop) (Ix : Code → List α → World → Prop) (hI : OwnFrom w.heap.size I) (hIx : ∀ c, OwnFrom w.heap.size (Ix c)) (h0 : I [] w) (H : List α × α × Act → World → Prop) (hH : OwnFrom w.heap.size H)
    (hround : ∀ (l : Nat) (pre : List α) (x : α) (W : World), Ok pre x W → pre.length < N → I pre W → w.heap.size + 2 + c ≤ W.heap.size →
      assign.wpIn (Fence.wide.inRound l) 0 P (Exit.then (fun a' W' => Below W.heap.size W W' ∧ H (pre, x, a') W' ∧ ∀ W1, H (pre, x, a') W1 → w.heap.size + 2 + c ≤ W1.heap.size → body.wpIn (Fence.wide.inRound l) 0 P (postO M c w.heap.size I Ix (pre ++ [x]) W1) a' W1) (fun _ _ _ => False)) { tmps := (ps.zip (encs x)).foldl (fun t (p, v) => t.setIfInBounds p v) a.tmps, defers := [] } W)
    (hdone : ∀ (D : Nat) (xs : List α) (W : World), w.heap.size ≤ D → S xs → I xs W → W.heap[D]? = some (.deferred (some [])) → Q .normal { a with defers := { target := .collected D, args := #[] } :: a.defers } W)
    (hstop : ∀ (D : Nat) (c : Code) (pre : List α) (W : World), w.heap.size ≤ D → Sp pre → Ix c pre W → W.heap[D]? = some (.deferred (some [])) → c.wp P Q { a with defers := { target := .collected D, args := #[] } :: a.defers } W) :
    (Code.rangeFunc g ps assign body).wp P Q a w := by
  refine (wpIn_wide (n := 0)).1 (wpIn_rangeFunc ?_)
  intro fn hfn
  rw [Fence.wide_round]
  obtain ⟨rec, hrec⟩ : ∃ rec : LoopState → Option Code → Loop, rec = fun st pe => { state := st, pending := pe, fn, tmps := a.tmps, params := ps, assign, body, defers := w.heap.size } := ⟨_, rfl⟩
  obtain ⟨W1, hW1⟩ : ∃ W1, (w.alloc (.deferred (some []))).alloc (.loop (rec .ready none)) = W1 := ⟨_, rfl⟩
  have hsz : W1.heap.size = w.heap.size + 2 := by rw [← hW1]; simp
  have hL1 : W1.heap[w.heap.size + 1]? = some (.loop (rec .ready none)) := by
    rw [← hW1]; have := World.alloc_heap_new (w.alloc (.deferred (some []))) (.loop (rec .ready none)); rwa [World.size_alloc] at this
  have hK1 : W1.heap[w.heap.size]? = some (.deferred (some [])) := by
    rw [← hW1]; exact (Below.heap_alloc _ _ _ (by simp)).trans (World.alloc_heap_new w _)
  have hI1 : I [] W1 := by rw [← hW1]; exact hI.alloc _ (hI.alloc _ h0)
  have hb1 : Below w0.heap.size w0 W1 := by
    rw [← hW1]; exact hb0.trans ((((Below.refl _ w).alloc (Nat.le_refl _) _).alloc (by simp) _).mono hb0.size)
  refine ⟨w.heap.size + 1, [{ target := .collected w.heap.size, args := #[] }], W1, { target := .fn (.func gf) lb, args := #[.func (.yield (w.heap.size + 1)) #[] #[]] }, W1, gf,
    #[.func (.yield (w.heap.size + 1)) #[] #[]] ++ lb, W1, ?_, ?_, ?_, ?_, (fun h => by cases h), ?_⟩
  · rw [← hW1, hrec]; exact run_enterLoop_outer _ _ _ _ _
  · simp only [resolve, hg]
    simp [go_sem]
  · intro f' hf'; trivial
  · simp [invoke, go_sem, eg]
  · have keep : ∀ {A B : World} {row : Option Nat} {k : Nat} {o : Obj}, A.grownBy B row → (∀ r, row = some r → W1.heap.size ≤ r ∧ ∃ o : Obj, A.heap[r]? = some o ∧ o.isCells = false) → k < w.heap.size + 2 → A.heap[k]? = some o → B.heap[k]? = some o := fun hg' hr hk h =>
      (hg'.block _ (Array.getElem?_eq_some_iff.1 h).1 (fun e => by have := (hr _ e.symm).1; omega)).trans h
    have hnw : ∀ {A : World} {row : Option Nat}, (∀ r, row = some r → W1.heap.size ≤ r ∧ ∃ o : Obj, A.heap[r]? = some o ∧ o.isCells = false) → (∀ r, row = some r → w.heap.size ≤ r ∧ ∃ o : Obj, A.heap[r]? = some o ∧ o.isCells = false) :=
      fun hr r e => ⟨by have := (hr r e).1; omega, (hr r e).2⟩
    refine (hseq (w.heap.size + 1)
      (fun pre W => I pre W ∧ W.heap[w.heap.size + 1]? = some (.loop (rec .ready none)) ∧ W.heap[w.heap.size]? = some (.deferred (some [])))
      (fun pre W => ∃ c, Ix c pre W ∧ W.heap[w.heap.size + 1]? = some (.loop (rec .done (some c))) ∧ W.heap[w.heap.size]? = some (.deferred (some [])))
      W1 hb1
      (fun s A B row hs hg' hr => ⟨hI s A B row hs.1 hg' (hnw hr), keep hg' hr (by omega) hs.2.1, keep hg' hr (by omega) hs.2.2⟩)
      (fun s A B row hs hg' hr => by
        obtain ⟨c, hc, hl, hk⟩ := hs
        exact ⟨c, hIx c s A B row hc hg' (hnw hr), keep hg' hr (by omega) hl, keep hg' hr (by omega) hk⟩)
      ?_ ⟨hI1, hL1, hK1⟩).mono ?_
    · -- one round
      rintro pre x W hok ⟨hi, hl, hk⟩ hlen hszW
      have hlt : w.heap.size + 1 < W.heap.size := (Array.getElem?_eq_some_iff.1 hl).1
      have hy := run_yield (P := P) (args := encs x) hl (by rw [hrec]; exact hps x)
      rw [hrec] at hy
      refine ⟨fn, _, assign, body, hy, roundIn_of_wpIn hfn (wpIn_mono (hround _ pre x W hok hlen hi (by omega)) ?_)⟩
      rintro e0 a₁ W₀ hx0
      cases e0 with
      | ret => exact hx0.elim
      | exit id => exact hx0.elim
      | goto t => exact hx0.elim
      | panic _ => exact hx0.elim
      | outgrown => exact hx0.elim
      | normal =>
      obtain ⟨hb0', hh, hbody⟩ := hx0
      have hlA : W₀.heap[w.heap.size + 1]? = some (.loop (rec .ready none)) := ((But.of_below (S := fun _ => False) hb0').block _ hlt id).trans hl
      have hkA : W₀.heap[w.heap.size]? = some (.deferred (some [])) := ((But.of_below (S := fun _ => False) hb0').block _ (by omega) id).trans hk
      have hltA : w.heap.size + 1 < W₀.heap.size := (Array.getElem?_eq_some_iff.1 hlA).1
      refine ⟨_, run_beginRound hlA (by rw [hrec]), ?_⟩
      have hl2 : (W₀.putObj (w.heap.size + 1) (.loop { rec .ready none with state := .busy })).heap[w.heap.size + 1]? = some (.loop { rec .ready none with state := .busy }) := World.putObj_heap_same hltA
      have hk2 : (W₀.putObj (w.heap.size + 1) (.loop { rec .ready none with state := .busy })).heap[w.heap.size]? = some (.deferred (some [])) := (World.putObj_heap_other (by omega)).trans hkA
      have hw2 : But (fun k => M k ∧ (k < W1.heap.size ∨ W1.heap.size + c ≤ k)) W (W₀.putObj (w.heap.size + 1) (.loop { rec .ready none with state := .busy })) := (But.of_below hb0').trans (But.putObj _ _ _ (fun _ => ⟨hM _ (by omega), by omega⟩))
      have hszA := hb0'.size
      refine wpIn_mono (hbody _ (hH.putObj _ hh (by omega) hlA rfl) (Nat.le_trans (by omega) (grownBy_putObj' W₀ _ _).size)) ?_
      have fin : ∀ (jump : Option Code) (W3 : World), But (fun k => M k ∧ (k < w.heap.size ∨ w.heap.size + 2 + c ≤ k)) (W₀.putObj (w.heap.size + 1) (.loop { rec .ready none with state := .busy })) W3 →
          (Instr.endRound (w.heap.size + 1) jump).run P W3 = .ok (.bool jump.isNone) (W3.putObj (w.heap.size + 1) (.loop (rec (if jump.isNone then .ready else .done) jump))) ∧
          W3.heap[w.heap.size + 1]? = some (.loop { rec .ready none with state := .busy }) ∧
          (W3.putObj (w.heap.size + 1) (.loop (rec (if jump.isNone then .ready else .done) jump))).heap[w.heap.size + 1]? = some (.loop (rec (if jump.isNone then .ready else .done) jump)) ∧
          (W3.putObj (w.heap.size + 1) (.loop (rec (if jump.isNone then .ready else .done) jump))).heap[w.heap.size]? = some (.deferred (some [])) ∧
          But (fun k => M k ∧ (k < W1.heap.size ∨ W1.heap.size + c ≤ k)) W (W3.putObj (w.heap.size + 1) (.loop (rec (if jump.isNone then .ready else .done) jump))) := fun jump W3 hk3 => by
        have hl3 := (hk3.block _ (Array.getElem?_eq_some_iff.1 hl2).1 (by omega)).trans hl2
        have hd3 := (hk3.block _ (Array.getElem?_eq_some_iff.1 hk2).1 (by omega)).trans hk2
        have := run_endRound (P := P) jump hl3
        rw [hrec] at this ⊢
        exact ⟨this, by rw [hrec] at hl3; exact hl3, World.putObj_heap_same (Array.getElem?_eq_some_iff.1 hl3).1, (World.putObj_heap_other (by omega)).trans hd3, by rw [hrec] at hw2 hk3; exact (hw2.trans (hk3.mono (fun k _ h => ⟨h.1, by have := h.2; omega⟩))).trans (But.putObj _ _ _ (fun _ => ⟨hM _ (by omega), by omega⟩))⟩
      rintro e a3 W3 hp
      cases e with
      | normal =>
        obtain ⟨hk3, hi3⟩ := hp
        obtain ⟨hr, hl3, hl4, hk4, hb4⟩ := fin none W3 hk3
        exact ⟨_, _, hr, hb4, .inl ⟨rfl, hI.putObj _ hi3 (by omega) hl3 rfl, hl4, hk4⟩⟩
      | ret =>
        obtain ⟨hk3, hi3⟩ := hp
        obtain ⟨hr, hl3, hl4, hk4, hb4⟩ := fin (some .ret) W3 hk3
        exact ⟨_, _, hr, hb4, .inr ⟨rfl, .ret, (hIx _).putObj _ hi3 (by omega) hl3 rfl, hl4, hk4⟩⟩
      | exit id =>
        obtain ⟨hk3, hi3⟩ := hp
        obtain ⟨hr, hl3, hl4, hk4, hb4⟩ := fin (some (.exit id)) W3 hk3
        exact ⟨_, _, hr, hb4, .inr ⟨rfl, .exit id, (hIx _).putObj _ hi3 (by omega) hl3 rfl, hl4, hk4⟩⟩
      | goto t =>
        obtain ⟨hk3, hi3⟩ := hp
        obtain ⟨hr, hl3, hl4, hk4, hb4⟩ := fin (some (.goto t)) W3 hk3
        exact ⟨_, _, hr, hb4, .inr ⟨rfl, .goto t, (hIx _).putObj _ hi3 (by omega) hl3 rfl, hl4, hk4⟩⟩
      | panic ch => exact hp.elim
      | outgrown => exact hp.elim
    · -- behind the iterator
      rintro e W2 ⟨⟨v, rfl⟩, (⟨xs, hS, hi, hl, hk⟩ | ⟨pre, hSp, c, hi, hl, hk⟩)⟩
      · exact ⟨none, _, by have := run_endLoop (P := P) hl (by rw [hrec]; simp); rw [hrec] at this; exact this, hdone _ xs _ (Nat.le_refl _) hS (hI.putObj _ hi (by omega) hl rfl) ((World.putObj_heap_other (by omega)).trans hk)⟩
      · exact ⟨some c, _, by have := run_endLoop (P := P) hl (by rw [hrec]; simp); rw [hrec] at this; exact this, wpIn_wide.2 (hstop _ c pre _ (Nat.le_refl _) hSp ((hIx c).putObj _ hi (by omega) hl rfl) ((World.putObj_heap_other (by omega)).trans hk))⟩


end Go.Proofs.Ytogahhbckfnllaa


