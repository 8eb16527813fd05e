import Derived.Test.YtdpfmmbfidknfaaGreatDoorG04
import Derived.Test.YtdpfmmbfidknfaaGreatDoorG08
import Derived.Deep.WholeRow
/- A builder of strings. -/
namespace Go.Proofs.YtdpfmmbfidknfaaGreatDoor
open Go.RowKit Go.Lib

set_option maxHeartbeats 1000000 in
set_option maxRecDepth 100000 in
theorem copyCheck_used (b : Nat) (w : World) (h0 : w.cell? ⟨b, 0, none⟩ = some (.pointer (some ⟨b, 0, none⟩))) :
    Calls Tryz.prog 76 #[.pointer (some ⟨b, 0, none⟩)] w fun e w' => e = .returned (.tuple #[]) ∧ w' = w := by
  obtain ⟨j, hj, _⟩ := Option.map_eq_some_iff.1 Tryz.Builder_Extra_169.sizeBuilder
  go_enter Tryz.func76, Tryz.ntmps76
  go_wp2_with fail
  rw [Lib.run_neq_ptr_same w _ Tryz.underlying97 hj]
  go_wp2
  go_end0
  exact ⟨rfl, rfl⟩

set_option maxHeartbeats 1000000 in
set_option maxRecDepth 100000 in
theorem copyCheck_fresh (b : Nat) (w : World) (h0 : w.cell? ⟨b, 0, none⟩ = some (.pointer none)) (hsh : w.shape? b = some (99, 2)) (hfz : w.frozen? ⟨b, 0, none⟩ = false) :
    Calls Tryz.prog 76 #[.pointer (some ⟨b, 0, none⟩)] w fun e w' => e = .returned (.tuple #[]) ∧ w' = w.setCell ⟨b, 0, none⟩ (.pointer (some ⟨b, 0, none⟩)) := by
  obtain ⟨j, hj, hjs⟩ := Option.map_eq_some_iff.1 Tryz.Builder_Extra_169.sizeBuilder
  go_enter Tryz.func76, Tryz.ntmps76
  go_wp2_with fail
  rw [Lib.run_to_unsafe w ⟨b, 0, none⟩ Tryz.underlying97 Tryz.underlying119 hj (by rw [hjs]; decide) hsh (Nat.zero_lt_succ 1)]
  simp only [Result.andThen]
  rw [Oper.upon_value]
  go_wp2_with fail
  rw [run_callFunc_extern Tryz.func81 (by kernel_rfl) (by kernel_rfl) (by kernel_rfl) (e := Extern.AbiNoEscape.same) (by kernel_rfl)]
  rw [Lib.run_noEscape]
  simp only [Result.andThen]
  rw [Oper.upon_value]
  go_wp2_with fail
  rw [Lib.run_from_unsafe w ⟨b, 0, none⟩ Tryz.underlying119 Tryz.underlying97 hj hsh Tryz.Builder_Extra_169.liesBuilder]
  simp only [Result.andThen]
  rw [Oper.upon_value]
  go_wp2
  go_end0
  exact ⟨rfl, rfl⟩

abbrev TB : Nat := 99
abbrev TU : Nat := 5

/-- What a builder's two cells are. -/
theorem bd_cells {b : Nat} {p v : Value} {w : World} (h : w.heap[b]? = some (.cells #[p, v] TB (0, 0))) : w.cell? ⟨b, 0, none⟩ = some p ∧ w.cell? ⟨b, 1, none⟩ = some v ∧ w.frozen? ⟨b, 1, none⟩ = false ∧ b < w.heap.size :=
  ⟨by rw [Lib.cell_of_heap h]; rfl, by rw [Lib.cell_of_heap h]; rfl, Lib.frozen_of_heap h 1, (Array.getElem?_eq_some_iff.1 h).1⟩

theorem copyCheck_k (B b : Nat) (bs : List Value) (w : World) (h : Lib.IsBuilderF TB TU B b bs w) :
    Calls Tryz.prog 76 #[.pointer (some ⟨b, 0, none⟩)] w fun e w' => e = .returned (.tuple #[]) ∧ (Lib.BuilderAtF TB TU B b (.pointer (some ⟨b, 0, none⟩)) bs w' ∧ Below B w w' ∧ Lib.OthersKept TU (some b) w w') := by
  rcases h with h | h
  · refine (copyCheck_fresh b w h.cell0 h.shape h.frozen0).mono fun e w' hx => ?_
    rw [hx.2]
    exact ⟨hx.1, h.used _, (Below.refl B w).setCell (p := ⟨b, 0, none⟩) h.1 _, (Lib.OthersKept.refl _ _ w).setCell ⟨b, 0, none⟩ rfl _⟩
  · refine (copyCheck_used b w h.cell0).mono fun e w' hx => ?_
    rw [hx.2]
    exact ⟨hx.1, h, Below.refl B _, Lib.OthersKept.refl _ _ _⟩

set_option maxHeartbeats 2000000 in
set_option maxRecDepth 100000 in
theorem writeByte_k (B b : Nat) (bs : List Value) (c : Int) (w : World) (h : Lib.IsBuilderF TB TU B b bs w) (hlen : bs.length + 1 ≤ 1000000) (hBw : B ≤ w.heap.size) :
    Calls Tryz.prog 67 #[.pointer (some ⟨b, 0, none⟩), .int .u8 c] w fun e w' => e = .returned .nilIface ∧ (Lib.BuilderAtF TB TU B b (.pointer (some ⟨b, 0, none⟩)) (bs ++ [.int .u8 c]) w' ∧ Below B w w' ∧ Lib.OthersKept TU (some b) w w') := by
  obtain ⟨i0, hi, hz0, hz1, hz2⟩ := info_parts Tryz.Builder_Extra_169.infoByte
  go_enter Tryz.func67, Tryz.ntmps67
  go_wp2_with (go_at_call 76; refine (copyCheck_k B b bs _ h).mono ?_)
  rintro e w1 ⟨rfl, ⟨hB, v, hbk, hown, hne⟩, hb1, hk1⟩
  obtain ⟨c0, c1, -, hlt⟩ := bd_cells hbk
  have hz := hb1.size
  go_wp2_with (at_builtin; refine wpList_append_ownF _ rfl _ _ 41 rfl B 5 i0 (.int .u8 0) 1 1 Tryz.underlying41 hi hz0 hz1 hz2 rfl (by decide) _ _ _ rfl (hown.alloc _) ⟨w1.heap.size, 0, none⟩ 1 1 [.int .u8 c] rfl rfl ?c1 (fun u hu => by cases List.mem_singleton.1 hu; rfl) (by unfold maxLen; omega) (by omega) (by simp; omega) ?_)
  case c1 =>
    intro j u hj
    cases j with
    | zero => cases hj; simp [Addr.add]
    | succ j => simp at hj
  intro v' w2 hown' hgrow _
  have hb2 : w2.heap[b]? = some (.cells #[.pointer (some ⟨b, 0, none⟩), v] TB (0, 0)) := ((hgrow.block b (by simp; omega) (fun e => hne e.symm)).trans (Lib.alloc_old w1 _ b hlt)).trans hbk
  obtain ⟨d0, d1, f1, -⟩ := bd_cells hb2
  obtain ⟨ao, n', cap, rfl⟩ : ∃ ao n' cap, v' = .slice ao n' cap := hown'.2.elim (fun h => ⟨_, _, _, h.1⟩) fun ⟨_, _, _, _, hv, _⟩ => ⟨_, _, _, hv⟩
  go_wp2
  go_ret
  exact ⟨rfl, Lib.BuilderAtF.put (T := TB) (e := TU) hB hb2 (bs' := bs ++ [.int .u8 c]) (by simpa using hown') (by decide),
    ((hb1.alloc (by omega) _).grown hgrow (by simp; omega) (fun k hk => (hown.lt k hk).1)).setCell (p := ⟨b, 1, none⟩) hB _, ((hk1.alloc _).grown hgrow (Lib.ownsRowF_kind (hown.alloc _))).setCell ⟨b, 1, none⟩ rfl _⟩

set_option maxHeartbeats 2000000 in
set_option maxRecDepth 100000 in
theorem writeString_k (B b : Nat) (bs : List Value) (s : ByteArray) (w : World) (h : Lib.IsBuilderF TB TU B b bs w) (hlen : bs.length + s.size ≤ 1000000) (hBw : B ≤ w.heap.size) :
    Calls Tryz.prog 63 #[.pointer (some ⟨b, 0, none⟩), .string s] w fun e w' => e = .returned (.tuple #[.int .i64 s.size, .nilIface]) ∧ (Lib.BuilderAtF TB TU B b (.pointer (some ⟨b, 0, none⟩)) (bs ++ Lib.strCells s) w' ∧ Below B w w' ∧ Lib.OthersKept TU (some b) w w') := by
  obtain ⟨i0, hi, hz0, hz1, hz2⟩ := info_parts Tryz.Builder_Extra_169.infoByte
  go_enter Tryz.func63, Tryz.ntmps63
  go_wp2_with (go_at_call 76; refine (copyCheck_k B b bs _ h).mono ?_)
  rintro e w1 ⟨rfl, ⟨hB, v, hbk, hown, hne⟩, hb1, hk1⟩
  obtain ⟨c0, c1, -, hlt⟩ := bd_cells hbk
  have hz := hb1.size
  go_wp2_with (at_builtin; refine Lib.wpList_append_own_stringF _ rfl _ _ 41 9 rfl B 5 i0 Tryz.underlying41 Tryz.underlying9 hi hz0 hz1 hz2 _ _ _ rfl hown s rfl (by unfold maxLen; omega) (by omega) (by omega) ?_)
  intro v' w2 hown' hgrow _
  have hb2 : w2.heap[b]? = some (.cells #[.pointer (some ⟨b, 0, none⟩), v] TB (0, 0)) := (hgrow.block b hlt (fun e => hne e.symm)).trans hbk
  obtain ⟨d0, d1, f1, -⟩ := bd_cells hb2
  obtain ⟨ao, n', cap, rfl⟩ : ∃ ao n' cap, v' = .slice ao n' cap := hown'.2.elim (fun h => ⟨_, _, _, h.1⟩) fun ⟨_, _, _, _, hv, _⟩ => ⟨_, _, _, hv⟩
  go_wp2
  go_ret2
  exact ⟨rfl, Lib.BuilderAtF.put (T := TB) (e := TU) hB hb2 (bs' := bs ++ Lib.strCells s) (by simpa [Lib.strCells_length] using hown') (by decide),
    (hb1.grown hgrow (by omega) (fun k hk => (hown.lt k hk).1)).setCell (p := ⟨b, 1, none⟩) hB _, (hk1.grown hgrow (Lib.ownsRowF_kind hown)).setCell ⟨b, 1, none⟩ rfl _⟩
end Go.Proofs.YtdpfmmbfidknfaaGreatDoor


/- Escapes; a builder is kept. -/
namespace Go.Proofs.YtdpfmmbfidknfaaGreatDoor
open Go.RowKit Go.Lib
attribute [local go_sem] store_float f64bits
attribute [local go_sem ↓] Go.wp_at_zero Go.wp_at_succ

theorem bd_new (w : World) (B : Nat) (hB : B ≤ w.heap.size) : Lib.IsBuilderF TB TU B w.heap.size [] (w.alloc (.cells #[.pointer none, .slice none 0 0] TB)) :=
  .inl ⟨hB, .slice none 0 0, heap_alloc_last w _, ⟨rfl, .inl ⟨rfl, rfl⟩⟩, by simp [Value.ownBlock]⟩

theorem bd_but {S : Nat → Prop} {B bb : Nat} {bs : List Value} {w w' : World} (h : Lib.IsBuilderF TB TU B bb bs w) (hb : But S w w') (hS : ∀ k, S k → k < B) : Lib.IsBuilderF TB TU B bb bs w' := by
  have key : ∀ p, Lib.BuilderAtF TB TU B bb p bs w → Lib.BuilderAtF TB TU B bb p bs w' := by
    rintro p ⟨hB, v, hbk, hown, hne⟩
    have hk : ∀ k o, w.heap[k]? = some o → B ≤ k → w'.heap[k]? = some o := fun k o hk hBk => (hb.block k (Array.getElem?_eq_some_iff.1 hk).1 (fun h => by have := hS k h; omega)).trans hk
    refine ⟨hB, v, hk _ _ hbk hB, ⟨hown.1, ?_⟩, hne⟩
    rcases hown.2 with h0 | ⟨g, cap, cur, fz, hv, hg, hh, rest⟩
    · exact .inl h0
    · exact .inr ⟨g, cap, cur, fz, hv, hg, hk _ _ hh hg, rest⟩
  exact h.elim (fun h => .inl (key _ h)) (fun h => .inr (key _ h))

/-- The byte that an escape stands for, and the place behind it. -/
def escAt (s : ByteArray) (p : Nat) : Option (Nat × Nat) :=
  if p < s.size then
    if bt s p = 92 ∨ bt s p = 39 ∨ bt s p = 34 then some (bt s p, p + 1)
    else if bt s p = 110 then some (10, p + 1)
    else if bt s p = 116 then some (9, p + 1)
    else if bt s p = 120 then (hexN s 2 (p + 1) 0).map fun u => (u, p + 3)
    else none
  else none

theorem esc_lt {s : ByteArray} {p c e : Nat} (h : escAt s p = some (c, e)) : c < 256 ∧ p < e ∧ e ≤ s.size := by
  unfold escAt at h
  split at h
  · rename_i hp
    split at h
    · cases h; have := bt_lt s p; omega
    · split at h
      · cases h; omega
      · split at h
        · cases h; omega
        · split at h
          · cases hx : hexN s 2 (p + 1) 0 with
            | none => rw [hx] at h; cases h
            | some u =>
              rw [hx] at h; cases h
              have h1 := hexN_lt s 2 (p + 1) 0 c hx
              have h2 := hexN_in s 1 (p + 1) 0 c hx
              omega
          · cases h
  · cases h

set_option maxHeartbeats 1000000 in
theorem escaped_any (s : ByteArray) (i b : Nat) (hi : i ≤ s.size) (hs : s.size ≤ 65536) (w : World) (h : Sc w b s i) (hT : Lib.Utf8Tabs G1 G2 w) (hg : GB ≤ b) :
    Calls Tryz.prog 66 #[.pointer (some ⟨b, 0, none⟩)] w fun e w' => e = .returned (.tuple #[.int .u8 (((escAt s i).map Prod.fst).getD 0 : Nat), .bool (escAt s i).isSome]) ∧ But (· = b) w w' ∧ ∃ j, j ≤ s.size ∧ Sc w' b s j ∧ ∀ c e, escAt s i = some (c, e) → j = e := by
  have GT1 : ∀ {w1 : World}, But (· = b) w w1 → Lib.Utf8Tabs G1 G2 w1 := fun hb => Utf8Tabs_but hT hb (fun e => by unfold GB at hg; unfold G1 at e; omega) (fun e => by unfold GB at hg; unfold G2 at e; omega)
  have cN := next_any s i b hi hs w h hT
  have hin := nx_in s i hi
  have key : (∃ c : Nat, (c = 92 ∨ c = 39 ∨ c = 34 ∨ c = 110 ∨ c = 116 ∨ c = 120) ∧ i < s.size ∧ bt s i = c ∧ nxR s i = (c : Int) ∧ nxK s i = 1) ∨ (escAt s i = none ∧ nxR s i ≠ 92 ∧ nxR s i ≠ 39 ∧ nxR s i ≠ 34 ∧ nxR s i ≠ 110 ∧ nxR s i ≠ 116 ∧ nxR s i ≠ 120) := by
    have q := fun c hc => nx_eq s i c hc
    by_cases hc : i < s.size ∧ (bt s i = 92 ∨ bt s i = 39 ∨ bt s i = 34 ∨ bt s i = 110 ∨ bt s i = 116 ∨ bt s i = 120)
    · left
      have hx := nx_low hc.1 (by omega)
      exact ⟨bt s i, hc.2, hc.1, rfl, hx.1, hx.2⟩
    · right
      have q1 := q 92 (by omega); have q2 := q 39 (by omega); have q3 := q 34 (by omega); have q4 := q 110 (by omega); have q5 := q 116 (by omega); have q6 := q 120 (by omega)
      refine ⟨?_, by omega, by omega, by omega, by omega, by omega, by omega⟩
      unfold escAt
      split
      · rw [if_neg (by omega), if_neg (by omega), if_neg (by omega), if_neg (by omega)]
      · rfl
  rcases key with ⟨c, hc, hlt, hbt, hr, hk⟩ | ⟨hn, n1, n2, n3, n4, n5, n6⟩
  · rw [hr, hk] at cN
    unfold escAt
    rw [if_pos hlt, hbt]
    have cH := fun W h1 h2 => hex_any s (i + 1) b 2 (by omega) (by omega) hs W h1 h2 (by unfold GB at hg; unfold G1; omega) (by unfold GB at hg; unfold G2; omega)
    clear hr hk hbt hin hT
    rcases hc with rfl | rfl | rfl | rfl | rfl | rfl
    · go_enter Tryz.func66, Tryz.ntmps66
      go_wp2_with (first | (go_at_call 40; refine cN.mono ?_; rintro e w1 ⟨rfl, hs1, hb1⟩; have HS1 := hidb hs1; have HB1 := hidb hb1))
      exact bodyPost_ret (v := .tuple #[.int .u8 92, .bool true]) (by simp [results, Tryz.results66, go_sem]) rfl (by first | exact ⟨rfl, hb1, by omega, hs1⟩ | exact ⟨rfl, hb1, i + 1, by omega, hs1, fun c e h => by cases h; rfl⟩)
    · go_enter Tryz.func66, Tryz.ntmps66
      go_wp2_with (first | (go_at_call 40; refine cN.mono ?_; rintro e w1 ⟨rfl, hs1, hb1⟩; have HS1 := hidb hs1; have HB1 := hidb hb1))
      exact bodyPost_ret (v := .tuple #[.int .u8 39, .bool true]) (by simp [results, Tryz.results66, go_sem]) rfl (by first | exact ⟨rfl, hb1, by omega, hs1⟩ | exact ⟨rfl, hb1, i + 1, by omega, hs1, fun c e h => by cases h; rfl⟩)
    · go_enter Tryz.func66, Tryz.ntmps66
      go_wp2_with (first | (go_at_call 40; refine cN.mono ?_; rintro e w1 ⟨rfl, hs1, hb1⟩; have HS1 := hidb hs1; have HB1 := hidb hb1))
      exact bodyPost_ret (v := .tuple #[.int .u8 34, .bool true]) (by simp [results, Tryz.results66, go_sem]) rfl (by first | exact ⟨rfl, hb1, by omega, hs1⟩ | exact ⟨rfl, hb1, i + 1, by omega, hs1, fun c e h => by cases h; rfl⟩)
    · go_enter Tryz.func66, Tryz.ntmps66
      go_wp2_with (first | (go_at_call 40; refine cN.mono ?_; rintro e w1 ⟨rfl, hs1, hb1⟩; have HS1 := hidb hs1; have HB1 := hidb hb1))
      exact bodyPost_ret (v := .tuple #[.int .u8 10, .bool true]) (by simp [results, Tryz.results66, go_sem]) rfl (by first | exact ⟨rfl, hb1, by omega, hs1⟩ | exact ⟨rfl, hb1, i + 1, by omega, hs1, fun c e h => by cases h; rfl⟩)
    · go_enter Tryz.func66, Tryz.ntmps66
      go_wp2_with (first | (go_at_call 40; refine cN.mono ?_; rintro e w1 ⟨rfl, hs1, hb1⟩; have HS1 := hidb hs1; have HB1 := hidb hb1))
      exact bodyPost_ret (v := .tuple #[.int .u8 9, .bool true]) (by simp [results, Tryz.results66, go_sem]) rfl (by first | exact ⟨rfl, hb1, by omega, hs1⟩ | exact ⟨rfl, hb1, i + 1, by omega, hs1, fun c e h => by cases h; rfl⟩)
    · obtain ⟨o, ho⟩ : ∃ o, hexN s 2 (i + 1) 0 = o := ⟨_, rfl⟩
      have hbd : o.getD 0 < 256 := by
        cases o with
        | none => simp
        | some v => have := hexN_lt s 2 (i + 1) 0 v ho; simpa using this
      rw [ho] at cH ⊢
      rw [if_neg (by omega), if_neg (by omega), if_neg (by omega), if_pos rfl]
      have hV : (((o.map fun u => (u, i + 3)).map Prod.fst).getD 0) = o.getD 0 := by cases o <;> rfl
      have hS : (o.map fun u => (u, i + 3)).isSome = o.isSome := by cases o <;> rfl
      have hE : ∀ c e, (o.map fun u => (u, i + 3)) = some (c, e) → o.isSome = true ∧ e = i + 3 := by
        intro c e h; cases o with
        | none => cases h
        | some u => cases h; exact ⟨rfl, rfl⟩
      rw [hV, hS]
      obtain ⟨X, hX⟩ : ∃ X : Int, ((o.getD 0 : Nat) : Int) = X := ⟨_, rfl⟩
      obtain ⟨t, ht⟩ : ∃ t, o.isSome = t := ⟨_, rfl⟩
      simp only [hX, ht] at cH ⊢
      rw [ht] at hE
      have x0 : 0 ≤ X := by omega
      have x1 : X < 256 := by omega
      have xw : IntKind.u8.wrap X = X := by rw [IntKind.wrap_u8]; omega
      obtain ⟨Pp, hPp⟩ : ∃ Pp : World → Prop, (fun w' => But (· = b) w w' ∧ ∃ j, j ≤ s.size ∧ Sc w' b s j ∧ ∀ c e, (o.map fun u => (u, i + 3)) = some (c, e) → j = e) = Pp := ⟨_, rfl⟩
      have hPw : ∀ w', (But (· = b) w w' ∧ ∃ j, j ≤ s.size ∧ Sc w' b s j ∧ ∀ c e, (o.map fun u => (u, i + 3)) = some (c, e) → j = e) = Pp w' := fun w' => by rw [← hPp]
      simp only [hPw]
      clear hV hS ht hX ho hbd hPp
      go_enter Tryz.func66, Tryz.ntmps66
      go_wp2_with (first
        | (go_at_call 40; refine cN.mono ?_; rintro e w1 ⟨rfl, hs1, hb1⟩; have HS1 := hidb hs1; have HB1 := hidb hb1)
        | (go_at_call 47; refine (cH _ HS1.out (GT1 HB1.out)).mono ?_; rintro e w2 ⟨rfl, hb2, j, hj1, hj2, hs2, hj3⟩))
      refine bodyPost_ret (v := .tuple #[.int .u8 X, .bool t]) (by simp [results, Tryz.results66, go_sem]) rfl ⟨rfl, ?_⟩
      rw [← hPw]
      exact ⟨HB1.out.trans hb2, j, hj2, hs2, fun c e h => by obtain ⟨h1, h2⟩ := hE c e h; have := hj3 h1; omega⟩
  · rw [hn]
    obtain ⟨r, hr⟩ : ∃ r, nxR s i = r := ⟨_, rfl⟩
    rw [hr] at cN n1 n2 n3 n4 n5 n6
    have m1 : (r == 92) = false := by simpa using n1
    have m2 : (r == 39) = false := by simpa using n2
    have m3 : (r == 34) = false := by simpa using n3
    have m4 : (r == 110) = false := by simpa using n4
    have m5 : (r == 116) = false := by simpa using n5
    have m6 : (r == 120) = false := by simpa using n6
    clear hr n1 n2 n3 n4 n5 n6 hn
    go_enter Tryz.func66, Tryz.ntmps66
    go_wp2_with (go_at_call 40; refine cN.mono ?_; rintro e w1 ⟨rfl, hs1, hb1⟩)
    exact bodyPost_ret (v := .tuple #[.int .u8 0, .bool false]) (by simp [results, Tryz.results66, go_sem]) rfl ⟨rfl, hb1, i + nxK s i, hin, hs1, fun c e h => by cases h⟩
end Go.Proofs.YtdpfmmbfidknfaaGreatDoor


