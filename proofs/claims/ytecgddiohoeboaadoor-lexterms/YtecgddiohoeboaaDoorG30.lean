import Derived.Test.YtecgddiohoeboaaDoorG29
import Derived.Deep.RegionLaw
import Derived.Lib.VarintBits
import Derived.Lib.FrozenHead
import Derived.Lib.ConvBytes
import Derived.ArgAppend
/- An atom in quotation marks, as text. -/
namespace Go.Proofs.YtecgddiohoeboaaDoor
open Go.RowKit
attribute [local go_sem] store_float f64bits
attribute [local go_sem ↓] Go.wp_at_zero Go.wp_at_succ

theorem qz_snoc (s : List UInt8) (c : UInt8) : qz (s ++ [c]) = qz s ++ qzc c := by simp [qz]
theorem qzc_le (c : UInt8) : (qzc c).length ≤ 4 := by
  unfold qzc
  split
  · simp
  · split <;> simp
theorem qz_le (s : List UInt8) : (qz s).length ≤ 4 * s.length := by
  induction s with
  | nil => simp [qz]
  | cons c s ih =>
    have hq : qz (c :: s) = qzc c ++ qz s := rfl
    have := qzc_le c
    rw [hq, List.length_append, List.length_cons]
    omega
theorem take_one (s : ByteArray) (j : Nat) (hj : j < s.size) : (dl s).take (j + 1) = (dl s).take j ++ [UInt8.ofNat (bt s j)] := by
  rw [List.take_add_one, List.getElem?_eq_getElem (show j < (dl s).length from hj), bt_dl s j hj, UInt8.ofNat_toNat]
  rfl
theorem ext_one (s : ByteArray) (j : Nat) (hj : j < s.size) : s.extract j (j + 1) = ⟨#[UInt8.ofNat (bt s j)]⟩ := by
  have : Occ s j [UInt8.ofNat (bt s j)] := ⟨by show j + 1 ≤ s.size; omega, fun i hi => by
    obtain rfl : i = 0 := by simpa using hi
    have := bt_lt s j
    simp
    omega⟩
  exact this.ext

set_option maxHeartbeats 4000000 in
set_option maxRecDepth 100000 in
theorem rquote_any (s : ByteArray) (hs : s.size ≤ 64) (w : World) : Calls Tryd.prog 27 #[.string s] w fun e w' => e = .returned (.string ⟨(quoT (dl s)).toArray⟩) ∧ Below w.heap.size w w' := by
  have cP := rplain_any s hs
  have hss : (⟨(dl s).toArray⟩ : ByteArray) = s := by apply ByteArray.ext; exact Array.toList_inj.1 rfl
  unfold quoT
  cases hp : plainL (dl s)
  case true =>
    rw [hp] at cP
    rw [if_pos rfl, hss]
    go_enter Tryd.func27, Tryd.ntmps27
    go_wp2_with (first | (go_at_call 52; refine (cP _).mono ?_; rintro e w' ⟨rfl, hw'⟩; obtain rfl := hw'.symm))
    go_ret
    exact ⟨rfl, Below.refl _ _⟩
  case false =>
    rw [hp] at cP
    rw [if_neg (by simp)]
    obtain ⟨RR, hRR⟩ : ∃ R, (⟨(39 :: (qz (dl s) ++ [39])).toArray⟩ : ByteArray) = R := ⟨_, rfl⟩
    rw [hRR]
    have HRR := hidb hRR
    clear hRR hss hp
    go_enter Tryd.func27, Tryd.ntmps27
    go_wp2_with (first | (go_at_call 52; refine (cP _).mono ?_; rintro e w' ⟨rfl, hw'⟩; obtain rfl := hw'.symm))
    go_loopg [3, 4] s.size (fun gf s3 s4 wx => ∃ (j : Nat) (O : ByteArray), s4 = .int .i64 (j : Int) ∧ s3 = .string O ∧ j ≤ s.size ∧ s.size - j ≤ gf ∧ dl O = 39 :: qz ((dl s).take j) ∧ O.size ≤ 1000 ∧ Below w.heap.size w wx)
    case atStart => exact ⟨0, ⟨#[39]⟩, by simp, rfl, Nat.zero_le _, by omega, by simp [qz]; rfl, by decide, Below.refl _ _⟩
    case round =>
      obtain ⟨j, O, rfl, rfl, hj, hgf, hO, hOz, hbw⟩ := hrel
      have HO := hidb hO
      have HB := hidb hbw
      clear hO hbw
      by_cases hlt : j < s.size
      · obtain ⟨g', rfl⟩ : ∃ g', gk = g' + 1 := ⟨gk - 1, by omega⟩
        have k0 : (0 : Int) ≤ (j : Int) := by omega
        have k1 : (j : Int) < (s.size : Int) := by omega
        have k2 : (j : Int) ≤ (j : Int) + 1 := by omega
        have k3 : (j : Int) + 1 ≤ (s.size : Int) := by omega
        have hbj := fun h => at_byte s j h
        have hex1 := ext_one s j hlt
        have htk := take_one s j hlt
        have hlt2 := bt_lt s j
        obtain ⟨c, hc⟩ : ∃ c, bt s j = c := ⟨_, rfl⟩
        rw [hc] at hex1 htk hlt2
        simp only [hc] at hbj
        obtain ⟨C, hC⟩ : ∃ C, UInt8.ofNat c = C := ⟨_, rfl⟩
        have hCn : C.toNat = c := by rw [← hC]; simp; omega
        rw [hC] at hex1 htk
        have HT : Hid (qz ((dl s).take (j + 1)) = qz ((dl s).take j) ++ qzc C) := hidb (by rw [htk, qz_snoc])
        have HZ : Hid ((qz ((dl s).take (j + 1))).length ≤ 256) := hidb (by have := qz_le ((dl s).take (j + 1)); rw [List.length_take] at this; omega)
        have HCn := hidb hCn
        clear hc hC htk hCn
        by_cases h1 : c = 92 ∨ c = 39
        · have HQ : Hid (qzc C = [92, C]) := hidb (if_pos (by rcases h1 with rfl | rfl; exact .inl (UInt8.toNat_inj.1 HCn.out); exact .inr (UInt8.toNat_inj.1 HCn.out)))
          have HF : Hid (dl ((O ++ ⟨#[92]⟩) ++ ⟨#[C]⟩) = 39 :: qz ((dl s).take (j + 1))) := hidb (by rw [dl_append, dl_append, HO.out, HT.out, HQ.out]; simp; rfl)
          rcases h1 with rfl | rfl
          all_goals (
            go_wp2_with fail
            go_roundg g'
            case measure => omega
            case rel => exact ⟨j + 1, _, by simp, rfl, by omega, by omega, HF.out, by have h1 := congrArg List.length HF.out; rw [dl_len, List.length_cons] at h1; have := HZ.out; omega, HB.out⟩)
        · have e1 : ((c : Int) == 92) = false := by simp; omega
          have e2 : ((c : Int) == 39) = false := by simp; omega
          by_cases h2 : c < 32 ∨ 126 < c
          · have HQ : Hid (qzc C = [92, 120, hxc (c / 16), hxc (c % 16)]) := hidb (by
              unfold qzc
              rw [if_neg (by rintro (rfl | rfl); exact h1 (.inl HCn.out.symm); exact h1 (.inr HCn.out.symm)), HCn.out, if_pos h2])
            have HF : Hid (dl (((O ++ ⟨#[92, 120]⟩) ++ ⟨#[hxc (c / 16)]⟩) ++ ⟨#[hxc (c % 16)]⟩) = 39 :: qz ((dl s).take (j + 1))) := hidb (by rw [dl_append, dl_append, dl_append, HO.out, HT.out, HQ.out]; simp; rfl)
            have cX1 := rhexc_any (c / 16) (by omega)
            have cX2 := rhexc_any (c % 16) (by omega)
            obtain ⟨z, hz⟩ : ∃ z : Int, (c : Int) = z := ⟨_, rfl⟩
            have hbz : ∀ h, (((s[j]'h).toNat : Nat) : Int) = z := fun h => by rw [hbj h]; exact hz
            have z0 : 0 ≤ z := by omega
            have z1 : z < 256 := by omega
            have b2 : bits BinOp.and IntKind.u8 z 15 = ((c % 16 : Nat) : Int) := by
              rw [show (15 : Int) = 2 ^ 4 - 1 by decide, bits_mask .u8 8 (by decide) wraps_u8 4 (by decide) z z0 z1]
              omega
            have b1 : z / 16 = ((c / 16 : Nat) : Int) := by omega
            rw [hz] at e1 e2
            have hcd : decide (z < 32) = true ∨ (decide (z < 32) = false ∧ decide (126 < z) = true) := by
              by_cases h : z < 32
              · left; simpa using h
              · right; simp; omega
            generalize ((c / 16 : Nat) : Int) = y1 at cX1 b1
            generalize ((c % 16 : Nat) : Int) = y2 at cX2 b2
            clear hbj hz hlt2
            rcases hcd with q1 | ⟨q1, q2⟩
            all_goals (
              go_wp2_with fail
              refine (cX1 _).mono ?_
              rintro e x1 ⟨rfl, hx1⟩
              have HX1 := hidb hx1
              clear hx1
              go_wp2_with fail
              refine (cX2 _).mono ?_
              rintro e x2 ⟨rfl, hx2⟩
              have HX2 := hidb hx2
              clear hx2
              go_wp2_with fail
              go_roundg g'
              case measure => omega
              case rel => exact ⟨j + 1, _, by simp, rfl, by omega, by omega, HF.out, by have h1 := congrArg List.length HF.out; rw [dl_len, List.length_cons] at h1; have := HZ.out; omega, (HB.out.trans (HX1.out.mono HB.out.size)).trans (HX2.out.mono (Nat.le_trans HB.out.size HX1.out.size))⟩)
          · have HQ : Hid (qzc C = [C]) := hidb (by
              unfold qzc
              rw [if_neg (by rintro (rfl | rfl); exact h1 (.inl HCn.out.symm); exact h1 (.inr HCn.out.symm)), HCn.out, if_neg h2])
            have HF : Hid (dl (O ++ ⟨#[C]⟩) = 39 :: qz ((dl s).take (j + 1))) := hidb (by rw [dl_append, HO.out, HT.out, HQ.out]; rfl)
            have q1 : ¬ (c : Int) < 32 := by omega
            have q2 : ¬ (126 : Int) < (c : Int) := by omega
            go_wp2_with fail
            go_roundg g'
            case measure => omega
            case rel => exact ⟨j + 1, _, by simp, rfl, by omega, by omega, HF.out, by have h1 := congrArg List.length HF.out; rw [dl_len, List.length_cons] at h1; have := HZ.out; omega, HB.out⟩
      · have k1 : ¬ (j : Int) < (s.size : Int) := by omega
        have HE : Hid (O ++ ⟨#[39]⟩ = RR) := hidb (by
          rw [← HRR.out]
          apply ByteArray.ext
          apply Array.toList_inj.1
          show dl (O ++ ⟨#[39]⟩) = _
          rw [dl_append, HO.out, List.take_of_length_le (by rw [dl_len]; omega)]
          rfl)
        go_wp2_with fail
        go_ret
        exact ⟨by rw [← HE.out]; rfl, HB.out⟩
end Go.Proofs.YtecgddiohoeboaaDoor


/- A row of bytes that a string was turned into, and what is appended to it. -/
namespace Go.Proofs.YtecgddiohoeboaaDoor
open Go.RowKit Go.Lib

/-- The row's frozen range lies behind its end, or there is none. -/
def OwnM (w : World) (base : Nat) (v : Value) (l : List UInt8) : Prop :=
  ∃ g cap cur fz, v = .slice (some ⟨g, 0, none⟩) l.length cap ∧ base ≤ g ∧ w.heap[g]? = some (.cells cur 5 fz) ∧ (fz.2 = 0 ∨ cur.size ≤ fz.1) ∧ l.length ≤ cap ∧ cap ≤ maxLen ∧ cur.size = cap ∧ cur.toList.take l.length = Lib.byteCells l

theorem bc_len (l : List UInt8) : (Lib.byteCells l).length = l.length := by simp [Lib.byteCells]

theorem store_M (P : Program) (g o : Nat) (t : TypeId) (fz : Nat × Nat) : ∀ (vs : List Value) (i : Nat) (cur : Array Value) (w : World), w.heap[g]? = some (.cells cur t fz) → (fz.2 = 0 ∨ cur.size ≤ fz.1) → o + i + vs.length ≤ cur.size → (∀ v ∈ vs, v.oneCell' = true) →
    (storeCells ⟨g, o, none⟩ vs i).run P w = .ok () (w.setRow g (cur.toList.take (o + i) ++ vs ++ cur.toList.drop (o + i + vs.length)).toArray)
  | [], i, cur, w, hg, _, _, _ => by
    simp only [storeCells, List.append_nil, List.length_nil, Nat.add_zero, List.take_append_drop, Array.toArray_toList]
    rw [setRow_self w g cur t fz hg]
    rfl
  | v :: rest, i, cur, w, hg, hfz, hl, h1 => by
    have hi : o + i < cur.size := by simp at hl; omega
    have hadd : (⟨g, o, none⟩ : Addr).add i = ⟨g, o + i, none⟩ := by unfold Addr.add; split <;> simp_all
    have hcell : w.cell? ⟨g, o + i, none⟩ = some cur[o + i] := by simp [World.cell?, hg, hi]
    have hfro : w.frozen? ⟨g, o + i, none⟩ = false := by
      obtain ⟨lo, hi'⟩ := fz
      simp only [World.frozen?, hg, Bool.and_eq_false_iff, decide_eq_false_iff_not]
      simp only at hfz
      omega
    have hst : (store ((⟨g, o, none⟩ : Addr).add i) v).run P w = .ok () (w.setRow g (cur.setIfInBounds (o + i) v)) := by
      rw [hadd, run_store P w _ v _ (h1 v (by simp)), hcell]
      simp [hfro, setCell_eq_setRow w g (o + i) cur t fz v hg]
    have ih := store_M P g o t fz rest (i + 1) (cur.setIfInBounds (o + i) v) (w.setRow g (cur.setIfInBounds (o + i) v)) (setRow_heap w g cur _ t _ hg) (by simpa using hfz) (by simp at hl ⊢; omega) (fun x hx => h1 x (by simp [hx]))
    simp only [storeCells, Sem.run_bind, hst, Result.andThen_ok, ih, setRow_setRow]
    congr 3
    have e := list_seg_step cur.toList (o + i) v rest (by simp at hl ⊢; omega)
    simpa [Array.toList_setIfInBounds, Nat.add_assoc] using e

theorem str_bc (s : ByteArray) : strCells s = Lib.byteCells (dl s) := by simp [strCells, Lib.byteCells, dl]

theorem app_str (w : World) (base : Nat) (ty : TypeId) (v : Value) (l : List UInt8) (h : OwnM w base v l) (s : ByteArray) (hz : l.length + s.size ≤ 100000000) (hb : base ≤ w.heap.size) :
    ∃ v' w', (Builtin.append_ #[31, 9] ty #[v, .string s]).run Tryd.prog w = .ok v' w' ∧ OwnM w' base v' (l ++ dl s) ∧ w.grownBy w' v.ownBlock := by
  obtain ⟨i, hi', hz0, hz1, hz2⟩ := info_parts Tryd.Builder_Extra_169.infoByte
  have hi : Tryd.prog.info? 5 = some i := hi'
  obtain ⟨g, cap, cur, fz, rfl, hbg, hg, hfz, hnc, hcm, hcs, htake⟩ := h
  have hsl : (strCells s).length = s.size := strCells_length s
  have hbl := bc_len l
  have hll : (l ++ dl s).length = l.length + s.size := by rw [List.length_append, dl_len]
  have hbc : Lib.byteCells (l ++ dl s) = Lib.byteCells l ++ strCells s := by rw [Lib.byteCells_append, str_bc]
  by_cases hroom : l.length + s.size ≤ cap
  · have hst := store_M Tryd.prog g l.length 5 fz (strCells s) 0 cur w hg hfz (by rw [hsl]; omega) (strCells_oneCell s)
    have hf := run_firstCells_string (P := Tryd.prog) w 1 s
    simp only [Nat.add_zero, hsl] at hst
    have hr : (Builtin.append_ #[31, 9] ty #[.slice (some ⟨g, 0, none⟩) l.length cap, .string s]).run Tryd.prog w = .ok (.slice (some ⟨g, 0, none⟩) (l.length + s.size) cap) (w.setRow g (cur.toList.take l.length ++ strCells s ++ cur.toList.drop (l.length + s.size)).toArray) := by
      simp [Builtin.append_, run_underlying Tryd.underlying31, run_underlying Tryd.underlying9, sizeOf, typeInfo, hi, hz1, Builtin.lenOf, hroom, hf, Addr.add_lit, hst]
    refine ⟨_, _, hr, ⟨g, cap, _, fz, by rw [hll], hbg, setRow_heap w g cur _ 5 _ hg, ?_, by omega, hcm, ?_, ?_⟩, ⟨rfl, rfl, rfl, by simp, fun k _ hk => setRow_other w g k _ (fun e => hk (by simp [Value.ownBlock, e]))⟩⟩
    · rcases hfz with h0 | h0
      · exact .inl h0
      · right
        simp only [List.size_toArray, List.length_append, List.length_take, List.length_drop, Array.length_toList, hsl]
        omega
    · simp only [List.size_toArray, List.length_append, List.length_take, List.length_drop, Array.length_toList, hsl]
      omega
    · rw [htake, hll, hbc]
      exact List.take_left' (by rw [List.length_append, hbl, hsl])
  · have holds : ∀ j u, (Lib.byteCells l)[j]? = some u → w.cell? ((⟨g, 0, none⟩ : Addr).add j) = some u := by
      intro j u hu
      have hadd : (⟨g, 0, none⟩ : Addr).add j = ⟨g, j, none⟩ := by unfold Addr.add; split <;> simp_all
      rw [hadd, cell_of_row w g j cur 5 fz hg]
      rw [← htake, List.getElem?_take] at hu
      split at hu
      · simpa using hu
      · cases hu
    have hr := run_append_grow_string (P := Tryd.prog) w 31 9 ty 5 i (.int .u8 0) Tryd.underlying31 Tryd.underlying9 hi hz0 ⟨g, 0, none⟩ l.length cap (Lib.byteCells l) (by rw [hz1, hbl]; omega) holds s (by omega) (by omega) (by rw [hz2]; exact growslice_fits (by omega) (by omega))
    have hge := grownCap_ge w (l.length + s.size) cap 5
    have hcm2 : grownCap w (l.length + s.size) cap 5 ≤ maxLen := grownCap_le_maxLen w (l.length + s.size) cap 5 (by unfold maxLen; omega)
    refine ⟨_, _, hr, ⟨w.heap.size, _, _, (0, 0), by rw [hll], hb, heap_alloc_new w.drew _, .inl rfl, by rw [hll]; exact hge, hcm2, ?_, ?_⟩, ⟨rfl, rfl, rfl, by simp, fun k hk _ => _root_.Go.heap_alloc_old w.drew _ hk⟩⟩
    · have hz1' : (Value.int IntKind.u8 0).cells.size = 1 := rfl
      simp only [Array.size_append, List.size_toArray, size_zeroCells, hz1', hbl, hsl]
      omega
    · rw [hll, hbc]
      simp only [Array.toList_append, List.append_assoc]
      rw [← List.append_assoc]
      exact List.take_left' (by rw [List.length_append, hbl, hsl])

theorem app_byte (w : World) (base : Nat) (ty : TypeId) (v : Value) (l : List UInt8) (h : OwnM w base v l) (c : UInt8) (ad : Addr) (cp : Nat) (hc : w.cell? ad = some (.int .u8 (c.toNat : Int))) (hz : l.length + 1 ≤ 100000000) (hb : base ≤ w.heap.size) :
    ∃ v' w', (Builtin.append_ #[31, 31] ty #[v, .slice (some ad) 1 cp]).run Tryd.prog w = .ok v' w' ∧ OwnM w' base v' (l ++ [c]) ∧ w.grownBy w' v.ownBlock := by
  obtain ⟨i, hi', hz0, hz1, hz2⟩ := info_parts Tryd.Builder_Extra_169.infoByte
  have hi : Tryd.prog.info? 5 = some i := hi'
  obtain ⟨g, cap, cur, fz, rfl, hbg, hg, hfz, hnc, hcm, hcs, htake⟩ := h
  have hbl := bc_len l
  have hll : (l ++ [c]).length = l.length + 1 := by rw [List.length_append]; rfl
  have hbc : Lib.byteCells (l ++ [c]) = Lib.byteCells l ++ [.int .u8 (c.toNat : Int)] := by rw [Lib.byteCells_append]; rfl
  have hnews : ∀ j u, [Value.int .u8 (c.toNat : Int)][j]? = some u → w.cell? (ad.add j) = some u := by
    intro j u hu
    match j, hu with
    | 0, hu =>
      simp at hu
      subst hu
      have : ad.add 0 = ad := by unfold Addr.add; simp
      rw [this]; exact hc
    | (j + 1), hu => simp at hu
  have h1c : ∀ u ∈ [Value.int .u8 (c.toNat : Int)], u.oneCell' = true := fun u hu => by cases List.mem_singleton.1 hu; rfl
  by_cases hroom : l.length + 1 ≤ cap
  · have hst := store_M Tryd.prog g l.length 5 fz [.int .u8 (c.toNat : Int)] 0 cur w hg hfz (by simp; omega) h1c
    have hf := run_firstCells_some (P := Tryd.prog) w i.size 1 ad 1 cp [.int .u8 (c.toNat : Int)] (by rw [hz1]; rfl) hnews
    simp only [Nat.add_zero, List.length_singleton] at hst
    rw [hz1] at hf
    have hr : (Builtin.append_ #[31, 31] ty #[.slice (some ⟨g, 0, none⟩) l.length cap, .slice (some ad) 1 cp]).run Tryd.prog w = .ok (.slice (some ⟨g, 0, none⟩) (l.length + 1) cap) (w.setRow g (cur.toList.take l.length ++ [Value.int .u8 (c.toNat : Int)] ++ cur.toList.drop (l.length + 1)).toArray) := by
      simp [Builtin.append_, run_underlying Tryd.underlying31, sizeOf, typeInfo, hi, hz1, Builtin.lenOf, hroom, hf, Addr.add_lit, hst]
    refine ⟨_, _, hr, ⟨g, cap, _, fz, by rw [hll], hbg, setRow_heap w g cur _ 5 _ hg, ?_, by omega, hcm, ?_, ?_⟩, ⟨rfl, rfl, rfl, by simp, fun k _ hk => setRow_other w g k _ (fun e => hk (by simp [Value.ownBlock, e]))⟩⟩
    · rcases hfz with h0 | h0
      · exact .inl h0
      · right
        simp only [List.size_toArray, List.length_append, List.length_take, List.length_drop, Array.length_toList, List.length_singleton]
        omega
    · simp only [List.size_toArray, List.length_append, List.length_take, List.length_drop, Array.length_toList, List.length_singleton]
      omega
    · rw [htake, hll, hbc]
      exact List.take_left' (by rw [List.length_append, hbl]; rfl)
  · have holds : ∀ j u, (Lib.byteCells l)[j]? = some u → w.cell? ((⟨g, 0, none⟩ : Addr).add j) = some u := by
      intro j u hu
      have hadd : (⟨g, 0, none⟩ : Addr).add j = ⟨g, j, none⟩ := by unfold Addr.add; split <;> simp_all
      rw [hadd, cell_of_row w g j cur 5 fz hg]
      rw [← htake, List.getElem?_take] at hu
      split at hu
      · simpa using hu
      · cases hu
    have hr := run_append_grow (P := Tryd.prog) w 31 ty 5 i (.int .u8 0) Tryd.underlying31 hi hz0 ⟨g, 0, none⟩ l.length cap (Lib.byteCells l) (by rw [hz1, hbl]; omega) holds ad 1 cp [.int .u8 (c.toNat : Int)] (by rw [hz1]; rfl) hnews (by omega) (by omega) (by rw [hz2]; exact growslice_fits (by omega) (by omega))
    have hge := grownCap_ge w (l.length + 1) cap 5
    have hcm2 : grownCap w (l.length + 1) cap 5 ≤ maxLen := grownCap_le_maxLen w (l.length + 1) cap 5 (by unfold maxLen; omega)
    refine ⟨_, _, hr, ⟨w.heap.size, _, _, (0, 0), by rw [hll], hb, heap_alloc_new w.drew _, .inl rfl, by rw [hll]; exact hge, hcm2, ?_, ?_⟩, ⟨rfl, rfl, rfl, by simp, fun k hk _ => _root_.Go.heap_alloc_old w.drew _ hk⟩⟩
    · have hz1' : (Value.int IntKind.u8 0).cells.size = 1 := rfl
      simp only [Array.size_append, List.size_toArray, size_zeroCells, hz1', hbl, List.length_singleton]
      omega
    · rw [hll, hbc]
      simp only [Array.toList_append, List.append_assoc]
      rw [← List.append_assoc]
      exact List.take_left' (by rw [List.length_append, hbl]; rfl)

theorem text_M {w : World} {base : Nat} {v : Value} {l : List UInt8} (h : OwnM w base v l) : (convert 31 9 v).run Tryd.prog w = .ok (.string ⟨l.toArray⟩) w := by
  obtain ⟨g, cap, cur, fz, rfl, hbg, hg, hfz, hnc, hcm, hcs, htake⟩ := h
  exact run_convert_bytes_back (P := Tryd.prog) w 31 9 5 ⟨g, 0, none⟩ cap l Tryd.underlying31 Tryd.underlying5 Tryd.underlying9 (fun j hj => by
    have hadd : (⟨g, 0, none⟩ : Addr).add j = ⟨g, j, none⟩ := by unfold Addr.add; split <;> simp_all
    rw [hadd, cell_of_row w g j cur 5 fz hg]
    have hj2 : (cur.toList.take l.length)[j]? = some (Value.int .u8 (((l[j]).toNat : Nat) : Int)) := by
      rw [htake]; unfold Lib.byteCells; rw [List.getElem?_map, List.getElem?_eq_getElem hj]; rfl
    rw [List.getElem?_take_of_lt hj] at hj2
    simpa using hj2)

theorem own_M_new (w : World) (base : Nat) (s : ByteArray) (hs : s.size ≤ 1000) (hb : base ≤ w.heap.size) : OwnM (bytesWorld w 5 s) base (.slice (some ⟨w.heap.size, 0, none⟩) s.size (grownCap w s.size 0 5)) (dl s) := by
  have hge := grownCap_ge w s.size 0 5
  refine ⟨w.heap.size, _, _, _, rfl, hb, bytesWorld_at_new w 5 s, .inr (Nat.le_refl _), hge, grownCap_le_maxLen w s.size 0 5 (by unfold maxLen; omega), ?_, ?_⟩
  · simp [bytesCells]
    have : s.data.size = s.size := rfl
    omega
  · simp [bytesCells, Lib.byteCells, dl]

theorem own_M_keep {w w' : World} {base : Nat} {v : Value} {l : List UInt8} (h : OwnM w base v l) (hb : Below w.heap.size w w') : OwnM w' base v l := by
  obtain ⟨g, cap, cur, fz, rfl, hbg, hg, rest⟩ := h
  exact ⟨g, cap, cur, fz, rfl, hbg, by rw [hb.block g (Array.getElem?_eq_some_iff.1 hg).1]; exact hg, rest⟩
end Go.Proofs.YtecgddiohoeboaaDoor


