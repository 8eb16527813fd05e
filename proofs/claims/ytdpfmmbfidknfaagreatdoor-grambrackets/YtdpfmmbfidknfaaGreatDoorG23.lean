import Derived.Test.YtdpfmmbfidknfaaGreatDoorG21
import Derived.BigQuiet
import Derived.Test.YtdpfmmbfidknfaaGreatDoorG19
import Derived.Deep.RegionLaw
import Derived.Deep.RegionHeldLaw
import Derived.Deep.AppendLies
import Derived.Laws.BytesString
import Derived.Laws.BytesArg
/- The reference's signs. -/
namespace Go.Proofs.YtdpfmmbfidknfaaGreatDoor
open Go.RowKit Go.Lib
attribute [local go_sem] store_float f64bits
attribute [local go_sem ↓] Go.wp_at_zero Go.wp_at_succ

theorem ext_list (s : ByteArray) (a b : Nat) : (s.extract a b).data.toList = (s.data.toList.drop a).take (b - a) := by simp [ByteArray.data_extract]

theorem sub_prefix (s : ByteArray) (i : Nat) (hi : i ≤ s.size) (x : ByteArray) : Lib.hasPrefix (s.extract i s.size).data.toList x.data.toList = (decide (i + x.size ≤ s.size) && ((s.extract i (i + x.size)).toList == x.toList)) := by
  unfold Lib.hasPrefix
  have hl : (s.data.toList.drop i).length = s.size - i := by rw [List.length_drop]; rfl
  have e1 : (s.extract i s.size).data.toList = s.data.toList.drop i := by rw [ext_list, List.take_of_length_le (by rw [hl]; exact Nat.le_refl _)]
  have e2 : (s.extract i (i + x.size)).data.toList = (s.data.toList.drop i).take x.size := by rw [ext_list, Nat.add_sub_cancel_left]
  rw [ByteArray.toList_eq, ByteArray.toList_eq, e1, e2]
  have hx : x.data.toList.length = x.size := rfl
  rw [Bool.eq_iff_iff]
  simp only [Bool.and_eq_true, decide_eq_true_eq, beq_iff_eq, List.isPrefixOf_iff_prefix]
  constructor
  · intro h
    have h1 := h.length_le
    rw [hl, hx] at h1
    exact ⟨by omega, by rw [← hx]; exact (List.prefix_iff_eq_take.1 h).symm⟩
  · rintro ⟨h1, h2⟩
    rw [← h2]
    exact List.take_prefix _ _

def sgS : Option (List UInt8) → ByteArray
  | some l => ⟨l.toArray⟩
  | none => ⟨#[]⟩

end Go.Proofs.YtdpfmmbfidknfaaGreatDoor


/- The reference's quotations. -/
namespace Go.Proofs.YtdpfmmbfidknfaaGreatDoor
open Go.RowKit Go.Lib
attribute [local go_sem] store_float f64bits
attribute [local go_sem ↓] Go.wp_at_zero Go.wp_at_succ

theorem quotN_end (s : ByteArray) (m k p : Nat) (acc : List UInt8) (hp : s.size ≤ p) : quotN s m (k + 1) p acc = none := by
  have h : goes (pIn m) s p = p := goes_end hp
  have h2 : ¬ p < s.size := by omega
  simp only [quotN, h, h2, if_false]
theorem quotN_mark (s : ByteArray) (m k p : Nat) (acc : List UInt8) (hp : p < s.size) (hm : bt s p = m) : quotN s m (k + 1) p acc = some (acc, p + 1) := by
  have h : goes (pIn m) s p = p := goes_stop (by rw [hm]; simp [pIn])
  have h3 : (s.extract p p).data.toList = [] := by rw [ext_list]; simp
  simp only [quotN, h, hp, if_true, hm, h3, List.append_nil]
theorem quotN_esc (s : ByteArray) (m k p : Nat) (acc : List UInt8) (hp : p < s.size) (hm : bt s p = 92) (hn : m ≠ 92) : quotN s m (k + 1) p acc = (escAt s (p + 1)).bind fun x => quotN s m k x.2 (acc ++ [UInt8.ofNat x.1]) := by
  have h : goes (pIn m) s p = p := goes_stop (by rw [hm]; simp [pIn])
  have h3 : (s.extract p p).data.toList = [] := by rw [ext_list]; simp
  have h4 : ¬ (92 = m) := fun e => hn e.symm
  simp only [quotN, h, hp, if_true, hm, h3, List.append_nil, h4, if_false]
theorem quotN_byte (s : ByteArray) (m k p : Nat) (acc : List UInt8) (hp : p < s.size) (h1 : bt s p ≠ m) (h2 : bt s p ≠ 92) : quotN s m (k + 1) p acc = quotN s m (k + 1) (p + 1) (acc ++ [UInt8.ofNat (bt s p)]) := by
  have h : goes (pIn m) s p = goes (pIn m) s (p + 1) := goes_on hp (by simp [pIn, h1, h2])
  have hge := goes_ge (pIn m) s (p + 1)
  have h3 : acc ++ (s.extract p (goes (pIn m) s (p + 1))).data.toList = (acc ++ [UInt8.ofNat (bt s p)]) ++ (s.extract (p + 1) (goes (pIn m) s (p + 1))).data.toList := by
    rw [ext_list, ext_list, List.append_assoc]
    congr 1
    have hl : p < s.data.toList.length := hp
    rw [List.drop_eq_getElem_cons hl]
    obtain ⟨n, hn⟩ : ∃ n, goes (pIn m) s (p + 1) - p = n + 1 := ⟨goes (pIn m) s (p + 1) - p - 1, by omega⟩
    rw [hn, List.take_succ_cons, show goes (pIn m) s (p + 1) - (p + 1) = n from by omega]
    have : UInt8.ofNat (bt s p) = s.data.toList[p]'hl := by
      unfold bt
      rw [UInt8.ofNat_toNat, get_of_lt s p hp]
      rfl
    rw [this]
    rfl
  simp only [quotN, h, h3]

/-- A row of bytes that is owned, as a string. -/
theorem text_all {wr : World} {base : Nat} {v : Value} (l : List UInt8) (h : wr.ownsRow base 5 1 v l.length (Lib.byteCells l)) :
    (convert 41 9 v).run Tryz.prog wr = .ok (.string ⟨l.toArray⟩) wr := by
  obtain ⟨h1, ⟨h3, h2⟩ | ⟨g, cap, cur, rfl, hg, hh, hn, hc, hs, ht⟩⟩ := h
  · obtain rfl : l = [] := List.eq_nil_of_length_eq_zero h2
    rw [h3]
    exact run_convert_bytes_nil (P := Tryz.prog) (w := wr) 41 5 Tryz.underlying41 Tryz.underlying5 0 0 9 Tryz.underlying9
  · exact run_convert_bytes_back (P := Tryz.prog) wr 41 9 5 ⟨g, 0, none⟩ cap l Tryz.underlying41 Tryz.underlying5 Tryz.underlying9 (fun j hj => by
      have ea : (⟨g, 0, none⟩ : Addr).add j = ⟨g, j, none⟩ := by
        unfold Addr.add
        split
        · rename_i h; subst h; rfl
        · simp
      rw [ea]
      rw [Nat.mul_one] at ht
      have hj2 : (cur.toList.take l.length)[j]? = some (Value.int .u8 (((l[j]).toNat : Nat) : Int)) := by
        rw [ht]; unfold Lib.byteCells; rw [List.getElem?_map, List.getElem?_eq_getElem hj]; rfl
      rw [List.getElem?_take_of_lt hj] at hj2
      unfold World.cell?
      simp only [hh]
      simpa using hj2)

theorem app_one (w : World) (t : TypeId) (a0 : Value) (g : Nat) (hg : g = w.heap.size) (j : Nat) (u : Value) (hj : [a0][j]? = some u) : (w.alloc (.cells #[a0] t)).cell? ((⟨g, 0, none⟩ : Addr).add j) = some u := by
  subst hg
  match j, hj with
  | 0, hj => simp at hj; subst hj; simp [Addr.add]
  | (j + 1), hj => simp at hj

theorem cell_snoc (acc : List UInt8) (c : Nat) (hc : c < 256) : Lib.byteCells acc ++ [.int .u8 (c : Int)] = Lib.byteCells (acc ++ [UInt8.ofNat c]) := by
  rw [Lib.byteCells_append]
  simp [Lib.byteCells]
  omega

def quR (o : Option (List UInt8 × Nat)) : Value := .tuple #[.string ⟨((o.map Prod.fst).getD []).toArray⟩, .int .i64 ((o.map Prod.snd).getD 0 : Nat), .bool o.isSome]

theorem step_app1 {ops : Array Oper} {o : Oper} {a : Act} {w : World} {K : Act → World → Prop} {Q : Exit → Act → World → Prop} {E : Prop} (hg : o.guard = none) (s x : Operand)
    (hop : o.op = Op.call { callee := .builtin .append, args := #[s, x], argTypes := #[41, 41] }) (base : Nat) (v : Value) (n : Nat) (xs : List Value) (hs : a.eval s = v) (how : w.ownsRow base 5 1 v n xs)
    (ad : Addr) (c : Value) (hx : a.eval x = .slice (some ad) 1 1) (hc : w.cell? (ad.add 0) = some c) (h1 : c.oneCell' = true) (z1 : n + 1 ≤ maxLen) (z2 : (n + 1) * 1 ≤ 140737488355328) (hb : base ≤ w.heap.size)
    (h : ∀ g cap w', w'.ownsRow base 5 1 (.slice (some ⟨g, 0, none⟩) (n + 1) cap) (n + 1) (xs ++ [c]) → w.grownBy w' v.ownBlock → K (a.put o.dst (.slice (some ⟨g, 0, none⟩) (n + 1) cap)) w') :
    if Region.wanted o (yielded ops a.tmps) = true then Oper.wp Tryz.prog o a w K Q else E := by
  obtain ⟨i00, hi0, hz0, hz1, hz2⟩ := info_parts Tryz.Builder_Extra_169.infoByte
  exact step_append_lies w hg s x 41 hop base 5 i00 (.int .u8 0) 1 1 Tryz.underlying41 hi0 hz0 hz1 hz2 rfl (by decide) v n xs hs how ad 1 1 [c] hx rfl
    (fun j u hj => match j, hj with
      | 0, hj => by simp at hj; subst hj; exact hc
      | (j + 1), hj => by simp at hj) (fun u hu => by cases List.mem_singleton.1 hu; exact h1) (by decide) z1 z2 hb _ rfl (fun g cap w' h2 h3 _ _ => h g cap w' h2 h3)

end Go.Proofs.YtdpfmmbfidknfaaGreatDoor


