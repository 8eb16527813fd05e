import Derived.Test.YtdpfmmbfidknfaaGreatDoorG18
import Derived.Test.YtdpfmmbfidknfaaGreatDoorG16
import Derived.Test.YtdpfmmbfidknfaaGreatDoorG19
import Derived.Deep.RegionLaw
import Derived.Deep.RegionHeldLaw
import Derived.Deep.AppendLies
import Derived.Laws.BytesString
import Derived.Laws.BytesArg
/- The reference's quotations. -/
namespace Go.Proofs.YtdpfmmbfidknfaaGreatDoor
open Go.RowKit Go.Lib
attribute [local go_sem] store_float f64bits
attribute [local go_sem ↓] Go.wp_at_zero Go.wp_at_succ

theorem quotN_end (s : ByteArray) (m k p : Nat) (acc : List UInt8) (hp : s.size ≤ p) : quotN s m (k + 1) p acc = none := by
  have h : goes (pIn m) s p = p := goes_end hp
  have h2 : ¬ p < s.size := by omega
  simp only [quotN, h, h2, if_false]
theorem quotN_mark (s : ByteArray) (m k p : Nat) (acc : List UInt8) (hp : p < s.size) (hm : bt s p = m) : quotN s m (k + 1) p acc = some (acc, p + 1) := by
  have h : goes (pIn m) s p = p := goes_stop (by rw [hm]; simp [pIn])
  have h3 : (s.extract p p).data.toList = [] := by rw [ext_list]; simp
  simp only [quotN, h, hp, if_true, hm, h3, List.append_nil]
theorem quotN_esc (s : ByteArray) (m k p : Nat) (acc : List UInt8) (hp : p < s.size) (hm : bt s p = 92) (hn : m ≠ 92) : quotN s m (k + 1) p acc = (escAt s (p + 1)).bind fun x => quotN s m k x.2 (acc ++ [UInt8.ofNat x.1]) := by
  have h : goes (pIn m) s p = p := goes_stop (by rw [hm]; simp [pIn])
  have h3 : (s.extract p p).data.toList = [] := by rw [ext_list]; simp
  have h4 : ¬ (92 = m) := fun e => hn e.symm
  simp only [quotN, h, hp, if_true, hm, h3, List.append_nil, h4, if_false]
theorem quotN_byte (s : ByteArray) (m k p : Nat) (acc : List UInt8) (hp : p < s.size) (h1 : bt s p ≠ m) (h2 : bt s p ≠ 92) : quotN s m (k + 1) p acc = quotN s m (k + 1) (p + 1) (acc ++ [UInt8.ofNat (bt s p)]) := by
  have h : goes (pIn m) s p = goes (pIn m) s (p + 1) := goes_on hp (by simp [pIn, h1, h2])
  have hge := goes_ge (pIn m) s (p + 1)
  have h3 : acc ++ (s.extract p (goes (pIn m) s (p + 1))).data.toList = (acc ++ [UInt8.ofNat (bt s p)]) ++ (s.extract (p + 1) (goes (pIn m) s (p + 1))).data.toList := by
    rw [ext_list, ext_list, List.append_assoc]
    congr 1
    have hl : p < s.data.toList.length := hp
    rw [List.drop_eq_getElem_cons hl]
    obtain ⟨n, hn⟩ : ∃ n, goes (pIn m) s (p + 1) - p = n + 1 := ⟨goes (pIn m) s (p + 1) - p - 1, by omega⟩
    rw [hn, List.take_succ_cons, show goes (pIn m) s (p + 1) - (p + 1) = n from by omega]
    have : UInt8.ofNat (bt s p) = s.data.toList[p]'hl := by
      unfold bt
      rw [UInt8.ofNat_toNat, get_of_lt s p hp]
      rfl
    rw [this]
    rfl
  simp only [quotN, h, h3]

/-- A row of bytes that is owned, as a string. -/
theorem text_all {wr : World} {base : Nat} {v : Value} (l : List UInt8) (h : wr.ownsRow base 5 1 v l.length (Lib.byteCells l)) :
    (convert 41 9 v).run Tryz.prog wr = .ok (.string ⟨l.toArray⟩) wr := by
  obtain ⟨h1, ⟨h3, h2⟩ | ⟨g, cap, cur, rfl, hg, hh, hn, hc, hs, ht⟩⟩ := h
  · obtain rfl : l = [] := List.eq_nil_of_length_eq_zero h2
    rw [h3]
    exact run_convert_bytes_nil (P := Tryz.prog) (w := wr) 41 5 Tryz.underlying41 Tryz.underlying5 0 0 9 Tryz.underlying9
  · exact run_convert_bytes_back (P := Tryz.prog) wr 41 9 5 ⟨g, 0, none⟩ cap l Tryz.underlying41 Tryz.underlying5 Tryz.underlying9 (fun j hj => by
      have ea : (⟨g, 0, none⟩ : Addr).add j = ⟨g, j, none⟩ := by
        unfold Addr.add
        split
        · rename_i h; subst h; rfl
        · simp
      rw [ea]
      rw [Nat.mul_one] at ht
      have hj2 : (cur.toList.take l.length)[j]? = some (Value.int .u8 (((l[j]).toNat : Nat) : Int)) := by
        rw [ht]; unfold Lib.byteCells; rw [List.getElem?_map, List.getElem?_eq_getElem hj]; rfl
      rw [List.getElem?_take_of_lt hj] at hj2
      unfold World.cell?
      simp only [hh]
      simpa using hj2)

theorem app_one (w : World) (t : TypeId) (a0 : Value) (g : Nat) (hg : g = w.heap.size) (j : Nat) (u : Value) (hj : [a0][j]? = some u) : (w.alloc (.cells #[a0] t)).cell? ((⟨g, 0, none⟩ : Addr).add j) = some u := by
  subst hg
  match j, hj with
  | 0, hj => simp at hj; subst hj; simp [Addr.add]
  | (j + 1), hj => simp at hj

theorem cell_snoc (acc : List UInt8) (c : Nat) (hc : c < 256) : Lib.byteCells acc ++ [.int .u8 (c : Int)] = Lib.byteCells (acc ++ [UInt8.ofNat c]) := by
  rw [Lib.byteCells_append]
  simp [Lib.byteCells]
  omega

def quR (o : Option (List UInt8 × Nat)) : Value := .tuple #[.string ⟨((o.map Prod.fst).getD []).toArray⟩, .int .i64 ((o.map Prod.snd).getD 0 : Nat), .bool o.isSome]

theorem step_app1 {ops : Array Oper} {o : Oper} {a : Act} {w : World} {K : Act → World → Prop} {Q : Exit → Act → World → Prop} {E : Prop} (hg : o.guard = none) (s x : Operand)
    (hop : o.op = Op.call { callee := .builtin .append, args := #[s, x], argTypes := #[41, 41] }) (base : Nat) (v : Value) (n : Nat) (xs : List Value) (hs : a.eval s = v) (how : w.ownsRow base 5 1 v n xs)
    (ad : Addr) (c : Value) (hx : a.eval x = .slice (some ad) 1 1) (hc : w.cell? (ad.add 0) = some c) (h1 : c.oneCell' = true) (z1 : n + 1 ≤ maxLen) (z2 : (n + 1) * 1 ≤ 140737488355328) (hb : base ≤ w.heap.size)
    (h : ∀ g cap w', w'.ownsRow base 5 1 (.slice (some ⟨g, 0, none⟩) (n + 1) cap) (n + 1) (xs ++ [c]) → w.grownBy w' v.ownBlock → K (a.put o.dst (.slice (some ⟨g, 0, none⟩) (n + 1) cap)) w') :
    if Region.wanted o (yielded ops a.tmps) = true then Oper.wp Tryz.prog o a w K Q else E := by
  obtain ⟨i00, hi0, hz0, hz1, hz2⟩ := info_parts Tryz.Builder_Extra_169.infoByte
  exact step_append_lies w hg s x 41 hop base 5 i00 (.int .u8 0) 1 1 Tryz.underlying41 hi0 hz0 hz1 hz2 rfl (by decide) v n xs hs how ad 1 1 [c] hx rfl
    (fun j u hj => match j, hj with
      | 0, hj => by simp at hj; subst hj; exact hc
      | (j + 1), hj => by simp at hj) (fun u hu => by cases List.mem_singleton.1 hu; exact h1) (by decide) z1 z2 hb _ rfl (fun g cap w' h2 h3 _ _ => h g cap w' h2 h3)

end Go.Proofs.YtdpfmmbfidknfaaGreatDoor


/- A source of digits, a point, digits. -/
namespace Go.Proofs.YtdpfmmbfidknfaaGreatDoor
open Go.RowKit Go.Lib

def dl (D : ByteArray) : List UInt8 := D.data.toList
theorem dl_len (D : ByteArray) : (dl D).length = D.size := rfl
theorem dl_append (A B : ByteArray) : dl (A ++ B) = dl A ++ dl B := by
  unfold dl
  rw [ByteArray.data_append, Array.toList_append]
theorem bt_dl (D : ByteArray) (i : Nat) (h : i < (dl D).length) : bt D i = ((dl D)[i]).toNat := by
  unfold bt
  rw [get_of_lt D i h]
  rfl
theorem dl_ext (D : ByteArray) (a b : Nat) : dl (D.extract a b) = ((dl D).take b).drop a := by
  unfold dl
  rw [ByteArray.data_extract, Array.toList_extract, List.extract_eq_take_drop, List.drop_take]

def AllD (l : List UInt8) : Prop := ∀ c ∈ l, pDigit c.toNat = true

theorem dec_src (H S : ByteArray) (V m : Nat) (hm : m ≤ 11) (hH : 1 ≤ H.size) (hHm : H.size + m ≤ 12) (hS : S.size = m + 1) (dH : AllD (dl H)) (dS : AllD (dl S)) (hz : H.size = 1 ∨ bt H 0 ≠ 48) (hV : wl (dl H) * 10 ^ (m + 1) + wl (dl S) = V) :
    allT ((H ++ ⟨#[46]⟩) ++ S) = .inl [⟨4, ⟨#[]⟩, 0, fq V (m + 1), 0⟩, ⟨8, ⟨#[]⟩, 0, 0, H.size + 1 + (m + 1)⟩] := by
  obtain ⟨R, hR⟩ : ∃ R, (H ++ ⟨#[46]⟩) ++ S = R := ⟨_, rfl⟩
  have hl : dl R = dl H ++ 46 :: dl S := by
    rw [← hR, dl_append, dl_append]
    show dl H ++ [46] ++ dl S = _
    rw [List.append_assoc]
    rfl
  have hRs : R.size = H.size + 1 + (m + 1) := by
    rw [← dl_len, hl, List.length_append, List.length_cons, dl_len, dl_len, hS]
    omega
  have b1 : ∀ j, j < H.size → bt R j = bt H j := fun j hj => by
    rw [bt_dl R j (by rw [dl_len, hRs]; omega), bt_dl H j hj]
    congr 1
    simp only [hl]
    exact List.getElem_append_left hj
  have b2 : bt R H.size = 46 := by
    rw [bt_dl R H.size (by rw [dl_len, hRs]; omega)]
    simp only [hl]
    rw [List.getElem_append_right (by rw [dl_len]; omega)]
    simp [dl_len]
  have b3 : ∀ j, j < m + 1 → bt R (H.size + 1 + j) = bt S j := fun j hj => by
    rw [bt_dl R _ (by rw [dl_len, hRs]; omega), bt_dl S j (by rw [dl_len, hS]; omega)]
    congr 1
    simp only [hl]
    rw [List.getElem_append_right (by rw [dl_len]; omega)]
    simp only [dl_len, show H.size + 1 + j - H.size = j + 1 by omega, List.getElem_cons_succ]
  rw [hR]
  refine allT_dec R H.size (m + 1) V hH (by omega) (by omega) hRs (fun j hj => ?_) b2 (fun j hj => ?_) ?_ ?_
  · rw [b1 j hj, bt_dl H j hj]; exact dH _ (List.getElem_mem _)
  · rw [b3 j hj, bt_dl S j (by rw [dl_len, hS]; omega)]; exact dS _ (List.getElem_mem _)
  · rw [b1 0 (by omega)]; exact hz
  · have e1 : dl (R.extract 0 H.size ++ R.extract (H.size + 1) (H.size + 1 + (m + 1))) = dl H ++ dl S := by
      rw [dl_append, dl_ext, dl_ext, hl]
      congr 1
      · rw [List.drop_zero, List.take_left' (dl_len H)]
      · rw [List.take_of_length_le (by rw [List.length_append, List.length_cons, dl_len, dl_len, hS]; omega), show H.size + 1 = (dl H).length + 1 by rw [dl_len], List.drop_length_add_append]
        rfl
    have e2 : (dl H ++ dl S).length = H.size + (m + 1) := by rw [List.length_append, dl_len, dl_len, hS]
    have := wor_wl (R.extract 0 H.size ++ R.extract (H.size + 1) (H.size + 1 + (m + 1))) (dl H ++ dl S) (fun j hj => by
      have hj' : j < (dl (R.extract 0 H.size ++ R.extract (H.size + 1) (H.size + 1 + (m + 1)))).length := by rw [e1]; exact hj
      rw [bt_dl _ j hj']
      simp only [e1]) (H.size + (m + 1)) (by rw [e2]; omega)
    rw [this, ← e2, List.take_length, wl_append, dl_len S, hS, hV]

theorem wl_step (V j : Nat) (S : List UInt8) (hS : S.length = j) (h : wl S = V % 10 ^ j) (d : Nat) (hd : V / 10 ^ j % 10 = d) : wl (UInt8.ofNat (48 + d) :: S) = V % 10 ^ (j + 1) := by
  have e : (UInt8.ofNat (48 + d)).toNat = 48 + d := by simp; omega
  simp only [wl, e, hS, h]
  rw [Nat.pow_succ, Nat.mod_mul, hd, show 48 + d - 48 = d by omega, Nat.mul_comm, Nat.add_comm]

theorem digit_carry (l : List UInt8) (x d q : Nat) (hd : x % 10 = d) (hq : x / 10 = q) : wl (UInt8.ofNat (48 + d) :: l) + q * 10 ^ (l.length + 1) = wl l + x * 10 ^ l.length := by
  have e : (UInt8.ofNat (48 + d)).toNat = 48 + d := by simp; omega
  have hx : x = 10 * q + d := by omega
  simp only [wl, e]
  rw [show 48 + d - 48 = d by omega, hx, Nat.pow_succ, Nat.add_mul, Nat.mul_comm (10 ^ l.length) 10, ← Nat.mul_assoc, Nat.mul_comm q 10]
  omega

theorem dig_mk (d : Nat) (hd : d < 10) : pDigit (UInt8.ofNat (48 + d)).toNat = true := by
  rw [show (UInt8.ofNat (48 + d)).toNat = 48 + d by simp; omega]
  simp [pDigit]
  omega

/-- A row of one byte, as a string. -/
theorem text_one (wr : World) (d : Nat) (hd : d < 10) : (convert 41 9 (.slice (some ⟨wr.heap.size, 0, none⟩) 1 1)).run Tryz.prog (wr.alloc (.cells #[.int .u8 (48 + (d : Int))] 5)) = .ok (.string ⟨#[UInt8.ofNat (48 + d)]⟩) (wr.alloc (.cells #[.int .u8 (48 + (d : Int))] 5)) :=
  run_convert_bytes_back (P := Tryz.prog) _ 41 9 5 ⟨wr.heap.size, 0, none⟩ 1 [UInt8.ofNat (48 + d)] Tryz.underlying41 Tryz.underlying5 Tryz.underlying9 (fun j hj => app_one wr 5 _ _ rfl j _ (by
    obtain rfl : j = 0 := by simpa using hj
    simp
    omega))
end Go.Proofs.YtdpfmmbfidknfaaGreatDoor


