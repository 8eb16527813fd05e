/- A source of digits, a point, digits. -/
import Derived.Test.YtecgddiohoeboaaDoorLzA
import Derived.Test.YtecgddiohoeboaaDoorLyB
namespace Go.Proofs.YtecgddiohoeboaaDoor
open Go.RowKit Go.Lib

def dl (D : ByteArray) : List UInt8 := D.data.toList
theorem dl_len (D : ByteArray) : (dl D).length = D.size := rfl
theorem dl_append (A B : ByteArray) : dl (A ++ B) = dl A ++ dl B := by
  unfold dl
  rw [ByteArray.data_append, Array.toList_append]
theorem bt_dl (D : ByteArray) (i : Nat) (h : i < (dl D).length) : bt D i = ((dl D)[i]).toNat := by
  unfold bt
  rw [get_of_lt D i h]
  rfl
theorem dl_ext (D : ByteArray) (a b : Nat) : dl (D.extract a b) = ((dl D).take b).drop a := by
  unfold dl
  rw [ByteArray.data_extract, Array.toList_extract, List.extract_eq_take_drop, List.drop_take]

def AllD (l : List UInt8) : Prop := ∀ c ∈ l, pDigit c.toNat = true

theorem dec_src (H S : ByteArray) (V m : Nat) (hm : m ≤ 11) (hH : 1 ≤ H.size) (hHm : H.size + m ≤ 12) (hS : S.size = m + 1) (dH : AllD (dl H)) (dS : AllD (dl S)) (hz : H.size = 1 ∨ bt H 0 ≠ 48) (hV : wl (dl H) * 10 ^ (m + 1) + wl (dl S) = V) :
    allT ((H ++ ⟨#[46]⟩) ++ S) = .inl [⟨4, ⟨#[]⟩, 0, fq V (m + 1), 0⟩, ⟨8, ⟨#[]⟩, 0, 0, H.size + 1 + (m + 1)⟩] := by
  obtain ⟨R, hR⟩ : ∃ R, (H ++ ⟨#[46]⟩) ++ S = R := ⟨_, rfl⟩
  have hl : dl R = dl H ++ 46 :: dl S := by
    rw [← hR, dl_append, dl_append]
    show dl H ++ [46] ++ dl S = _
    rw [List.append_assoc]
    rfl
  have hRs : R.size = H.size + 1 + (m + 1) := by
    rw [← dl_len, hl, List.length_append, List.length_cons, dl_len, dl_len, hS]
    omega
  have b1 : ∀ j, j < H.size → bt R j = bt H j := fun j hj => by
    rw [bt_dl R j (by rw [dl_len, hRs]; omega), bt_dl H j hj]
    congr 1
    simp only [hl]
    exact List.getElem_append_left hj
  have b2 : bt R H.size = 46 := by
    rw [bt_dl R H.size (by rw [dl_len, hRs]; omega)]
    simp only [hl]
    rw [List.getElem_append_right (by rw [dl_len]; omega)]
    simp [dl_len]
  have b3 : ∀ j, j < m + 1 → bt R (H.size + 1 + j) = bt S j := fun j hj => by
    rw [bt_dl R _ (by rw [dl_len, hRs]; omega), bt_dl S j (by rw [dl_len, hS]; omega)]
    congr 1
    simp only [hl]
    rw [List.getElem_append_right (by rw [dl_len]; omega)]
    simp only [dl_len, show H.size + 1 + j - H.size = j + 1 by omega, List.getElem_cons_succ]
  rw [hR]
  refine allT_dec R H.size (m + 1) V hH (by omega) (by omega) hRs (fun j hj => ?_) b2 (fun j hj => ?_) ?_ ?_
  · rw [b1 j hj, bt_dl H j hj]; exact dH _ (List.getElem_mem _)
  · rw [b3 j hj, bt_dl S j (by rw [dl_len, hS]; omega)]; exact dS _ (List.getElem_mem _)
  · rw [b1 0 (by omega)]; exact hz
  · have e1 : dl (R.extract 0 H.size ++ R.extract (H.size + 1) (H.size + 1 + (m + 1))) = dl H ++ dl S := by
      rw [dl_append, dl_ext, dl_ext, hl]
      congr 1
      · rw [List.drop_zero, List.take_left' (dl_len H)]
      · rw [List.take_of_length_le (by rw [List.length_append, List.length_cons, dl_len, dl_len, hS]; omega), show H.size + 1 = (dl H).length + 1 by rw [dl_len], List.drop_length_add_append]
        rfl
    have e2 : (dl H ++ dl S).length = H.size + (m + 1) := by rw [List.length_append, dl_len, dl_len, hS]
    have := wor_wl (R.extract 0 H.size ++ R.extract (H.size + 1) (H.size + 1 + (m + 1))) (dl H ++ dl S) (fun j hj => by
      have hj' : j < (dl (R.extract 0 H.size ++ R.extract (H.size + 1) (H.size + 1 + (m + 1)))).length := by rw [e1]; exact hj
      rw [bt_dl _ j hj']
      simp only [e1]) (H.size + (m + 1)) (by rw [e2]; omega)
    rw [this, ← e2, List.take_length, wl_append, dl_len S, hS, hV]

theorem wl_step (V j : Nat) (S : List UInt8) (hS : S.length = j) (h : wl S = V % 10 ^ j) (d : Nat) (hd : V / 10 ^ j % 10 = d) : wl (UInt8.ofNat (48 + d) :: S) = V % 10 ^ (j + 1) := by
  have e : (UInt8.ofNat (48 + d)).toNat = 48 + d := by simp; omega
  simp only [wl, e, hS, h]
  rw [Nat.pow_succ, Nat.mod_mul, hd, show 48 + d - 48 = d by omega, Nat.mul_comm, Nat.add_comm]

theorem digit_carry (l : List UInt8) (x d q : Nat) (hd : x % 10 = d) (hq : x / 10 = q) : wl (UInt8.ofNat (48 + d) :: l) + q * 10 ^ (l.length + 1) = wl l + x * 10 ^ l.length := by
  have e : (UInt8.ofNat (48 + d)).toNat = 48 + d := by simp; omega
  have hx : x = 10 * q + d := by omega
  simp only [wl, e]
  rw [show 48 + d - 48 = d by omega, hx, Nat.pow_succ, Nat.add_mul, Nat.mul_comm (10 ^ l.length) 10, ← Nat.mul_assoc, Nat.mul_comm q 10]
  omega

theorem dig_mk (d : Nat) (hd : d < 10) : pDigit (UInt8.ofNat (48 + d)).toNat = true := by
  rw [show (UInt8.ofNat (48 + d)).toNat = 48 + d by simp; omega]
  simp [pDigit]
  omega

/-- A row of one byte, as a string. -/
theorem text_one (wr : World) (d : Nat) (hd : d < 10) : (convert 31 9 (.slice (some ⟨wr.heap.size, 0, none⟩) 1 1)).run Tryd.prog (wr.alloc (.cells #[.int .u8 (48 + (d : Int))] 5)) = .ok (.string ⟨#[UInt8.ofNat (48 + d)]⟩) (wr.alloc (.cells #[.int .u8 (48 + (d : Int))] 5)) :=
  run_convert_bytes_back (P := Tryd.prog) _ 31 9 5 ⟨wr.heap.size, 0, none⟩ 1 [UInt8.ofNat (48 + d)] Tryd.underlying31 Tryd.underlying5 Tryd.underlying9 (fun j hj => app_one wr 5 _ _ rfl j _ (by
    obtain rfl : j = 0 := by simpa using hj
    simp
    omega))
end Go.Proofs.YtecgddiohoeboaaDoor
