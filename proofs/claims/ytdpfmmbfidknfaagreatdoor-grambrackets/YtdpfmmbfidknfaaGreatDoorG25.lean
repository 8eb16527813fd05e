import Derived.Test.YtdpfmmbfidknfaaGreatDoorG24
/- A token hangs on its own bytes alone, and on what stands behind it being a blank or a comment. -/
namespace Go.Proofs.YtdpfmmbfidknfaaGreatDoor
open Go.RowKit Go.Lib

/-- The bytes of t from r on are those of s from p on, n of them; then t ends, or a blank or a comment stands there. -/
structure Like (s t : ByteArray) (p r n : Nat) : Prop where
  b : ∀ j, j < n → bt t (r + j) = bt s (p + j)
  hs : p + n ≤ s.size
  ht : r + n ≤ t.size
  z : r + n = t.size ∨ pBlank (bt t (r + n)) = true ∨ bt t (r + n) = 37

theorem Like.ext {s t : ByteArray} {p r n : Nat} (h : Like s t p r n) (a k : Nat) (hk : a + k ≤ n) : t.extract (r + a) (r + a + k) = s.extract (p + a) (p + a + k) := by
  have h1 := h.hs
  have h2 := h.ht
  have e1 : dl (t.extract (r + a) (r + a + k)) = dl (s.extract (p + a) (p + a + k)) := by
    apply List.ext_getElem
    · rw [dl_len, dl_len, size_ext, size_ext]; omega
    · intro i hi1 hi2
      have hik : i < k := by rw [dl_len, size_ext] at hi1; omega
      have b1 := bt_dl _ i hi1
      have b2 := bt_dl _ i hi2
      rw [bt_ext2 t _ _ i (by omega) (by omega)] at b1
      rw [bt_ext2 s _ _ i (by omega) (by omega)] at b2
      have := h.b (a + i) (by omega)
      rw [← Nat.add_assoc, ← Nat.add_assoc, b1, b2] at this
      exact UInt8.toNat_inj.1 this
  apply ByteArray.ext
  exact Array.toList_inj.1 e1

theorem Like.stop {s t : ByteArray} {p r n : Nat} (h : Like s t p r n) (P : Nat → Bool) (hP : ∀ c, pBlank c = true ∨ c = 37 → P c = false) : goes P t (r + n) = r + n := by
  rcases h.z with h | h
  · exact goes_end (by omega)
  · exact goes_stop (hP _ h)

/-- A class that goes all the way. -/
theorem Like.goes {s t : ByteArray} {p r n : Nat} (h : Like s t p r n) (P : Nat → Bool) (hP : ∀ c, pBlank c = true ∨ c = 37 → P c = false) (a : Nat) (ha : a ≤ n) (hg : ∀ j, a ≤ j → j < n → P (bt s (p + j)) = true) : goes P t (r + a) = r + n := by
  rw [goes_past P t (r + a) (n - a) (by have := h.ht; omega) (fun j hj => by
    rw [Nat.add_assoc, h.b (a + j) (by omega)]
    exact hg (a + j) (by omega) (by omega)), show r + a + (n - a) = r + n by omega]
  exact h.stop P hP

theorem no_name : ∀ c, pBlank c = true ∨ c = 37 → pName c = false := by
  intro c h
  have : c = 9 ∨ c = 10 ∨ c = 13 ∨ c = 32 ∨ c = 37 := by simp [pBlank] at h; omega
  rcases this with rfl | rfl | rfl | rfl | rfl <;> rfl
theorem no_digit : ∀ c, pBlank c = true ∨ c = 37 → pDigit c = false := by
  intro c h
  have : c = 9 ∨ c = 10 ∨ c = 13 ∨ c = 32 ∨ c = 37 := by simp [pBlank] at h; omega
  rcases this with rfl | rfl | rfl | rfl | rfl <;> rfl

theorem hexN_like (s t : ByteArray) : ∀ k p r u, (∀ j, j < k → bt t (r + j) = bt s (p + j)) → p + k ≤ s.size → r + k ≤ t.size → hexN t k r u = hexN s k p u := by
  intro k
  induction k with
  | zero => intros; rfl
  | succ k ih =>
    intro p r u h h1 h2
    have h0 : bt t r = bt s p := h 0 (by omega)
    have e : hexAt t r = hexAt s p := by unfold hexAt; rw [if_pos (by omega), if_pos (by omega), h0]
    simp only [hexN, e]
    cases hexAt s p with
    | none => rfl
    | some d =>
      simp only [Option.bind_some]
      exact ih (p + 1) (r + 1) _ (fun j hj => by
        have := h (j + 1) (by omega)
        rw [show r + 1 + j = r + (j + 1) by omega, show p + 1 + j = p + (j + 1) by omega]
        exact this) (by omega) (by omega)

theorem esc_like (s t : ByteArray) (p r c e : Nat) (h : escAt s p = some (c, e)) (hb : ∀ j, p + j < e → bt t (r + j) = bt s (p + j)) (ht : r + (e - p) ≤ t.size) : escAt t r = some (c, r + (e - p)) := by
  obtain ⟨_, hpe, hes⟩ := esc_lt h
  have h0 : bt t r = bt s p := hb 0 (by omega)
  unfold escAt at h ⊢
  rw [if_pos (by omega)] at h
  rw [if_pos (by omega), h0]
  split at h
  · rename_i h1; rw [if_pos h1]; cases h; rw [show p + 1 - p = 1 by omega]
  · rename_i h1
    rw [if_neg h1]
    split at h
    · rename_i h2; rw [if_pos h2]; cases h; rw [show p + 1 - p = 1 by omega]
    · rename_i h2
      rw [if_neg h2]
      split at h
      · rename_i h3; rw [if_pos h3]; cases h; rw [show p + 1 - p = 1 by omega]
      · rename_i h3
        rw [if_neg h3]
        split at h
        · rename_i h4
          rw [if_pos h4]
          obtain ⟨u, hu, he⟩ := Option.map_eq_some_iff.1 h
          cases he
          have hin := hexN_in s 1 (p + 1) 0 c hu
          rw [hexN_like s t 2 (p + 1) (r + 1) 0 (fun j hj => by
            have := hb (j + 1) (by omega)
            rw [show r + 1 + j = r + (j + 1) by omega, show p + 1 + j = p + (j + 1) by omega]
            exact this) (by omega) (by omega), hu]
          simp only [Option.map_some]
          rw [show p + 3 - p = 3 by omega]
        · cases h

theorem quot_like (s t : ByteArray) (m : Nat) (hm : m ≠ 92) : ∀ n p r k k' acc l e, e - p = n → p ≤ s.size → quotN s m k p acc = some (l, e) → n ≤ k' → (∀ j, j < n → bt t (r + j) = bt s (p + j)) → r + n ≤ t.size → quotN t m k' r acc = some (l, r + n) := by
  intro n
  induction n using Nat.strongRecOn with
  | ind n ih =>
    intro p r k k' acc l e hn hp hq hk hb ht
    obtain ⟨_, hes, hpe⟩ := quotN_len s m k p acc l e hp hq
    obtain ⟨k, rfl⟩ : ∃ k0, k = k0 + 1 := by
      cases k with
      | zero => cases hq
      | succ k => exact ⟨k, rfl⟩
    obtain ⟨k', rfl⟩ : ∃ k0, k' = k0 + 1 := ⟨k' - 1, by omega⟩
    have h0 : bt t r = bt s p := hb 0 (by omega)
    have hlt : p < s.size := by omega
    by_cases hc : bt s p = m
    · rw [quotN_mark s m k p acc hlt hc] at hq
      cases hq
      rw [quotN_mark t m k' r _ (by omega) (by rw [h0]; exact hc), show n = 1 by omega]
    · by_cases h92 : bt s p = 92
      · rw [quotN_esc s m k p acc hlt h92 hm] at hq
        rw [quotN_esc t m k' r acc (by omega) (by rw [h0]; exact h92) hm]
        cases hx : escAt s (p + 1) with
        | none => rw [hx] at hq; cases hq
        | some x =>
          obtain ⟨c, p2⟩ := x
          rw [hx] at hq
          simp only [Option.bind_some] at hq
          obtain ⟨_, hp2, hp3⟩ := esc_lt hx
          obtain ⟨_, _, hpe2⟩ := quotN_len s m k p2 _ l e hp3 hq
          have hx2 := esc_like s t (p + 1) (r + 1) c p2 hx (fun j hj => by
            have := hb (j + 1) (by omega)
            rw [show r + 1 + j = r + (j + 1) by omega, show p + 1 + j = p + (j + 1) by omega]
            exact this) (by omega)
          rw [hx2]
          simp only [Option.bind_some]
          have := ih (e - p2) (by omega) p2 (r + 1 + (p2 - (p + 1))) k k' _ l e rfl hp3 hq (by omega) (fun j hj => by
            have := hb (p2 - p + j) (by omega)
            rw [show r + 1 + (p2 - (p + 1)) + j = r + (p2 - p + j) by omega, this]
            congr 1
            omega) (by omega)
          rw [this]
          congr 2
          omega
      · rw [quotN_byte s m k p acc hlt hc h92] at hq
        rw [quotN_byte t m k' r acc (by omega) (by rw [h0]; exact hc) (by rw [h0]; exact h92), h0]
        have := ih (n - 1) (by omega) (p + 1) (r + 1) (k + 1) (k' + 1) _ l e (by omega) (by omega) hq (by omega) (fun j hj => by
          have := hb (j + 1) (by omega)
          rw [show r + 1 + j = r + (j + 1) by omega, show p + 1 + j = p + (j + 1) by omega]
          exact this) (by omega)
        rw [this]
        congr 2
        omega

theorem sign_clean : ∀ l ∈ signL, ∀ c ∈ l, pBlank c.toNat = false ∧ c.toNat ≠ 37 := by decide

theorem pre_iff (s : ByteArray) (p : Nat) (l : List UInt8) : Lib.hasPrefix (s.extract p s.size).data.toList l = true ↔ p + l.length ≤ max p s.size ∧ ∀ j (h : j < l.length), bt s (p + j) = (l[j]).toNat := by
  have hd : (s.extract p s.size).data.toList = (dl s).drop p := by
    have := dl_ext s p s.size
    rw [show (dl s).take s.size = dl s from List.take_length] at this
    exact this
  rw [hd]
  unfold Lib.hasPrefix
  rw [List.isPrefixOf_iff_prefix, List.prefix_iff_eq_take]
  have hlen : ((dl s).drop p).length = s.size - p := by rw [List.length_drop, dl_len]
  constructor
  · intro h
    have h1 : l.length ≤ s.size - p := by
      have := congrArg List.length h
      rw [List.length_take, hlen] at this
      omega
    refine ⟨by omega, fun j hj => ?_⟩
    have hj2 : p + j < (dl s).length := by rw [dl_len]; omega
    rw [bt_dl s (p + j) hj2]
    congr 1
    have : l[j]? = (((dl s).drop p).take l.length)[j]? := by rw [← h]
    rw [List.getElem?_take_of_lt hj, List.getElem?_drop, List.getElem?_eq_getElem hj2, List.getElem?_eq_getElem hj] at this
    exact (Option.some.inj this).symm
  · intro ⟨h1, h2⟩
    apply List.ext_getElem?
    intro j
    by_cases hj : j < l.length
    · have hj2 : p + j < (dl s).length := by rw [dl_len]; omega
      rw [List.getElem?_take_of_lt hj, List.getElem?_drop, List.getElem?_eq_getElem hj2, List.getElem?_eq_getElem hj]
      have := h2 j hj
      rw [bt_dl s (p + j) hj2] at this
      exact congrArg some (UInt8.toNat_inj.1 this).symm
    · rw [List.getElem?_eq_none (by omega), List.getElem?_eq_none (by rw [List.length_take]; omega)]

theorem sign_like (s t : ByteArray) (p r n : Nat) (l : List UInt8) (h : Like s t p r n) (hn : l.length = n) (hs : signAt s p = some l) : signAt t r = some l := by
  have h1 := h.hs
  have h2 := h.ht
  unfold signAt at hs ⊢
  rw [List.find?_eq_some_iff_append] at hs ⊢
  obtain ⟨hp, xs, ys, hl, hne⟩ := hs
  refine ⟨?_, xs, ys, hl, fun a ha => ?_⟩
  · rw [pre_iff] at hp ⊢
    exact ⟨by omega, fun j hj => by rw [h.b j (by omega)]; exact hp.2 j hj⟩
  · have := hne a ha
    rw [Bool.not_eq_true', ← Bool.not_eq_true] at this ⊢
    intro hc
    refine this ?_
    rw [pre_iff] at hc ⊢
    have hmem : a ∈ signL := by rw [hl]; exact List.mem_append_left _ ha
    have hla : a.length ≤ n := by
      rcases Nat.lt_or_ge n a.length with hlt | hge
      · exfalso
        have hb := hc.2 n hlt
        have hcl := sign_clean a hmem a[n] (List.getElem_mem _)
        rw [← hb] at hcl
        rcases h.z with hz | hz | hz
        · have := hc.1; omega
        · rw [hz] at hcl; cases hcl.1
        · exact hcl.2 hz
      · exact hge
    exact ⟨by omega, fun j hj => by rw [← h.b j (by omega)]; exact hc.2 j hj⟩

/-- A token stands by itself. -/
theorem tok_local (s t : ByteArray) (p r : Nat) (hp : p < s.size) (hok : okV (tokV s p) = true) (h : Like s t p r (tokE s p - p)) : tokV t r = tokV s p ∧ tokE t r = r + (tokE s p - p) := by
  obtain ⟨hE1, hE2⟩ := tokE_in s p hp hok
  obtain ⟨n, hn⟩ : ∃ n, tokE s p - p = n := ⟨_, rfl⟩
  rw [hn] at h ⊢
  have hEn : tokE s p = p + n := by omega
  have h0 : bt t r = bt s p := h.b 0 (by omega)
  have hext := h.ext 0 n (by omega)
  simp only [Nat.add_zero] at hext
  have hsz := h.hs
  have htz := h.ht
  unfold tokV at hok ⊢
  unfold tokE at hEn ⊢
  rw [h0]
  by_cases h1 : pSmall (bt s p) = true
  · simp only [if_pos h1] at hok hEn ⊢
    have hg : goes pName t r = r + n := h.goes pName no_name 0 (by omega) (fun j _ hj => goes_all pName s p (p + j) (by omega) (by omega))
    exact ⟨by unfold wordV; rw [hg, hEn, hext], hg⟩
  simp only [if_neg h1] at hok hEn ⊢
  by_cases h2 : pCapital (bt s p) = true ∨ bt s p = 95
  · simp only [if_pos h2] at hok hEn ⊢
    have hg : goes pName t r = r + n := h.goes pName no_name 0 (by omega) (fun j _ hj => goes_all pName s p (p + j) (by omega) (by omega))
    exact ⟨by unfold varV; rw [hg, hEn, hext], hg⟩
  simp only [if_neg h2] at hok hEn ⊢
  by_cases h3 : pDigit (bt s p) = true
  · simp only [if_pos h3] at hok hEn ⊢
    have hge := goes_ge pDigit s p
    obtain ⟨e, he⟩ : ∃ e, goes pDigit s p = p + e := ⟨goes pDigit s p - p, by omega⟩
    have hle := (frac_end s (goes pDigit s p) (goes_le pDigit s p (by omega))).1
    rw [hEn, he] at hle
    rw [he] at hEn
    by_cases hf : fracOk s (p + e) = true
    · have hf' := hf
      simp only [fracOk, Bool.and_eq_true, decide_eq_true_eq, beq_iff_eq] at hf'
      obtain ⟨⟨⟨f1, f2⟩, f3⟩, f4⟩ := hf'
      unfold fracEnd at hEn
      rw [if_pos hf] at hEn
      have hg1 := goes_on f3 f4
      have hg2 := goes_ge pDigit s (p + e + 1 + 1)
      have hen : e + 1 < n := by omega
      have gt : goes pDigit t r = r + e := by
        have := goes_past pDigit t r e (by omega) (fun j hj => by rw [h.b j (by omega)]; exact goes_all pDigit s p (p + j) (by omega) (by omega))
        rw [this]
        exact goes_stop (by rw [h.b e (by omega), f2]; rfl)
      have b1 := h.b e (by omega)
      have b2 := h.b (e + 1) (by omega)
      rw [← Nat.add_assoc, ← Nat.add_assoc] at b2
      have ft : fracOk t (r + e) = true := by
        simp only [fracOk, Bool.and_eq_true, decide_eq_true_eq, beq_iff_eq]
        exact ⟨⟨⟨by omega, by rw [b1]; exact f2⟩, by omega⟩, by rw [b2]; exact f4⟩
      have gt2 : goes pDigit t (r + e + 1) = r + n := by
        rw [Nat.add_assoc]
        exact h.goes pDigit no_digit (e + 1) (by omega) (fun j hj1 hj2 => goes_all pDigit s (p + e + 1) (p + j) (by omega) (by omega))
      have x1 := h.ext 0 e (by omega)
      simp only [Nat.add_zero] at x1
      have x2 := h.ext (e + 1) (n - (e + 1)) (by omega)
      rw [show r + (e + 1) + (n - (e + 1)) = r + n by omega, show p + (e + 1) + (n - (e + 1)) = p + n by omega, ← Nat.add_assoc, ← Nat.add_assoc] at x2
      refine ⟨?_, by rw [gt]; unfold fracEnd; rw [if_pos ft, gt2]⟩
      unfold numV
      rw [gt, he]
      unfold fracS
      rw [if_pos ft, if_pos hf, gt2, hEn, x1, x2]
    · have hf0 : fracOk s (p + e) = false := by simpa using hf
      unfold fracEnd at hEn
      rw [if_neg hf] at hEn
      obtain rfl : e = n := by omega
      have gt : goes pDigit t r = r + e := h.goes pDigit no_digit 0 (by omega) (fun j _ hj => goes_all pDigit s p (p + j) (by omega) (by omega))
      have ft : fracOk t (r + e) = false := by
        unfold fracOk
        rcases h.z with hz | hz
        · rw [hz]; simp
        · have : bt t (r + e) ≠ 46 := by
            intro hc
            rw [hc] at hz
            rcases hz with hz | hz
            · cases hz
            · cases hz
          simp [this]
      refine ⟨?_, by rw [gt]; unfold fracEnd; rw [if_neg (by rw [ft]; simp)]⟩
      have fs1 : fracS t (r + e) = ⟨#[]⟩ := by unfold fracS; rw [if_neg (by rw [ft]; simp)]
      have fs2 : fracS s (p + e) = ⟨#[]⟩ := by unfold fracS; rw [if_neg (by rw [hf0]; simp)]
      unfold numV
      rw [gt, he, fs1, fs2, hext]
  simp only [if_neg h3] at hok hEn ⊢
  by_cases h4 : bt s p = 35
  · simp only [if_pos h4] at hok hEn ⊢
    obtain rfl : n = 17 := by omega
    have hx := hexN_like s t 16 (p + 1) (r + 1) 0 (fun j hj => by
      have := h.b (j + 1) (by omega)
      rw [show r + 1 + j = r + (j + 1) by omega, show p + 1 + j = p + (j + 1) by omega]
      exact this) (by omega) (by omega)
    exact ⟨by unfold bitsV; rw [hx], rfl⟩
  simp only [if_neg h4] at hok hEn ⊢
  by_cases h5 : bt s p = 39 ∨ bt s p = 34
  · simp only [if_pos h5] at hok hEn ⊢
    unfold quoteE at hEn ⊢
    unfold quoteV at hok ⊢
    rw [h0]
    cases hq : quotN s (bt s p) (s.size + 1) (p + 1) [] with
    | none => rw [hq] at hok; cases hok
    | some x =>
      obtain ⟨l, e⟩ := x
      rw [hq] at hEn hok
      obtain rfl : e = p + n := hEn
      obtain ⟨_, _, hpe⟩ := quotN_len s (bt s p) _ (p + 1) [] l _ (by omega) hq
      have := quot_like s t (bt s p) (by omega) (n - 1) (p + 1) (r + 1) (s.size + 1) (t.size + 1) [] l (p + n) (by omega) (by omega) hq (by omega) (fun j hj => by
        have := h.b (j + 1) (by omega)
        rw [show r + 1 + j = r + (j + 1) by omega, show p + 1 + j = p + (j + 1) by omega]
        exact this) (by omega)
      rw [this]
      refine ⟨rfl, ?_⟩
      show r + 1 + (n - 1) = r + n
      omega
  simp only [if_neg h5] at hok hEn ⊢
  cases hs : signAt s p with
  | none => rw [hs] at hok; cases hok
  | some l =>
    rw [hs] at hEn
    have hl : l.length = n := by have : p + l.length = p + n := hEn; omega
    rw [sign_like s t p r n l h hl hs]
    exact ⟨rfl, by show r + l.length = r + n; omega⟩
end Go.Proofs.YtdpfmmbfidknfaaGreatDoor


/- A token with what stands behind it, alone; all of them, with blanks between. -/
namespace Go.Proofs.YtdpfmmbfidknfaaGreatDoor
open Go.RowKit Go.Lib

theorem bt_left (A B : ByteArray) (j : Nat) (h : j < A.size) : bt (A ++ B) j = bt A j := by rw [bt_append A B j (by omega), if_pos h]
theorem bt_right (A B : ByteArray) (j : Nat) (h : j < B.size) : bt (A ++ B) (A.size + j) = bt B j := by
  rw [bt_append A B _ (by omega), if_neg (by omega)]
  congr 1
  omega

theorem run_first {s : ByteArray} {k p : Nat} {b : Bool} (h : runP s (k + 1) false p = some b) : pBlank (bt s p) = true ∨ bt s p = 37 := by
  simp only [runP] at h
  split at h
  · rename_i h1; exact .inl h1
  · split at h
    · rename_i h2; exact .inr h2
    · cases h

theorem run_sp (t : ByteArray) (b : Bool) (p : Nat) (h : bt t p = 32) : runP t 1 b p = some b := by
  cases b with
  | true => simp only [runP, h]; rfl
  | false => simp only [runP, h]; rfl
theorem run_nl (t : ByteArray) (b : Bool) (p : Nat) (h : bt t p = 10) : runP t 1 b p = some false := by
  cases b with
  | true => simp only [runP, h]; rfl
  | false => simp only [runP, h]; rfl

theorem tkOf_move (s : ByteArray) (q r : Nat) : tkOf (tokV s q) r = { tkOf (tokV s q) q with p := r } := by
  obtain ⟨tk, x, tn, tf, er, hV⟩ := tokV_tk s q
  rw [hV]
  rfl

/-- How a token and what stands behind it lie in another source. -/
theorem like_of (s t : ByteArray) (q r : Nat) (ts : List Tk) (hq : q < s.size) (hok : okV (tokV s q) = true) (hc : Chain s (tokE s q) ts)
    (hb : ∀ j, j < nextP s ts - q → bt t (r + j) = bt s (q + j)) (ht : r + (nextP s ts - q) < t.size) (hz : pBlank (bt t (r + (nextP s ts - q))) = true) :
    Like s t q r (tokE s q - q) ∧ ∃ b, runP t (nextP s ts - tokE s q) false (r + (tokE s q - q)) = some b := by
  obtain ⟨h1, h2⟩ := tokE_in s q hq hok
  obtain ⟨h3, h4, b, h5⟩ := hc.next
  refine ⟨⟨fun j hj => hb j (by omega), by omega, by omega, .inr ?_⟩, b, ?_⟩
  · by_cases he : tokE s q = nextP s ts
    · rw [he]; exact .inl hz
    · obtain ⟨k, hk⟩ : ∃ k, nextP s ts - tokE s q = k + 1 := ⟨nextP s ts - tokE s q - 1, by omega⟩
      rw [hk] at h5
      have := run_first h5
      rw [hb _ (by omega), show q + (tokE s q - q) = tokE s q by omega]
      exact this
  · rw [← h5]
    exact runP_eq s t _ false _ _ (fun j hj => by
      rw [Nat.add_assoc, hb _ (by omega)]
      congr 1
      omega)

/-- A token alone, with a blank behind. -/
theorem part_one (s : ByteArray) (hs : s.size ≤ 60000) (q : Nat) (ts : List Tk) (hq : q < s.size) (hnb : pBlank (bt s q) = false) (h37 : bt s q ≠ 37) (hok : okV (tokV s q) = true) (hc : Chain s (tokE s q) ts) :
    allT (s.extract q (nextP s ts) ++ ⟨#[32]⟩) = .inl [tkOf (tokV s q) 0, ⟨8, ⟨#[]⟩, 0, 0, nextP s ts - q + 1⟩] := by
  obtain ⟨h1, h2⟩ := tokE_in s q hq hok
  obtain ⟨h3, h4, _⟩ := hc.next
  obtain ⟨N, hN⟩ : ∃ N, nextP s ts - q = N := ⟨_, rfl⟩
  obtain ⟨t, htd⟩ : ∃ t, s.extract q (nextP s ts) ++ ⟨#[32]⟩ = t := ⟨_, rfl⟩
  have hes : (s.extract q (nextP s ts)).size = N := by rw [size_ext]; omega
  have hts : t.size = N + 1 := by rw [← htd, ByteArray.size_append, hes]; rfl
  have hb : ∀ j, j < N → bt t (0 + j) = bt s (q + j) := fun j hj => by
    rw [← htd, Nat.zero_add, bt_left _ _ j (by omega), bt_ext2 s _ _ j (by omega) (by omega)]
  have hb2 : bt t N = 32 := by
    have := bt_right (s.extract q (nextP s ts)) ⟨#[32]⟩ 0 (by decide)
    rw [htd, hes] at this
    exact this
  obtain ⟨hl, b, hr⟩ := like_of s t q 0 ts hq hok hc (by rw [hN]; exact hb) (by omega) (by rw [hN, Nat.zero_add, hb2]; rfl)
  obtain ⟨tv, te⟩ := tok_local s t q 0 hq hok hl
  rw [Nat.zero_add] at te hr
  have hr2 : runP t (N + 1 - (tokE s q - q)) false (tokE s q - q) = some b := by
    rw [show N + 1 - (tokE s q - q) = (nextP s ts - tokE s q) + 1 by omega, runP_add t _ _ _ _ _ hr, show tokE s q - q + (nextP s ts - tokE s q) = N by omega]
    exact run_sp t b N hb2
  have hg := (gap t _ _ (by omega)).1 b hr2
  have hge : (if b = true then goes pLine t (tokE s q - q + (N + 1 - (tokE s q - q))) else tokE s q - q + (N + 1 - (tokE s q - q))) = t.size := by
    rw [show tokE s q - q + (N + 1 - (tokE s q - q)) = t.size by omega]
    split
    · exact goes_end (Nat.le_refl _)
    · rfl
  rw [hge] at hg
  have b0 : bt t 0 = bt s q := hb 0 (by omega)
  rw [htd]
  unfold allT
  rw [if_neg (by omega), toks_at t t.size 0 [] (by omega) (by rw [b0]; exact hnb) (by rw [b0]; exact h37)]
  unfold layT
  rw [tv, te, if_pos ((okV_of s q).1 hok)]
  obtain ⟨k', hk', he⟩ := hg.2.2 t.size ([] ++ [tkOf (tokV s q) 0]) (by omega)
  rw [he]
  obtain ⟨k, rfl⟩ : ∃ k, k' = k + 1 := ⟨k' - 1, by omega⟩
  rw [toks_end t k t.size _ (Nat.le_refl _), hts, hN]
  rfl

/-- Whatever stands behind: from the start the tokens are these, and then those from there on. -/
def Adv (W : ByteArray) (done : List Tk) : Prop := ∀ X k, (W ++ X).size < k → ∃ k', (W ++ X).size < W.size + k' ∧ toks (W ++ X) k 0 [] = toks (W ++ X) k' W.size done

theorem adv_start (B : ByteArray) (hB : ∀ j, j < B.size → pBlank (bt B j) = true) : Adv B [] := by
  intro X k hk
  have hsz : (B ++ X).size = B.size + X.size := ByteArray.size_append ..
  have hr : runP (B ++ X) B.size false 0 = some false := run_blanks _ _ _ (fun j hj => by rw [Nat.zero_add, bt_left B X j hj]; exact hB j hj)
  have hg := (gap (B ++ X) B.size 0 (by omega)).1 false hr
  simp only [Bool.false_eq_true, if_false, Nat.zero_add] at hg
  exact hg.2.2 k [] (by omega)

theorem adv_step (W B s : ByteArray) (done : List Tk) (hW : Adv W done) (hB : ∀ j, j < B.size → pBlank (bt B j) = true) (q : Nat) (ts : List Tk) (hq : q < s.size) (hnb : pBlank (bt s q) = false) (h37 : bt s q ≠ 37) (hok : okV (tokV s q) = true) (hc : Chain s (tokE s q) ts) :
    Adv (((W ++ s.extract q (nextP s ts)) ++ ⟨#[10]⟩) ++ B) (done ++ [tkOf (tokV s q) W.size]) := by
  intro X k hk
  obtain ⟨h1, h2⟩ := tokE_in s q hq hok
  obtain ⟨h3, h4, _⟩ := hc.next
  obtain ⟨N, hN⟩ : ∃ N, nextP s ts - q = N := ⟨_, rfl⟩
  have hes : (s.extract q (nextP s ts)).size = N := by rw [size_ext]; omega
  have n1 : (⟨#[10]⟩ : ByteArray).size = 1 := rfl
  have hw : (((W ++ s.extract q (nextP s ts)) ++ ⟨#[10]⟩) ++ B).size = W.size + N + 1 + B.size := by
    rw [ByteArray.size_append, ByteArray.size_append, ByteArray.size_append, hes, n1]
  have hwx := ByteArray.size_append (a := ((W ++ s.extract q (nextP s ts)) ++ ⟨#[10]⟩) ++ B) (b := X)
  have ha : (((W ++ s.extract q (nextP s ts)) ++ ⟨#[10]⟩) ++ B) ++ X = W ++ (s.extract q (nextP s ts) ++ (⟨#[10]⟩ ++ (B ++ X))) := by simp only [ByteArray.append_assoc]
  obtain ⟨t, htd⟩ : ∃ t, (((W ++ s.extract q (nextP s ts)) ++ ⟨#[10]⟩) ++ B) ++ X = t := ⟨_, rfl⟩
  rw [htd] at hk hwx ⊢
  rw [htd] at ha
  have hW2 := hW (s.extract q (nextP s ts) ++ (⟨#[10]⟩ ++ (B ++ X))) k
  rw [← ha] at hW2
  obtain ⟨k1, hk1, he1⟩ := hW2 hk
  clear hW2 hW
  rw [hw] at hwx ⊢
  have q1 : (s.extract q (nextP s ts) ++ (⟨#[10]⟩ ++ (B ++ X))).size = N + (1 + (B.size + X.size)) := by rw [ByteArray.size_append, ByteArray.size_append, ByteArray.size_append, hes, n1]
  have hb : ∀ j, j < N → bt t (W.size + j) = bt s (q + j) := fun j hj => by
    rw [ha, bt_right _ _ j (by omega), bt_left _ _ j (by omega), bt_ext2 s _ _ j (by omega) (by omega)]
  have q2 : ((⟨#[10]⟩ : ByteArray) ++ (B ++ X)).size = 1 + (B.size + X.size) := by rw [ByteArray.size_append, ByteArray.size_append, n1]
  have hb2 : bt t (W.size + N) = 10 := by
    rw [ha, bt_right _ _ N (by omega)]
    have := bt_right (s.extract q (nextP s ts)) (⟨#[10]⟩ ++ (B ++ X)) 0 (by omega)
    rw [hes] at this
    rw [Nat.add_zero] at this
    rw [this, bt_left _ _ 0 (by omega)]
    rfl
  have hb3 : ∀ j, j < B.size → bt t (W.size + N + 1 + j) = bt B j := fun j hj => by
    rw [show W.size + N + 1 + j = W.size + (N + (1 + j)) by omega, ha, bt_right _ _ _ (by omega)]
    have := bt_right (s.extract q (nextP s ts)) (⟨#[10]⟩ ++ (B ++ X)) (1 + j) (by omega)
    rw [hes] at this
    rw [this]
    have := bt_right (⟨#[10]⟩ : ByteArray) (B ++ X) j (by rw [ByteArray.size_append]; omega)
    rw [n1] at this
    rw [this, bt_left B X j hj]
  obtain ⟨hl, b, hr⟩ := like_of s t q W.size ts hq hok hc (by rw [hN]; exact hb) (by omega) (by rw [hN, hb2]; rfl)
  obtain ⟨tv, te⟩ := tok_local s t q W.size hq hok hl
  have r1 : runP t (nextP s ts - tokE s q + 1) false (W.size + (tokE s q - q)) = some false := by
    rw [runP_add t _ _ _ _ _ hr, show W.size + (tokE s q - q) + (nextP s ts - tokE s q) = W.size + N by omega]
    exact run_nl t b _ hb2
  have r2 : runP t (nextP s ts - tokE s q + 1 + B.size) false (W.size + (tokE s q - q)) = some false := by
    rw [runP_add t _ _ _ _ _ r1, show W.size + (tokE s q - q) + (nextP s ts - tokE s q + 1) = W.size + N + 1 by omega]
    exact run_blanks t _ _ (fun j hj => by rw [hb3 j hj]; exact hB j hj)
  have hg := (gap t _ _ (by omega)).1 false r2
  simp only [Bool.false_eq_true, if_false] at hg
  rw [show W.size + (tokE s q - q) + (nextP s ts - tokE s q + 1 + B.size) = W.size + N + 1 + B.size by omega] at hg
  have b0 : bt t W.size = bt s q := hb 0 (by omega)
  obtain ⟨k1, rfl⟩ : ∃ k, k1 = k + 1 := ⟨k1 - 1, by omega⟩
  rw [toks_at t k1 W.size done (by omega) (by rw [b0]; exact hnb) (by rw [b0]; exact h37)] at he1
  unfold layT at he1
  rw [tv, te, if_pos ((okV_of s q).1 hok)] at he1
  obtain ⟨k', hk', he⟩ := hg.2.2 k1 (done ++ [tkOf (tokV s q) W.size]) (by omega)
  exact ⟨k', hk', he1.trans he⟩

theorem adv_end (W : ByteArray) (done : List Tk) (hs : W.size ≤ 65536) (h : Adv W done) : allT W = .inl (done ++ [⟨8, ⟨#[]⟩, 0, 0, W.size⟩]) := by
  have := h ⟨#[]⟩ (W.size + 1)
  rw [show W ++ (⟨#[]⟩ : ByteArray) = W from ByteArray.append_empty] at this
  obtain ⟨k', hk', he⟩ := this (by omega)
  unfold allT
  rw [if_neg (by omega), he]
  obtain ⟨k, rfl⟩ : ∃ k, k' = k + 1 := ⟨k' - 1, by omega⟩
  exact toks_end W k W.size done (Nat.le_refl _)
end Go.Proofs.YtdpfmmbfidknfaaGreatDoor


