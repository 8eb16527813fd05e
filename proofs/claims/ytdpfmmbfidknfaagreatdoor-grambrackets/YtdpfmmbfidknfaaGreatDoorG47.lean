import Derived.Test.YtdpfmmbfidknfaaGreatDoorG25
import Derived.Test.YtdpfmmbfidknfaaGreatDoorG45
import Derived.Test.YtdpfmmbfidknfaaGreatDoorG46
/- Tokens with blanks and comments between them. -/
namespace Go.Proofs.YtdpfmmbfidknfaaGreatDoor
open Go.RowKit Go.Lib

theorem adv_nil : Adv ⟨#[]⟩ [] := adv_start ⟨#[]⟩ (fun j hj => by simp [ByteArray.size] at hj)

/-- One token, and behind it whatever is passed over. -/
theorem adv_wide (W B s : ByteArray) (done : List Tk) (hW : Adv W done) (hB : runP B B.size false 0 = some false) (q : Nat) (ts : List Tk) (hq : q < s.size) (hnb : pBlank (bt s q) = false) (h37 : bt s q ≠ 37) (hok : okV (tokV s q) = true) (hc : Chain s (tokE s q) ts) :
    Adv (((W ++ s.extract q (nextP s ts)) ++ ⟨#[10]⟩) ++ B) (done ++ [tkOf (tokV s q) W.size]) := by
  intro X k hk
  obtain ⟨h1, h2⟩ := tokE_in s q hq hok
  obtain ⟨h3, h4, _⟩ := hc.next
  obtain ⟨N, hN⟩ : ∃ N, nextP s ts - q = N := ⟨_, rfl⟩
  have hes : (s.extract q (nextP s ts)).size = N := by rw [size_ext]; omega
  have n1 : (⟨#[10]⟩ : ByteArray).size = 1 := rfl
  have hw : (((W ++ s.extract q (nextP s ts)) ++ ⟨#[10]⟩) ++ B).size = W.size + N + 1 + B.size := by
    rw [ByteArray.size_append, ByteArray.size_append, ByteArray.size_append, hes, n1]
  have hwx := ByteArray.size_append (a := ((W ++ s.extract q (nextP s ts)) ++ ⟨#[10]⟩) ++ B) (b := X)
  have ha : (((W ++ s.extract q (nextP s ts)) ++ ⟨#[10]⟩) ++ B) ++ X = W ++ (s.extract q (nextP s ts) ++ (⟨#[10]⟩ ++ (B ++ X))) := by simp only [ByteArray.append_assoc]
  obtain ⟨t, htd⟩ : ∃ t, (((W ++ s.extract q (nextP s ts)) ++ ⟨#[10]⟩) ++ B) ++ X = t := ⟨_, rfl⟩
  rw [htd] at hk hwx ⊢
  rw [htd] at ha
  have hW2 := hW (s.extract q (nextP s ts) ++ (⟨#[10]⟩ ++ (B ++ X))) k
  rw [← ha] at hW2
  obtain ⟨k1, hk1, he1⟩ := hW2 hk
  clear hW2 hW
  rw [hw] at hwx ⊢
  have q1 : (s.extract q (nextP s ts) ++ (⟨#[10]⟩ ++ (B ++ X))).size = N + (1 + (B.size + X.size)) := by rw [ByteArray.size_append, ByteArray.size_append, ByteArray.size_append, hes, n1]
  have hb : ∀ j, j < N → bt t (W.size + j) = bt s (q + j) := fun j hj => by
    rw [ha, bt_right _ _ j (by omega), bt_left _ _ j (by omega), bt_ext2 s _ _ j (by omega) (by omega)]
  have q2 : ((⟨#[10]⟩ : ByteArray) ++ (B ++ X)).size = 1 + (B.size + X.size) := by rw [ByteArray.size_append, ByteArray.size_append, n1]
  have hb2 : bt t (W.size + N) = 10 := by
    rw [ha, bt_right _ _ N (by omega)]
    have := bt_right (s.extract q (nextP s ts)) (⟨#[10]⟩ ++ (B ++ X)) 0 (by omega)
    rw [hes] at this
    rw [Nat.add_zero] at this
    rw [this, bt_left _ _ 0 (by omega)]
    rfl
  have hb3 : ∀ j, j < B.size → bt t (W.size + N + 1 + j) = bt B j := fun j hj => by
    rw [show W.size + N + 1 + j = W.size + (N + (1 + j)) by omega, ha, bt_right _ _ _ (by omega)]
    have := bt_right (s.extract q (nextP s ts)) (⟨#[10]⟩ ++ (B ++ X)) (1 + j) (by omega)
    rw [hes] at this
    rw [this]
    have := bt_right (⟨#[10]⟩ : ByteArray) (B ++ X) j (by rw [ByteArray.size_append]; omega)
    rw [n1] at this
    rw [this, bt_left B X j hj]
  obtain ⟨hl, b, hr⟩ := like_of s t q W.size ts hq hok hc (by rw [hN]; exact hb) (by omega) (by rw [hN, hb2]; rfl)
  obtain ⟨tv, te⟩ := tok_local s t q W.size hq hok hl
  have r1 : runP t (nextP s ts - tokE s q + 1) false (W.size + (tokE s q - q)) = some false := by
    rw [runP_add t _ _ _ _ _ hr, show W.size + (tokE s q - q) + (nextP s ts - tokE s q) = W.size + N by omega]
    exact run_nl t b _ hb2
  have r2 : runP t (nextP s ts - tokE s q + 1 + B.size) false (W.size + (tokE s q - q)) = some false := by
    rw [runP_add t _ _ _ _ _ r1, show W.size + (tokE s q - q) + (nextP s ts - tokE s q + 1) = W.size + N + 1 by omega]
    rw [runP_eq B t B.size false 0 (W.size + N + 1) (fun j hj => by rw [Nat.zero_add]; exact hb3 j hj)]
    exact hB
  have hg := (gap t _ _ (by omega)).1 false r2
  simp only [Bool.false_eq_true, if_false] at hg
  rw [show W.size + (tokE s q - q) + (nextP s ts - tokE s q + 1 + B.size) = W.size + N + 1 + B.size by omega] at hg
  have b0 : bt t W.size = bt s q := hb 0 (by omega)
  obtain ⟨k1, rfl⟩ : ∃ k, k1 = k + 1 := ⟨k1 - 1, by omega⟩
  rw [toks_at t k1 W.size done (by omega) (by rw [b0]; exact hnb) (by rw [b0]; exact h37)] at he1
  unfold layT at he1
  rw [tv, te, if_pos ((okV_of s q).1 hok)] at he1
  obtain ⟨k', hk', he⟩ := hg.2.2 k1 (done ++ [tkOf (tokV s q) W.size]) (by omega)
  exact ⟨k', hk', he1.trans he⟩

/-- What has no token but the end is passed over; with a line's end behind it, it stands in no comment. -/
theorem blank_run (B : ByteArray) {l : List Tk} (h : allT B = .inl l) (h1 : l.length = 1) : runP (B ++ ⟨#[10]⟩) (B ++ ⟨#[10]⟩).size false 0 = some false := by
  unfold allT at h
  split at h
  · cases h
  · obtain ⟨i1, _⟩ := chain_of B (B.size + 1) 0 [] _ (Nat.zero_le _) (by omega) h
    obtain ⟨ts, hc, hl⟩ := i1 l rfl
    have hts : ts = [] := by
      cases ts with
      | nil => rfl
      | cons a r => rw [hl] at h1; simp at h1
    subst hts
    cases hc with
    | stop _ b hp hr =>
      rw [Nat.sub_zero] at hr
      have hr2 : runP (B ++ ⟨#[10]⟩) B.size false 0 = some b := by
        rw [runP_eq B (B ++ ⟨#[10]⟩) B.size false 0 0 (fun j hj => by rw [Nat.zero_add]; exact bt_left B _ j hj)]
        exact hr
      have hz : (B ++ (⟨#[10]⟩ : ByteArray)).size = B.size + 1 := by rw [ByteArray.size_append]; rfl
      rw [hz, runP_add _ _ _ _ _ _ hr2, Nat.zero_add]
      refine run_nl _ b _ ?_
      have := bt_right B (⟨#[10]⟩ : ByteArray) 0 (by decide)
      rw [Nat.add_zero] at this
      rw [this]
      rfl
end Go.Proofs.YtdpfmmbfidknfaaGreatDoor


/- What Parse has told, in one form; blanks change places alone. -/
namespace Go.Proofs.YtdpfmmbfidknfaaGreatDoor
open Go.RowKit Go.Lib

/-- A result: the root, the fault's number, its place, the nodes. -/
def flatP : Except (Int × Nat) (Nat × PS) → Nat × Int × Nat × List Nd
  | .error (er, p) => (0, er, p, [])
  | .ok (r, s) => (r, 0, 0, s.ns)
theorem Nodes.nil (w : World) (B : Nat) : Nodes w B (.slice none 0 0) [] := ⟨⟨[], rfl, World.ownsRow_nil _ _ _ _, by simp⟩, by simp⟩
theorem ParseR.flat {w w' : World} {R : Except (Int × Nat) (Nat × PS)} {e : Ending} (h : ParseR w R e w') : ∃ V, e = .returned (.tuple #[.agg #[V, iv (flatP R).1], .agg #[.int .i64 (flatP R).2.1, .int .i64 (((flatP R).2.2.1 : Nat) : Int)]]) ∧ Nodes w' w.heap.size V (flatP R).2.2.2 ∧ Below w.heap.size w w' := by
  obtain ⟨hb, ⟨er, p, rfl, he⟩ | ⟨r, s, V, rfl, he, hn⟩⟩ := h
  · exact ⟨_, he, Nodes.nil _ _, hb⟩
  · exact ⟨V, he, hn, hb⟩
theorem flat_short (s : ByteArray) {i : Nat} {n : Nd} (h : (flatP (parseP s)).2.2.2[i]? = some n) : n.l.length ≤ 20000 ∨ 16384 < (flatP (parseP s)).2.2.2.length := by
  cases hp : parseP s with
  | error e => rw [hp] at h; simp [flatP] at h
  | ok q =>
    obtain ⟨r, st⟩ := q
    rw [hp] at h
    have := (tree_facts s hp).short (n := n) (j := i) h
    simp only [flatP]
    omega
theorem blind_flat {l l' : List Tk} (h : l.map bareT = l'.map bareT) : (flatP (treeP l)).1 = (flatP (treeP l')).1 ∧ (flatP (treeP l)).2.1 = (flatP (treeP l')).2.1 ∧ (flatP (treeP l)).2.2.2.map bareN = (flatP (treeP l')).2.2.2.map bareN := by
  have h1 := tree_blind l l' h
  unfold treeP
  generalize Gm.module (Gm.expr 201) ⟨l, [], 0⟩ = a at h1 ⊢
  generalize Gm.module (Gm.expr 201) ⟨l', [], 0⟩ = b at h1 ⊢
  cases a with
  | error e =>
    cases b with
    | error e' => obtain ⟨e1, e2⟩ := e; obtain ⟨e3, e4⟩ := e'; exact ⟨rfl, h1, rfl⟩
    | ok q => exact h1.elim
  | ok q =>
    cases b with
    | error e' => exact h1.elim
    | ok q' =>
      obtain ⟨r, s⟩ := q
      obtain ⟨r', s'⟩ := q'
      obtain ⟨h2, h3⟩ := h1
      exact ⟨h2, rfl, congrArg PS.ns h3⟩
theorem like_bare {l l' : List Tk} (hl : l'.length = l.length) (h : ∀ (i : Nat) (a b : Tk), l[i]? = some a → l'[i]? = some b → a.k = b.k ∧ a.x = b.x ∧ a.n = b.n ∧ a.f = b.f) : l.map bareT = l'.map bareT := by
  refine List.ext_getElem? fun i => ?_
  rw [List.getElem?_map, List.getElem?_map]
  cases ha : l[i]? with
  | none =>
    have : l'[i]? = none := by rw [List.getElem?_eq_none_iff] at ha ⊢; omega
    rw [this]
  | some a =>
    obtain ⟨b, hb⟩ : ∃ b, l'[i]? = some b := ⟨_, List.getElem?_eq_getElem (by have := (List.getElem?_eq_some_iff.1 ha).1; omega)⟩
    rw [hb]
    obtain ⟨h1, h2, h3, h4⟩ := h i a b ha hb
    simp only [Option.map_some, bareT, h1, h2, h3, h4]
end Go.Proofs.YtdpfmmbfidknfaaGreatDoor


