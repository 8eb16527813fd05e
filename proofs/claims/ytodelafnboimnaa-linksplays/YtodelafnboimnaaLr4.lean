/- The document's half-links: Link, Unlink, OnLink, OnExit, OnAck. -/
import Derived.Test.YtodelafnboimnaaLr3
namespace Go.Proofs.Ytodelafnboimnaa
open Go.RowKit Go.Lib
namespace HV
attribute [local go_sem ↓] Go.wp_at_zero Go.wp_at_succ

/-- What find tells of a pid that is there. -/
def FoundR (w : World) (rb : Nat) (E : Nat → Prop) (A r : List KV) (key : Int) (v : Hf) (nn : Int) (e : Ending) (w1 : World) : Prop :=
  ∃ g c n, e = .returned (.tuple #[.int .i64 (A.length : Int), .bool true]) ∧ Duo w1 rb (.slice (some ⟨g, 0, none⟩) n c) (.int .i64 nn) ∧ w1.cell? ⟨g, A.length * 3, none⟩ = some (.int .i64 v.a) ∧ w1.cell? ⟨g, A.length * 3 + 1, none⟩ = some (.int .i64 v.b) ∧ w1.cell? ⟨g, A.length * 3 + 2, none⟩ = some (.int .i64 v.c) ∧ A.length < n ∧
    Hid (Below w.heap.size w w1 ∧ w1.ownsRow 0 HT 3 (.slice (some ⟨g, 0, none⟩) n c) n (hvs (A ++ (key, v) :: r)) ∧ E g ∧ g ≠ rb ∧ n = (A ++ (key, v) :: r).length)

theorem rfind_cases {w : World} {rb : Nat} {E : Nat → Prop} {L : List KV} {nn : Int} (h : RT w rb E L nn) (hr : Rise L) (hk : HOk L) (key : Int) (hN : L.length ≤ 90000) :
    (getL key L = none ∧ Calls Try.prog 29 #[.pointer (some ⟨rb, 0, none⟩), .int .i64 key] w fun e w1 => ∃ k : Nat, e = .returned (.tuple #[.int .i64 (k : Int), .bool false]) ∧ Hid (Below w.heap.size w w1)) ∨
    (∃ A r v, L = A ++ (key, v) :: r ∧ getL key L = some v ∧ Calls Try.prog 29 #[.pointer (some ⟨rb, 0, none⟩), .int .i64 key] w (FoundR w rb E A r key v nn)) := by
  obtain ⟨A, B, rfl, h1, h2⟩ := split_at (key := key) hr
  have hf := rfind_any h hr hk key h1 h2 (by omega)
  have hgs := getL_split hr h1 h2
  cases hg : getL key (A ++ B) with
  | none =>
    rw [hg] at hf
    exact .inl ⟨rfl, hf.mono (by rintro e w1 ⟨rfl, hb⟩; exact ⟨_, rfl, hidb hb⟩)⟩
  | some v =>
    rw [hg] at hf hgs
    cases B with
    | nil => cases hgs
    | cons y r =>
      obtain ⟨yk, yv⟩ := y
      obtain ⟨rfl, rfl⟩ : yk = key ∧ yv = v := by
        by_cases e : yk = key
        · simp [e] at hgs; exact ⟨e, hgs.symm⟩
        · simp [e] at hgs
      refine .inr ⟨A, r, yv, rfl, rfl, hf.mono ?_⟩
      rintro e w1 ⟨rfl, hb⟩
      obtain ⟨V, hd, ho, he⟩ := h.keep hb
      obtain ⟨g, c, rfl, m1, m2, m3⟩ := row_get ho (show (A ++ (yk, yv) :: r)[A.length]? = some (yk, yv) by simp)
      exact ⟨g, c, _, rfl, hd, m1, m2, m3, by simp, hidb ⟨hb, ho, (he g rfl).1, (he g rfl).2, rfl⟩⟩

set_option maxHeartbeats 2000000 in
theorem rlink_any {w : World} {rb : Nat} {E : Nat → Prop} {L : List KV} {nn : Int} (h : RT w rb E L nn) (hr : Rise L) (hk : HOk L) (key : Int) (hN : L.length ≤ 90000) :
    Calls Try.prog 18 #[.pointer (some ⟨rb, 0, none⟩), .int .i64 key] w fun e w' => e = .returned (.bool (!isLk key L)) ∧ RU w w' rb E (lnkL key L) nn := by
  have HG : Hid (Calls Try.prog 9 #[.pointer (some ⟨rb, 0, none⟩), .int .i64 key] w fun e w1 => e = .returned (.tuple #[.agg #[.int .i64 (stL key L).a, .int .i64 (stL key L).b, .int .i64 (stL key L).c], .bool (getL key L).isSome]) ∧ Hid (∀ o, RU w (w1.alloc o) rb E L nn ∧ Calls Try.prog 25 #[.pointer (some ⟨rb, 0, none⟩), .int .i64 key] (w1.alloc o) fun e w2 => e = .returned (.tuple #[]) ∧ Hid (RU w w2 rb E (insL key ⟨key, 1, 0⟩ L) nn))) := hidb ((rget_any h hr hk key (by omega)).mono (by
    rintro e w1 ⟨rfl, hb⟩
    refine ⟨rfl, hidb (fun o => ?_)⟩
    have hb1 : Below w.heap.size w (w1.alloc o) := hb.alloc hb.size _
    exact ⟨RU.same h hb1, (rset_any (h.keep hb1) hr hk key hN).mono (by rintro e w2 ⟨rfl, hu⟩; exact ⟨rfl, hidb (RU.pre hb1 hu)⟩)⟩))
  have hsm := some_of_st (p := key) (L := L)
  clear h hr hk hN
  cases hs : isLk key L with
  | true =>
    rw [show lnkL key L = L by simp [lnkL, hs]]
    have e1 : (stL key L).b = 1 := by simpa [isLk] using hs
    rw [hsm (by omega), e1] at HG
    clear hsm hs e1
    go_enter Try.func18, Try.ntmps18
    go_wp2_with (go_at_call 9; refine HG.out.mono ?_; clear HG; rintro e w1 ⟨rfl, HS⟩)
    go_ret
    exact ⟨rfl, (HS.out _).1⟩
  | false =>
    rw [show lnkL key L = insL key ⟨key, 1, 0⟩ L by simp [lnkL, hs]]
    have e1 : ((stL key L).b == 1) = false := hs
    clear hsm hs
    cases hi : (getL key L).isSome with
    | true =>
      rw [hi] at HG
      generalize stL key L = v at *
      go_enter Try.func18, Try.ntmps18
      go_wp2_with (first
        | (go_at_call 9; refine HG.out.mono ?_; clear HG; rintro e w1 ⟨rfl, HS⟩)
        | (go_at_call 25; refine (HS.out _).2.mono ?_; clear HS; rintro e w2 ⟨rfl, HU⟩))
      go_ret
      exact ⟨rfl, HU.out⟩
    | false =>
      rw [hi] at HG
      generalize stL key L = v at *
      go_enter Try.func18, Try.ntmps18
      go_wp2_with (first
        | (go_at_call 9; refine HG.out.mono ?_; clear HG; rintro e w1 ⟨rfl, HS⟩)
        | (go_at_call 25; refine (HS.out _).2.mono ?_; clear HS; rintro e w2 ⟨rfl, HU⟩))
      go_ret
      exact ⟨rfl, HU.out⟩

set_option maxHeartbeats 2000000 in
theorem ronlink_any {w : World} {rb : Nat} {E : Nat → Prop} {L : List KV} {nn : Int} (h : RT w rb E L nn) (hr : Rise L) (hk : HOk L) (key : Int) (hN : L.length ≤ 90000) :
    Calls Try.prog 20 #[.pointer (some ⟨rb, 0, none⟩), .int .i64 key] w fun e w' => e = .returned (.tuple #[]) ∧ RU w w' rb E (onlL key L) nn := by
  rcases rfind_cases h hr hk key hN with ⟨hg, hf⟩ | ⟨A, r, v, rfl, hg, hf⟩
  · rw [show onlL key L = insL key ⟨key, 1, 0⟩ L by simp [onlL, hg]]
    have HF : Hid (Calls Try.prog 29 #[.pointer (some ⟨rb, 0, none⟩), .int .i64 key] w fun e w1 => ∃ k : Nat, e = .returned (.tuple #[.int .i64 (k : Int), .bool false]) ∧ Hid (Calls Try.prog 25 #[.pointer (some ⟨rb, 0, none⟩), .int .i64 key] w1 fun e w2 => e = .returned (.tuple #[]) ∧ Hid (RU w w2 rb E (insL key ⟨key, 1, 0⟩ L) nn))) := hidb (hf.mono (by
      rintro e w1 ⟨k, rfl, HB⟩
      exact ⟨k, rfl, hidb ((rset_any (h.keep HB.out) hr hk key hN).mono (by rintro e w2 ⟨rfl, hu⟩; exact ⟨rfl, hidb (RU.pre HB.out hu)⟩))⟩))
    clear h hr hk hN hf hg
    go_enter Try.func20, Try.ntmps20
    go_wp2_with (first
      | (go_at_call 29; refine HF.out.mono ?_; clear HF; rintro e w1 ⟨k, rfl, HS⟩)
      | (go_at_call 25; refine HS.out.mono ?_; clear HS; rintro e w2 ⟨rfl, HU⟩))
    exact bodyPost_end (v := .tuple #[]) (by simp [results, Try.results20, go_sem]) rfl ⟨rfl, HU.out⟩
  · rw [show onlL key (A ++ (key, v) :: r) = A ++ (key, v) :: r by simp [onlL, hg]]
    have HF : Hid (Calls Try.prog 29 #[.pointer (some ⟨rb, 0, none⟩), .int .i64 key] w fun e w1 => e = .returned (.tuple #[.int .i64 (A.length : Int), .bool true]) ∧ Hid (RU w w1 rb E (A ++ (key, v) :: r) nn)) := hidb (hf.mono (by
      rintro e w1 ⟨g, c, n, rfl, -, -, -, -, -, HB⟩
      exact ⟨rfl, hidb (RU.same h HB.out.1)⟩))
    clear h hr hk hN hf hg
    go_enter Try.func20, Try.ntmps20
    go_wp2_with (go_at_call 29; refine HF.out.mono ?_; clear HF; rintro e w1 ⟨rfl, HU⟩)
    exact bodyPost_end (v := .tuple #[]) (by simp [results, Try.results20, go_sem]) rfl ⟨rfl, HU.out⟩

set_option maxHeartbeats 2000000 in
theorem ronexit_any {w : World} {rb : Nat} {E : Nat → Prop} {L : List KV} {nn : Int} (h : RT w rb E L nn) (hr : Rise L) (hk : HOk L) (key : Int) (hN : L.length ≤ 90000) :
    Calls Try.prog 22 #[.pointer (some ⟨rb, 0, none⟩), .int .i64 key] w fun e w' => e = .returned (.bool (isLk key L)) ∧ RU w w' rb E (dlL key L) nn := by
  rcases rfind_cases h hr hk key hN with ⟨hg, hf⟩ | ⟨A, r, v, rfl, hg, hf⟩
  · have hs : isLk key L = false := by simp [isLk, stL, hg]
    rw [show dlL key L = L by simp [dlL, hs], hs]
    have HF : Hid (Calls Try.prog 29 #[.pointer (some ⟨rb, 0, none⟩), .int .i64 key] w fun e w1 => ∃ k : Nat, e = .returned (.tuple #[.int .i64 (k : Int), .bool false]) ∧ Hid (RU w w1 rb E L nn)) := hidb (hf.mono (by
      rintro e w1 ⟨k, rfl, HB⟩
      exact ⟨k, rfl, hidb (RU.same h HB.out)⟩))
    clear h hr hk hN hf hg hs
    go_enter Try.func22, Try.ntmps22
    go_wp2_with (go_at_call 29; refine HF.out.mono ?_; clear HF; rintro e w1 ⟨k, rfl, HU⟩)
    go_ret
    exact ⟨rfl, HU.out⟩
  · have HF : Hid (Calls Try.prog 29 #[.pointer (some ⟨rb, 0, none⟩), .int .i64 key] w fun e w1 => ∃ g c n, e = .returned (.tuple #[.int .i64 (A.length : Int), .bool true]) ∧ w1.cell? ⟨rb, 0, none⟩ = some (.slice (some ⟨g, 0, none⟩) n c) ∧ w1.cell? ⟨g, A.length * 3 + 1, none⟩ = some (.int .i64 v.b) ∧ A.length < n ∧ Hid (RU w w1 rb E (A ++ (key, v) :: r) nn) ∧ Hid (Calls Try.prog 36 #[.pointer (some ⟨rb, 0, none⟩), .int .i64 (A.length : Int)] w1 fun e w2 => e = .returned (.tuple #[]) ∧ Hid (RU w w2 rb E (A ++ r) nn))) := hidb (hf.mono (by
      rintro e w1 ⟨g, c, n, rfl, hd, -, m2, -, hl, HB⟩
      exact ⟨g, c, n, rfl, hd.c0, m2, hl, hidb (RU.same h HB.out.1), hidb ((rdrop_any (h.keep HB.out.1) hN).mono (by rintro e w2 ⟨rfl, hu⟩; exact ⟨rfl, hidb (RU.pre HB.out.1 hu)⟩))⟩))
    have hst : stL key (A ++ (key, v) :: r) = v := by simp [stL, hg]
    have hdd := del_here hr
    clear h hk hN hf hg hr
    cases hs : isLk key (A ++ (key, v) :: r) with
    | true =>
      rw [show dlL key (A ++ (key, v) :: r) = A ++ r by simp [dlL, hs, hdd]]
      have e1 : v.b = 1 := by simpa [isLk, hst] using hs
      rw [e1] at HF
      clear hs hst hdd e1
      go_enter Try.func22, Try.ntmps22
      go_wp2_with (first
        | (go_at_call 29; refine HF.out.mono ?_; clear HF; rintro e w1 ⟨g, c, n, rfl, d0, d1, hl, -, HS⟩; have s1 : (A.length : Int) < (n : Int) := (by omega); have s2 : (0 : Int) ≤ (A.length : Int) := (by omega))
        | (go_at_call 36; refine HS.out.mono ?_; clear HS; rintro e w2 ⟨rfl, HU⟩))
      go_ret
      exact ⟨rfl, HU.out⟩
    | false =>
      rw [show dlL key (A ++ (key, v) :: r) = A ++ (key, v) :: r by simp [dlL, hs]]
      have e1 : (v.b == 1) = false := by simpa [isLk, hst] using hs
      have e2 : (v.b != 1) = true := by simpa using e1
      clear hs hst hdd
      generalize v.b = vb at *
      go_enter Try.func22, Try.ntmps22
      go_wp2_with (go_at_call 29; refine HF.out.mono ?_; clear HF; rintro e w1 ⟨g, c, n, rfl, d0, d1, hl, HU, -⟩; have s1 : (A.length : Int) < (n : Int) := (by omega); have s2 : (0 : Int) ≤ (A.length : Int) := (by omega))
      go_ret
      exact ⟨rfl, HU.out⟩

set_option maxHeartbeats 4000000 in
theorem ronack_any {w : World} {rb : Nat} {E : Nat → Prop} {L : List KV} {nn : Int} (h : RT w rb E L nn) (hr : Rise L) (hk : HOk L) (key id : Int) (hN : L.length ≤ 90000) :
    Calls Try.prog 23 #[.pointer (some ⟨rb, 0, none⟩), .int .i64 key, .int .i64 id] w fun e w' => e = .returned (.bool (ackB key id L)) ∧ RU w w' rb E (ackL key id L) nn := by
  rcases rfind_cases h hr hk key hN with ⟨hg, hf⟩ | ⟨A, r, v, rfl, hg, hf⟩
  · have hs : ackB key id L = false := by simp [ackB, stL, hg]
    rw [show ackL key id L = L by simp [ackL, hs], hs]
    have HF : Hid (Calls Try.prog 29 #[.pointer (some ⟨rb, 0, none⟩), .int .i64 key] w fun e w1 => ∃ k : Nat, e = .returned (.tuple #[.int .i64 (k : Int), .bool false]) ∧ Hid (RU w w1 rb E L nn)) := hidb (hf.mono (by
      rintro e w1 ⟨k, rfl, HB⟩
      exact ⟨k, rfl, hidb (RU.same h HB.out)⟩))
    clear h hr hk hN hf hg hs
    go_enter Try.func23, Try.ntmps23
    go_wp2_with (go_at_call 29; refine HF.out.mono ?_; clear HF; rintro e w1 ⟨k, rfl, HU⟩)
    go_ret
    exact ⟨rfl, HU.out⟩
  · have HF : Hid (Calls Try.prog 29 #[.pointer (some ⟨rb, 0, none⟩), .int .i64 key] w fun e w1 => ∃ g c n, e = .returned (.tuple #[.int .i64 (A.length : Int), .bool true]) ∧ w1.cell? ⟨rb, 0, none⟩ = some (.slice (some ⟨g, 0, none⟩) n c) ∧ w1.cell? ⟨g, A.length * 3 + 1, none⟩ = some (.int .i64 v.b) ∧ w1.cell? ⟨g, A.length * 3 + 2, none⟩ = some (.int .i64 v.c) ∧ A.length < n ∧ Hid (RU w w1 rb E (A ++ (key, v) :: r) nn) ∧ Hid (Calls Try.prog 36 #[.pointer (some ⟨rb, 0, none⟩), .int .i64 (A.length : Int)] w1 fun e w2 => e = .returned (.tuple #[]) ∧ Hid (RU w w2 rb E (A ++ r) nn))) := hidb (hf.mono (by
      rintro e w1 ⟨g, c, n, rfl, hd, -, m2, m3, hl, HB⟩
      exact ⟨g, c, n, rfl, hd.c0, m2, m3, hl, hidb (RU.same h HB.out.1), hidb ((rdrop_any (h.keep HB.out.1) hN).mono (by rintro e w2 ⟨rfl, hu⟩; exact ⟨rfl, hidb (RU.pre HB.out.1 hu)⟩))⟩))
    have hst : stL key (A ++ (key, v) :: r) = v := by simp [stL, hg]
    have hdd := del_here hr
    clear h hk hN hf hg hr
    cases hs : ackB key id (A ++ (key, v) :: r) with
    | true =>
      rw [show ackL key id (A ++ (key, v) :: r) = A ++ r by simp [ackL, hs, hdd]]
      obtain ⟨e1, e2⟩ : v.b = 2 ∧ v.c = id := by simpa [ackB, hst] using hs
      rw [e1, e2] at HF
      clear hs hst hdd e1 e2
      go_enter Try.func23, Try.ntmps23
      go_wp2_with (first
        | (go_at_call 29; refine HF.out.mono ?_; clear HF; rintro e w1 ⟨g, c, n, rfl, d0, d1, d2, hl, -, HS⟩; have s1 : (A.length : Int) < (n : Int) := (by omega); have s2 : (0 : Int) ≤ (A.length : Int) := (by omega))
        | (go_at_call 36; refine HS.out.mono ?_; clear HS; rintro e w2 ⟨rfl, HU⟩))
      go_ret
      exact ⟨rfl, HU.out⟩
    | false =>
      rw [show ackL key id (A ++ (key, v) :: r) = A ++ (key, v) :: r by simp [ackL, hs]]
      by_cases e1 : v.b = 2
      · have e2 : (v.c == id) = false := by simpa [ackB, hst, e1] using hs
        have e3 : (v.c != id) = true := by simpa using e2
        rw [e1] at HF
        clear hs hst hdd e1
        generalize v.c = vc at *
        go_enter Try.func23, Try.ntmps23
        go_wp2_with (go_at_call 29; refine HF.out.mono ?_; clear HF; rintro e w1 ⟨g, c, n, rfl, d0, d1, d2, hl, HU, -⟩; have s1 : (A.length : Int) < (n : Int) := (by omega); have s2 : (0 : Int) ≤ (A.length : Int) := (by omega))
        go_ret
        exact ⟨rfl, HU.out⟩
      · have e2 : (v.b == 2) = false := by simpa using e1
        have e3 : (v.b != 2) = true := by simpa using e1
        clear hs hst hdd e1
        generalize v.b = vb at *
        go_enter Try.func23, Try.ntmps23
        go_wp2_with (go_at_call 29; refine HF.out.mono ?_; clear HF; rintro e w1 ⟨g, c, n, rfl, d0, d1, d2, hl, HU, -⟩; have s1 : (A.length : Int) < (n : Int) := (by omega); have s2 : (0 : Int) ≤ (A.length : Int) := (by omega))
        go_ret
        exact ⟨rfl, HU.out⟩

end HV
end Go.Proofs.Ytodelafnboimnaa
