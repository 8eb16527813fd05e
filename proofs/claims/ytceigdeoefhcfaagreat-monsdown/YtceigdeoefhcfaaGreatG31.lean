import Derived.Test.YtceigdeoefhcfaaGreatG30
import Derived.Test.YtceigdeoefhcfaaGreatPe0
import Derived.Deep.RegionHeld3
import Derived.Deep.RegionWith
/- Two processes, one of which watches the other: puts and takes. -/
namespace Go.Proofs.YtceigdeoefhcfaaGreat
open Go.RowKit Go.Lib
open MV (Hf hf0 getL insL delL Rise Wfk TB Nw Rst KV MnT mvs)
attribute [local go_sem] store_float f64bits
attribute [local go_sem ↓] Go.wp_at_zero Go.wp_at_succ

variable {X X' : Nat → Prop} {w0 w w' : World} {wb ta tb eb N refs : Nat} {O T O' T' : List KV} {p q : List Sg} {dead : Bool} {dn : List Nat}

abbrev sgv (x y : Int) (s : Sg) : Value := .agg #[.int .i64 x, .int .i64 y, .int .i64 s.k, .int .i64 0, .int .i64 s.r, .bool false, .string ⟨#[]⟩, .int .i64 s.tk, .int .i64 0, .float .f64 0, .string s.ts, .slice none 0 0]

/-- Right signals are taken. -/
theorem check_p {s : Sg} (hs : (s.k = 6 ∨ s.k = 7) ∧ s.tk = 0 ∧ s.ts = nil8 ∧ 1 ≤ s.r ∧ s.r ≤ 1000000) (w : World) : Calls Tryz.prog 24 #[sgv 1 2 s] w fun e w' => e = .returned (.int .i64 0) ∧ Below w.heap.size w w' := by
  obtain ⟨k, r, tk, ts⟩ := s
  obtain ⟨h1, h2, h3, h4, h5⟩ := hs
  simp only at h1 h2 h3 h4 h5
  subst h2 h3
  rcases h1 with rfl | rfl
  · exact check6 1 2 r w (by omega) (by omega) (by omega) (by omega) (by omega) (by omega)
  · exact check7 1 2 r w (by omega) (by omega) (by omega) (by omega) (by omega) (by omega)
theorem check_q {s : Sg} (hs : s.k = 8 ∧ s.tk = 3 ∧ (s.ts = noproc ∨ s.ts = oops) ∧ 1 ≤ s.r ∧ s.r ≤ 1000000) (w : World) : Calls Tryz.prog 24 #[sgv 2 1 s] w fun e w' => e = .returned (.int .i64 0) ∧ Below w.heap.size w w' := by
  obtain ⟨k, r, tk, ts⟩ := s
  obtain ⟨h1, h2, h3, h4, h5⟩ := hs
  simp only at h1 h2 h3 h4 h5
  subst h1 h2
  rcases h3 with rfl | rfl
  · exact check8 2 1 r noproc err_noproc (by decide) w (by omega) (by omega) (by omega) (by omega) (by omega) (by omega)
  · exact check8 2 1 r oops err_oops (by decide) w (by omega) (by omega) (by omega) (by omega) (by omega) (by omega)

theorem DM.put12 (h : DM X w0 w wb ta tb eb O T p q dead refs dn N) {s : Sg} (hck : ∀ w, Calls Tryz.prog 24 #[sgv 1 2 s] w fun e w' => e = .returned (.int .i64 0) ∧ Below w.heap.size w w') (hN : N ≤ 90000) (hA : p.length + q.length ≤ 90000) :
    Calls Tryz.prog 14 #[.pointer (some ⟨eb, 0, none⟩), sgv 1 2 s] w fun e w' => e = .returned (.int .i64 0) ∧ DM X w0 w' wb ta tb eb O T (p ++ [s]) q dead refs dn (N + 2) ∧ But (fun k => ¬ X k) w w' := by
  obtain ⟨ow, mv, f, V, h1, h2, h3, h4, h5, h6, h7, h8, h9⟩ := h
  refine (put_ok wfi1 wfi2 h4 (by omega) (by omega) hck).mono ?_
  rintro e w' ⟨rfl, mv', l, g1, g2, g3, g4, g5, g6⟩
  refine ⟨rfl, DM.air h1 h2 h3 h4.bel.size h8 h9 (S := putS mv f eb 1 2) (by rw [show (p ++ [s]).length + q.length = p.length + q.length + 1 by simp; omega]; exact g1) g4 ?_ ?_ ?l1 (lane_other h6 (by omega)) (fun a b e1 e2 => by rw [updL_other _ _ _ _ _ _ e1]; exact h7 a b e1 e2)⟩
  case l1 =>
    refine .inr ⟨by simp, l, updL_same _ _ _ _, ?_, ?_⟩
    · rw [g2, lq_snoc]
      congr 1
      unfold oldx
      rcases h5 with ⟨rfl, e⟩ | ⟨_, m, e, e2, _⟩
      · rw [e]; rfl
      · rw [e]; exact e2
    · rw [g3, List.length_append]
      unfold oldk
      rcases h5 with ⟨rfl, e⟩ | ⟨_, m, e, _, e2⟩
      · rw [e]; rfl
      · rw [e]; simp [e2]
  · rintro k (e | e | ⟨l0, e1, e2⟩)
    · exact .inl e
    · exact .inr (.inl e)
    · exact .inr (.inr ⟨_, _, l0, e1, e2⟩)
  · rintro k (e | e | ⟨a, b, l0, e1, e2⟩)
    · exact .inl (.inl e)
    · exact (g5 k e).imp (fun e => .inr (.inl e)) id
    · by_cases hc : a = 1 ∧ b = 2
      · obtain ⟨rfl, rfl⟩ := hc
        rw [updL_same] at e1
        obtain rfl : l = l0 := by simpa using e1
        exact (g6 k e2).imp (fun ⟨l0, e3, e4⟩ => .inr (.inr ⟨_, _, l0, e3, e4⟩)) id
      · rw [updL_other _ _ _ _ _ _ hc] at e1
        exact .inl (.inr (.inr ⟨a, b, l0, e1, e2⟩))

theorem DM.put21 (h : DM X w0 w wb ta tb eb O T p q dead refs dn N) {s : Sg} (hck : ∀ w, Calls Tryz.prog 24 #[sgv 2 1 s] w fun e w' => e = .returned (.int .i64 0) ∧ Below w.heap.size w w') (hN : N ≤ 90000) (hA : p.length + q.length ≤ 90000) :
    Calls Tryz.prog 14 #[.pointer (some ⟨eb, 0, none⟩), sgv 2 1 s] w fun e w' => e = .returned (.int .i64 0) ∧ DM X w0 w' wb ta tb eb O T p (q ++ [s]) dead refs dn (N + 2) ∧ But (fun k => ¬ X k) w w' := by
  obtain ⟨ow, mv, f, V, h1, h2, h3, h4, h5, h6, h7, h8, h9⟩ := h
  refine (put_ok wfi2 wfi1 h4 (by omega) (by omega) hck).mono ?_
  rintro e w' ⟨rfl, mv', l, g1, g2, g3, g4, g5, g6⟩
  refine ⟨rfl, DM.air h1 h2 h3 h4.bel.size h8 h9 (S := putS mv f eb 2 1) (by rw [show p.length + (q ++ [s]).length = p.length + q.length + 1 by simp; omega]; exact g1) g4 ?_ ?_ (lane_other h5 (by omega)) ?l1 (fun a b e1 e2 => by rw [updL_other _ _ _ _ _ _ e2]; exact h7 a b e1 e2)⟩
  case l1 =>
    refine .inr ⟨by simp, l, updL_same _ _ _ _, ?_, ?_⟩
    · rw [g2, lq_snoc]
      congr 1
      unfold oldx
      rcases h6 with ⟨rfl, e⟩ | ⟨_, m, e, e2, _⟩
      · rw [e]; rfl
      · rw [e]; exact e2
    · rw [g3, List.length_append]
      unfold oldk
      rcases h6 with ⟨rfl, e⟩ | ⟨_, m, e, _, e2⟩
      · rw [e]; rfl
      · rw [e]; simp [e2]
  · rintro k (e | e | ⟨l0, e1, e2⟩)
    · exact .inl e
    · exact .inr (.inl e)
    · exact .inr (.inr ⟨_, _, l0, e1, e2⟩)
  · rintro k (e | e | ⟨a, b, l0, e1, e2⟩)
    · exact .inl (.inl e)
    · exact (g5 k e).imp (fun e => .inr (.inl e)) id
    · by_cases hc : a = 2 ∧ b = 1
      · obtain ⟨rfl, rfl⟩ := hc
        rw [updL_same] at e1
        obtain rfl : l = l0 := by simpa using e1
        exact (g6 k e2).imp (fun ⟨l0, e3, e4⟩ => .inr (.inr ⟨_, _, l0, e3, e4⟩)) id
      · rw [updL_other _ _ _ _ _ _ hc] at e1
        exact .inl (.inr (.inr ⟨a, b, l0, e1, e2⟩))

theorem DM.none12 (h : DM X w0 w wb ta tb eb O T [] q dead refs dn N) :
    Calls Tryz.prog 16 #[.pointer (some ⟨eb, 0, none⟩), .int .i64 1, .int .i64 2] w fun e w' => e = .returned (.tuple #[zsig, .bool false]) ∧ Below w.heap.size w w' := by
  obtain ⟨ow, mv, f, V, h1, h2, h3, h4, h5, h6, h7, h8, h9⟩ := h
  have hf : f 1 2 = none := by
    rcases h5 with ⟨_, e⟩ | ⟨e, _⟩
    · exact e
    · exact absurd rfl e
  exact take_none wfi1 wfi2 h4 hf

theorem DM.take12 {s : Sg} (h : DM X w0 w wb ta tb eb O T (s :: p) q dead refs dn N) (hN : N ≤ 90000) (hA : p.length + q.length ≤ 90000) :
    Calls Tryz.prog 16 #[.pointer (some ⟨eb, 0, none⟩), .int .i64 1, .int .i64 2] w fun e w' => e = .returned (.tuple #[sgv 1 2 s, .bool true]) ∧ DM X w0 w' wb ta tb eb O T p q dead refs dn N ∧ But (fun k => ¬ X k) w w' := by
  obtain ⟨ow, mv, f, V, h1, h2, h3, h4, h5, h6, h7, h8, h9⟩ := h
  obtain ⟨m, hm, hx2, hk2⟩ : ∃ m, f 1 2 = some m ∧ m.xs = lq 1 2 (s :: p) ∧ m.k = (s :: p).length := by
    rcases h5 with ⟨e, _⟩ | ⟨_, h⟩
    · cases e
    · exact h
  cases p with
  | nil =>
    refine (take_last popOk wfi1 wfi2 h4 hm (show m.xs = sgl 1 2 s.k s.r s.tk s.ts ++ [] from hx2) hk2 (by simp; try omega) (by simp at hA ⊢; omega) (by omega)).mono ?_
    rintro e w' ⟨rfl, g1, g2⟩
    rw [show (s :: ([] : List Sg)).length + q.length - 1 = ([] : List Sg).length + q.length by simp] at g1
    refine ⟨rfl, DM.air h1 h2 h3 h4.bel.size h8 h9 g1 g2 ?_ ?_ (.inl ⟨rfl, updL_same _ _ _ _⟩) (lane_other h6 (by omega)) (fun a b e1 e2 => by rw [updL_other _ _ _ _ _ _ e1]; exact h7 a b e1 e2)⟩
    · rintro k (e | e | e)
      · exact .inl e
      · exact .inr (.inl e)
      · exact .inr (.inr ⟨_, _, m, hm, e⟩)
    · rintro k (e | e | ⟨a, b, l0, e1, e2⟩)
      · exact .inl (.inl e)
      · exact .inl (.inr (.inl e))
      · by_cases hc : a = 1 ∧ b = 2
        · obtain ⟨rfl, rfl⟩ := hc
          rw [updL_same] at e1; cases e1
        · rw [updL_other _ _ _ _ _ _ hc] at e1
          exact .inl (.inr (.inr ⟨a, b, l0, e1, e2⟩))
  | cons s2 r =>
    refine (take_more popOk wfi1 wfi2 (l := m) (k := r.length) (rest := lq 1 2 (s2 :: r)) h4 hm hx2 (by rw [hk2]; simp) (by simp; try omega) (by simp at hA ⊢; omega) (by omega)).mono ?_
    rintro e w' ⟨rfl, ⟨V', g1, gs⟩, g2⟩
    rw [show (s :: s2 :: r).length + q.length - 1 = (s2 :: r).length + q.length by (simp; try omega)] at g1
    refine ⟨rfl, DM.air h1 h2 h3 h4.bel.size h8 h9 g1 g2 ?_ ?_ (.inr ⟨by simp, ⟨m.rb, V', lq 1 2 (s2 :: r), r.length + 1⟩, updL_same _ _ _ _, rfl, by simp⟩) (lane_other h6 (by omega)) (fun a b e1 e2 => by rw [updL_other _ _ _ _ _ _ e1]; exact h7 a b e1 e2)⟩
    · rintro k (e | e)
      · exact .inl e
      · exact .inr (.inr ⟨_, _, m, hm, e⟩)
    · rintro k (e | e | ⟨a, b, l0, e1, e2⟩)
      · exact .inl (.inl e)
      · exact .inl (.inr (.inl e))
      · by_cases hc : a = 1 ∧ b = 2
        · obtain ⟨rfl, rfl⟩ := hc
          rw [updL_same] at e1
          obtain rfl : (⟨m.rb, V', lq 1 2 (s2 :: r), r.length + 1⟩ : Lane) = l0 := by simpa using e1
          rcases e2 with e2 | e2
          · exact .inl (.inr (.inr ⟨_, _, m, hm, .inl e2⟩))
          · rcases gs with gs | gs
            · exact .inl (.inr (.inr ⟨_, _, m, hm, .inr (gs ▸ e2)⟩))
            · exact .inr (gs k e2)
        · rw [updL_other _ _ _ _ _ _ hc] at e1
          exact .inl (.inr (.inr ⟨a, b, l0, e1, e2⟩))

theorem DM.none21 (h : DM X w0 w wb ta tb eb O T p [] dead refs dn N) :
    Calls Tryz.prog 16 #[.pointer (some ⟨eb, 0, none⟩), .int .i64 2, .int .i64 1] w fun e w' => e = .returned (.tuple #[zsig, .bool false]) ∧ Below w.heap.size w w' := by
  obtain ⟨ow, mv, f, V, h1, h2, h3, h4, h5, h6, h7, h8, h9⟩ := h
  have hf : f 2 1 = none := by
    rcases h6 with ⟨_, e⟩ | ⟨e, _⟩
    · exact e
    · exact absurd rfl e
  exact take_none wfi2 wfi1 h4 hf

theorem DM.take21 {s : Sg} (h : DM X w0 w wb ta tb eb O T p (s :: q) dead refs dn N) (hN : N ≤ 90000) (hA : p.length + q.length ≤ 90000) :
    Calls Tryz.prog 16 #[.pointer (some ⟨eb, 0, none⟩), .int .i64 2, .int .i64 1] w fun e w' => e = .returned (.tuple #[sgv 2 1 s, .bool true]) ∧ DM X w0 w' wb ta tb eb O T p q dead refs dn N ∧ But (fun k => ¬ X k) w w' := by
  obtain ⟨ow, mv, f, V, h1, h2, h3, h4, h5, h6, h7, h8, h9⟩ := h
  obtain ⟨m, hm, hx2, hk2⟩ : ∃ m, f 2 1 = some m ∧ m.xs = lq 2 1 (s :: q) ∧ m.k = (s :: q).length := by
    rcases h6 with ⟨e, _⟩ | ⟨_, h⟩
    · cases e
    · exact h
  cases q with
  | nil =>
    refine (take_last popOk wfi2 wfi1 h4 hm (show m.xs = sgl 2 1 s.k s.r s.tk s.ts ++ [] from hx2) hk2 (by simp; try omega) (by simp at hA ⊢; omega) (by omega)).mono ?_
    rintro e w' ⟨rfl, g1, g2⟩
    rw [show p.length + (s :: ([] : List Sg)).length - 1 = p.length + ([] : List Sg).length by simp] at g1
    refine ⟨rfl, DM.air h1 h2 h3 h4.bel.size h8 h9 g1 g2 ?_ ?_ (lane_other h5 (by omega)) (.inl ⟨rfl, updL_same _ _ _ _⟩) (fun a b e1 e2 => by rw [updL_other _ _ _ _ _ _ e2]; exact h7 a b e1 e2)⟩
    · rintro k (e | e | e)
      · exact .inl e
      · exact .inr (.inl e)
      · exact .inr (.inr ⟨_, _, m, hm, e⟩)
    · rintro k (e | e | ⟨a, b, l0, e1, e2⟩)
      · exact .inl (.inl e)
      · exact .inl (.inr (.inl e))
      · by_cases hc : a = 2 ∧ b = 1
        · obtain ⟨rfl, rfl⟩ := hc
          rw [updL_same] at e1; cases e1
        · rw [updL_other _ _ _ _ _ _ hc] at e1
          exact .inl (.inr (.inr ⟨a, b, l0, e1, e2⟩))
  | cons s2 r =>
    refine (take_more popOk wfi2 wfi1 (l := m) (k := r.length) (rest := lq 2 1 (s2 :: r)) h4 hm hx2 (by rw [hk2]; simp) (by simp; try omega) (by simp at hA ⊢; omega) (by omega)).mono ?_
    rintro e w' ⟨rfl, ⟨V', g1, gs⟩, g2⟩
    rw [show p.length + (s :: s2 :: r).length - 1 = p.length + (s2 :: r).length by simp] at g1
    refine ⟨rfl, DM.air h1 h2 h3 h4.bel.size h8 h9 g1 g2 ?_ ?_ (lane_other h5 (by omega)) (.inr ⟨by simp, ⟨m.rb, V', lq 2 1 (s2 :: r), r.length + 1⟩, updL_same _ _ _ _, rfl, by simp⟩) (fun a b e1 e2 => by rw [updL_other _ _ _ _ _ _ e2]; exact h7 a b e1 e2)⟩
    · rintro k (e | e)
      · exact .inl e
      · exact .inr (.inr ⟨_, _, m, hm, e⟩)
    · rintro k (e | e | ⟨a, b, l0, e1, e2⟩)
      · exact .inl (.inl e)
      · exact .inl (.inr (.inl e))
      · by_cases hc : a = 2 ∧ b = 1
        · obtain ⟨rfl, rfl⟩ := hc
          rw [updL_same] at e1
          obtain rfl : (⟨m.rb, V', lq 2 1 (s2 :: r), r.length + 1⟩ : Lane) = l0 := by simpa using e1
          rcases e2 with e2 | e2
          · exact .inl (.inr (.inr ⟨_, _, m, hm, .inl e2⟩))
          · rcases gs with gs | gs
            · exact .inl (.inr (.inr ⟨_, _, m, hm, .inr (gs ▸ e2)⟩))
            · exact .inr (gs k e2)
        · rw [updL_other _ _ _ _ _ _ hc] at e1
          exact .inl (.inr (.inr ⟨a, b, l0, e1, e2⟩))

theorem DM.count (h : DM X w0 w wb ta tb eb O T p q dead refs dn N) : Calls Tryz.prog 8 #[.pointer (some ⟨eb, 0, none⟩)] w fun e w' => e = .returned (.int .i64 ((p.length + q.length : Nat) : Int)) ∧ w' = w := by
  obtain ⟨ow, mv, f, V, h1, h2, h3, h4, -⟩ := h
  exact all_any h4
theorem DM.box (h : DM X w0 w wb ta tb eb O T p q dead refs dn N) : ∃ V, Sx w wb (.pointer (some ⟨ta, 0, none⟩)) (.pointer (some ⟨tb, 0, none⟩)) (.pointer (some ⟨eb, 0, none⟩)) (.bool dead) (.int .i64 (refs : Int)) V ∧ w.ownsRow 0 InT 1 V dn.length (dvs dn) ∧ ¬ X wb ∧ (∀ g, V.ownBlock = some g → ¬ X g ∧ g ≠ wb) := by
  obtain ⟨ow, mv, f, V, h1, h2, h3, h4, h5, h6, h7, h8, h9⟩ := h
  exact ⟨V, h1, h8, fun e => by have := (h9.x _ e).1; rw [h9.o1] at this; omega, fun g e => ⟨fun e2 => by have := (h9.x _ e2).1; rw [h9.o5 g e] at this; omega, fun e2 => by have := h9.o5 g e; rw [e2, h9.o1] at this; omega⟩⟩
theorem DM.tabA (h : DM X w0 w wb ta tb eb O T p q dead refs dn N) : ∃ D, MTab w ta D O [] := by obtain ⟨_, _, _, _, _, h, _⟩ := h; exact ⟨_, h⟩
theorem DM.tabB (h : DM X w0 w wb ta tb eb O T p q dead refs dn N) : ∃ D, MTab w tb D [] T := by obtain ⟨_, _, _, _, _, _, h, _⟩ := h; exact ⟨_, h⟩

/-- The box turns: the second one has ended; one more reference; a new row of counts. -/
theorem DM.setb (h : DM X w0 w wb ta tb eb O T p q dead refs dn N) (d : Bool) (n : Nat) {V' : Value} {dn' : List Nat} (hV : ∀ V, Sx w wb (.pointer (some ⟨ta, 0, none⟩)) (.pointer (some ⟨tb, 0, none⟩)) (.pointer (some ⟨eb, 0, none⟩)) (.bool dead) (.int .i64 (refs : Int)) V → w.ownsRow 0 InT 1 V dn.length (dvs dn) → Sx w' wb (.pointer (some ⟨ta, 0, none⟩)) (.pointer (some ⟨tb, 0, none⟩)) (.pointer (some ⟨eb, 0, none⟩)) (.bool d) (.int .i64 (n : Int)) V' ∧ w'.ownsRow 0 InT 1 V' dn'.length (dvs dn') ∧ But (fun k => k = wb ∨ V.ownBlock = some k) w w' ∧ ∀ g, V'.ownBlock = some g → V.ownBlock = some g ∨ (w.heap.size ≤ g ∧ g < w'.heap.size)) :
    DM X w0 w' wb ta tb eb O T p q d n dn' N := by
  obtain ⟨ow, mv, f, V, h1, h2, h3, h4, h5, h6, h7, h8, h9⟩ := h
  obtain ⟨g1, g2, g3, g4⟩ := hV V h1 h8
  have hlt := fun k hk => h9.lt (k := k) hk
  have hn : ∀ k n, n ≠ 1 → n ≠ 5 → ow k = n → ¬ (k = wb ∨ V.ownBlock = some k) := fun k n hn hn5 e hs => by
    rcases hs with hs | hs
    · rw [hs, h9.o1] at e; omega
    · rw [h9.o5 k hs] at e; omega
  have hnn : ∀ (t n : Nat), n ≠ 1 → n ≠ 5 → ∀ k, (nwo ow w w' 5 k = n ∧ k ≠ t) → ¬ (k = wb ∨ V.ownBlock = some k) := by
    intro t n hn1 hn5 k hk hs
    rcases hs with hs | hs
    · rw [hs, nwo_old (hlt _ (by rw [h9.o1]; omega)), h9.o1] at hk; omega
    · have := h9.o5 k hs
      rw [nwo_old (hlt k (by rw [this]; omega)), this] at hk; omega
  exact ⟨nwo ow w w' 5, mv, f, V', g1, (MTab.own h2 (by omega) hlt).but g3 (fun k hk => hnn ta 2 (by omega) (by omega) k hk) (hn _ 2 (by omega) (by omega) h9.o2), (MTab.own h3 (by omega) hlt).but g3 (fun k hk => hnn tb 3 (by omega) (by omega) k hk) (hn _ 3 (by omega) (by omega) h9.o3), h4.but g3 (hn _ 4 (by omega) (by omega) (h9.o4 _ (.inl rfl))) (fun mb hm => hn _ 4 (by omega) (by omega) (h9.o4 _ (.inr (.inl hm)))) (fun a b l j hl hj => hn _ 4 (by omega) (by omega) (h9.o4 _ (.inr (.inr ⟨a, b, l, hl, hj⟩)))) (fun j hj => hj.elim (fun e => by rw [e]; exact h9.lo wb (by rw [h9.o1]; omega)) (fun e => h9.lo j (by rw [h9.o5 j e]; omega))), h5, h6, h7, g2, h9.new g3 h4.bel.size (fun k hk => .inl hk) (fun g hg => (g4 g hg).imp id (fun e => ⟨rfl, e⟩))⟩

end Go.Proofs.YtceigdeoefhcfaaGreat


/- MonsDown: a move of the first one, walked. -/
namespace Go.Proofs.YtceigdeoefhcfaaGreat
open Go.RowKit Go.Lib
open MV (Hf hf0 getL insL delL Rise Wfk TB Nw Rst KV MnT mvs)
attribute [local go_sem] store_float f64bits
attribute [local go_sem ↓] Go.wp_at_zero Go.wp_at_succ

variable {Yg : Nat → Prop} {wG : World} {w0 w w' : World} {wb ta tb eb N refs : Nat} {O T O' T' : List KV} {p q : List Sg} {dead : Bool} {dn : List Nat}
abbrev NoX : Nat → Prop := fun _ => False
theorem infoI : ∃ i0, Tryz.prog.info? InT = some i0 ∧ i0.zero = some (.int .i64 0) ∧ i0.size = 1 ∧ i0.bytes = 8 := info_parts (show (Tryz.prog.info? InT).map (fun i => (i.zero, i.size, i.bytes)) = some (some (.int .i64 0), 1, 8) by kernel_rfl)
theorem cell1_new (w : World) (a : Value) (t : TypeId) : ∀ (j : Nat) (u : Value), [a][j]? = some u → (w.alloc (.cells #[a] t)).cell? ((⟨w.heap.size, 0, none⟩ : Addr).add j) = some u := by
  intro j u hj
  match j, hj with
  | 0, hj => simp at hj; subst hj; simp [Addr.add]
  | j + 1, hj => simp at hj
theorem dvs_one (l : List Nat) : ∀ u ∈ dvs l, u.oneCell' = true := by
  intro u hu
  obtain ⟨c, _, rfl⟩ := List.mem_map.1 hu
  rfl
theorem dvs_len (l : List Nat) : (dvs l).length = l.length := by simp [dvs]
theorem Sx.own {w w' : World} {b : Nat} {v0 v1 v2 v3 v4 v5 : Value} (h : Sx w b v0 v1 v2 v3 v4 v5) (hb : Below w.heap.size w w') : Sx w' b v0 v1 v2 v3 v4 v5 := h.but (S := fun _ => False) (But.of_below hb) id

theorem olen {g : Int → Prop} {i : Nat} (h : Bs g i O T p q refs dn N) : O.length ≤ refs := by
  have hr := h.ro
  have ho := h.o
  clear h
  suffices hh : ∀ (L : List KV) (m : Nat), Rise L → (∀ x ∈ L, (m : Int) < x.1 ∧ x.1 ≤ (refs : Int)) → L.length + m ≤ refs ∨ L = [] by
    rcases hh O 0 hr (fun x hx => by have := ho x hx; omega) with h | h
    · omega
    · rw [h]; simp
  intro L
  induction L with
  | nil => intro m _ _; exact .inr rfl
  | cons x r ih =>
    intro m h1 h2
    left
    have a1 := List.pairwise_cons.1 h1
    have hx := h2 x (by simp)
    obtain ⟨n, hn⟩ : ∃ n : Nat, x.1 = (n : Int) := ⟨x.1.toNat, by omega⟩
    rcases ih n a1.2 (fun y hy => ⟨by have := a1.1 y hy; omega, (h2 y (by simp [hy])).2⟩) with h | h
    · simp; omega
    · rw [h]; simp; omega

/-- What a move tells. -/
def DoR (Yg : Nat → Prop) (wG : World) (g : Int → Prop) (i : Nat) (w0 : World) (wb ta tb eb : Nat) (e : Ending) (w' : World) : Prop := e = .returned (.tuple #[]) ∧ ∃ O T p q dead refs dn N, DL Yg wG NoX w0 w' wb ta tb eb O T p q dead refs dn N ∧ Iv g i O T p q dead refs dn N

set_option maxRecDepth 100000 in
set_option maxHeartbeats 8000000 in
theorem does1 {g : Int → Prop} {i : Nat} (h : DL Yg wG NoX w0 w wb ta tb eb O T p q dead refs dn N) (hi : Iv g i O T p q dead refs dn N) (hN : i ≤ 3000) (rf : Int) :
    Calls Tryz.prog 7 #[.pointer (some ⟨wb, 0, none⟩), .agg #[.int .i64 1, .int .i64 rf]] w (DoR Yg wG g (i + 1) w0 wb ta tb eb) := by
  obtain ⟨V, hS, hR, -, hV⟩ := h.box
  obtain ⟨va, vc, rfl⟩ := MV.own_sl hR
  have k0 := hS.c0; have k1 := hS.c1; have k2 := hS.c2; have k3 := hS.c3; have k4 := hS.c4; have k5 := hS.c5; have f4 := hS.f4; have f5 := hS.f5; have hwl := hS.lt
  have hbs := hi.bs
  have hrf := hbs.r
  have s1 : wrap64 ((refs : Int) + 1) = (refs : Int) + 1 := by unfold wrap64; omega
  obtain ⟨i0, hi0, hz0, hz1, hz2⟩ := infoI
  obtain ⟨W2, hW2⟩ : ∃ W2, (((w.setCell ⟨wb, 4, none⟩ (.int .i64 ((refs : Int) + 1))).alloc (.cells #[.int .i64 1, .int .i64 rf] 34)).alloc (.cells #[.int .i64 0] 3)) = W2 := ⟨_, rfl⟩
  have hsz2 : W2.heap.size = w.heap.size + 1 + 1 := by rw [← hW2]; simp [World.setCell]
  have hb2 : But (fun k => k = wb) w W2 := hW2 ▸ (((But.refl (fun k => k = wb) w).setCell (p := ⟨wb, 4, none⟩) (fun _ => rfl) _).alloc _).alloc _
  have hS2 : Sx W2 wb (.pointer (some ⟨ta, 0, none⟩)) (.pointer (some ⟨tb, 0, none⟩)) (.pointer (some ⟨eb, 0, none⟩)) (.bool dead) (.int .i64 ((refs : Int) + 1)) (.slice va dn.length vc) := hW2 ▸ ((hS.set4 (.int .i64 ((refs : Int) + 1))).own (below_new _ _)).own (below_new _ _)
  have hR2 : W2.ownsRow 0 InT 1 (.slice va dn.length vc) dn.length (dvs dn) := MV.row_but hR hb2 (fun g e => (hV g e).2)
  have hc2 : ∀ (j : Nat) (u : Value), [Value.int .i64 0][j]? = some u → W2.cell? ((⟨w.heap.size + 1, 0, none⟩ : Addr).add j) = some u := by
    rw [← hW2]
    have := cell1_new ((w.setCell ⟨wb, 4, none⟩ (.int .i64 ((refs : Int) + 1))).alloc (.cells #[.int .i64 1, .int .i64 rf] 34)) (.int .i64 0) 3
    simpa [World.setCell] using this
  have HDM : Hid (∀ Y V', Y.ownsRow 0 InT 1 V' (dn.length + 1) (dvs dn ++ [.int .i64 0]) → W2.grownBy Y (Value.slice va dn.length vc).ownBlock → (V'.ownBlock = (Value.slice va dn.length vc).ownBlock ∨ V'.ownBlock = some W2.heap.size) → Sx Y wb (.pointer (some ⟨ta, 0, none⟩)) (.pointer (some ⟨tb, 0, none⟩)) (.pointer (some ⟨eb, 0, none⟩)) (.bool dead) (.int .i64 ((refs : Int) + 1)) (.slice va dn.length vc) ∧ DL Yg wG NoX w0 (Y.setCell ⟨wb, 5, none⟩ V') wb ta tb eb O T p q dead (refs + 1) (dn ++ [0]) N) := hidb (by
    intro Y V' ho hg hat
    have hby : But (fun k => (Value.slice va dn.length vc).ownBlock = some k) W2 Y := MV.But.of_grown hg (fun g e => e)
    have hSY := hS2.but hby (fun e => (hV wb e).2 rfl)
    have hsY := hby.size
    have hlt5 : ∀ g, V'.ownBlock = some g → g < Y.heap.size := fun g e => (ho.lt g e).2
    refine ⟨hSY, h.setb dead (refs + 1) (V' := V') (dn' := dn ++ [0]) (fun V0 hS0 hR0 => ?_)⟩
    obtain rfl : (.slice va dn.length vc) = V0 := by have := hS.c5.symm.trans hS0.c5; simpa using this
    have hbs : But (fun k => k = wb ∨ (Value.slice va dn.length vc).ownBlock = some k) w (Y.setCell ⟨wb, 5, none⟩ V') := ((hb2.mono (fun k _ e => .inl e)).trans (hby.mono (fun k _ e => .inr e))).setCell (p := ⟨wb, 5, none⟩) (fun _ => .inl rfl) _
    refine ⟨by have := hSY.set5 V'; simpa using this, ?_, hbs, fun g e => ?_⟩
    · have h9 := MV.row_but ho ((But.refl (fun k => k = wb) Y).setCell (p := ⟨wb, 5, none⟩) (fun _ => rfl) V') (fun g e e' => by
        rcases hat with h1 | h1
        · rw [h1] at e; exact (hV g e).2 e'
        · rw [h1] at e; have e2 : W2.heap.size = g := (by simpa using e); omega)
      simpa [dvs] using h9
    · rcases hat with h1 | h1
      · exact .inl (h1 ▸ e)
      · refine .inr ⟨?_, by have := hlt5 g e; simpa [World.setCell] using this⟩
        rw [h1] at e; have e2 : W2.heap.size = g := (by simpa using e); omega)
  have HIV := hidb hi
  have HWL : Hid (wb < W2.heap.size ∧ dn.length ≤ 3000) := hidb ⟨hS2.lt, by have := hbs.l; omega⟩
  have HR2 := hidb hR2
  have HC2 := hidb hc2
  clear h hi hS hR hV hbs hS2 hR2 hb2 hc2 hsz2 hrf
  go_enter Tryz.func7, Tryz.ntmps7
  go_wp2_with (first
    | (at_builtin; refine wpList_append_own_at _ rfl (.tmp 29) (.tmp 30) 29 rfl 0 InT i0 (.int .i64 0) 1 8 Tryz.underlying29 hi0 hz0 hz1 hz2 rfl (by decide) (.slice va dn.length vc) dn.length (dvs dn) rfl HR2.out ⟨w.heap.size + 1, 0, none⟩ 1 1 [.int .i64 0] rfl rfl HC2.out (by simp [Value.oneCell']) (by have := HWL.out; unfold maxLen; omega) (by have := HWL.out; omega) (Nat.zero_le _) ?_; intro V' Y hown hgrow _ hat; obtain ⟨hSY, hDY⟩ := HDM.out Y V' hown hgrow hat; obtain ⟨vb, vd, rfl⟩ := MV.own_sl hown; have HDY := hidb hDY; have j0 := hSY.c0; have j2 := hSY.c2; have j4 := hSY.c4; have j5 := hSY.c5; have e5 := hSY.f5; clear HDM hown hgrow hat hSY hDY HR2 HC2))
  generalize hW3 : Y.setCell ⟨wb, 5, none⟩ (.slice vb (dn.length + 1) vd) = W3 at *
  clear hW3 j0 j2 j4 j5 e5 k0 k1 k2 k3 k4 k5 f4 f5
  obtain ⟨V3, hS3, -, -, -⟩ := HDY.out.box
  rw [show (((refs + 1 : Nat)) : Int) = (refs : Int) + 1 by omega] at hS3
  have j0 := hS3.c0; have j2 := hS3.c2; have j4 := hS3.c4
  obtain ⟨hpl, hiv1⟩ := HIV.out.m1
  have hbs := HIV.out.bs
  have CW : Hid (Calls Tryz.prog 11 #[.pointer (some ⟨ta, 0, none⟩), .int .i64 ((refs : Int) + 1), .int .i64 2, .string ⟨#[]⟩] W3.drew fun e w4 => ∃ z, e = .returned (.int .i64 z) ∧ Hid (w4.cell? ⟨wb, 0, none⟩ = some (.pointer (some ⟨ta, 0, none⟩)) ∧ w4.cell? ⟨wb, 4, none⟩ = some (.int .i64 ((refs : Int) + 1))) ∧ Hid (w4.drew.cell? ⟨wb, 2, none⟩ = some (.pointer (some ⟨eb, 0, none⟩)) ∧ w4.drew.cell? ⟨wb, 4, none⟩ = some (.int .i64 ((refs : Int) + 1))) ∧ Hid (∀ W, Below w4.heap.size w4 W → Calls Tryz.prog 14 #[.pointer (some ⟨eb, 0, none⟩), .agg #[.int .i64 1, .int .i64 2, .int .i64 6, .int .i64 0, .int .i64 ((refs : Int) + 1), .bool false, .string ⟨#[]⟩, .int .i64 0, .int .i64 0, .float .f64 0, .string ⟨#[]⟩, .slice none 0 0]] W fun e w5 => e = .returned (.int .i64 0) ∧ Hid (w5.cell? ⟨wb, 2, none⟩ = some (.pointer (some ⟨eb, 0, none⟩)) ∧ w5.cell? ⟨wb, 4, none⟩ = some (.int .i64 ((refs : Int) + 1))) ∧ Hid (DoR Yg wG g (i + 1) w0 wb ta tb eb (.returned (.tuple #[])) w5))) := by
    refine hidb (((HDY.out.keep ((Below.refl _ _).drew)).opA (O' := insL ((refs : Int) + 1) ⟨(refs : Int) + 1, 2, nil8⟩ O) (R := fun e => ∃ z, e = .returned (.int .i64 z)) (fun D hD => (mwatch_any hD (by have := olen hbs; have := hbs.r; omega) ((refs : Int) + 1) 2 nil8 (by decide)).mono (by rintro e w' ⟨rfl, hu⟩; rw [hpl] at hu; exact ⟨⟨_, rfl⟩, hu⟩))).mono ?_)
    rintro e w4 ⟨⟨z, rfl⟩, hd4, -⟩
    obtain ⟨V4, hS4, -, -, -⟩ := hd4.box
    rw [show (((refs + 1 : Nat)) : Int) = (refs : Int) + 1 by omega] at hS4
    refine ⟨z, rfl, hidb ⟨hS4.c0, hS4.c4⟩, hidb ⟨hS4.c2, hS4.c4⟩, hidb (fun W hW => ?_)⟩
    have hr9 := hbs.r
    have hb9 := hiv1.bs.b
    have ha9 := hiv1.bs.a
    refine ((hd4.keep hW).put12 (s := ⟨6, (refs : Int) + 1, 0, nil8⟩) (fun w => check_p ⟨.inl rfl, rfl, rfl, by simp only; omega, by simp only; omega⟩ w) (by omega) (by simp at ha9; omega)).mono ?_
    rintro e w5 ⟨rfl, hd5, -⟩
    obtain ⟨V5, hS5, -, -, -⟩ := hd5.box
    rw [show (((refs + 1 : Nat)) : Int) = (refs : Int) + 1 by omega] at hS5
    exact ⟨rfl, hidb ⟨hS5.c2, hS5.c4⟩, hidb ⟨rfl, _, _, _, _, _, _, _, _, hd5, hiv1⟩⟩
  have HS0 : Hid (W3.drew.cell? ⟨wb, 0, none⟩ = some (.pointer (some ⟨ta, 0, none⟩)) ∧ W3.drew.cell? ⟨wb, 4, none⟩ = some (.int .i64 ((refs : Int) + 1))) := hidb ⟨j0, j4⟩
  clear HDY hS3 hpl hiv1 hbs HIV HWL j0 j2 j4
  go_region_held3 (fun w' => w'.cell? ⟨wb, 0, none⟩ = some (.pointer (some ⟨ta, 0, none⟩)) ∧ w'.cell? ⟨wb, 4, none⟩ = some (.int .i64 ((refs : Int) + 1))) (first | with_reducible exact HS0.out | with_reducible exact HS1.out) (first | (go_at_call 11; refine CW.out.mono ?_; rintro e w4 ⟨z, rfl, HS1, HS2, CP⟩))
  go_wp2_with fail
  go_region_held3 (fun w' => w'.cell? ⟨wb, 2, none⟩ = some (.pointer (some ⟨eb, 0, none⟩)) ∧ w'.cell? ⟨wb, 4, none⟩ = some (.int .i64 ((refs : Int) + 1))) (first | with_reducible exact HS2.out | with_reducible exact HS3.out) (first | (go_at_call 14; refine (CP.out _ ((Below.refl _ _).drew)).mono ?_; rintro e w5 ⟨rfl, HS3, HR⟩))
  go_wp2_with fail
  exact bodyPost_end (v := .tuple #[]) (by simp [results, Tryz.results7, go_sem]) rfl HR.out

end Go.Proofs.YtceigdeoefhcfaaGreat


