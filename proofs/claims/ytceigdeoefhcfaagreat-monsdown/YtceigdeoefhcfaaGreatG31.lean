import Derived.Test.YtceigdeoefhcfaaGreatG30
/- Two processes, one of which watches the other: puts and takes. -/
namespace Go.Proofs.YtceigdeoefhcfaaGreat
open Go.RowKit Go.Lib
open MV (Hf hf0 getL insL delL Rise Wfk TB Nw Rst KV MnT mvs)
attribute [local go_sem] store_float f64bits
attribute [local go_sem ↓] Go.wp_at_zero Go.wp_at_succ

variable {X X' : Nat → Prop} {w0 w w' : World} {wb ta tb eb N refs : Nat} {O T O' T' : List KV} {p q : List Sg} {dead : Bool} {dn : List Nat}

abbrev sgv (x y : Int) (s : Sg) : Value := .agg #[.int .i64 x, .int .i64 y, .int .i64 s.k, .int .i64 0, .int .i64 s.r, .bool false, .string ⟨#[]⟩, .int .i64 s.tk, .int .i64 0, .float .f64 0, .string s.ts, .slice none 0 0]

/-- Right signals are taken. -/
theorem check_p {s : Sg} (hs : (s.k = 6 ∨ s.k = 7) ∧ s.tk = 0 ∧ s.ts = nil8 ∧ 1 ≤ s.r ∧ s.r ≤ 1000000) (w : World) : Calls Tryz.prog 24 #[sgv 1 2 s] w fun e w' => e = .returned (.int .i64 0) ∧ Below w.heap.size w w' := by
  obtain ⟨k, r, tk, ts⟩ := s
  obtain ⟨h1, h2, h3, h4, h5⟩ := hs
  simp only at h1 h2 h3 h4 h5
  subst h2 h3
  rcases h1 with rfl | rfl
  · exact check6 1 2 r w (by omega) (by omega) (by omega) (by omega) (by omega) (by omega)
  · exact check7 1 2 r w (by omega) (by omega) (by omega) (by omega) (by omega) (by omega)
theorem check_q {s : Sg} (hs : s.k = 8 ∧ s.tk = 3 ∧ (s.ts = noproc ∨ s.ts = oops) ∧ 1 ≤ s.r ∧ s.r ≤ 1000000) (w : World) : Calls Tryz.prog 24 #[sgv 2 1 s] w fun e w' => e = .returned (.int .i64 0) ∧ Below w.heap.size w w' := by
  obtain ⟨k, r, tk, ts⟩ := s
  obtain ⟨h1, h2, h3, h4, h5⟩ := hs
  simp only at h1 h2 h3 h4 h5
  subst h1 h2
  rcases h3 with rfl | rfl
  · exact check8 2 1 r noproc err_noproc (by decide) w (by omega) (by omega) (by omega) (by omega) (by omega) (by omega)
  · exact check8 2 1 r oops err_oops (by decide) w (by omega) (by omega) (by omega) (by omega) (by omega) (by omega)

theorem DM.put12 (h : DM X w0 w wb ta tb eb O T p q dead refs dn N) {s : Sg} (hck : ∀ w, Calls Tryz.prog 24 #[sgv 1 2 s] w fun e w' => e = .returned (.int .i64 0) ∧ Below w.heap.size w w') (hN : N ≤ 90000) (hA : p.length + q.length ≤ 90000) :
    Calls Tryz.prog 14 #[.pointer (some ⟨eb, 0, none⟩), sgv 1 2 s] w fun e w' => e = .returned (.int .i64 0) ∧ DM X w0 w' wb ta tb eb O T (p ++ [s]) q dead refs dn (N + 2) ∧ But (fun k => ¬ X k) w w' := by
  obtain ⟨ow, mv, f, V, h1, h2, h3, h4, h5, h6, h7, h8, h9⟩ := h
  refine (put_ok wfi1 wfi2 h4 (by omega) (by omega) hck).mono ?_
  rintro e w' ⟨rfl, mv', l, g1, g2, g3, g4, g5, g6⟩
  refine ⟨rfl, DM.air h1 h2 h3 h4.bel.size h8 h9 (S := putS mv f eb 1 2) (by rw [show (p ++ [s]).length + q.length = p.length + q.length + 1 by simp; omega]; exact g1) g4 ?_ ?_ ?l1 (lane_other h6 (by omega)) (fun a b e1 e2 => by rw [updL_other _ _ _ _ _ _ e1]; exact h7 a b e1 e2)⟩
  case l1 =>
    refine .inr ⟨by simp, l, updL_same _ _ _ _, ?_, ?_⟩
    · rw [g2, lq_snoc]
      congr 1
      unfold oldx
      rcases h5 with ⟨rfl, e⟩ | ⟨_, m, e, e2, _⟩
      · rw [e]; rfl
      · rw [e]; exact e2
    · rw [g3, List.length_append]
      unfold oldk
      rcases h5 with ⟨rfl, e⟩ | ⟨_, m, e, _, e2⟩
      · rw [e]; rfl
      · rw [e]; simp [e2]
  · rintro k (e | e | ⟨l0, e1, e2⟩)
    · exact .inl e
    · exact .inr (.inl e)
    · exact .inr (.inr ⟨_, _, l0, e1, e2⟩)
  · rintro k (e | e | ⟨a, b, l0, e1, e2⟩)
    · exact .inl (.inl e)
    · exact (g5 k e).imp (fun e => .inr (.inl e)) id
    · by_cases hc : a = 1 ∧ b = 2
      · obtain ⟨rfl, rfl⟩ := hc
        rw [updL_same] at e1
        obtain rfl : l = l0 := by simpa using e1
        exact (g6 k e2).imp (fun ⟨l0, e3, e4⟩ => .inr (.inr ⟨_, _, l0, e3, e4⟩)) id
      · rw [updL_other _ _ _ _ _ _ hc] at e1
        exact .inl (.inr (.inr ⟨a, b, l0, e1, e2⟩))

theorem DM.put21 (h : DM X w0 w wb ta tb eb O T p q dead refs dn N) {s : Sg} (hck : ∀ w, Calls Tryz.prog 24 #[sgv 2 1 s] w fun e w' => e = .returned (.int .i64 0) ∧ Below w.heap.size w w') (hN : N ≤ 90000) (hA : p.length + q.length ≤ 90000) :
    Calls Tryz.prog 14 #[.pointer (some ⟨eb, 0, none⟩), sgv 2 1 s] w fun e w' => e = .returned (.int .i64 0) ∧ DM X w0 w' wb ta tb eb O T p (q ++ [s]) dead refs dn (N + 2) ∧ But (fun k => ¬ X k) w w' := by
  obtain ⟨ow, mv, f, V, h1, h2, h3, h4, h5, h6, h7, h8, h9⟩ := h
  refine (put_ok wfi2 wfi1 h4 (by omega) (by omega) hck).mono ?_
  rintro e w' ⟨rfl, mv', l, g1, g2, g3, g4, g5, g6⟩
  refine ⟨rfl, DM.air h1 h2 h3 h4.bel.size h8 h9 (S := putS mv f eb 2 1) (by rw [show p.length + (q ++ [s]).length = p.length + q.length + 1 by simp; omega]; exact g1) g4 ?_ ?_ (lane_other h5 (by omega)) ?l1 (fun a b e1 e2 => by rw [updL_other _ _ _ _ _ _ e2]; exact h7 a b e1 e2)⟩
  case l1 =>
    refine .inr ⟨by simp, l, updL_same _ _ _ _, ?_, ?_⟩
    · rw [g2, lq_snoc]
      congr 1
      unfold oldx
      rcases h6 with ⟨rfl, e⟩ | ⟨_, m, e, e2, _⟩
      · rw [e]; rfl
      · rw [e]; exact e2
    · rw [g3, List.length_append]
      unfold oldk
      rcases h6 with ⟨rfl, e⟩ | ⟨_, m, e, _, e2⟩
      · rw [e]; rfl
      · rw [e]; simp [e2]
  · rintro k (e | e | ⟨l0, e1, e2⟩)
    · exact .inl e
    · exact .inr (.inl e)
    · exact .inr (.inr ⟨_, _, l0, e1, e2⟩)
  · rintro k (e | e | ⟨a, b, l0, e1, e2⟩)
    · exact .inl (.inl e)
    · exact (g5 k e).imp (fun e => .inr (.inl e)) id
    · by_cases hc : a = 2 ∧ b = 1
      · obtain ⟨rfl, rfl⟩ := hc
        rw [updL_same] at e1
        obtain rfl : l = l0 := by simpa using e1
        exact (g6 k e2).imp (fun ⟨l0, e3, e4⟩ => .inr (.inr ⟨_, _, l0, e3, e4⟩)) id
      · rw [updL_other _ _ _ _ _ _ hc] at e1
        exact .inl (.inr (.inr ⟨a, b, l0, e1, e2⟩))

theorem DM.none12 (h : DM X w0 w wb ta tb eb O T [] q dead refs dn N) :
    Calls Tryz.prog 16 #[.pointer (some ⟨eb, 0, none⟩), .int .i64 1, .int .i64 2] w fun e w' => e = .returned (.tuple #[zsig, .bool false]) ∧ Below w.heap.size w w' := by
  obtain ⟨ow, mv, f, V, h1, h2, h3, h4, h5, h6, h7, h8, h9⟩ := h
  have hf : f 1 2 = none := by
    rcases h5 with ⟨_, e⟩ | ⟨e, _⟩
    · exact e
    · exact absurd rfl e
  exact take_none wfi1 wfi2 h4 hf

theorem DM.take12 {s : Sg} (h : DM X w0 w wb ta tb eb O T (s :: p) q dead refs dn N) (hN : N ≤ 90000) (hA : p.length + q.length ≤ 90000) :
    Calls Tryz.prog 16 #[.pointer (some ⟨eb, 0, none⟩), .int .i64 1, .int .i64 2] w fun e w' => e = .returned (.tuple #[sgv 1 2 s, .bool true]) ∧ DM X w0 w' wb ta tb eb O T p q dead refs dn N ∧ But (fun k => ¬ X k) w w' := by
  obtain ⟨ow, mv, f, V, h1, h2, h3, h4, h5, h6, h7, h8, h9⟩ := h
  obtain ⟨m, hm, hx2, hk2⟩ : ∃ m, f 1 2 = some m ∧ m.xs = lq 1 2 (s :: p) ∧ m.k = (s :: p).length := by
    rcases h5 with ⟨e, _⟩ | ⟨_, h⟩
    · cases e
    · exact h
  cases p with
  | nil =>
    refine (take_last popOk wfi1 wfi2 h4 hm (show m.xs = sgl 1 2 s.k s.r s.tk s.ts ++ [] from hx2) hk2 (by simp; try omega) (by simp at hA ⊢; omega) (by omega)).mono ?_
    rintro e w' ⟨rfl, g1, g2⟩
    rw [show (s :: ([] : List Sg)).length + q.length - 1 = ([] : List Sg).length + q.length by simp] at g1
    refine ⟨rfl, DM.air h1 h2 h3 h4.bel.size h8 h9 g1 g2 ?_ ?_ (.inl ⟨rfl, updL_same _ _ _ _⟩) (lane_other h6 (by omega)) (fun a b e1 e2 => by rw [updL_other _ _ _ _ _ _ e1]; exact h7 a b e1 e2)⟩
    · rintro k (e | e | e)
      · exact .inl e
      · exact .inr (.inl e)
      · exact .inr (.inr ⟨_, _, m, hm, e⟩)
    · rintro k (e | e | ⟨a, b, l0, e1, e2⟩)
      · exact .inl (.inl e)
      · exact .inl (.inr (.inl e))
      · by_cases hc : a = 1 ∧ b = 2
        · obtain ⟨rfl, rfl⟩ := hc
          rw [updL_same] at e1; cases e1
        · rw [updL_other _ _ _ _ _ _ hc] at e1
          exact .inl (.inr (.inr ⟨a, b, l0, e1, e2⟩))
  | cons s2 r =>
    refine (take_more popOk wfi1 wfi2 (l := m) (k := r.length) (rest := lq 1 2 (s2 :: r)) h4 hm hx2 (by rw [hk2]; simp) (by simp; try omega) (by simp at hA ⊢; omega) (by omega)).mono ?_
    rintro e w' ⟨rfl, ⟨V', g1, gs⟩, g2⟩
    rw [show (s :: s2 :: r).length + q.length - 1 = (s2 :: r).length + q.length by (simp; try omega)] at g1
    refine ⟨rfl, DM.air h1 h2 h3 h4.bel.size h8 h9 g1 g2 ?_ ?_ (.inr ⟨by simp, ⟨m.rb, V', lq 1 2 (s2 :: r), r.length + 1⟩, updL_same _ _ _ _, rfl, by simp⟩) (lane_other h6 (by omega)) (fun a b e1 e2 => by rw [updL_other _ _ _ _ _ _ e1]; exact h7 a b e1 e2)⟩
    · rintro k (e | e)
      · exact .inl e
      · exact .inr (.inr ⟨_, _, m, hm, e⟩)
    · rintro k (e | e | ⟨a, b, l0, e1, e2⟩)
      · exact .inl (.inl e)
      · exact .inl (.inr (.inl e))
      · by_cases hc : a = 1 ∧ b = 2
        · obtain ⟨rfl, rfl⟩ := hc
          rw [updL_same] at e1
          obtain rfl : (⟨m.rb, V', lq 1 2 (s2 :: r), r.length + 1⟩ : Lane) = l0 := by simpa using e1
          rcases e2 with e2 | e2
          · exact .inl (.inr (.inr ⟨_, _, m, hm, .inl e2⟩))
          · rcases gs with gs | gs
            · exact .inl (.inr (.inr ⟨_, _, m, hm, .inr (gs ▸ e2)⟩))
            · exact .inr (gs k e2)
        · rw [updL_other _ _ _ _ _ _ hc] at e1
          exact .inl (.inr (.inr ⟨a, b, l0, e1, e2⟩))

theorem DM.none21 (h : DM X w0 w wb ta tb eb O T p [] dead refs dn N) :
    Calls Tryz.prog 16 #[.pointer (some ⟨eb, 0, none⟩), .int .i64 2, .int .i64 1] w fun e w' => e = .returned (.tuple #[zsig, .bool false]) ∧ Below w.heap.size w w' := by
  obtain ⟨ow, mv, f, V, h1, h2, h3, h4, h5, h6, h7, h8, h9⟩ := h
  have hf : f 2 1 = none := by
    rcases h6 with ⟨_, e⟩ | ⟨e, _⟩
    · exact e
    · exact absurd rfl e
  exact take_none wfi2 wfi1 h4 hf

theorem DM.take21 {s : Sg} (h : DM X w0 w wb ta tb eb O T p (s :: q) dead refs dn N) (hN : N ≤ 90000) (hA : p.length + q.length ≤ 90000) :
    Calls Tryz.prog 16 #[.pointer (some ⟨eb, 0, none⟩), .int .i64 2, .int .i64 1] w fun e w' => e = .returned (.tuple #[sgv 2 1 s, .bool true]) ∧ DM X w0 w' wb ta tb eb O T p q dead refs dn N ∧ But (fun k => ¬ X k) w w' := by
  obtain ⟨ow, mv, f, V, h1, h2, h3, h4, h5, h6, h7, h8, h9⟩ := h
  obtain ⟨m, hm, hx2, hk2⟩ : ∃ m, f 2 1 = some m ∧ m.xs = lq 2 1 (s :: q) ∧ m.k = (s :: q).length := by
    rcases h6 with ⟨e, _⟩ | ⟨_, h⟩
    · cases e
    · exact h
  cases q with
  | nil =>
    refine (take_last popOk wfi2 wfi1 h4 hm (show m.xs = sgl 2 1 s.k s.r s.tk s.ts ++ [] from hx2) hk2 (by simp; try omega) (by simp at hA ⊢; omega) (by omega)).mono ?_
    rintro e w' ⟨rfl, g1, g2⟩
    rw [show p.length + (s :: ([] : List Sg)).length - 1 = p.length + ([] : List Sg).length by simp] at g1
    refine ⟨rfl, DM.air h1 h2 h3 h4.bel.size h8 h9 g1 g2 ?_ ?_ (lane_other h5 (by omega)) (.inl ⟨rfl, updL_same _ _ _ _⟩) (fun a b e1 e2 => by rw [updL_other _ _ _ _ _ _ e2]; exact h7 a b e1 e2)⟩
    · rintro k (e | e | e)
      · exact .inl e
      · exact .inr (.inl e)
      · exact .inr (.inr ⟨_, _, m, hm, e⟩)
    · rintro k (e | e | ⟨a, b, l0, e1, e2⟩)
      · exact .inl (.inl e)
      · exact .inl (.inr (.inl e))
      · by_cases hc : a = 2 ∧ b = 1
        · obtain ⟨rfl, rfl⟩ := hc
          rw [updL_same] at e1; cases e1
        · rw [updL_other _ _ _ _ _ _ hc] at e1
          exact .inl (.inr (.inr ⟨a, b, l0, e1, e2⟩))
  | cons s2 r =>
    refine (take_more popOk wfi2 wfi1 (l := m) (k := r.length) (rest := lq 2 1 (s2 :: r)) h4 hm hx2 (by rw [hk2]; simp) (by simp; try omega) (by simp at hA ⊢; omega) (by omega)).mono ?_
    rintro e w' ⟨rfl, ⟨V', g1, gs⟩, g2⟩
    rw [show p.length + (s :: s2 :: r).length - 1 = p.length + (s2 :: r).length by simp] at g1
    refine ⟨rfl, DM.air h1 h2 h3 h4.bel.size h8 h9 g1 g2 ?_ ?_ (lane_other h5 (by omega)) (.inr ⟨by simp, ⟨m.rb, V', lq 2 1 (s2 :: r), r.length + 1⟩, updL_same _ _ _ _, rfl, by simp⟩) (fun a b e1 e2 => by rw [updL_other _ _ _ _ _ _ e2]; exact h7 a b e1 e2)⟩
    · rintro k (e | e)
      · exact .inl e
      · exact .inr (.inr ⟨_, _, m, hm, e⟩)
    · rintro k (e | e | ⟨a, b, l0, e1, e2⟩)
      · exact .inl (.inl e)
      · exact .inl (.inr (.inl e))
      · by_cases hc : a = 2 ∧ b = 1
        · obtain ⟨rfl, rfl⟩ := hc
          rw [updL_same] at e1
          obtain rfl : (⟨m.rb, V', lq 2 1 (s2 :: r), r.length + 1⟩ : Lane) = l0 := by simpa using e1
          rcases e2 with e2 | e2
          · exact .inl (.inr (.inr ⟨_, _, m, hm, .inl e2⟩))
          · rcases gs with gs | gs
            · exact .inl (.inr (.inr ⟨_, _, m, hm, .inr (gs ▸ e2)⟩))
            · exact .inr (gs k e2)
        · rw [updL_other _ _ _ _ _ _ hc] at e1
          exact .inl (.inr (.inr ⟨a, b, l0, e1, e2⟩))

theorem DM.count (h : DM X w0 w wb ta tb eb O T p q dead refs dn N) : Calls Tryz.prog 8 #[.pointer (some ⟨eb, 0, none⟩)] w fun e w' => e = .returned (.int .i64 ((p.length + q.length : Nat) : Int)) ∧ w' = w := by
  obtain ⟨ow, mv, f, V, h1, h2, h3, h4, -⟩ := h
  exact all_any h4
theorem DM.box (h : DM X w0 w wb ta tb eb O T p q dead refs dn N) : ∃ V, Sx w wb (.pointer (some ⟨ta, 0, none⟩)) (.pointer (some ⟨tb, 0, none⟩)) (.pointer (some ⟨eb, 0, none⟩)) (.bool dead) (.int .i64 (refs : Int)) V ∧ w.ownsRow 0 InT 1 V dn.length (dvs dn) ∧ ¬ X wb ∧ (∀ g, V.ownBlock = some g → ¬ X g ∧ g ≠ wb) := by
  obtain ⟨ow, mv, f, V, h1, h2, h3, h4, h5, h6, h7, h8, h9⟩ := h
  exact ⟨V, h1, h8, fun e => by have := (h9.x _ e).1; rw [h9.o1] at this; omega, fun g e => ⟨fun e2 => by have := (h9.x _ e2).1; rw [h9.o5 g e] at this; omega, fun e2 => by have := h9.o5 g e; rw [e2, h9.o1] at this; omega⟩⟩
theorem DM.tabA (h : DM X w0 w wb ta tb eb O T p q dead refs dn N) : ∃ D, MTab w ta D O [] := by obtain ⟨_, _, _, _, _, h, _⟩ := h; exact ⟨_, h⟩
theorem DM.tabB (h : DM X w0 w wb ta tb eb O T p q dead refs dn N) : ∃ D, MTab w tb D [] T := by obtain ⟨_, _, _, _, _, _, h, _⟩ := h; exact ⟨_, h⟩

/-- The box turns: the second one has ended; one more reference; a new row of counts. -/
theorem DM.setb (h : DM X w0 w wb ta tb eb O T p q dead refs dn N) (d : Bool) (n : Nat) {V' : Value} {dn' : List Nat} (hV : ∀ V, Sx w wb (.pointer (some ⟨ta, 0, none⟩)) (.pointer (some ⟨tb, 0, none⟩)) (.pointer (some ⟨eb, 0, none⟩)) (.bool dead) (.int .i64 (refs : Int)) V → w.ownsRow 0 InT 1 V dn.length (dvs dn) → Sx w' wb (.pointer (some ⟨ta, 0, none⟩)) (.pointer (some ⟨tb, 0, none⟩)) (.pointer (some ⟨eb, 0, none⟩)) (.bool d) (.int .i64 (n : Int)) V' ∧ w'.ownsRow 0 InT 1 V' dn'.length (dvs dn') ∧ But (fun k => k = wb ∨ V.ownBlock = some k) w w' ∧ ∀ g, V'.ownBlock = some g → V.ownBlock = some g ∨ (w.heap.size ≤ g ∧ g < w'.heap.size)) :
    DM X w0 w' wb ta tb eb O T p q d n dn' N := by
  obtain ⟨ow, mv, f, V, h1, h2, h3, h4, h5, h6, h7, h8, h9⟩ := h
  obtain ⟨g1, g2, g3, g4⟩ := hV V h1 h8
  have hlt := fun k hk => h9.lt (k := k) hk
  have hn : ∀ k n, n ≠ 1 → n ≠ 5 → ow k = n → ¬ (k = wb ∨ V.ownBlock = some k) := fun k n hn hn5 e hs => by
    rcases hs with hs | hs
    · rw [hs, h9.o1] at e; omega
    · rw [h9.o5 k hs] at e; omega
  have hnn : ∀ (t n : Nat), n ≠ 1 → n ≠ 5 → ∀ k, (nwo ow w w' 5 k = n ∧ k ≠ t) → ¬ (k = wb ∨ V.ownBlock = some k) := by
    intro t n hn1 hn5 k hk hs
    rcases hs with hs | hs
    · rw [hs, nwo_old (hlt _ (by rw [h9.o1]; omega)), h9.o1] at hk; omega
    · have := h9.o5 k hs
      rw [nwo_old (hlt k (by rw [this]; omega)), this] at hk; omega
  exact ⟨nwo ow w w' 5, mv, f, V', g1, (MTab.own h2 (by omega) hlt).but g3 (fun k hk => hnn ta 2 (by omega) (by omega) k hk) (hn _ 2 (by omega) (by omega) h9.o2), (MTab.own h3 (by omega) hlt).but g3 (fun k hk => hnn tb 3 (by omega) (by omega) k hk) (hn _ 3 (by omega) (by omega) h9.o3), h4.but g3 (hn _ 4 (by omega) (by omega) (h9.o4 _ (.inl rfl))) (fun mb hm => hn _ 4 (by omega) (by omega) (h9.o4 _ (.inr (.inl hm)))) (fun a b l j hl hj => hn _ 4 (by omega) (by omega) (h9.o4 _ (.inr (.inr ⟨a, b, l, hl, hj⟩)))) (fun j hj => hj.elim (fun e => by rw [e]; exact h9.lo wb (by rw [h9.o1]; omega)) (fun e => h9.lo j (by rw [h9.o5 j e]; omega))), h5, h6, h7, g2, h9.new g3 h4.bel.size (fun k hk => .inl hk) (fun g hg => (g4 g hg).imp id (fun e => ⟨rfl, e⟩))⟩

end Go.Proofs.YtceigdeoefhcfaaGreat


/- MonsDown: all of it, and blocks besides that stay as they are. -/
namespace Go.Proofs.YtceigdeoefhcfaaGreat
open Go.RowKit Go.Lib
open MV (Hf hf0 getL insL delL Rise Wfk TB Nw Rst KV MnT mvs)

variable {X X' : Nat → Prop} {Y L L' : Nat → Prop} {wG w0 w w' : World} {wb ta tb eb N N' refs refs' : Nat} {O T O' T' : List KV} {p q p' q' : List Sg} {dead dead' : Bool} {dn dn' : List Nat}

theorem DM.turn2 (h : DM X w0 w wb ta tb eb O T p q dead refs dn N) (hb : Below w.heap.size w w') (hX : ∀ k, X' k → X k ∨ (w.heap.size ≤ k ∧ k < w'.heap.size)) : DM X' w0 w' wb ta tb eb O T p q dead refs dn N := by
  obtain ⟨ow, mv, f, V, h1, h2, h3, h4, h5, h6, h7, h8, h9⟩ := h
  refine ⟨ow, mv, f, V, h1.but (S := fun _ => False) (But.of_below hb) id, h2.keep hb, h3.keep hb, h4.keep hb, h5, h6, h7, h8.keep9 hb, ⟨h9.o1, h9.o2, h9.o3, h9.o4, h9.o5, h9.lo, fun k hk => h9.hi k (Nat.le_trans hb.size hk), fun k hk => ?_⟩⟩
  rcases hX k hk with h | h
  · exact ⟨(h9.x k h).1, (h9.x k h).2.1, Nat.lt_of_lt_of_le (h9.x k h).2.2 hb.size⟩
  · exact ⟨h9.hi k h.1, by have := h.1; have := h4.bel.size; omega, h.2⟩

/-- All of it; Y: blocks that stay as they were in wG; L: blocks that others may write. -/
def DL (Y : Nat → Prop) (wG : World) (L : Nat → Prop) (w0 w : World) (wb ta tb eb : Nat) (O T : List KV) (p q : List Sg) (dead : Bool) (refs : Nat) (dn : List Nat) (N : Nat) : Prop :=
  DM (fun k => Y k ∨ L k) w0 w wb ta tb eb O T p q dead refs dn N ∧ But (fun k => ¬ Y k) wG w ∧ (∀ k, Y k → k < wG.heap.size) ∧ (∀ k, L k → wG.heap.size ≤ k)
theorem DL.after (h : DL Y wG L w0 w wb ta tb eb O T p q dead refs dn N) (hd : DM (fun k => Y k ∨ L k) w0 w' wb ta tb eb O' T' p' q' dead' refs' dn' N') (hb : But (fun k => ¬ (Y k ∨ L k)) w w') : DL Y wG L w0 w' wb ta tb eb O' T' p' q' dead' refs' dn' N' ∧ But (fun k => ¬ L k) w w' :=
  ⟨⟨hd, h.2.1.trans (hb.mono (fun _ _ hk hy => hk (.inl hy))), h.2.2⟩, hb.mono (fun _ _ hk hl => hk (.inr hl))⟩
theorem DL.keep (h : DL Y wG L w0 w wb ta tb eb O T p q dead refs dn N) (hb : Below w.heap.size w w') : DL Y wG L w0 w' wb ta tb eb O T p q dead refs dn N := ⟨h.1.keep hb, h.2.1.trans (But.of_below hb), h.2.2⟩
theorem DL.poke (h : DL Y wG L w0 w wb ta tb eb O T p q dead refs dn N) (hb : But L w w') : DL Y wG L w0 w' wb ta tb eb O T p q dead refs dn N := ⟨h.1.poke (hb.mono (fun _ _ hk => .inr hk)), h.2.1.trans (hb.mono (fun k _ hk hy => by have := h.2.2.1 k hy; have := h.2.2.2 k hk; omega)), h.2.2⟩
theorem DL.turn (h : DL Y wG L w0 w wb ta tb eb O T p q dead refs dn N) (hb : Below w.heap.size w w') (hX : ∀ k, L' k → w.heap.size ≤ k ∧ k < w'.heap.size) : DL Y wG L' w0 w' wb ta tb eb O T p q dead refs dn N :=
  ⟨h.1.turn2 hb (fun k hk => hk.elim (fun hy => .inl (.inl hy)) (fun hl => .inr (hX k hl))), h.2.1.trans (But.of_below hb), h.2.2.1, fun k hk => by have := (hX k hk).1; have := h.2.1.size; omega⟩
theorem DL.low (h : DL Y wG L w0 w wb ta tb eb O T p q dead refs dn N) : Below w0.heap.size w0 w := h.1.low
theorem DL.opA (h : DL Y wG L w0 w wb ta tb eb O T p q dead refs dn N) {g : Nat} {args : Array Value} {R : Ending → Prop} (hc : ∀ D, MTab w ta D O [] → Calls Tryz.prog g args w fun e w' => R e ∧ MU w w' ta D O' []) :
    Calls Tryz.prog g args w fun e w' => R e ∧ DL Y wG L w0 w' wb ta tb eb O' T p q dead refs dn N ∧ But (fun k => ¬ L k) w w' :=
  (h.1.opA hc).mono (fun _ _ hh => ⟨hh.1, h.after hh.2.1 hh.2.2⟩)
theorem DL.opB (h : DL Y wG L w0 w wb ta tb eb O T p q dead refs dn N) {g : Nat} {args : Array Value} {R : Ending → Prop} (hc : ∀ D, MTab w tb D [] T → Calls Tryz.prog g args w fun e w' => R e ∧ MU w w' tb D [] T') :
    Calls Tryz.prog g args w fun e w' => R e ∧ DL Y wG L w0 w' wb ta tb eb O T' p q dead refs dn N ∧ But (fun k => ¬ L k) w w' :=
  (h.1.opB hc).mono (fun _ _ hh => ⟨hh.1, h.after hh.2.1 hh.2.2⟩)
theorem DL.put12 (h : DL Y wG L w0 w wb ta tb eb O T p q dead refs dn N) {s : Sg} (hck : ∀ w, Calls Tryz.prog 24 #[sgv 1 2 s] w fun e w' => e = .returned (.int .i64 0) ∧ Below w.heap.size w w') (hN : N ≤ 90000) (hA : p.length + q.length ≤ 90000) :
    Calls Tryz.prog 14 #[.pointer (some ⟨eb, 0, none⟩), sgv 1 2 s] w fun e w' => e = .returned (.int .i64 0) ∧ DL Y wG L w0 w' wb ta tb eb O T (p ++ [s]) q dead refs dn (N + 2) ∧ But (fun k => ¬ L k) w w' :=
  (h.1.put12 hck hN hA).mono (fun _ _ hh => ⟨hh.1, h.after hh.2.1 hh.2.2⟩)
theorem DL.put21 (h : DL Y wG L w0 w wb ta tb eb O T p q dead refs dn N) {s : Sg} (hck : ∀ w, Calls Tryz.prog 24 #[sgv 2 1 s] w fun e w' => e = .returned (.int .i64 0) ∧ Below w.heap.size w w') (hN : N ≤ 90000) (hA : p.length + q.length ≤ 90000) :
    Calls Tryz.prog 14 #[.pointer (some ⟨eb, 0, none⟩), sgv 2 1 s] w fun e w' => e = .returned (.int .i64 0) ∧ DL Y wG L w0 w' wb ta tb eb O T p (q ++ [s]) dead refs dn (N + 2) ∧ But (fun k => ¬ L k) w w' :=
  (h.1.put21 hck hN hA).mono (fun _ _ hh => ⟨hh.1, h.after hh.2.1 hh.2.2⟩)
theorem DL.none12 (h : DL Y wG L w0 w wb ta tb eb O T [] q dead refs dn N) :
    Calls Tryz.prog 16 #[.pointer (some ⟨eb, 0, none⟩), .int .i64 1, .int .i64 2] w fun e w' => e = .returned (.tuple #[zsig, .bool false]) ∧ Below w.heap.size w w' := h.1.none12
theorem DL.take12 {s : Sg} (h : DL Y wG L w0 w wb ta tb eb O T (s :: p) q dead refs dn N) (hN : N ≤ 90000) (hA : p.length + q.length ≤ 90000) :
    Calls Tryz.prog 16 #[.pointer (some ⟨eb, 0, none⟩), .int .i64 1, .int .i64 2] w fun e w' => e = .returned (.tuple #[sgv 1 2 s, .bool true]) ∧ DL Y wG L w0 w' wb ta tb eb O T p q dead refs dn N ∧ But (fun k => ¬ L k) w w' :=
  (h.1.take12 hN hA).mono (fun _ _ hh => ⟨hh.1, h.after hh.2.1 hh.2.2⟩)
theorem DL.none21 (h : DL Y wG L w0 w wb ta tb eb O T p [] dead refs dn N) :
    Calls Tryz.prog 16 #[.pointer (some ⟨eb, 0, none⟩), .int .i64 2, .int .i64 1] w fun e w' => e = .returned (.tuple #[zsig, .bool false]) ∧ Below w.heap.size w w' := h.1.none21
theorem DL.take21 {s : Sg} (h : DL Y wG L w0 w wb ta tb eb O T p (s :: q) dead refs dn N) (hN : N ≤ 90000) (hA : p.length + q.length ≤ 90000) :
    Calls Tryz.prog 16 #[.pointer (some ⟨eb, 0, none⟩), .int .i64 2, .int .i64 1] w fun e w' => e = .returned (.tuple #[sgv 2 1 s, .bool true]) ∧ DL Y wG L w0 w' wb ta tb eb O T p q dead refs dn N ∧ But (fun k => ¬ L k) w w' :=
  (h.1.take21 hN hA).mono (fun _ _ hh => ⟨hh.1, h.after hh.2.1 hh.2.2⟩)
theorem DL.count (h : DL Y wG L w0 w wb ta tb eb O T p q dead refs dn N) : Calls Tryz.prog 8 #[.pointer (some ⟨eb, 0, none⟩)] w fun e w' => e = .returned (.int .i64 ((p.length + q.length : Nat) : Int)) ∧ w' = w := h.1.count
theorem DL.box (h : DL Y wG L w0 w wb ta tb eb O T p q dead refs dn N) : ∃ V, Sx w wb (.pointer (some ⟨ta, 0, none⟩)) (.pointer (some ⟨tb, 0, none⟩)) (.pointer (some ⟨eb, 0, none⟩)) (.bool dead) (.int .i64 (refs : Int)) V ∧ w.ownsRow 0 InT 1 V dn.length (dvs dn) ∧ ¬ L wb ∧ (∀ g, V.ownBlock = some g → ¬ L g ∧ g ≠ wb) := by
  obtain ⟨V, h1, h2, h3, h4⟩ := h.1.box
  exact ⟨V, h1, h2, fun hl => h3 (.inr hl), fun g e => ⟨fun hl => (h4 g e).1 (.inr hl), (h4 g e).2⟩⟩
theorem DL.tabA (h : DL Y wG L w0 w wb ta tb eb O T p q dead refs dn N) : ∃ D, MTab w ta D O [] := h.1.tabA
theorem DL.tabB (h : DL Y wG L w0 w wb ta tb eb O T p q dead refs dn N) : ∃ D, MTab w tb D [] T := h.1.tabB
theorem DL.setb (h : DL Y wG L w0 w wb ta tb eb O T p q dead refs dn N) (d : Bool) (n : Nat) {V' : Value} {dn' : List Nat} (hV : ∀ V, Sx w wb (.pointer (some ⟨ta, 0, none⟩)) (.pointer (some ⟨tb, 0, none⟩)) (.pointer (some ⟨eb, 0, none⟩)) (.bool dead) (.int .i64 (refs : Int)) V → w.ownsRow 0 InT 1 V dn.length (dvs dn) → Sx w' wb (.pointer (some ⟨ta, 0, none⟩)) (.pointer (some ⟨tb, 0, none⟩)) (.pointer (some ⟨eb, 0, none⟩)) (.bool d) (.int .i64 (n : Int)) V' ∧ w'.ownsRow 0 InT 1 V' dn'.length (dvs dn') ∧ But (fun k => k = wb ∨ V.ownBlock = some k) w w' ∧ ∀ g, V'.ownBlock = some g → V.ownBlock = some g ∨ (w.heap.size ≤ g ∧ g < w'.heap.size)) :
    DL Y wG L w0 w' wb ta tb eb O T p q d n dn' N := by
  obtain ⟨V, h1, h2, h3, h4⟩ := h.1.box
  obtain ⟨-, -, hb, -⟩ := hV V h1 h2
  refine ⟨h.1.setb d n hV, h.2.1.trans (hb.mono (fun k _ hk hy => ?_)), h.2.2⟩
  rcases hk with e | e
  · exact h3 (.inl (e ▸ hy))
  · exact (h4 k e).1 (.inl hy)
end Go.Proofs.YtceigdeoefhcfaaGreat


