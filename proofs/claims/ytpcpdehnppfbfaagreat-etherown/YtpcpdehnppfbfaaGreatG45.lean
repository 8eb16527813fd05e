import Derived.Test.YtpcpdehnppfbfaaGreatG44
import Derived.Deep.RegionHeld3
import Derived.Deep.DeepAppendWide
import Derived.Deep.DrawnRows
/- EtherOwn: what Lanes told is written over. -/
namespace Go.Proofs.YtpcpdehnppfbfaaGreat
open Go.RowKit Go.Lib Go.Maps

abbrev zsg : SG := ⟨0, 0, 0, 0, 0, false, ⟨#[]⟩, .mk 0 0 0 ⟨#[]⟩ none 0 []⟩
/-- The lanes that were told, from the i-th on as they may be written over. -/
structure LP (C : Nat) (w : World) (tv : Value) (n i : Nat) (Sx : Nat → Prop) (rs : List (Int × Int × Value × List SG)) : Prop where
  row : w.ownsRow C NT 3 tv n (lvs (rs.map lvr))
  len : rs.length = n
  lane : ∀ (m : Nat) r, i ≤ m → rs[m]? = some r → w.ownsRow C ST 12 r.2.2.1 r.2.2.2.length (sgcs r.2.2.2) ∧ r.2.2.2.length ≤ 400 ∧ ∀ d ∈ r.2.2.2, ∃ H, SpH Sx w H d.t.sl
  ap : ∀ (m m' : Nat) r r', i ≤ m → m < m' → rs[m]? = some r → rs[m']? = some r' → ∀ q, r.2.2.1.ownBlock = some q → r'.2.2.1.ownBlock ≠ some q
  sx : ∀ q, Sx q → C ≤ q ∧ q < w.heap.size ∧ tv.ownBlock ≠ some q ∧ ∀ (m : Nat) r, i ≤ m → rs[m]? = some r → r.2.2.1.ownBlock ≠ some q

variable {C n i : Nat} {w w' : World} {tv : Value} {Sx : Nat → Prop} {rs : List (Int × Int × Value × List SG)}

theorem LP.start (h : LL C w tv n) : ∃ Sx rs, LP C w tv n 0 Sx rs := by
  obtain ⟨rs, h1, h2, h3, h4⟩ := h
  refine ⟨SB C w tv rs, rs, h1, h2, fun m r _ hr => ?_, fun m m' r r' _ hlt hr hr' => ?_, fun q hq => ⟨hq.1, hq.2.1, hq.2.2.1, fun m r _ hr => hq.2.2.2 r (List.mem_of_getElem? hr)⟩⟩
  · obtain ⟨a, b⟩ := h3 r (List.mem_of_getElem? hr)
    exact ⟨a, b, h4.1 r (List.mem_of_getElem? hr)⟩
  · obtain ⟨l1, e1⟩ := List.getElem?_eq_some_iff.1 hr
    obtain ⟨l2, e2⟩ := List.getElem?_eq_some_iff.1 hr'
    have := List.pairwise_iff_getElem.1 h4.2 m m' l1 l2 hlt
    rw [e1, e2] at this
    exact this
theorem lvs_set {l : List (Int × Int × Value)} {m : Nat} {xa xb : Int} {v v' : Value} (h : l[m]? = some (xa, xb, v)) : (lvs l).set (m * 3 + 2) v' = lvs (l.set m (xa, xb, v')) := by
  obtain ⟨hl, he⟩ := List.getElem?_eq_some_iff.1 h
  have e : l = l.take m ++ (xa, xb, v) :: l.drop (m + 1) := by rw [← he, ← List.drop_eq_getElem_cons hl, List.take_append_drop]
  have e2 : l.set m (xa, xb, v') = l.take m ++ (xa, xb, v') :: l.drop (m + 1) := List.set_eq_take_append_cons_drop .. |>.trans (by rw [if_pos hl])
  have hk : lvs l = lvs (l.take m) ++ (.int .i64 xa :: .int .i64 xb :: v :: lvs (l.drop (m + 1))) := by
    conv => lhs; rw [e]
    rw [lvs_append]; rfl
  have hn : (lvs (l.take m)).length = m * 3 := by rw [lvs_len]; simp; omega
  rw [hk, e2, lvs_append, List.set_append_right _ _ (by omega), hn, show m * 3 + 2 - m * 3 = 2 by omega]
  rfl
theorem set_self {α : Type} {l : List α} {m : Nat} {x : α} (h : l[m]? = some x) : l.set m x = l := by
  obtain ⟨hl, rfl⟩ := List.getElem?_eq_some_iff.1 h
  exact List.set_getElem_self hl
theorem set_at {α : Type} {l : List α} {j m : Nat} {x y : α} (h : (l.set j x)[m]? = some y) : (m = j ∧ y = x ∧ m < l.length) ∨ (m ≠ j ∧ l[m]? = some y) := by
  by_cases e : m = j
  · subst e
    have hl := (List.getElem?_eq_some_iff.1 h).1
    rw [List.length_set] at hl
    rw [List.getElem?_set_self hl] at h
    exact .inl ⟨rfl, (Option.some.inj h).symm, hl⟩
  · rw [List.getElem?_set_ne (fun e2 => e e2.symm)] at h
    exact .inr ⟨e, h⟩
theorem LP.at {q : Option Addr} {ct : Nat} (h : LP C w (.slice q n ct) n i Sx rs) {m : Nat} {xa xb : Int} {v : Value} {ds : List SG} (him : i ≤ m) (hr : rs[m]? = some (xa, xb, v, ds)) : ∃ g a5 c5, q = some ⟨g, 0, none⟩ ∧ C ≤ g ∧ g < w.heap.size ∧ v = .slice a5 ds.length c5 ∧ w.cell? ⟨g, m * 3 + 2, none⟩ = some (.slice a5 ds.length c5) ∧ w.frozen? ⟨g, m * 3 + 2, none⟩ = false ∧ (0 < ds.length → ∃ g5, a5 = some ⟨g5, 0, none⟩) := by
  have hm : m < n := by rw [← h.len]; exact (List.getElem?_eq_some_iff.1 hr).1
  obtain ⟨g, rfl⟩ : ∃ g, q = some ⟨g, 0, none⟩ := by
    rcases h.row.2 with ⟨_, h0⟩ | ⟨g, cap, cur, hv, _⟩
    · omega
    · exact ⟨g, by simpa using (Value.slice.inj hv).1⟩
  obtain ⟨h1, h2, h3⟩ := h.lane m _ him hr
  obtain ⟨a5, c5, e⟩ := own_sl h1
  simp only at e h1
  subst e
  obtain ⟨e0, e1, e2⟩ := lvs_at (rs := rs.map lvr) (m := m) (r := lvr (xa, xb, .slice a5 ds.length c5, ds)) (by rw [List.getElem?_map, hr]; rfl)
  have hlt := row_lt h.row g rfl
  refine ⟨g, a5, c5, rfl, hlt.2, hlt.1, rfl, (h.row.cellAt _ (by omega)).trans e2, h.row.frozenAt _, fun h0 => ?_⟩
  rcases h1.2 with ⟨_, h0'⟩ | ⟨g5, cap, cur, hv, _⟩
  · omega
  · exact ⟨g5, by simpa using (Value.slice.inj hv).1⟩
theorem LP.cell {g ct a5n c5 : Nat} {a5 : Option Addr} (h : LP C w (.slice (some ⟨g, 0, none⟩) n ct) n i Sx rs) {m : Nat} {xa xb : Int} {ds : List SG} (hr : rs[m]? = some (xa, xb, .slice a5 a5n c5, ds)) : w.cell? ⟨g, m * 3 + 2, none⟩ = some (.slice a5 a5n c5) ∧ w.frozen? ⟨g, m * 3 + 2, none⟩ = false := by
  have hm : m < n := by rw [← h.len]; exact (List.getElem?_eq_some_iff.1 hr).1
  obtain ⟨_, _, e2⟩ := lvs_at (rs := rs.map lvr) (m := m) (r := lvr (xa, xb, .slice a5 a5n c5, ds)) (by rw [List.getElem?_map, hr]; rfl)
  exact ⟨(h.row.cellAt _ (by omega)).trans e2, h.row.frozenAt _⟩
theorem LP.sig {g5 D c5 kk : Nat} (h : LP C w tv n i Sx rs) {xa xb : Int} {ds : List SG} (hr : rs[i]? = some (xa, xb, .slice (some ⟨g5, 0, none⟩) D c5, ds)) (hD : ds.length = D) {x0 x1 x2 x3 x4 : Int} {lk : Bool} {nm : ByteArray} {tk tn : Int} {tf : Nat} {ts : ByteArray} {ta : Option Addr} {tc : Nat} {ks : List Tr} (hs : ds[kk]? = some ⟨x0, x1, x2, x3, x4, lk, nm, .mk tk tn tf ts ta tc ks⟩) :
    T12 w g5 (kk * 12) x0 x1 x2 x3 x4 lk nm tk tn tf ts ta ks.length tc ∧ (∀ q, w.frozen? ⟨g5, q, none⟩ = false) ∧ ∃ H, SpH Sx w H (.slice ta ks.length tc) := by
  obtain ⟨h1, h2, h3⟩ := h.lane i _ (Nat.le_refl _) hr
  simp only at h1 h2 h3
  rw [hD] at h1
  have hk := (List.getElem?_eq_some_iff.1 hs).1
  have yy : ∀ q, q < 12 → w.cell? ⟨g5, kk * 12 + q, none⟩ = (sgr x0 x1 x2 x3 x4 lk nm tk tn tf ts ta ks.length tc)[q]? := fun q hq => (h1.cellAt _ (by omega)).trans (sgcs_at hs hq)
  exact ⟨⟨yy 0 (by omega), yy 1 (by omega), yy 2 (by omega), yy 3 (by omega), yy 4 (by omega), yy 5 (by omega), yy 6 (by omega), yy 7 (by omega), yy 8 (by omega), yy 9 (by omega), yy 10 (by omega), yy 11 (by omega)⟩, fun q => h1.frozenAt q, h3 _ (List.mem_of_getElem? hs)⟩
theorem own_zero {g5 D c5 kk : Nat} {ds : List SG} {s : SG} (h : w.ownsRow C ST 12 (.slice (some ⟨g5, 0, none⟩) D c5) D (sgcs ds)) (hs : ds[kk]? = some s) :
    (((((((((((((w.setCell ⟨g5, kk * 12, none⟩ (.int .i64 0)).setCell ⟨g5, kk * 12 + 1, none⟩ (.int .i64 0)).setCell ⟨g5, kk * 12 + 2, none⟩ (.int .i64 0)).setCell ⟨g5, kk * 12 + 3, none⟩ (.int .i64 0)).setCell ⟨g5, kk * 12 + 4, none⟩ (.int .i64 0)).setCell ⟨g5, kk * 12 + 5, none⟩ (.bool false)).setCell ⟨g5, kk * 12 + 6, none⟩ (.string ⟨#[]⟩)).setCell ⟨g5, kk * 12 + 7, none⟩ (.int .i64 0)).setCell ⟨g5, kk * 12 + 8, none⟩ (.int .i64 0)).setCell ⟨g5, kk * 12 + 9, none⟩ (.float .f64 0)).setCell ⟨g5, kk * 12 + 10, none⟩ (.string ⟨#[]⟩)).setCell ⟨g5, kk * 12 + 11, none⟩ (.slice none 0 0))).ownsRow C ST 12 (.slice (some ⟨g5, 0, none⟩) D c5) D (sgcs (ds.set kk zsg)) ∧ But (fun q => q = g5) w (((((((((((((w.setCell ⟨g5, kk * 12, none⟩ (.int .i64 0)).setCell ⟨g5, kk * 12 + 1, none⟩ (.int .i64 0)).setCell ⟨g5, kk * 12 + 2, none⟩ (.int .i64 0)).setCell ⟨g5, kk * 12 + 3, none⟩ (.int .i64 0)).setCell ⟨g5, kk * 12 + 4, none⟩ (.int .i64 0)).setCell ⟨g5, kk * 12 + 5, none⟩ (.bool false)).setCell ⟨g5, kk * 12 + 6, none⟩ (.string ⟨#[]⟩)).setCell ⟨g5, kk * 12 + 7, none⟩ (.int .i64 0)).setCell ⟨g5, kk * 12 + 8, none⟩ (.int .i64 0)).setCell ⟨g5, kk * 12 + 9, none⟩ (.float .f64 0)).setCell ⟨g5, kk * 12 + 10, none⟩ (.string ⟨#[]⟩)).setCell ⟨g5, kk * 12 + 11, none⟩ (.slice none 0 0))) := by
  obtain ⟨x0, x1, x2, x3, x4, lk, nm, ⟨tk, tn, tf, ts, ta, tc, ks⟩⟩ := s
  obtain ⟨hl, he⟩ := List.getElem?_eq_some_iff.1 hs
  have e : ds = ds.take kk ++ ⟨x0, x1, x2, x3, x4, lk, nm, .mk tk tn tf ts ta tc ks⟩ :: ds.drop (kk + 1) := by rw [← he, ← List.drop_eq_getElem_cons hl, List.take_append_drop]
  have e2 : ds.set kk zsg = ds.take kk ++ zsg :: ds.drop (kk + 1) := List.set_eq_take_append_cons_drop .. |>.trans (by rw [if_pos hl])
  have e3 : sgcs ds = sgcs (ds.take kk) ++ [.int .i64 x0, .int .i64 x1, .int .i64 x2, .int .i64 x3, .int .i64 x4, .bool lk, .string nm, .int .i64 tk, .int .i64 tn, .float .f64 tf, .string ts, .slice ta ks.length tc] ++ sgcs (ds.drop (kk + 1)) := by
    conv => lhs; rw [e]
    rw [sgcs_app, List.append_assoc]
    rfl
  have e4 : sgcs (ds.set kk zsg) = sgcs (ds.take kk) ++ [.int .i64 0, .int .i64 0, .int .i64 0, .int .i64 0, .int .i64 0, .bool false, .string ⟨#[]⟩, .int .i64 0, .int .i64 0, .float .f64 0, .string ⟨#[]⟩, .slice none 0 0] ++ sgcs (ds.drop (kk + 1)) := by
    rw [e2, sgcs_app, List.append_assoc]
    rfl
  rw [e3] at h
  have hown := ((((((((((((h.stored (kk * 12) (.int .i64 0)).1.stored (kk * 12 + 1) (.int .i64 0)).1.stored (kk * 12 + 2) (.int .i64 0)).1.stored (kk * 12 + 3) (.int .i64 0)).1.stored (kk * 12 + 4) (.int .i64 0)).1.stored (kk * 12 + 5) (.bool false)).1.stored (kk * 12 + 6) (.string ⟨#[]⟩)).1.stored (kk * 12 + 7) (.int .i64 0)).1.stored (kk * 12 + 8) (.int .i64 0)).1.stored (kk * 12 + 9) (.float .f64 0)).1.stored (kk * 12 + 10) (.string ⟨#[]⟩)).1.stored (kk * 12 + 11) (.slice none 0 0)).1
  rw [set12 (A := sgcs (ds.take kk)) (by rw [sgcs_len, List.length_take]; omega), ← e4] at hown
  exact ⟨hown, ((((((((((((But.refl (fun q => q = g5) w).setCell (p := ⟨g5, kk * 12, none⟩) (fun _ => rfl) _).setCell (p := ⟨g5, kk * 12 + 1, none⟩) (fun _ => rfl) _).setCell (p := ⟨g5, kk * 12 + 2, none⟩) (fun _ => rfl) _).setCell (p := ⟨g5, kk * 12 + 3, none⟩) (fun _ => rfl) _).setCell (p := ⟨g5, kk * 12 + 4, none⟩) (fun _ => rfl) _).setCell (p := ⟨g5, kk * 12 + 5, none⟩) (fun _ => rfl) _).setCell (p := ⟨g5, kk * 12 + 6, none⟩) (fun _ => rfl) _).setCell (p := ⟨g5, kk * 12 + 7, none⟩) (fun _ => rfl) _).setCell (p := ⟨g5, kk * 12 + 8, none⟩) (fun _ => rfl) _).setCell (p := ⟨g5, kk * 12 + 9, none⟩) (fun _ => rfl) _).setCell (p := ⟨g5, kk * 12 + 10, none⟩) (fun _ => rfl) _).setCell (p := ⟨g5, kk * 12 + 11, none⟩) (fun _ => rfl) _⟩
/-- A term is spoilt. -/
theorem LP.spoil (h : LP C w tv n i Sx rs) (hb : But Sx w w') (hp : ∀ H v, SpH Sx w H v → SpH Sx w' H v) : LP C w' tv n i Sx rs := by
  refine ⟨row_but h.row hb (fun k hk hs => (h.sx k hs).2.2.1 hk), h.len, fun m r him hr => ?_, h.ap, fun q hq => ?_⟩
  · obtain ⟨h1, h2, h3⟩ := h.lane m r him hr
    refine ⟨row_but h1 hb (fun k hk hs => (h.sx k hs).2.2.2 m r him hr hk), h2, fun d hd => ?_⟩
    obtain ⟨H, hH⟩ := h3 d hd
    exact ⟨H, hp H _ hH⟩
  · obtain ⟨h1, h2, h3⟩ := h.sx q hq
    exact ⟨h1, Nat.lt_of_lt_of_le h2 hb.size, h3⟩
/-- A signal is made zero: its row says so. -/
theorem LP.zero {g : Nat} {xa xb : Int} {v : Value} {ds ds' : List SG} (h : LP C w tv n i Sx rs) (hr : rs[i]? = some (xa, xb, v, ds)) (hv : v.ownBlock = some g) (hb : But (fun q => q = g) w w') (hown : w'.ownsRow C ST 12 v ds.length (sgcs ds')) (hl : ds'.length = ds.length) (hin : ∀ d ∈ ds', d ∈ ds ∨ d = zsg) : LP C w' tv n i Sx (rs.set i (xa, xb, v, ds')) := by
  have hgS : ∀ k, Sx k → k ≠ g := fun k hk e => (h.sx k hk).2.2.2 i _ (Nat.le_refl _) hr (e ▸ hv)
  have h0 := h.lane i _ (Nat.le_refl _) hr
  have hil := (List.getElem?_eq_some_iff.1 hr).1
  refine ⟨?_, by rw [List.length_set]; exact h.len, fun m r him hm => ?_, fun m m' r r' him hlt hm hm' k hk => ?_, fun q hq => ?_⟩
  · have e : (rs.set i (xa, xb, v, ds')).map lvr = rs.map lvr := by
      rw [List.map_set]
      have : (rs.map lvr)[i]? = some (xa, xb, v) := by rw [List.getElem?_map, hr]; rfl
      exact set_self this
    rw [e]
    exact row_but h.row hb (fun k hk e => row_ne h.row h0.1 (by decide) k hk (e ▸ hv))
  · rcases set_at hm with ⟨rfl, rfl, _⟩ | ⟨hne, hm⟩
    · refine ⟨by simp only; rw [hl]; exact hown, by simp only; rw [hl]; exact h0.2.1, fun d hd => ?_⟩
      rcases hin d hd with hd | rfl
      · obtain ⟨H, hH⟩ := h0.2.2 d hd
        exact ⟨H, SpH.but hb (fun k hk e => hgS k hk e) hH⟩
      · exact ⟨0, none, 0, rfl⟩
    · obtain ⟨h1, h2, h3⟩ := h.lane m r him hm
      refine ⟨row_but h1 hb (fun k hk e => h.ap i m _ r (Nat.le_refl _) (by omega) hr hm g hv (e ▸ hk)), h2, fun d hd => ?_⟩
      obtain ⟨H, hH⟩ := h3 d hd
      exact ⟨H, SpH.but hb (fun k hk e => hgS k hk e) hH⟩
  · rcases set_at hm with ⟨rfl, rfl, _⟩ | ⟨hne, hm⟩
    · rcases set_at hm' with ⟨rfl, rfl, _⟩ | ⟨hne', hm'⟩
      · omega
      · exact h.ap m m' _ r' (Nat.le_refl _) hlt hr hm' k hk
    · rcases set_at hm' with ⟨rfl, rfl, _⟩ | ⟨hne', hm'⟩
      · omega
      · exact h.ap m m' r r' him hlt hm hm' k hk
  · obtain ⟨h1, h2, h3, h4⟩ := h.sx q hq
    refine ⟨h1, Nat.lt_of_lt_of_le h2 hb.size, h3, fun m r him hm => ?_⟩
    rcases set_at hm with ⟨rfl, rfl, _⟩ | ⟨hne, hm⟩
    · have := h4 m (xa, xb, v, ds) (Nat.le_refl _) hr
      exact this
    · exact h4 m r him hm
/-- A lane is made longer. -/
theorem LP.next {g ct : Nat} {xa xb : Int} {v v' : Value} {ds : List SG} {X w4 : World} (h : LP C w (.slice (some ⟨g, 0, none⟩) n ct) n i Sx rs) (hr : rs[i]? = some (xa, xb, v, ds)) (hX : Below w.heap.size w X) (hg : X.grownBy w4 v.ownBlock) (hCw : C ≤ w.heap.size) :
    LP C (w4.setCell ⟨g, i * 3 + 2, none⟩ v') (.slice (some ⟨g, 0, none⟩) n ct) n (i + 1) Sx (rs.set i (xa, xb, v', ds)) ∧ Below C w (w4.setCell ⟨g, i * 3 + 2, none⟩ v') := by
  have h0 := h.lane i _ (Nat.le_refl _) hr
  have hbg := grown_but hg
  have hb1 : But (fun k => v.ownBlock = some k) w w4 := (But.of_below hX).trans hbg
  have hb2 : But (fun k => k = g) w4 (w4.setCell ⟨g, i * 3 + 2, none⟩ v') := (But.refl (fun k => k = g) w4).setCell (p := ⟨g, i * 3 + 2, none⟩) (fun _ => rfl) v'
  have hgt := row_lt h.row g rfl
  have hr1 := row_but h.row hb1 (fun k hk e => row_ne h.row h0.1 (by decide) k hk e)
  have hlv : (rs.map lvr)[i]? = some (xa, xb, v) := by rw [List.getElem?_map, hr]; rfl
  have hr2 := (hr1.stored (i * 3 + 2) v').1
  rw [lvs_set hlv] at hr2
  refine ⟨⟨?_, by rw [List.length_set]; exact h.len, fun m r him hm => ?_, fun m m' r r' him hlt hm hm' k hk => ?_, fun q hq => ?_⟩, (hb1.below hCw (fun k hk => (row_lt h0.1 k hk).2)).trans (hb2.below (Nat.le_trans hCw hb1.size) (fun k e => by rw [e]; exact hgt.2))⟩
  · rw [List.map_set]
    exact hr2
  · rcases set_at hm with ⟨rfl, rfl, _⟩ | ⟨hne, hm⟩
    · omega
    · obtain ⟨h1, h2, h3⟩ := h.lane m r (by omega) hm
      refine ⟨row_but (row_but h1 hb1 (fun k hk e => h.ap i m _ r (Nat.le_refl _) (by omega) hr hm k e hk)) hb2 (fun k hk e => row_ne h.row h1 (by decide) g rfl (e ▸ hk)), h2, fun d hd => ?_⟩
      obtain ⟨H, hH⟩ := h3 d hd
      exact ⟨H, SpH.but hb2 (fun k hk e => (h.sx k hk).2.2.1 (by rw [e]; rfl)) (SpH.but hb1 (fun k hk e => (h.sx k hk).2.2.2 i _ (Nat.le_refl _) hr e) hH)⟩
  · rcases set_at hm with ⟨rfl, rfl, _⟩ | ⟨hne, hm⟩
    · omega
    · rcases set_at hm' with ⟨rfl, rfl, _⟩ | ⟨hne', hm'⟩
      · omega
      · exact h.ap m m' r r' (by omega) hlt hm hm' k hk
  · obtain ⟨h1, h2, h3, h4⟩ := h.sx q hq
    refine ⟨h1, Nat.lt_of_lt_of_le h2 (Nat.le_trans hb1.size hb2.size), h3, fun m r him hm => ?_⟩
    rcases set_at hm with ⟨rfl, rfl, _⟩ | ⟨hne, hm⟩
    · omega
    · exact h4 m r (by omega) hm
end Go.Proofs.YtpcpdehnppfbfaaGreat


/- EtherOwn, but for the example. -/
namespace Go.Proofs.YtpcpdehnppfbfaaGreat
open Go.RowKit Go.Lib Go.Maps
attribute [local go_sem] store_float f64bits
attribute [local go_sem ↓] Go.wp_at_zero Go.wp_at_succ

set_option maxHeartbeats 4000000 in
set_option maxRecDepth 100000 in
theorem etherOwn_of (KA : ∀ w, Calls Tryz.prog 4 #[] w fun e w' => e = .returned (.bool true) ∧ Below w.heap.size w w') (q : Option Addr) (c : Nat) (ss : List SG) (w : World) (hrow : SRow w q ss) (hin : ∀ s ∈ ss, s.t.In w 0 ∧ wfi s.x0 ∧ wfi s.x1) (hlen : ss.length ≤ 1099511627776) :
    Calls Tryz.prog 3 #[.slice q ss.length c] w fun e w' => e = .returned (.bool true) ∧ Below w.heap.size w w' := by
  have HS := hidb hrow
  have HIN := hidb hin
  obtain ⟨i0, hi, hz0, hz1, hz2⟩ := infoA
  clear hrow hin
  go_enter Tryz.func3, Tryz.ntmps3
  go_wp2_with (first
    | (go_at_call 4; refine (KA _).mono ?_; rintro e w1 ⟨rfl, hb1⟩; have HB1 := hidb hb1; clear hb1))
  clear KA
  obtain ⟨SL, hSL⟩ : ∃ SL, ss.length = SL := ⟨_, rfl⟩
  have HSL := hidb hSL
  rw [hSL] at hlen ⊢
  clear hSL
  go_loopw [3, 4] (fun av iv wr => ∃ (m : Nat), m ≤ SL ∧ iv = .int .i64 m ∧ wr.ownsRow w.heap.size AT 15 av m (acs (ss.take m)) ∧ Below w.heap.size w wr) (fun _ iv _ => SL - (RowKit.intOf iv).toNat)
  case atStart => exact ⟨0, by omega, rfl, World.ownsRow_nil _ _ _ _, HB1.out⟩
  case round =>
  obtain ⟨m, hm, rfl, hrow, hb⟩ := hrel
  have HB := hidb hb
  have HROW := hidb hrow
  obtain ⟨qa, ca, rfl⟩ := own_sl hrow
  clear hb hrow
  by_cases hml : m < SL
  · have hmb : (m : Int) < (SL : Int) := by omega
    have hmz : (0 : Int) ≤ (m : Int) := by omega
    have hmw : IntKind.i64.wrap ((m : Int) + 1) = (m : Int) + 1 := by rw [IntKind.wrap_i64]; omega
    obtain ⟨⟨x0, x1, x2, x3, x4, lk, nm, ⟨tk, tn, tf, ts, ta, tc, ks⟩⟩, hx⟩ : ∃ s, ss[m]? = some s := ⟨_, List.getElem?_eq_getElem (by rw [HSL.out]; exact hml)⟩
    obtain ⟨b, o, rfl, ht⟩ := HS.out.twelve hx
    have HX := hidb hx
    clear hx
    have ht2 := ht.keep HB.out ht.lt
    obtain ⟨TL, hTL⟩ : ∃ TL, ks.length = TL := ⟨_, rfl⟩
    rw [hTL] at ht2
    have HTK : Hid (acs (ss.take m) ++ [.int .i64 1, .int .i64 x0, .int .i64 x1, .int .i64 x2, .int .i64 x3, .int .i64 x4, .bool lk, .string nm, .int .i64 tk, .int .i64 tn, .float .f64 tf, .string ts, .slice ta TL tc, .int .i64 0, .int .i64 0] = acs (ss.take (m + 1))) := hidb (by rw [List.take_add_one, HX.out, acs_append, ← hTL]; rfl)
    clear ht hTL
    obtain ⟨y0, y1, y2, y3, y4, y5, y6, y7, y8, y9, y10, y11⟩ := ht2
    go_wp2_with (first
      | (at_builtin; refine wpList_append_own_wide _ rfl _ _ 24 rfl w.heap.size AT i0 (.agg #[.int .i64 0, .int .i64 0, .int .i64 0, .int .i64 0, .int .i64 0, .int .i64 0, .bool false, .string ⟨#[]⟩, .int .i64 0, .int .i64 0, .float .f64 0, .string ⟨#[]⟩, .slice none 0 0, .int .i64 0, .int .i64 0]) 15 152 Tryz.underlying24 hi hz0 hz1 hz2 rfl (by decide) (.slice qa m ca) m (acs (ss.take m)) rfl ?e1 ⟨wr.heap.size, 0, none⟩ 1 1 [.int .i64 1, .int .i64 x0, .int .i64 x1, .int .i64 x2, .int .i64 x3, .int .i64 x4, .bool lk, .string nm, .int .i64 tk, .int .i64 tn, .float .f64 tf, .string ts, .slice ta TL tc, .int .i64 0, .int .i64 0] rfl rfl ?e6 ?e2 ?e3 ?e4 ?e5 ?_))
    case e1 => exact HROW.out.alloc _
    case e6 => exact World.news_of_block ((MapKept.heap_alloc wr _).1)
    case e2 => simp [Value.oneCell']
    case e3 => unfold maxLen; omega
    case e4 => omega
    case e5 => have := HB.out.size; simp; omega
    intro v' w4 hown' hgrow hnil
    have HB4 := hidb (grown_up (HB.out.trans ((below_new wr _).mono HB.out.size)) hgrow (fun k hk => (row_lt HROW.out k hk).2))
    rw [HTK.out] at hown'
    have HR4 := hidb hown'
    obtain ⟨qa4, ca4, rfl⟩ := own_sl hown'
    clear hown' hgrow hnil y0 y1 y2 y3 y4 y5 y6 y7 y8 y9 y10 y11
    go_wp2_with fail
    go_roundw
    case rel => exact ⟨m + 1, by omega, by go_num, HR4.out, HB4.out⟩
    case measure => simp [RowKit.intOf]; omega
  have hmn : ¬ (m : Int) < (SL : Int) := by omega
  obtain rfl : m = SL := by omega
  have hml2 : (ss.map SG.t).length = m := by rw [List.length_map]; exact HSL.out
  have FE := few11_any qa ca (ss.map SG.t) wr (actRow_of (n := m) (c := ca) (by have := HROW.out; rw [List.take_of_length_le (by rw [HSL.out]; exact Nat.le_refl _)] at this; exact this) (fun s hs => in_below HB.out (HIN.out s hs).1)) (by rw [hml2]; omega)
  rw [hml2] at FE
  obtain ⟨bf, hbf⟩ : ∃ bf, (decide (m ≤ 400) && decide (0 ≤ fewAll (ss.map SG.t) 60000 1000)) = bf := ⟨_, rfl⟩
  rw [hbf] at FE
  have HFE := hidb FE
  have HBF := hidb hbf
  clear FE hbf hml2 hml
  cases bf
  case false =>
    go_wp2_with (first
      | (go_at_call 5; refine HFE.out.mono ?_; rintro e w2 ⟨rfl, hb2⟩; have HB2 := hidb (HB.out.trans (hb2.mono HB.out.size)); clear hb2))
    go_ret
    exact ⟨rfl, HB2.out⟩
  have hf400 : m ≤ 400 := by have := HBF.out; simp only [Bool.and_eq_true, decide_eq_true_eq] at this; exact this.1
  have hfew : ∀ s ∈ ss, Small s.t ∧ cnT s.t ≤ 1000000000 := fun s hs => by
    have := HBF.out
    simp only [Bool.and_eq_true, decide_eq_true_eq] at this
    have h9 := few_each this.2 (List.mem_map_of_mem (f := SG.t) hs)
    exact ⟨h9.1, by have := h9.2; omega⟩
  have HFW := hidb hfew
  clear hfew HBF
  have HEN := hidb (fun W => newE W)
  go_wp2_with (first
    | (go_at_call 5; refine HFE.out.mono ?_; rintro e w2 ⟨rfl, hb2⟩; have HB2 := hidb (HB.out.trans (hb2.mono HB.out.size)); clear hb2 HFE)
    | (go_at_call 6; refine (HEN.out _).mono ?_; rintro e w3 ⟨rfl, rfl⟩))
  have HJ0 := hidb (J.new w w2 HB2.out (by simp))
  go_loopw [7] (fun iv wr => ∃ k : Nat, k ≤ m ∧ iv = .int .i64 k ∧ J w wr w2.heap.size (ss.take k) (w2.heap.size + 1) (ss.take k) (fun _ => True)) (fun iv _ => m - (RowKit.intOf iv).toNat)
  case atStart => exact ⟨0, by omega, rfl, HJ0.out⟩
  case round =>
  obtain ⟨k, hk, rfl, hj⟩ := hrel
  have HJ := hidb hj.z
  have HB3 := hidb hj.bel
  clear hj HJ0
  by_cases hkm : k < m
  · have hmb : (k : Int) < (m : Int) := by omega
    have hmz : (0 : Int) ≤ (k : Int) := by omega
    have hmw : IntKind.i64.wrap ((k : Int) + 1) = (k : Int) + 1 := by rw [IntKind.wrap_i64]; omega
    obtain ⟨⟨x0, x1, x2, x3, x4, lk, nm, ⟨tk, tn, tf, ts, ta, tc, ks⟩⟩, hx⟩ : ∃ s, ss[k]? = some s := ⟨_, List.getElem?_eq_getElem (by rw [HSL.out]; exact hkm)⟩
    obtain ⟨b, o, rfl, ht⟩ := HS.out.twelve hx
    have HX := hidb hx
    obtain ⟨hti, hw0, hw1⟩ := HIN.out _ (List.mem_of_getElem? hx)
    obtain ⟨hts, htc⟩ := HFW.out _ (List.mem_of_getElem? hx)
    simp only at hti hw0 hw1 hts htc
    have TW := twin11_sp x0 x1 x2 x3 x4 lk nm tk tn tf ts ta tc ks wr (in_below HB3.out hti) hts
    have HTI := hidb hti
    have HTS := hidb (And.intro hts htc)
    have HWF := hidb (And.intro hw0 hw1)
    obtain ⟨TL, hTL⟩ : ∃ TL, ks.length = TL := ⟨_, rfl⟩
    have HTL := hidb hTL
    rw [hTL] at ht TW
    have HTW := hidb TW
    have HT := hidb ht
    have ht2 := ht.keep HB3.out ht.lt
    clear ht hTL TW hx hti hts htc hw0 hw1
    obtain ⟨y0, y1, y2, y3, y4, y5, y6, y7, y8, y9, y10, y11⟩ := ht2
    go_wp2_with (first
      | (go_at_call 7; refine HTW.out.mono ?_; rintro e w3 ⟨k', n', f', s', a', c', ks', rfl, hsm3, hin3, hb3, ⟨H3, hsp3⟩⟩; have HSM3 := hidb hsm3; have HIN3 := hidb hin3; have HBL3 := hidb hb3; have HSP3 := hidb hsp3; obtain ⟨L3, hL3⟩ : ∃ L, ks'.length = L := ⟨_, rfl⟩; have HL3 := hidb hL3; rw [hL3] at HSP3 ⊢; clear hsm3 hin3 hb3 hsp3 hL3 HTW))

    have hbx : w3.heap.size < (w3.alloc (.cells #[.int .i64 x0, .int .i64 x1, .int .i64 x2, .int .i64 x3, .int .i64 x4, .bool lk, .string nm, .int .i64 k', .int .i64 n', .float .f64 f', .string s', .slice a' L3 c'] ST)).heap.size := by simp
    have hX4 : T12 (w3.alloc (.cells #[.int .i64 x0, .int .i64 x1, .int .i64 x2, .int .i64 x3, .int .i64 x4, .bool lk, .string nm, .int .i64 k', .int .i64 n', .float .f64 f', .string s', .slice a' L3 c'] ST)) w3.heap.size 0 x0 x1 x2 x3 x4 lk nm k' n' f' s' a' L3 c' := t12_new w3
    have HB4 : Hid (Below wr.heap.size wr (w3.alloc (.cells #[.int .i64 x0, .int .i64 x1, .int .i64 x2, .int .i64 x3, .int .i64 x4, .bool lk, .string nm, .int .i64 k', .int .i64 n', .float .f64 f', .string s', .slice a' L3 c'] ST))) := hidb (HBL3.out.alloc HBL3.out.size _)
    have hS4 : SpH (fun q => wr.heap.size ≤ q ∧ q < w3.heap.size) (w3.alloc (.cells #[.int .i64 x0, .int .i64 x1, .int .i64 x2, .int .i64 x3, .int .i64 x4, .bool lk, .string nm, .int .i64 k', .int .i64 n', .float .f64 f', .string s', .slice a' L3 c'] ST)) H3 (.slice a' L3 c') := SpH.but (But.of_below (S := fun _ => False) (below_new w3 _)) (fun _ _ => id) HSP3.out
    have hI4 := in_below (below_new w3 (.cells #[.int .i64 x0, .int .i64 x1, .int .i64 x2, .int .i64 x3, .int .i64 x4, .bool lk, .string nm, .int .i64 k', .int .i64 n', .float .f64 f', .string s', .slice a' L3 c'] ST)) HIN3.out
    clear y0 y1 y2 y3 y4 y5 y6 y7 y8 y9 y10 y11
    obtain ⟨W4, hW4⟩ : ∃ W4, w3.alloc (.cells #[.int .i64 x0, .int .i64 x1, .int .i64 x2, .int .i64 x3, .int .i64 x4, .bool lk, .string nm, .int .i64 k', .int .i64 n', .float .f64 f', .string s', .slice a' L3 c'] ST) = W4 := ⟨_, rfl⟩
    rw [hW4] at hbx hX4 HB4 hS4 hI4 ⊢
    have H34 : Hid (w3.heap.size ≤ W4.heap.size) := hidb (by omega)
    obtain ⟨bx, hbxe⟩ : ∃ bx, w3.heap.size = bx := ⟨_, rfl⟩
    rw [hbxe] at hbx hX4 hS4 ⊢
    have HBXE := hidb hbxe
    have hT4 := HT.out.keep (HB3.out.trans (HB4.out.mono HB3.out.size)) HT.out.lt
    have hd4 : But (fun _ => False) W4 W4.drew := But.of_below (Below.refl _ _).drew
    have HSd : Hid (W4.drew.cell? ⟨b, o + k * 12, none⟩ = some (.int .i64 x0) ∧ W4.drew.cell? ⟨b, o + k * 12 + 1, none⟩ = some (.int .i64 x1) ∧ W4.drew.cell? ⟨b, o + k * 12 + 2, none⟩ = some (.int .i64 x2) ∧ W4.drew.cell? ⟨b, o + k * 12 + 3, none⟩ = some (.int .i64 x3) ∧ W4.drew.cell? ⟨b, o + k * 12 + 4, none⟩ = some (.int .i64 x4) ∧ W4.drew.cell? ⟨b, o + k * 12 + 5, none⟩ = some (.bool lk) ∧ W4.drew.cell? ⟨b, o + k * 12 + 6, none⟩ = some (.string nm) ∧ W4.drew.cell? ⟨b, o + k * 12 + 7, none⟩ = some (.int .i64 tk) ∧ W4.drew.cell? ⟨b, o + k * 12 + 8, none⟩ = some (.int .i64 tn) ∧ W4.drew.cell? ⟨b, o + k * 12 + 9, none⟩ = some (.float .f64 tf) ∧ W4.drew.cell? ⟨b, o + k * 12 + 10, none⟩ = some (.string ts) ∧ W4.drew.cell? ⟨b, o + k * 12 + 11, none⟩ = some (.slice ta TL tc) ∧ W4.drew.cell? ⟨bx, 0, none⟩ = some (.int .i64 x0) ∧ W4.drew.cell? ⟨bx, 1, none⟩ = some (.int .i64 x1) ∧ W4.drew.cell? ⟨bx, 2, none⟩ = some (.int .i64 x2) ∧ W4.drew.cell? ⟨bx, 3, none⟩ = some (.int .i64 x3) ∧ W4.drew.cell? ⟨bx, 4, none⟩ = some (.int .i64 x4) ∧ W4.drew.cell? ⟨bx, 5, none⟩ = some (.bool lk) ∧ W4.drew.cell? ⟨bx, 6, none⟩ = some (.string nm) ∧ W4.drew.cell? ⟨bx, 7, none⟩ = some (.int .i64 k') ∧ W4.drew.cell? ⟨bx, 8, none⟩ = some (.int .i64 n') ∧ W4.drew.cell? ⟨bx, 9, none⟩ = some (.float .f64 f') ∧ W4.drew.cell? ⟨bx, 10, none⟩ = some (.string s') ∧ W4.drew.cell? ⟨bx, 11, none⟩ = some (.slice a' L3 c')) := hidb (⟨(hT4.but hd4 id).c0, (hT4.but hd4 id).c1, (hT4.but hd4 id).c2, (hT4.but hd4 id).c3, (hT4.but hd4 id).c4, (hT4.but hd4 id).c5, (hT4.but hd4 id).c6, (hT4.but hd4 id).c7, (hT4.but hd4 id).c8, (hT4.but hd4 id).c9, (hT4.but hd4 id).c10, (hT4.but hd4 id).c11, (hX4.but hd4 id).c0, (hX4.but hd4 id).c1, (hX4.but hd4 id).c2, (hX4.but hd4 id).c3, (hX4.but hd4 id).c4, (hX4.but hd4 id).c5, (hX4.but hd4 id).c6, (hX4.but hd4 id).c7, (hX4.but hd4 id).c8, (hX4.but hd4 id).c9, (hX4.but hd4 id).c10, (hX4.but hd4 id).c11⟩)
    obtain ⟨er, her⟩ : ∃ er, Xk.errS x0 x1 x2 x3 x4 lk nm (.mk tk tn tf ts ta tc ks) = er := ⟨_, rfl⟩
    have HER := hidb her
    have hne : (er != er) = false := by simp
    have HJ4 := hidb (HJ.out.keep HB4.out)
    have hP1 := fun W (hb : Below W4.heap.size W4 W) => (HJ4.out.keep hb).put1 (t := .mk tk tn tf ts ta tc ks) (x2 := x2) (x3 := x3) (x4 := x4) (lk := lk) (nm := nm) (by rw [List.length_take]; omega) HWF.out.1 HWF.out.2 HTS.out.1 HTS.out.2 HSM3.out (in_base (Nat.zero_le _) _ (in_below hb hI4)) (on_mono (fun q hq hz => by have := hz.2; omega) _ (on_from _ hI4))
    rw [her, HL3.out] at hP1
    have HP1 := hidb hP1
    have HS4 := hidb hS4
    have HX4 := hidb hX4
    have HT4 := hidb hT4
    have HBW4 : Hid (Below w.heap.size w W4) := hidb (HB3.out.trans (HB4.out.mono HB3.out.size))
    clear hP1 hbxe her hS4 hX4 hT4 hd4 hI4 hW4
    have hs1 := HBW4.out.size
    have hbl := HT.out.lt
    have HN1 : Hid (¬ (w.heap.size ≤ b ∧ b < wr.heap.size) ∧ ¬ (w.heap.size ≤ bx ∧ bx < wr.heap.size)) := hidb ⟨by omega, by have := HBXE.out; have := HBL3.out.size; omega⟩
    clear hs1
    go_region_held3 (fun w' => w'.cell? ⟨b, o + k * 12, none⟩ = some (.int .i64 x0) ∧ w'.cell? ⟨b, o + k * 12 + 1, none⟩ = some (.int .i64 x1) ∧ w'.cell? ⟨b, o + k * 12 + 2, none⟩ = some (.int .i64 x2) ∧ w'.cell? ⟨b, o + k * 12 + 3, none⟩ = some (.int .i64 x3) ∧ w'.cell? ⟨b, o + k * 12 + 4, none⟩ = some (.int .i64 x4) ∧ w'.cell? ⟨b, o + k * 12 + 5, none⟩ = some (.bool lk) ∧ w'.cell? ⟨b, o + k * 12 + 6, none⟩ = some (.string nm) ∧ w'.cell? ⟨b, o + k * 12 + 7, none⟩ = some (.int .i64 tk) ∧ w'.cell? ⟨b, o + k * 12 + 8, none⟩ = some (.int .i64 tn) ∧ w'.cell? ⟨b, o + k * 12 + 9, none⟩ = some (.float .f64 tf) ∧ w'.cell? ⟨b, o + k * 12 + 10, none⟩ = some (.string ts) ∧ w'.cell? ⟨b, o + k * 12 + 11, none⟩ = some (.slice ta TL tc) ∧ w'.cell? ⟨bx, 0, none⟩ = some (.int .i64 x0) ∧ w'.cell? ⟨bx, 1, none⟩ = some (.int .i64 x1) ∧ w'.cell? ⟨bx, 2, none⟩ = some (.int .i64 x2) ∧ w'.cell? ⟨bx, 3, none⟩ = some (.int .i64 x3) ∧ w'.cell? ⟨bx, 4, none⟩ = some (.int .i64 x4) ∧ w'.cell? ⟨bx, 5, none⟩ = some (.bool lk) ∧ w'.cell? ⟨bx, 6, none⟩ = some (.string nm) ∧ w'.cell? ⟨bx, 7, none⟩ = some (.int .i64 k') ∧ w'.cell? ⟨bx, 8, none⟩ = some (.int .i64 n') ∧ w'.cell? ⟨bx, 9, none⟩ = some (.float .f64 f') ∧ w'.cell? ⟨bx, 10, none⟩ = some (.string s') ∧ w'.cell? ⟨bx, 11, none⟩ = some (.slice a' L3 c')) (first | with_reducible exact HSd.out | with_reducible exact HS5.out | with_reducible exact HS6.out | go_keep) (first
      | (go_at_call 8; refine (HP1.out _ (Below.refl _ _).drew).mono ?_; rintro e w5 ⟨rfl, hj5, hbt5⟩; have HBT5 := hidb hbt5; have HT5 := hidb ((HT4.out.but (S := fun _ => False) (But.of_below (Below.refl _ _).drew) id).but hbt5 HN1.out.1); have HX5 := hidb ((HX4.out.but (S := fun _ => False) (But.of_below (Below.refl _ _).drew) id).but hbt5 HN1.out.2); have HS5 : Hid (w5.cell? ⟨b, o + k * 12, none⟩ = some (.int .i64 x0) ∧ w5.cell? ⟨b, o + k * 12 + 1, none⟩ = some (.int .i64 x1) ∧ w5.cell? ⟨b, o + k * 12 + 2, none⟩ = some (.int .i64 x2) ∧ w5.cell? ⟨b, o + k * 12 + 3, none⟩ = some (.int .i64 x3) ∧ w5.cell? ⟨b, o + k * 12 + 4, none⟩ = some (.int .i64 x4) ∧ w5.cell? ⟨b, o + k * 12 + 5, none⟩ = some (.bool lk) ∧ w5.cell? ⟨b, o + k * 12 + 6, none⟩ = some (.string nm) ∧ w5.cell? ⟨b, o + k * 12 + 7, none⟩ = some (.int .i64 tk) ∧ w5.cell? ⟨b, o + k * 12 + 8, none⟩ = some (.int .i64 tn) ∧ w5.cell? ⟨b, o + k * 12 + 9, none⟩ = some (.float .f64 tf) ∧ w5.cell? ⟨b, o + k * 12 + 10, none⟩ = some (.string ts) ∧ w5.cell? ⟨b, o + k * 12 + 11, none⟩ = some (.slice ta TL tc) ∧ w5.cell? ⟨bx, 0, none⟩ = some (.int .i64 x0) ∧ w5.cell? ⟨bx, 1, none⟩ = some (.int .i64 x1) ∧ w5.cell? ⟨bx, 2, none⟩ = some (.int .i64 x2) ∧ w5.cell? ⟨bx, 3, none⟩ = some (.int .i64 x3) ∧ w5.cell? ⟨bx, 4, none⟩ = some (.int .i64 x4) ∧ w5.cell? ⟨bx, 5, none⟩ = some (.bool lk) ∧ w5.cell? ⟨bx, 6, none⟩ = some (.string nm) ∧ w5.cell? ⟨bx, 7, none⟩ = some (.int .i64 k') ∧ w5.cell? ⟨bx, 8, none⟩ = some (.int .i64 n') ∧ w5.cell? ⟨bx, 9, none⟩ = some (.float .f64 f') ∧ w5.cell? ⟨bx, 10, none⟩ = some (.string s') ∧ w5.cell? ⟨bx, 11, none⟩ = some (.slice a' L3 c')) := hidb (⟨HT5.out.c0, HT5.out.c1, HT5.out.c2, HT5.out.c3, HT5.out.c4, HT5.out.c5, HT5.out.c6, HT5.out.c7, HT5.out.c8, HT5.out.c9, HT5.out.c10, HT5.out.c11, HX5.out.c0, HX5.out.c1, HX5.out.c2, HX5.out.c3, HX5.out.c4, HX5.out.c5, HX5.out.c6, HX5.out.c7, HX5.out.c8, HX5.out.c9, HX5.out.c10, HX5.out.c11⟩); have HJ5 := hidb hj5; have hP2 := hj5.put2 (t := .mk tk tn tf ts ta tc ks) (x2 := x2) (x3 := x3) (x4 := x4) (lk := lk) (nm := nm) (uk := tk) (un := tn) (uf := tf) (us := ts) (ua := ta) (uc := tc) (uks := ks) (by rw [List.length_take]; omega) HWF.out.1 HWF.out.2 HTS.out.1 HTS.out.2 (sm_refl _) (in_below hj5.bel HTI.out) (on_mono (fun q hq hz => hz.elim (fun hz => by have := hz.1; omega) (fun hz => by have := HBW4.out.size; have hz2 : W4.heap.size ≤ _ := hz; omega)) _ (on_all _ HTI.out)); rw [HER.out, HTL.out] at hP2; have HP2 := hidb hP2; clear hj5 hbt5 hP2 HP1)
      | (go_at_call 8; refine HP2.out.mono ?_; rintro e w6 ⟨rfl, hj6, hbt6⟩; have HJ6 := hidb hj6; have HBT6 := hidb hbt6; have HX6 := hidb (HX5.out.but hbt6 (fun hz => hz.elim HN1.out.2 (fun hz => by have := HBXE.out; have := H34.out; have hz2 : W4.heap.size ≤ _ := hz; omega))); have HT6 := hidb (HT5.out.but hbt6 (fun hz => hz.elim HN1.out.1 (fun hz => by have := HBW4.out.size; have hz2 : W4.heap.size ≤ _ := hz; omega))); have HS6 : Hid (w6.cell? ⟨b, o + k * 12, none⟩ = some (.int .i64 x0) ∧ w6.cell? ⟨b, o + k * 12 + 1, none⟩ = some (.int .i64 x1) ∧ w6.cell? ⟨b, o + k * 12 + 2, none⟩ = some (.int .i64 x2) ∧ w6.cell? ⟨b, o + k * 12 + 3, none⟩ = some (.int .i64 x3) ∧ w6.cell? ⟨b, o + k * 12 + 4, none⟩ = some (.int .i64 x4) ∧ w6.cell? ⟨b, o + k * 12 + 5, none⟩ = some (.bool lk) ∧ w6.cell? ⟨b, o + k * 12 + 6, none⟩ = some (.string nm) ∧ w6.cell? ⟨b, o + k * 12 + 7, none⟩ = some (.int .i64 tk) ∧ w6.cell? ⟨b, o + k * 12 + 8, none⟩ = some (.int .i64 tn) ∧ w6.cell? ⟨b, o + k * 12 + 9, none⟩ = some (.float .f64 tf) ∧ w6.cell? ⟨b, o + k * 12 + 10, none⟩ = some (.string ts) ∧ w6.cell? ⟨b, o + k * 12 + 11, none⟩ = some (.slice ta TL tc) ∧ w6.cell? ⟨bx, 0, none⟩ = some (.int .i64 x0) ∧ w6.cell? ⟨bx, 1, none⟩ = some (.int .i64 x1) ∧ w6.cell? ⟨bx, 2, none⟩ = some (.int .i64 x2) ∧ w6.cell? ⟨bx, 3, none⟩ = some (.int .i64 x3) ∧ w6.cell? ⟨bx, 4, none⟩ = some (.int .i64 x4) ∧ w6.cell? ⟨bx, 5, none⟩ = some (.bool lk) ∧ w6.cell? ⟨bx, 6, none⟩ = some (.string nm) ∧ w6.cell? ⟨bx, 7, none⟩ = some (.int .i64 k') ∧ w6.cell? ⟨bx, 8, none⟩ = some (.int .i64 n') ∧ w6.cell? ⟨bx, 9, none⟩ = some (.float .f64 f') ∧ w6.cell? ⟨bx, 10, none⟩ = some (.string s') ∧ w6.cell? ⟨bx, 11, none⟩ = some (.slice a' L3 c')) := hidb (⟨HT6.out.c0, HT6.out.c1, HT6.out.c2, HT6.out.c3, HT6.out.c4, HT6.out.c5, HT6.out.c6, HT6.out.c7, HT6.out.c8, HT6.out.c9, HT6.out.c10, HT6.out.c11, HX6.out.c0, HX6.out.c1, HX6.out.c2, HX6.out.c3, HX6.out.c4, HX6.out.c5, HX6.out.c6, HX6.out.c7, HX6.out.c8, HX6.out.c9, HX6.out.c10, HX6.out.c11⟩); clear hj6 hbt6 HP2))
    have z7 : w6.cell? ⟨bx, 7, none⟩ = some (.int .i64 k') := HX6.out.c7
    have z8 : w6.cell? ⟨bx, 8, none⟩ = some (.int .i64 n') := HX6.out.c8
    have z9 : w6.cell? ⟨bx, 9, none⟩ = some (.float .f64 f') := HX6.out.c9
    have z10 : w6.cell? ⟨bx, 10, none⟩ = some (.string s') := HX6.out.c10
    have z11 : w6.cell? ⟨bx, 11, none⟩ = some (.slice a' L3 c') := HX6.out.c11
    have hsp6 : SpH (fun q => wr.heap.size ≤ q ∧ q < bx) w6 H3 (.slice a' L3 c') := SpH.but HBT6.out (fun q hq hz => hz.elim (fun hz => by have := hz.2; have := hq.1; omega) (fun hz => by have hz2 : W4.heap.size ≤ q := hz; have := HBXE.out; have := H34.out; have := hq.2; omega)) (SpH.but HBT5.out (fun q hq hz => by have := hz.2; have := hq.1; omega) (SpH.but (X := fun _ => False) (But.of_below (Below.refl _ _).drew) (fun _ _ => id) HS4.out))
    have HZ6 : Hid (bx ≤ W4.heap.size ∧ W4.heap.size ≤ w5.heap.size ∧ w5.heap.size ≤ w6.heap.size) := hidb ⟨by have := HBXE.out; have := H34.out; omega, HBT5.out.size, HBT6.out.size⟩
    have HSPO := hidb (spoil_any (S := fun q => wr.heap.size ≤ q ∧ q < bx) H3 (.int .i64 k') (.int .i64 n') (.float .f64 f') (.string s') (.slice a' L3 c') w6 (fun q hq => by have := HZ6.out; have := hq.2; omega) hsp6)
    clear hsp6
    go_wp2_with (first
      | (go_at_call 9; refine HSPO.out.mono ?_; rintro e w7 ⟨rfl, hbt7, -⟩; have HJ7 := hidb (HJ6.out.but hbt7 (fun q hz hs => by have := HZ6.out; have := hs.1; have := hs.2; rcases hz with (hz | hz) | hz; (have := hz.2; omega); (have hz2 : W4.heap.size ≤ q := hz; omega); omega) (fun q hs => by have := HB3.out.size; have := hs.1; omega)); have HT7 := hidb (HT6.out.but hbt7 (fun hs => by have := HB3.out.size; have := hs.1; omega)); clear hbt7 HSPO z7 z8 z9 z10 z11))
    obtain ⟨wd, hwd⟩ : ∃ wd, w7.drew = wd := ⟨_, rfl⟩
    have HTd := hidb (HT7.out.but (S := fun _ => False) (But.of_below (hwd ▸ (Below.refl w7.heap.size w7).drew)) id)
    have HJd := hidb (HJ7.out.keep (hwd ▸ (Below.refl w7.heap.size w7).drew))
    clear HJ7 HT7 HJ6 HT6 HX6 HS6 HBT6 HBT5 HJ5 HT5 HX5 HS5 HSd HJ4 HX4 HT4 HS4
    have HJ9 : Hid (∀ wx, Below wd.heap.size wd wx → J w wx w2.heap.size (ss.take (k + 1)) (w2.heap.size + 1) (ss.take (k + 1)) (fun _ => True)) := hidb (fun wx hb => by
      have e9 : ss.take (k + 1) = ss.take k ++ [⟨x0, x1, x2, x3, x4, lk, nm, .mk tk tn tf ts ta tc ks⟩] := by rw [List.take_add_one, HX.out]; rfl
      rw [e9]
      exact (HJd.out.keep hb).more (fun _ _ _ _ => trivial))
    have HND : Hid (b ≠ wd.heap.size) := hidb (Nat.ne_of_lt HTd.out.lt)
    rcases HJd.out.peek (by rw [List.length_append, List.length_take]; simp; omega) HWF.out.1 HWF.out.2 with hpk | hpk
    · have HPK := hidb hpk
      clear hpk
      have v0 := HTd.out.c0
      have v1 := HTd.out.c1
      go_region_held3 (fun w' => w'.cell? ⟨b, o + k * 12, none⟩ = some (.int .i64 x0) ∧ w'.cell? ⟨b, o + k * 12 + 1, none⟩ = some (.int .i64 x1)) (first | with_reducible exact ⟨v0, v1⟩ | (rw [hwd]; with_reducible exact ⟨v0, v1⟩) | with_reducible exact HS8.out | (simp only [cell9_far HND.out]; with_reducible exact HS8.out) | (simp only [cell9_old HB8.out]; with_reducible exact HS8.out) | go_keep) (first
        | (go_at_call 10; first | (refine (HPK.out _ (Below.refl _ _)).mono ?_; rintro e w8 ⟨rfl, hb8⟩; have HW8 : Hid (Below wd.heap.size wd w8) := hidb hb8; have HT8 := hidb (HTd.out.keep hb8 HTd.out.lt); have HS8 := hidb (And.intro HT8.out.c0 HT8.out.c1); have HB8 : Hid (b < w8.heap.size) := hidb HT8.out.lt; have HN8 : Hid (b ≠ w8.heap.size) := hidb (Nat.ne_of_lt HB8.out); clear hb8) | (refine (HPK.out _ (below_new _ _)).mono ?_; rintro e w8 ⟨rfl, hb8⟩; have HW8 : Hid (Below wd.heap.size wd w8) := hidb ((below_new _ _).trans (hb8.mono (by simp))); have HT8 := hidb (HTd.out.keep HW8.out HTd.out.lt); have HS8 := hidb (And.intro HT8.out.c0 HT8.out.c1); have HZB := hidb (at_keep (at_new wd zbox) hb8); obtain ⟨r0, r1, r2, r3, r4, r5, r6, r7, r8, r9, r10, r11⟩ := box12 HZB.out; obtain ⟨g0, g1, g2, g3, g4, g5, g6, g7, g8, g9, g10, g11⟩ := fro12 HZB.out; clear hb8)))
      all_goals go_wp2_with fail
      all_goals go_roundw
      all_goals first
        | exact ⟨k + 1, by omega, by go_num, HJ9.out _ (by first | with_reducible exact HW8.out.alloc HW8.out.size _ | with_reducible exact ((((((((((((HW8.out.setCell (p := ⟨wd.heap.size, 0, none⟩) (Nat.le_refl _) _).setCell (p := ⟨wd.heap.size, 1, none⟩) (Nat.le_refl _) _).setCell (p := ⟨wd.heap.size, 2, none⟩) (Nat.le_refl _) _).setCell (p := ⟨wd.heap.size, 3, none⟩) (Nat.le_refl _) _).setCell (p := ⟨wd.heap.size, 4, none⟩) (Nat.le_refl _) _).setCell (p := ⟨wd.heap.size, 5, none⟩) (Nat.le_refl _) _).setCell (p := ⟨wd.heap.size, 6, none⟩) (Nat.le_refl _) _).setCell (p := ⟨wd.heap.size, 7, none⟩) (Nat.le_refl _) _).setCell (p := ⟨wd.heap.size, 8, none⟩) (Nat.le_refl _) _).setCell (p := ⟨wd.heap.size, 9, none⟩) (Nat.le_refl _) _).setCell (p := ⟨wd.heap.size, 10, none⟩) (Nat.le_refl _) _).setCell (p := ⟨wd.heap.size, 11, none⟩) (Nat.le_refl _) _))⟩
        | (simp [RowKit.intOf]; omega)
    · have HPK := hidb hpk
      clear hpk
      have v0 := HTd.out.c0
      have v1 := HTd.out.c1
      go_region_held3 (fun w' => w'.cell? ⟨b, o + k * 12, none⟩ = some (.int .i64 x0) ∧ w'.cell? ⟨b, o + k * 12 + 1, none⟩ = some (.int .i64 x1)) (first | with_reducible exact ⟨v0, v1⟩ | (rw [hwd]; with_reducible exact ⟨v0, v1⟩) | with_reducible exact HS8.out | (simp only [cell9_far HND.out]; with_reducible exact HS8.out) | (simp only [cell9_old HB8.out]; with_reducible exact HS8.out) | go_keep) (first
        | (go_at_call 10; first | (refine (HPK.out _ (Below.refl _ _)).mono ?_; rintro e w8 ⟨p0, p1, p2, p3, p4, p5, p6, p7, p8, p9, p10, p11, pL, p12, rfl, hb8, ⟨H8, hsp8⟩⟩; have HW8 : Hid (Below wd.heap.size wd w8) := hidb hb8; have HSPO8 := hidb (spoil_at (v0 := .int .i64 p7) (v1 := .int .i64 p8) (v2 := .float .f64 p9) (v3 := .string p10) (v := .slice p11 pL p12) HW8.out (Nat.le_refl _) hsp8); have HT8 := hidb (HTd.out.keep hb8 HTd.out.lt); have HS8 := hidb (And.intro HT8.out.c0 HT8.out.c1); have HB8 : Hid (b < w8.heap.size) := hidb HT8.out.lt; clear hb8 hsp8) | (refine (HPK.out _ (below_new _ _)).mono ?_; rintro e w8 ⟨p0, p1, p2, p3, p4, p5, p6, p7, p8, p9, p10, p11, pL, p12, rfl, hb8, ⟨H8, hsp8⟩⟩; have HW8 : Hid (Below wd.heap.size wd w8) := hidb ((below_new _ _).trans (hb8.mono (by simp))); have HSPO8 := hidb (spoil_at (v0 := .int .i64 p7) (v1 := .int .i64 p8) (v2 := .float .f64 p9) (v3 := .string p10) (v := .slice p11 pL p12) HW8.out (by simp) hsp8); have HT8 := hidb (HTd.out.keep HW8.out HTd.out.lt); have HS8 := hidb (And.intro HT8.out.c0 HT8.out.c1); have HB8 : Hid (b < w8.heap.size) := hidb HT8.out.lt; have HN8 : Hid (b ≠ w8.heap.size) := hidb (Nat.ne_of_lt HB8.out); have HZB := hidb (at_keep (at_new wd zbox) hb8); obtain ⟨r0, r1, r2, r3, r4, r5, r6, r7, r8, r9, r10, r11⟩ := box12 HZB.out; obtain ⟨g0, g1, g2, g3, g4, g5, g6, g7, g8, g9, g10, g11⟩ := fro12 HZB.out; clear hb8 hsp8)))
      all_goals go_wp2_with (first
        | (go_at_call 9; refine (HSPO8.out _ (by first | with_reducible exact But.of_below (below_new w8 _) | with_reducible exact ((((((((((((But.refl (fun q => wd.heap.size ≤ q ∧ q < (wd.alloc zbox).heap.size) w8).setCell (p := ⟨wd.heap.size, 0, none⟩) (fun _ => ⟨Nat.le_refl _, by simp⟩) _).setCell (p := ⟨wd.heap.size, 1, none⟩) (fun _ => ⟨Nat.le_refl _, by simp⟩) _).setCell (p := ⟨wd.heap.size, 2, none⟩) (fun _ => ⟨Nat.le_refl _, by simp⟩) _).setCell (p := ⟨wd.heap.size, 3, none⟩) (fun _ => ⟨Nat.le_refl _, by simp⟩) _).setCell (p := ⟨wd.heap.size, 4, none⟩) (fun _ => ⟨Nat.le_refl _, by simp⟩) _).setCell (p := ⟨wd.heap.size, 5, none⟩) (fun _ => ⟨Nat.le_refl _, by simp⟩) _).setCell (p := ⟨wd.heap.size, 6, none⟩) (fun _ => ⟨Nat.le_refl _, by simp⟩) _).setCell (p := ⟨wd.heap.size, 7, none⟩) (fun _ => ⟨Nat.le_refl _, by simp⟩) _).setCell (p := ⟨wd.heap.size, 8, none⟩) (fun _ => ⟨Nat.le_refl _, by simp⟩) _).setCell (p := ⟨wd.heap.size, 9, none⟩) (fun _ => ⟨Nat.le_refl _, by simp⟩) _).setCell (p := ⟨wd.heap.size, 10, none⟩) (fun _ => ⟨Nat.le_refl _, by simp⟩) _).setCell (p := ⟨wd.heap.size, 11, none⟩) (fun _ => ⟨Nat.le_refl _, by simp⟩) _)).mono ?_; rintro e w9 ⟨rfl, hb9⟩; have HB9 := hidb hb9; clear hb9 HSPO8))
      all_goals go_roundw
      all_goals first
        | exact ⟨k + 1, by omega, by go_num, HJ9.out _ HB9.out⟩
        | (simp [RowKit.intOf]; omega)
  have hkn : ¬ (k : Int) < (m : Int) := by omega
  obtain rfl : k = m := by omega
  have hj9 := HJ.out
  rw [List.take_of_length_le (by rw [HSL.out]; exact Nat.le_refl _)] at hj9
  have HJ9 := hidb hj9
  have LN := hidb (hj9.lanes (by rw [HSL.out]; omega))
  clear hj9 HJ hkm
  obtain ⟨wo, hwo⟩ : ∃ wo, wo = wr := ⟨_, rfl⟩
  subst hwo
  go_wp2_with (first
    | (go_at_call 11; refine LN.out.mono ?_; rintro e wa ⟨qt, n, ct, rfl, hll, hn4, hba⟩; have HLL := hidb hll; have HBA := hidb hba; clear hll hba LN))
  obtain ⟨Sx, rs0, hlp0⟩ := LP.start HLL.out
  have HLP0 := hidb hlp0
  clear hlp0 HLL
  go_loopw [12] (fun iv wx => ∃ (i : Nat) (rs : List (Int × Int × Value × List SG)), i ≤ n ∧ iv = .int .i64 i ∧ LP wo.heap.size wx (.slice qt n ct) n i Sx rs ∧ Below wo.heap.size wo wx) (fun iv _ => n - (RowKit.intOf iv).toNat)
  case atStart => exact ⟨0, rs0, by omega, rfl, HLP0.out, HBA.out⟩
  case round =>
  obtain ⟨i, rs, hin, rfl, hlp, hbx⟩ := hrel
  have HLP := hidb hlp
  have HBX := hidb hbx
  clear hlp hbx HLP0 HBA
  by_cases hilt : i < n
  · have hib : (i : Int) < (n : Int) := by omega
    have hiz : (0 : Int) ≤ (i : Int) := by omega
    have hiw : IntKind.i64.wrap ((i : Int) + 1) = (i : Int) + 1 := by rw [IntKind.wrap_i64]; omega
    obtain ⟨⟨xa, xb, v, ds⟩, hr⟩ : ∃ r, rs[i]? = some r := ⟨_, List.getElem?_eq_getElem (by rw [HLP.out.len]; exact hilt)⟩
    obtain ⟨g, a5, c5, rfl, hg1, hg2, rfl, -, -, ha5⟩ := HLP.out.at (Nat.le_refl _) hr
    obtain ⟨D, hD⟩ : ∃ D, ds.length = D := ⟨_, rfl⟩
    have hD4 : D ≤ 400 := by rw [← hD]; exact (HLP.out.lane i _ (Nat.le_refl _) hr).2.1
    rw [hD] at hr ha5
    have HA5 := hidb ha5
    have HR0 := hidb (And.intro hr hD)
    clear hr hD ha5
    obtain ⟨cd1, cd2⟩ := HLP.out.cell HR0.out.1
    go_wp2_with fail
    clear cd1 cd2
    go_loopw [13] (fun jv wx => ∃ (kk : Nat) (rs' : List (Int × Int × Value × List SG)) (ds' : List SG), kk ≤ D ∧ jv = .int .i64 kk ∧ LP wo.heap.size wx (.slice (some ⟨g, 0, none⟩) n ct) n i Sx rs' ∧ rs'[i]? = some (xa, xb, .slice a5 D c5, ds') ∧ ds'.length = D ∧ Below wo.heap.size wo wx) (fun jv _ => D - (RowKit.intOf jv).toNat)
    case atStart => exact ⟨0, rs, ds, by omega, rfl, HLP.out, HR0.out.1, HR0.out.2, HBX.out⟩
    case round =>
    obtain ⟨kk, rs', ds', hkk, rfl, hlp, hr, hD, hbx⟩ := hrel
    have HLP2 := hidb hlp
    have HBX2 := hidb hbx
    have HR := hidb (And.intro hr hD)
    clear hlp hbx hr hD
    obtain ⟨cd1, cd2⟩ := HLP2.out.cell HR.out.1
    by_cases hkD : kk < D
    · have hkb : (kk : Int) < (D : Int) := by omega
      have hkz : (0 : Int) ≤ (kk : Int) := by omega
      have hkw : IntKind.i64.wrap ((kk : Int) + 1) = (kk : Int) + 1 := by rw [IntKind.wrap_i64]; omega
      obtain ⟨g5, rfl⟩ := HA5.out (by omega)
      obtain ⟨⟨x0, x1, x2, x3, x4, lk, nm, ⟨tk, tn, tf, ts, ta, tc, ks⟩⟩, hx⟩ : ∃ s, ds'[kk]? = some s := ⟨_, List.getElem?_eq_getElem (by rw [HR.out.2]; exact hkD)⟩
      obtain ⟨ht, hf, H, hsp⟩ := HLP2.out.sig HR.out.1 HR.out.2 hx
      obtain ⟨TL, hTL⟩ : ∃ TL, ks.length = TL := ⟨_, rfl⟩
      rw [hTL] at ht hsp
      have HX := hidb hx
      have HTL := hidb hTL
      have HSPO := hidb (spoil_any (S := Sx) H (.int .i64 tk) (.int .i64 tn) (.float .f64 tf) (.string ts) (.slice ta TL tc) wr (fun q hq => (HLP2.out.sx q hq).2.1) hsp)
      have y7 := ht.c7
      have y8 := ht.c8
      have y9 := ht.c9
      have y10 := ht.c10
      have y11 := ht.c11
      clear ht hf hsp hTL hx
      go_wp2_with (first
        | (go_at_call 9; refine HSPO.out.mono ?_; rintro e w5 ⟨rfl, hbt5, hmo5⟩; have HLP5 := hidb (HLP2.out.spoil hbt5 hmo5); have HB5 := hidb (HBX2.out.trans (hbt5.below HBX2.out.size (fun q hq => (HLP2.out.sx q hq).1))); obtain ⟨ce1, ce2⟩ := HLP5.out.cell HR.out.1; obtain ⟨ht5, hf5, -⟩ := HLP5.out.sig HR.out.1 HR.out.2 HX.out; obtain ⟨z0, z1, z2, z3, z4, z5, z6, z7, z8, z9, z10, z11⟩ := ht5; have f0 := hf5 (kk * 12); have f1 := hf5 (kk * 12 + 1); have f2 := hf5 (kk * 12 + 2); have f3 := hf5 (kk * 12 + 3); have f4 := hf5 (kk * 12 + 4); have f5 := hf5 (kk * 12 + 5); have f6 := hf5 (kk * 12 + 6); have f7 := hf5 (kk * 12 + 7); have f8 := hf5 (kk * 12 + 8); have f9 := hf5 (kk * 12 + 9); have f10 := hf5 (kk * 12 + 10); have f11 := hf5 (kk * 12 + 11); clear hbt5 hmo5 hf5 HSPO cd1 cd2 y7 y8 y9 y10 y11))
      go_roundw
      case rel =>
        have h0 := (HLP5.out.lane i _ (Nat.le_refl _) HR.out.1).1
        simp only at h0
        rw [HR.out.2] at h0
        obtain ⟨o1, o2⟩ := own_zero h0 HX.out
        have hg5 := row_lt h0 g5 rfl
        refine ⟨kk + 1, rs'.set i (xa, xb, .slice (some ⟨g5, 0, none⟩) D c5, ds'.set kk zsg), ds'.set kk zsg, by omega, by go_num, HLP5.out.zero HR.out.1 rfl o2 (by rw [HR.out.2]; exact o1) (by rw [List.length_set]) (fun d hd => ?_), ?_, by rw [List.length_set]; exact HR.out.2, HB5.out.trans (o2.below HB5.out.size (fun q e => by rw [e]; exact hg5.2))⟩
        · rcases List.mem_or_eq_of_mem_set hd with h | h
          · exact .inl h
          · exact .inr h
        · exact List.getElem?_set_self (List.getElem?_eq_some_iff.1 HR.out.1).1
      case measure => simp [RowKit.intOf]; omega
    have hkn2 : ¬ (kk : Int) < (D : Int) := by omega
    have h0 := (HLP2.out.lane i _ (Nat.le_refl _) HR.out.1).1
    simp only at h0
    rw [HR.out.2] at h0
    have HRW := hidb h0
    obtain ⟨i1, hi1, hy0, hy1, hy2⟩ := infoS
    have hgt := row_lt HLP2.out.row g rfl
    have HNE : Hid (∀ q, (Value.slice a5 D c5).ownBlock = some q → q ≠ g) := hidb (fun q hq e => row_ne HLP2.out.row h0 (by decide) g rfl (e ▸ hq))
    have HGT := hidb hgt
    clear h0 hgt hkD
    go_wp2_with (first
      | (at_builtin; refine wpList_append_own_at _ rfl _ _ 22 rfl wo.heap.size ST i1 (.agg #[.int .i64 0, .int .i64 0, .int .i64 0, .int .i64 0, .int .i64 0, .bool false, .string ⟨#[]⟩, .int .i64 0, .int .i64 0, .float .f64 0, .string ⟨#[]⟩, .slice none 0 0]) 12 128 Tryz.underlying22 hi1 hy0 hy1 hy2 rfl (by decide) (.slice a5 D c5) D (sgcs ds') rfl ?e1 ⟨wr.heap.size, 0, none⟩ 1 1 [.int .i64 0, .int .i64 0, .int .i64 0, .int .i64 7, .int .i64 0, .bool false, .string ⟨#[]⟩, .int .i64 0, .int .i64 0, .float .f64 0, .string ⟨#[]⟩, .slice none 0 0] rfl rfl ?e6 ?e2 ?e3 ?e4 ?e5 ?_))
    case e1 => exact HRW.out.alloc _
    case e2 => simp [Value.oneCell']
    case e3 => unfold maxLen; omega
    case e4 => omega
    case e5 => have := HBX2.out.size; simp; omega
    intro v' w4 hown' hgrow hnil hat
    have hbg := (But.of_below (S := fun k => (Value.slice a5 D c5).ownBlock = some k) (below_new wr _)).trans (grown_but hgrow)
    have ce1 := (hbg.cell (p := ⟨g, i * 3 + 2, none⟩) HGT.out.1 (fun e => HNE.out g e rfl)).trans cd1
    have ce2 := (hbg.frozen (p := ⟨g, i * 3 + 2, none⟩) HGT.out.1 (fun e => HNE.out g e rfl)).trans cd2
    have HNX := hidb (HLP2.out.next (v' := v') HR.out.1 (below_new wr _) hgrow HBX2.out.size)
    obtain ⟨qa4, ca4, rfl⟩ := own_sl hown'
    clear hown' hgrow hnil hat hbg cd1 cd2
    go_wp2_with fail
    go_roundw
    case rel => exact ⟨i + 1, _, by omega, by go_num, HNX.out.1, HBX2.out.trans HNX.out.2⟩
    case measure => simp [RowKit.intOf]; omega
  have hinn : ¬ (i : Int) < (n : Int) := by omega
  have hsame := (HJ9.out.keep HBX.out).same (by rw [HSL.out]; omega)
  have HSM := hidb hsame
  have HBJ := hidb HJ9.out.bel
  clear hsame hilt
  go_wp2_with (first
    | (go_at_call 11; refine HSM.out.mono ?_; rintro e wb ⟨q1, n1, c1, rfl, hb1, hnx⟩; have HNX := hidb hnx; have HBB := hidb hb1; clear hb1 hnx HSM)
    | (go_at_call 11; refine (HNX.out _ (Below.refl _ _)).mono ?_; rintro e wc ⟨q2, c2, rfl, hb2, hfin⟩; have HFIN := hidb hfin; have HBC := hidb hb2; clear hb2 hfin HNX)
    | (go_at_call 12; refine (HFIN.out _ (Below.refl _ _)).mono ?_; rintro e wd ⟨rfl, hb3⟩; have HBD := hidb hb3; clear hb3 HFIN))
  go_ret
  have hb4 := HBX.out
  have hb5 := hb4.trans (HBB.out.mono hb4.size)
  have hb6 := hb5.trans (HBC.out.mono hb5.size)
  exact ⟨rfl, HBJ.out.trans ((hb6.trans (HBD.out.mono hb6.size)).mono HBJ.out.size)⟩
end Go.Proofs.YtpcpdehnppfbfaaGreat


