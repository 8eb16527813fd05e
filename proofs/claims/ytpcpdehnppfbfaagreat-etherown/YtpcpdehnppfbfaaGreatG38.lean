import Derived.Test.YtpcpdehnppfbfaaGreatG20
import Derived.Test.YtpcpdehnppfbfaaGreatG19
import Derived.Test.YtpcpdehnppfbfaaGreatG21
/- SameSignal of two signals that are the same but for memory. -/
namespace Go.Proofs.YtpcpdehnppfbfaaGreat
open Go.RowKit Go.Lib Go.Maps
attribute [local go_sem] store_float f64bits
attribute [local go_sem ↓] Go.wp_at_zero Go.wp_at_succ

set_option maxRecDepth 100000 in
set_option maxHeartbeats 4000000 in
theorem sameSignal_any (a b c d e : Int) (f : Bool) (nm : ByteArray) (k2 n2 : Int) (f2 : Nat) (s2 : ByteArray) (a2 : Option Addr) (c2 : Nat) (kids2 : List Tr) (k3 n3 : Int) (f3 : Nat) (s3 : ByteArray) (a3 : Option Addr) (c3 : Nat) (kids3 : List Tr) (hs : Sm (.mk k2 n2 f2 s2 a2 c2 kids2) (.mk k3 n3 f3 s3 a3 c3 kids3)) (w : World) (h2 : (Tr.mk k2 n2 f2 s2 a2 c2 kids2).In w 0) (h3 : (Tr.mk k3 n3 f3 s3 a3 c3 kids3).In w 0) : Calls Tryz.prog 27 #[.agg #[.int .i64 a, .int .i64 b, .int .i64 c, .int .i64 d, .int .i64 e, .bool f, .string nm, .int .i64 k2, .int .i64 n2, .float .f64 f2, .string s2, .slice a2 kids2.length c2], .agg #[.int .i64 a, .int .i64 b, .int .i64 c, .int .i64 d, .int .i64 e, .bool f, .string nm, .int .i64 k3, .int .i64 n3, .float .f64 f3, .string s3, .slice a3 kids3.length c3]] w fun e w' => e = .returned (.bool true) ∧ Below w.heap.size w w' := by
  have TW := hidb (fun (w' : World) (hb : Below w.heap.size w w') => twin_same _ _ hs w' (in_below hb h2) (in_below hb h3))
  simp only [Tr.val, Tr.cells] at TW
  clear hs h2 h3
  generalize kids2.length = t2 at *
  generalize kids3.length = t3 at *
  have HB : Hid (Below w.heap.size w ((w.alloc (.cells #[.int .i64 a, .int .i64 b, .int .i64 c, .int .i64 d, .int .i64 e, .bool f, .string nm, .int .i64 k2, .int .i64 n2, .float .f64 f2, .string s2, .slice a2 t2 c2] 30)).alloc (.cells #[.int .i64 a, .int .i64 b, .int .i64 c, .int .i64 d, .int .i64 e, .bool f, .string nm, .int .i64 k3, .int .i64 n3, .float .f64 f3, .string s3, .slice a3 t3 c3] 30))) := hidb ((below_new w _).alloc (by simp) _)
  go_enter Tryz.func27, Tryz.ntmps27
  go_wp2_with (go_at_call 43; refine (TW.out _ HB.out).mono ?_; rintro e w1 ⟨rfl, hb1⟩; have HB1 := hidb (HB.out.trans (hb1.mono HB.out.size)); clear hb1)
  go_ret
  exact ⟨by simp, HB1.out⟩
end Go.Proofs.YtpcpdehnppfbfaaGreat


/- SameLanes of two rows of lanes that are the same but for memory. -/
namespace Go.Proofs.YtpcpdehnppfbfaaGreat
open Go.RowKit Go.Lib Go.Maps
attribute [local go_sem] store_float f64bits
attribute [local go_sem ↓] Go.wp_at_zero Go.wp_at_succ

theorem lvs_len (rs : List (Int × Int × Value)) : (lvs rs).length = rs.length * 3 := by
  induction rs with
  | nil => rfl
  | cons r rs ih => simp [lvs] at ih ⊢; omega
theorem lvs_at {rs : List (Int × Int × Value)} {m : Nat} {r : Int × Int × Value} (h : rs[m]? = some r) : (lvs rs)[m * 3]? = some (.int .i64 r.1) ∧ (lvs rs)[m * 3 + 1]? = some (.int .i64 r.2.1) ∧ (lvs rs)[m * 3 + 2]? = some r.2.2 := by
  obtain ⟨hl, he⟩ := List.getElem?_eq_some_iff.1 h
  have e : rs = rs.take m ++ r :: rs.drop (m + 1) := by rw [← he, ← List.drop_eq_getElem_cons hl, List.take_append_drop]
  have hk : lvs rs = lvs (rs.take m) ++ (.int .i64 r.1 :: .int .i64 r.2.1 :: r.2.2 :: lvs (rs.drop (m + 1))) := by
    conv => lhs; rw [e]
    rw [lvs_append]; rfl
  have hn : (lvs (rs.take m)).length = m * 3 := by rw [lvs_len]; simp; omega
  rw [hk]
  refine ⟨?_, ?_, ?_⟩
  · rw [List.getElem?_append_right (by omega), show m * 3 - (lvs (rs.take m)).length = 0 by omega]; rfl
  · rw [List.getElem?_append_right (by omega), show m * 3 + 1 - (lvs (rs.take m)).length = 1 by omega]; rfl
  · rw [List.getElem?_append_right (by omega), show m * 3 + 2 - (lvs (rs.take m)).length = 2 by omega]; rfl
/-- A told lane in memory. -/
structure LnAt (w : World) (g m : Nat) (xa xb : Int) (a : Option Addr) (n c : Nat) (ds : List SG) : Prop where
  c0 : w.cell? ⟨g, m * 3, none⟩ = some (.int .i64 xa)
  c1 : w.cell? ⟨g, m * 3 + 1, none⟩ = some (.int .i64 xb)
  c2 : w.cell? ⟨g, m * 3 + 2, none⟩ = some (.slice a n c)
  len : ds.length = n
  row : w.ownsRow 0 ST 12 (.slice a n c) n (sgcs ds)
  tr : ∀ d ∈ ds, d.t.In w 0
theorem LnAt.keep {w w' : World} {g m : Nat} {xa xb : Int} {a : Option Addr} {n c : Nat} {ds : List SG} (h : LnAt w g m xa xb a n c ds) (hb : Below w.heap.size w w') : LnAt w' g m xa xb a n c ds :=
  ⟨(hb.cell (World.block_lt_of_cell? _ _ h.c0)).trans h.c0, (hb.cell (World.block_lt_of_cell? _ _ h.c1)).trans h.c1, (hb.cell (World.block_lt_of_cell? _ _ h.c2)).trans h.c2, h.len, row_but h.row (But.of_below (S := fun _ => False) hb) (fun _ _ h => h), fun d hd => in_below hb (h.tr d hd)⟩
theorem ToldG.at {C n : Nat} {w : World} {sig : Int → Int → List SG} {q : Option Addr} {c : Nat} {rs : List (Int × Int × Value × List SG)} (h : ToldG C w sig (.slice q n c) n rs) {m : Nat} {r : Int × Int × Value × List SG} (hr : rs[m]? = some r) :
    ∃ g a5 c5, q = some ⟨g, 0, none⟩ ∧ LnAt w g m r.1 r.2.1 a5 r.2.2.2.length c5 r.2.2.2 := by
  have hm : m < n := by rw [← h.2.1]; exact (List.getElem?_eq_some_iff.1 hr).1
  obtain ⟨g, rfl⟩ : ∃ g, q = some ⟨g, 0, none⟩ := by
    rcases h.1.2 with ⟨_, h0⟩ | ⟨g, cap, cur, hv, _⟩
    · omega
    · exact ⟨g, by simpa using (Value.slice.inj hv).1⟩
  obtain ⟨h1, h2, h3⟩ := h.2.2 r (List.mem_of_getElem? hr)
  have hl : (sig r.1 r.2.1).length = r.2.2.2.length := h2.1.symm
  rw [hl] at h1
  obtain ⟨a5, c5, e⟩ := own_sl h1
  obtain ⟨e0, e1, e2⟩ := lvs_at (rs := rs.map lvr) (m := m) (r := lvr r) (by rw [List.getElem?_map, hr]; rfl)
  rw [e] at h1
  refine ⟨g, a5, c5, rfl, (h.1.cellAt _ (by omega)).trans e0, (h.1.cellAt _ (by omega)).trans e1, (h.1.cellAt _ (by omega)).trans (e2.trans (congrArg some e)), rfl, row_base h1 (Nat.zero_le _), fun d hd => (h3 d hd).1⟩
set_option maxHeartbeats 2000000 in
set_option maxRecDepth 100000 in
theorem sameLanes_any {w : World} {g1 g2 c1 c2 n : Nat} {rs rs' : List (Int × Int × List SG)} (hn : n ≤ 1000000) (hl : rs.length = n) (hl' : rs'.length = n)
    (h1 : ∀ (m : Nat) r, rs[m]? = some r → r.2.2.length ≤ 1000000 ∧ ∃ a c, LnAt w g1 m r.1 r.2.1 a r.2.2.length c r.2.2) (h2 : ∀ (m : Nat) r, rs'[m]? = some r → ∃ a c, LnAt w g2 m r.1 r.2.1 a r.2.2.length c r.2.2)
    (hs : ∀ (m : Nat) r r', rs[m]? = some r → rs'[m]? = some r' → r.1 = r'.1 ∧ r.2.1 = r'.2.1 ∧ SamL r.2.2 r'.2.2) :
    Calls Tryz.prog 12 #[.slice (some ⟨g1, 0, none⟩) n c1, .slice (some ⟨g2, 0, none⟩) n c2] w fun e w' => e = .returned (.bool true) ∧ Below w.heap.size w w' := by
  have H1 := hidb h1
  have H2 := hidb h2
  have HS := hidb hs
  have HL := hidb (And.intro hl hl')
  clear h1 h2 hs hl hl'
  go_enter Tryz.func12, Tryz.ntmps12
  go_wp2_with fail
  go_loopw [5] (fun iv wr => ∃ m : Nat, m ≤ n ∧ iv = .int .i64 m ∧ Below w.heap.size w wr) (fun iv _ => n - (RowKit.intOf iv).toNat)
  case atStart => exact ⟨0, by omega, rfl, Below.refl _ _⟩
  case round =>
  obtain ⟨m, hm, rfl, hbel⟩ := hrel
  have HW := hidb hbel
  clear hbel
  by_cases hmn : m < n
  · have hmb : (m : Int) < (n : Int) := by omega
    have hmz : (0 : Int) ≤ (m : Int) := by omega
    have hmw : IntKind.i64.wrap ((m : Int) + 1) = (m : Int) + 1 := by rw [IntKind.wrap_i64]; omega
    obtain ⟨⟨xa, xb, ds⟩, hr⟩ : ∃ r, rs[m]? = some r := ⟨_, List.getElem?_eq_getElem (by rw [HL.out.1]; exact hmn)⟩
    obtain ⟨⟨xa', xb', ds'⟩, hr'⟩ : ∃ r, rs'[m]? = some r := ⟨_, List.getElem?_eq_getElem (by rw [HL.out.2]; exact hmn)⟩
    obtain ⟨hd6, a5, c5, l5⟩ := H1.out m _ hr
    obtain ⟨a6, c6, l6⟩ := H2.out m _ hr'
    have hss := HS.out m _ _ hr hr'
    simp only at hd6 l5 l6 hss
    obtain ⟨rfl, rfl, hsl, hsm⟩ := hss
    rw [hsl] at l6
    obtain ⟨D, hD⟩ : ∃ D, ds.length = D := ⟨_, rfl⟩
    have HD := hidb (And.intro hD hsl)
    rw [hD] at hd6 l5 l6
    have L5 := hidb (l5.keep HW.out)
    have L6 := hidb (l6.keep HW.out)
    have HSM := hidb hsm
    clear hr hr' l5 l6 hsl hsm hD
    have q1 : (xa != xa) = false := by simp
    have q2 : (xb != xb) = false := by simp
    have q3 : ((D : Int) != (D : Int)) = false := by simp
    obtain ⟨e0, e1, e2, -, -, -⟩ := L5.out
    obtain ⟨d0, d1, d2, -, -, -⟩ := L6.out
    go_wp2_with fail
    go_big_quiet (fail)
    go_wp2_with fail
    clear e0 e1 e2 d0 d1 d2
    obtain ⟨wo, hwo⟩ : ∃ wo, wo = wr := ⟨_, rfl⟩
    subst hwo
    go_loopw [6] (fun jv wx => ∃ k : Nat, k ≤ D ∧ jv = .int .i64 k ∧ Below wo.heap.size wo wx) (fun jv _ => D - (RowKit.intOf jv).toNat)
    case atStart => exact ⟨0, by omega, rfl, below_drewN (Below.refl _ _) _⟩
    case round =>
    obtain ⟨k, hk, rfl, hb2⟩ := hrel
    have M5 := hidb (L5.out.keep hb2)
    have M6 := hidb (L6.out.keep hb2)
    have HW2 := hidb (HW.out.trans (hb2.mono HW.out.size))
    have HB2 := hidb hb2
    clear hb2
    obtain ⟨-, -, e2, -, -, -⟩ := M5.out
    obtain ⟨-, -, d2, -, -, -⟩ := M6.out
    by_cases hkD : k < D
    · have hkb : (k : Int) < (D : Int) := by omega
      have hkz : (0 : Int) ≤ (k : Int) := by omega
      have hkw : IntKind.i64.wrap ((k : Int) + 1) = (k : Int) + 1 := by rw [IntKind.wrap_i64]; omega
      obtain ⟨⟨x0, x1, x2, x3, x4, lk, nm, ⟨tk, tn, tf, ts, ta, tc, tks⟩⟩, hx⟩ : ∃ s, ds[k]? = some s := ⟨_, List.getElem?_eq_getElem (by rw [HD.out.1]; exact hkD)⟩
      obtain ⟨⟨y0, y1, y2, y3, y4, lk', nm', ⟨uk, un, uf, us, ua, uc, uks⟩⟩, hy⟩ : ∃ s, ds'[k]? = some s := ⟨_, List.getElem?_eq_getElem (by rw [HD.out.2, HD.out.1]; exact hkD)⟩
      obtain ⟨⟨e3, e4, e5, e6, e7, e8, e9⟩, hsm⟩ := HSM.out k _ _ hx hy
      simp only at e3 e4 e5 e6 e7 e8 e9 hsm
      subst e3 e4 e5 e6 e7 e8 e9
      have SS := hidb (fun W (hb : Below wr.heap.size wr W) => sameSignal_any x0 x1 x2 x3 x4 lk nm tk tn tf ts ta tc tks uk un uf us ua uc uks hsm W (in_below hb (M5.out.tr _ (List.mem_of_getElem? hx))) (in_below hb (M6.out.tr _ (List.mem_of_getElem? hy))))
      obtain ⟨p5, rfl⟩ : ∃ p, a5 = some ⟨p, 0, none⟩ := by
        rcases M5.out.row.2 with ⟨_, h0⟩ | ⟨g, cap, cur, hv, _⟩
        · omega
        · exact ⟨g, by simpa using (Value.slice.inj hv).1⟩
      obtain ⟨p6, rfl⟩ : ∃ p, a6 = some ⟨p, 0, none⟩ := by
        rcases M6.out.row.2 with ⟨_, h0⟩ | ⟨g, cap, cur, hv, _⟩
        · omega
        · exact ⟨g, by simpa using (Value.slice.inj hv).1⟩
      have yy : ∀ q, q < 12 → wr.cell? ⟨p5, k * 12 + q, none⟩ = (sgr x0 x1 x2 x3 x4 lk nm tk tn tf ts ta tks.length tc)[q]? := fun q hq => (M5.out.row.cellAt _ (by omega)).trans (sgcs_at hx hq)
      have zz : ∀ q, q < 12 → wr.cell? ⟨p6, k * 12 + q, none⟩ = (sgr x0 x1 x2 x3 x4 lk nm uk un uf us ua uks.length uc)[q]? := fun q hq => (M6.out.row.cellAt _ (by omega)).trans (sgcs_at hy hq)
      obtain ⟨tL, htL⟩ : ∃ L, tks.length = L := ⟨_, rfl⟩
      obtain ⟨uL, huL⟩ : ∃ L, uks.length = L := ⟨_, rfl⟩
      rw [htL] at yy SS
      rw [huL] at zz SS
      clear hx hy hsm htL huL
      have y0' : wr.cell? ⟨p5, k * 12, none⟩ = some (.int .i64 x0) := yy 0 (by omega)
      have z0' : wr.cell? ⟨p6, k * 12, none⟩ = some (.int .i64 x0) := zz 0 (by omega)
      have y1' : wr.cell? ⟨p5, k * 12 + 1, none⟩ = some (.int .i64 x1) := yy 1 (by omega)
      have z1' : wr.cell? ⟨p6, k * 12 + 1, none⟩ = some (.int .i64 x1) := zz 1 (by omega)
      have y2' : wr.cell? ⟨p5, k * 12 + 2, none⟩ = some (.int .i64 x2) := yy 2 (by omega)
      have z2' : wr.cell? ⟨p6, k * 12 + 2, none⟩ = some (.int .i64 x2) := zz 2 (by omega)
      have y3' : wr.cell? ⟨p5, k * 12 + 3, none⟩ = some (.int .i64 x3) := yy 3 (by omega)
      have z3' : wr.cell? ⟨p6, k * 12 + 3, none⟩ = some (.int .i64 x3) := zz 3 (by omega)
      have y4' : wr.cell? ⟨p5, k * 12 + 4, none⟩ = some (.int .i64 x4) := yy 4 (by omega)
      have z4' : wr.cell? ⟨p6, k * 12 + 4, none⟩ = some (.int .i64 x4) := zz 4 (by omega)
      have y5' : wr.cell? ⟨p5, k * 12 + 5, none⟩ = some (.bool lk) := yy 5 (by omega)
      have z5' : wr.cell? ⟨p6, k * 12 + 5, none⟩ = some (.bool lk) := zz 5 (by omega)
      have y6' : wr.cell? ⟨p5, k * 12 + 6, none⟩ = some (.string nm) := yy 6 (by omega)
      have z6' : wr.cell? ⟨p6, k * 12 + 6, none⟩ = some (.string nm) := zz 6 (by omega)
      have y7' : wr.cell? ⟨p5, k * 12 + 7, none⟩ = some (.int .i64 tk) := yy 7 (by omega)
      have z7' : wr.cell? ⟨p6, k * 12 + 7, none⟩ = some (.int .i64 uk) := zz 7 (by omega)
      have y8' : wr.cell? ⟨p5, k * 12 + 8, none⟩ = some (.int .i64 tn) := yy 8 (by omega)
      have z8' : wr.cell? ⟨p6, k * 12 + 8, none⟩ = some (.int .i64 un) := zz 8 (by omega)
      have y9' : wr.cell? ⟨p5, k * 12 + 9, none⟩ = some (.float .f64 tf) := yy 9 (by omega)
      have z9' : wr.cell? ⟨p6, k * 12 + 9, none⟩ = some (.float .f64 uf) := zz 9 (by omega)
      have y10' : wr.cell? ⟨p5, k * 12 + 10, none⟩ = some (.string ts) := yy 10 (by omega)
      have z10' : wr.cell? ⟨p6, k * 12 + 10, none⟩ = some (.string us) := zz 10 (by omega)
      have y11' : wr.cell? ⟨p5, k * 12 + 11, none⟩ = some (.slice ta tL tc) := yy 11 (by omega)
      have z11' : wr.cell? ⟨p6, k * 12 + 11, none⟩ = some (.slice ua uL uc) := zz 11 (by omega)
      clear yy zz
      go_wp2_with fail
      have nn0 : wr.drew.cell? ⟨g1, m * 3 + 2, none⟩ = some (.slice (some ⟨p5, 0, none⟩) D c5) := e2
      have nn1 : wr.drew.cell? ⟨g2, m * 3 + 2, none⟩ = some (.slice (some ⟨p6, 0, none⟩) D c6) := d2
      have nn2 : wr.drew.cell? ⟨p5, k * 12, none⟩ = some (.int .i64 x0) := y0'
      have nn3 : wr.drew.cell? ⟨p5, k * 12 + 1, none⟩ = some (.int .i64 x1) := y1'
      have nn4 : wr.drew.cell? ⟨p5, k * 12 + 2, none⟩ = some (.int .i64 x2) := y2'
      have nn5 : wr.drew.cell? ⟨p5, k * 12 + 3, none⟩ = some (.int .i64 x3) := y3'
      have nn6 : wr.drew.cell? ⟨p5, k * 12 + 4, none⟩ = some (.int .i64 x4) := y4'
      have nn7 : wr.drew.cell? ⟨p5, k * 12 + 5, none⟩ = some (.bool lk) := y5'
      have nn8 : wr.drew.cell? ⟨p5, k * 12 + 6, none⟩ = some (.string nm) := y6'
      have nn9 : wr.drew.cell? ⟨p5, k * 12 + 7, none⟩ = some (.int .i64 tk) := y7'
      have nn10 : wr.drew.cell? ⟨p5, k * 12 + 8, none⟩ = some (.int .i64 tn) := y8'
      have nn11 : wr.drew.cell? ⟨p5, k * 12 + 9, none⟩ = some (.float .f64 tf) := y9'
      have nn12 : wr.drew.cell? ⟨p5, k * 12 + 10, none⟩ = some (.string ts) := y10'
      have nn13 : wr.drew.cell? ⟨p5, k * 12 + 11, none⟩ = some (.slice ta tL tc) := y11'
      have nn14 : wr.drew.cell? ⟨p6, k * 12, none⟩ = some (.int .i64 x0) := z0'
      have nn15 : wr.drew.cell? ⟨p6, k * 12 + 1, none⟩ = some (.int .i64 x1) := z1'
      have nn16 : wr.drew.cell? ⟨p6, k * 12 + 2, none⟩ = some (.int .i64 x2) := z2'
      have nn17 : wr.drew.cell? ⟨p6, k * 12 + 3, none⟩ = some (.int .i64 x3) := z3'
      have nn18 : wr.drew.cell? ⟨p6, k * 12 + 4, none⟩ = some (.int .i64 x4) := z4'
      have nn19 : wr.drew.cell? ⟨p6, k * 12 + 5, none⟩ = some (.bool lk) := z5'
      have nn20 : wr.drew.cell? ⟨p6, k * 12 + 6, none⟩ = some (.string nm) := z6'
      have nn21 : wr.drew.cell? ⟨p6, k * 12 + 7, none⟩ = some (.int .i64 uk) := z7'
      have nn22 : wr.drew.cell? ⟨p6, k * 12 + 8, none⟩ = some (.int .i64 un) := z8'
      have nn23 : wr.drew.cell? ⟨p6, k * 12 + 9, none⟩ = some (.float .f64 uf) := z9'
      have nn24 : wr.drew.cell? ⟨p6, k * 12 + 10, none⟩ = some (.string us) := z10'
      have nn25 : wr.drew.cell? ⟨p6, k * 12 + 11, none⟩ = some (.slice ua uL uc) := z11'
      go_region_held3 (fun w9 => w9.cell? ⟨g1, m * 3 + 2, none⟩ = some (.slice (some ⟨p5, 0, none⟩) D c5) ∧ w9.cell? ⟨g2, m * 3 + 2, none⟩ = some (.slice (some ⟨p6, 0, none⟩) D c6) ∧ w9.cell? ⟨p5, k * 12, none⟩ = some (.int .i64 x0) ∧ w9.cell? ⟨p5, k * 12 + 1, none⟩ = some (.int .i64 x1) ∧ w9.cell? ⟨p5, k * 12 + 2, none⟩ = some (.int .i64 x2) ∧ w9.cell? ⟨p5, k * 12 + 3, none⟩ = some (.int .i64 x3) ∧ w9.cell? ⟨p5, k * 12 + 4, none⟩ = some (.int .i64 x4) ∧ w9.cell? ⟨p5, k * 12 + 5, none⟩ = some (.bool lk) ∧ w9.cell? ⟨p5, k * 12 + 6, none⟩ = some (.string nm) ∧ w9.cell? ⟨p5, k * 12 + 7, none⟩ = some (.int .i64 tk) ∧ w9.cell? ⟨p5, k * 12 + 8, none⟩ = some (.int .i64 tn) ∧ w9.cell? ⟨p5, k * 12 + 9, none⟩ = some (.float .f64 tf) ∧ w9.cell? ⟨p5, k * 12 + 10, none⟩ = some (.string ts) ∧ w9.cell? ⟨p5, k * 12 + 11, none⟩ = some (.slice ta tL tc) ∧ w9.cell? ⟨p6, k * 12, none⟩ = some (.int .i64 x0) ∧ w9.cell? ⟨p6, k * 12 + 1, none⟩ = some (.int .i64 x1) ∧ w9.cell? ⟨p6, k * 12 + 2, none⟩ = some (.int .i64 x2) ∧ w9.cell? ⟨p6, k * 12 + 3, none⟩ = some (.int .i64 x3) ∧ w9.cell? ⟨p6, k * 12 + 4, none⟩ = some (.int .i64 x4) ∧ w9.cell? ⟨p6, k * 12 + 5, none⟩ = some (.bool lk) ∧ w9.cell? ⟨p6, k * 12 + 6, none⟩ = some (.string nm) ∧ w9.cell? ⟨p6, k * 12 + 7, none⟩ = some (.int .i64 uk) ∧ w9.cell? ⟨p6, k * 12 + 8, none⟩ = some (.int .i64 un) ∧ w9.cell? ⟨p6, k * 12 + 9, none⟩ = some (.float .f64 uf) ∧ w9.cell? ⟨p6, k * 12 + 10, none⟩ = some (.string us) ∧ w9.cell? ⟨p6, k * 12 + 11, none⟩ = some (.slice ua uL uc)) (first | with_reducible exact ⟨nn0, nn1, nn2, nn3, nn4, nn5, nn6, nn7, nn8, nn9, nn10, nn11, nn12, nn13, nn14, nn15, nn16, nn17, nn18, nn19, nn20, nn21, nn22, nn23, nn24, nn25⟩ | with_reducible exact ⟨mm0, mm1, mm2, mm3, mm4, mm5, mm6, mm7, mm8, mm9, mm10, mm11, mm12, mm13, mm14, mm15, mm16, mm17, mm18, mm19, mm20, mm21, mm22, mm23, mm24, mm25⟩ | go_keep) (first
        | (go_at_call 27; refine (SS.out _ ((Below.refl _ _).drew)).mono ?_; rintro e w3 ⟨rfl, hb3⟩; have HB3 := hidb (HB2.out.trans ((((Below.refl _ wr).drew).trans hb3).mono HB2.out.size)); have mm0 := (hb3.cell (World.block_lt_of_cell? _ _ nn0)).trans nn0; have mm1 := (hb3.cell (World.block_lt_of_cell? _ _ nn1)).trans nn1; have mm2 := (hb3.cell (World.block_lt_of_cell? _ _ nn2)).trans nn2; have mm3 := (hb3.cell (World.block_lt_of_cell? _ _ nn3)).trans nn3; have mm4 := (hb3.cell (World.block_lt_of_cell? _ _ nn4)).trans nn4; have mm5 := (hb3.cell (World.block_lt_of_cell? _ _ nn5)).trans nn5; have mm6 := (hb3.cell (World.block_lt_of_cell? _ _ nn6)).trans nn6; have mm7 := (hb3.cell (World.block_lt_of_cell? _ _ nn7)).trans nn7; have mm8 := (hb3.cell (World.block_lt_of_cell? _ _ nn8)).trans nn8; have mm9 := (hb3.cell (World.block_lt_of_cell? _ _ nn9)).trans nn9; have mm10 := (hb3.cell (World.block_lt_of_cell? _ _ nn10)).trans nn10; have mm11 := (hb3.cell (World.block_lt_of_cell? _ _ nn11)).trans nn11; have mm12 := (hb3.cell (World.block_lt_of_cell? _ _ nn12)).trans nn12; have mm13 := (hb3.cell (World.block_lt_of_cell? _ _ nn13)).trans nn13; have mm14 := (hb3.cell (World.block_lt_of_cell? _ _ nn14)).trans nn14; have mm15 := (hb3.cell (World.block_lt_of_cell? _ _ nn15)).trans nn15; have mm16 := (hb3.cell (World.block_lt_of_cell? _ _ nn16)).trans nn16; have mm17 := (hb3.cell (World.block_lt_of_cell? _ _ nn17)).trans nn17; have mm18 := (hb3.cell (World.block_lt_of_cell? _ _ nn18)).trans nn18; have mm19 := (hb3.cell (World.block_lt_of_cell? _ _ nn19)).trans nn19; have mm20 := (hb3.cell (World.block_lt_of_cell? _ _ nn20)).trans nn20; have mm21 := (hb3.cell (World.block_lt_of_cell? _ _ nn21)).trans nn21; have mm22 := (hb3.cell (World.block_lt_of_cell? _ _ nn22)).trans nn22; have mm23 := (hb3.cell (World.block_lt_of_cell? _ _ nn23)).trans nn23; have mm24 := (hb3.cell (World.block_lt_of_cell? _ _ nn24)).trans nn24; have mm25 := (hb3.cell (World.block_lt_of_cell? _ _ nn25)).trans nn25; clear hb3))
      go_wp2_with fail
      go_roundw
      case rel => exact ⟨k + 1, by omega, by go_num, HB3.out⟩
      case measure => simp [RowKit.intOf]; omega
    · have hkn : ¬ (k : Int) < (D : Int) := by omega
      go_wp2_with fail
      go_roundw
      case rel => exact ⟨m + 1, by omega, by go_num, HW2.out⟩
      case measure => simp [RowKit.intOf]; omega
  · have hmn2 : ¬ (m : Int) < (n : Int) := by omega
    go_wp2_with fail
    go_ret
    exact ⟨rfl, HW.out⟩
end Go.Proofs.YtpcpdehnppfbfaaGreat


