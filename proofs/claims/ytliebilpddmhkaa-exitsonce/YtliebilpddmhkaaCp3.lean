/- term.Copy of any term: the same term, in new memory. -/
import Derived.Test.YtliebilpddmhkaaCp2
namespace Go.Proofs.Ytliebilpddmhkaa
open Go.Deep Go.RowKit Go.Lib
attribute [local go_sem] store_float f64bits
attribute [local go_sem ↓] Go.wp_at_zero Go.wp_at_succ

theorem in_base {w : World} {B C : Nat} (hBC : B ≤ C) : ∀ t : Tr, t.In w C → t.In w B := by
  intro t
  induction t using Tr.ind with
  | h k n f s a c kids ih =>
  intro h
  unfold Tr.In at h ⊢
  refine ⟨h.1, fun ad had => ⟨Nat.le_trans hBC (h.2 ad had).1, inAll_of fun j u hu => ?_⟩⟩
  have g := inAll_get (h.2 ad had).2 j u hu
  refine ⟨fun i hi => ?_, ih u (List.mem_of_getElem? hu) g.2⟩
  rw [add_add]
  exact g.1 i hi

theorem in_over {w w' : World} {C : Nat} (hw : ∀ p v, C ≤ p.block → w.cell? p = some v → w'.cell? p = some v) : ∀ t : Tr, t.In w C → t.In w' C := by
  refine Tr.ind fun k n f s a c kids hk h => ?_
  unfold Tr.In at h ⊢
  refine ⟨h.1, fun ad had => ⟨(h.2 ad had).1, inAll_of fun j t hj => ?_⟩⟩
  have g := inAll_get (h.2 ad had).2 j t hj
  refine ⟨fun i hi => ?_, hk t (List.mem_of_getElem? hj) g.2⟩
  rw [add_add]
  have e := g.1 i hi
  have hl : i < t.cells.length := by cases t; simpa [Tr.cells] using hi
  rw [List.getElem?_eq_getElem hl] at e ⊢
  exact hw _ _ (by rw [show (ad.add (j * 5 + i)).block = ad.block by unfold Addr.add; split <;> rfl]; exact (h.2 ad had).1) e

theorem in_set {w : World} {C : Nat} {t : Tr} (h : t.In w C) {p : Addr} (hp : p.block < C) (v : Value) : t.In (w.setCell p v) C :=
  in_over (fun q u hq hu => by rw [World.cell?_setCell_other]; exact hu; intro e; subst e; omega) t h

/-- The one term of a copied row. -/
theorem copy_take {t : Tr} {ts' : List Tr} {w : World} {B g : Nat} (hs : SmA [t] ts') (hi : Tr.InAll w B ⟨g, 0, none⟩ ts') : ∃ t' : Tr, Sm t t' ∧ t'.In w B ∧ (match t' with | .mk k n f s a c kids => w.cell? ⟨g, 0, none⟩ = some (.int .i64 k) ∧ w.cell? ⟨g, 1, none⟩ = some (.int .i64 n) ∧ w.cell? ⟨g, 2, none⟩ = some (.float .f64 f) ∧ w.cell? ⟨g, 3, none⟩ = some (.string s) ∧ w.cell? ⟨g, 4, none⟩ = some (.slice a kids.length c)) := by
  match ts', hs with
  | [t'], hs =>
    unfold SmA at hs
    unfold Tr.InAll at hi
    obtain ⟨hc, hin, _⟩ := hi
    obtain ⟨k, n, f, s, a, c, kids⟩ := t'
    refine ⟨_, hs.1, hin, ?_⟩
    have h0 := hc 0 (by omega); have h1 := hc 1 (by omega); have h2 := hc 2 (by omega); have h3 := hc 3 (by omega); have h4 := hc 4 (by omega)
    simp [Addr.add, Tr.cells] at h0 h1 h2 h3 h4
    exact ⟨h0, h1, h2, h3, h4⟩
  | [], hs => unfold SmA at hs; exact hs.elim
  | _ :: _ :: _, hs => unfold SmA at hs; have := hs.2; unfold SmA at this; exact this.elim

theorem copyAll_one (k n : Int) (f : Nat) (s : ByteArray) (a : Option Addr) (c : Nat) (kids : List Tr) (W : World) (b g : Nat) (hg : W.heap.size = g) (bx : Box W b (.int .i64 k) (.int .i64 n) (.float .f64 f) (.string s) (.slice a kids.length c)) (hin : (Tr.mk k n f s a c kids).In W 0) (hsm : Small (.mk k n f s a c kids)) (hcn : cnT (.mk k n f s a c kids) ≤ 1000000000) :
    Calls Try.prog 44 #[.slice (some ⟨b, 0, none⟩) 1 1] W fun e w1 => ∃ t2 : Tr, e = .returned (.slice (some ⟨g, 0, none⟩) 1 1) ∧ Sm (.mk k n f s a c kids) t2 ∧ t2.In w1 g ∧ (match t2 with | .mk k n f s a c kids => w1.cell? ⟨g, 0, none⟩ = some (.int .i64 k) ∧ w1.cell? ⟨g, 1, none⟩ = some (.int .i64 n) ∧ w1.cell? ⟨g, 2, none⟩ = some (.float .f64 f) ∧ w1.cell? ⟨g, 3, none⟩ = some (.string s) ∧ w1.cell? ⟨g, 4, none⟩ = some (.slice a kids.length c)) ∧ Below W.heap.size W w1 := by
  subst hg
  refine (copyAll_any [.mk k n f s a c kids] ⟨b, 0, none⟩ 1 W (by simp) (by simp) (fun t ht => by
    obtain rfl : t = .mk k n f s a c kids := by simpa using ht
    exact ⟨hin, hsm⟩) (fun j v hj => by
    simp only [rowCells, Tr.cells, List.append_nil] at hj
    match j, hj with
    | 0, hj => simp at hj; subst hj; simpa [Addr.add] using bx.c0
    | 1, hj => simp at hj; subst hj; simpa [Addr.add] using bx.c1
    | 2, hj => simp at hj; subst hj; simpa [Addr.add] using bx.c2
    | 3, hj => simp at hj; subst hj; simpa [Addr.add] using bx.c3
    | 4, hj => simp at hj; subst hj; simpa [Addr.add] using bx.c4
    | j + 5, hj => simp at hj) (by simpa [cnA] using hcn)).mono ?_
  rintro e w1 ⟨ts', rfl, hsa, hia, hb⟩
  obtain ⟨t2, hs2, hi2, hq⟩ := copy_take hsa hia
  exact ⟨t2, rfl, hs2, hi2, hq, hb⟩

set_option maxHeartbeats 1000000 in
theorem copy_any (t : Tr) (w : World) (hin : t.In w 0) (hsm : Small t) (hcn : cnT t ≤ 1000000000) : Calls Try.prog 37 #[t.val] w fun e w' => ∃ t', e = .returned t'.val ∧ Sm t t' ∧ t'.In w' w.heap.size ∧ Below w.heap.size w w' := by
  obtain ⟨k, n, f, s, a, c, kids⟩ := t
  simp only [Tr.val, Tr.cells]
  have bx : Box (((w.alloc (.cells #[.int .i64 k, .int .i64 n, .float .f64 f, .string s, .slice a kids.length c] TT)).alloc (.cells #[.int .i64 0, .int .i64 0, .float .f64 0, .string ⟨#[]⟩, .slice none 0 0] TT)).alloc (.cells #[.int .i64 k, .int .i64 n, .float .f64 f, .string s, .slice a kids.length c] TT)) (w.heap.size + 1 + 1) (.int .i64 k) (.int .i64 n) (.float .f64 f) (.string s) (.slice a kids.length c) := by
    have := Box.new ((w.alloc (.cells #[.int .i64 k, .int .i64 n, .float .f64 f, .string s, .slice a kids.length c] TT)).alloc (.cells #[.int .i64 0, .int .i64 0, .float .f64 0, .string ⟨#[]⟩, .slice none 0 0] TT)) TT (.int .i64 k) (.int .i64 n) (.float .f64 f) (.string s) (.slice a kids.length c)
    simpa using this
  have rx : Box (((w.alloc (.cells #[.int .i64 k, .int .i64 n, .float .f64 f, .string s, .slice a kids.length c] TT)).alloc (.cells #[.int .i64 0, .int .i64 0, .float .f64 0, .string ⟨#[]⟩, .slice none 0 0] TT)).alloc (.cells #[.int .i64 k, .int .i64 n, .float .f64 f, .string s, .slice a kids.length c] TT)) (w.heap.size + 1) (.int .i64 0) (.int .i64 0) (.float .f64 0) (.string ⟨#[]⟩) (.slice none 0 0) := by
    have := (Box.new (w.alloc (.cells #[.int .i64 k, .int .i64 n, .float .f64 f, .string s, .slice a kids.length c] TT)) TT (.int .i64 0) (.int .i64 0) (.float .f64 0) (.string ⟨#[]⟩) (.slice none 0 0)).alloc (.cells #[.int .i64 k, .int .i64 n, .float .f64 f, .string s, .slice a kids.length c] TT)
    simpa using this
  have bw : Below w.heap.size w (((w.alloc (.cells #[.int .i64 k, .int .i64 n, .float .f64 f, .string s, .slice a kids.length c] TT)).alloc (.cells #[.int .i64 0, .int .i64 0, .float .f64 0, .string ⟨#[]⟩, .slice none 0 0] TT)).alloc (.cells #[.int .i64 k, .int .i64 n, .float .f64 f, .string s, .slice a kids.length c] TT)) := ((below_new w _).alloc (by simp) _).alloc (by simp; omega) _
  have CA := hidb (copyAll_one k n f s a c kids _ _ (w.heap.size + 1 + 1 + 1) (by simp) bx (in_below bw hin) hsm hcn)
  have RX := hidb rx
  have BW := hidb bw
  have HSZ : Hid (w.heap.size ≤ (((w.alloc (.cells #[.int .i64 k, .int .i64 n, .float .f64 f, .string s, .slice a kids.length c] TT)).alloc (.cells #[.int .i64 0, .int .i64 0, .float .f64 0, .string ⟨#[]⟩, .slice none 0 0] TT)).alloc (.cells #[.int .i64 k, .int .i64 n, .float .f64 f, .string s, .slice a kids.length c] TT)).heap.size) := hidb bw.size
  generalize kids.length = KL at *
  clear bx rx bw
  go_enter Try.func37, Try.ntmps37
  go_wp2_with (first | (go_at_call 44; refine CA.out.mono ?_; rintro e w1 ⟨⟨k2, n2, f2, s2, a2, c2, kids2⟩, rfl, hs2, hi2, ⟨q0, q1, q2, q3, q4⟩, hb⟩; obtain ⟨r0, r1, r2, r3, r4, g0, g1, g2, g3, g4, -⟩ := RX.out.keep hb; have HS := hidb hs2; have HI := hidb hi2; have HB := hidb (BW.out.trans (hb.mono BW.out.size)); clear hb hs2 hi2 CA RX BW HSZ))
  exact bodyPost_ret (v := .agg #[.int .i64 k2, .int .i64 n2, .float .f64 f2, .string s2, .slice a2 kids2.length c2]) (by simp [results, Try.results37, go_sem, r0, r1, r2, r3, r4]) rfl ⟨.mk k2 n2 f2 s2 a2 c2 kids2, rfl, HS.out, in_base (by omega) _ (in_set (in_set (in_set (in_set (in_set HI.out (by simp) _) (by simp) _) (by simp) _) (by simp) _) (by simp) _), ((((HB.out.setCell (by simp) _).setCell (by simp) _).setCell (by simp) _).setCell (by simp) _).setCell (by simp) _⟩
end Go.Proofs.Ytliebilpddmhkaa
