/- Contracts of the program's registry: a name is entered. -/
import Derived.Test.YtfhgohpldpnkbaaNm3
import Derived.BigQuiet
namespace Go.Proofs.Ytfhgohpldpnkbaa
open Go.RowKit Go.Lib Go.Maps Go.WideMaps

theorem map_nil1 (w : World) : (binOp .eql MO (.map none) (.map none)).run Try.prog w = .ok (.bool true) w := by kernel_rfl
theorem map_nil0 (a : Nat) (w : World) : (binOp .eql MO (.map (some a)) (.map none)).run Try.prog w = .ok (.bool false) w := by kernel_rfl

theorem turned_but {w w' : World} {b : Nat} (h : w.mapTurned w' b) : But (fun k => k = b) w w' := by
  have hg := h.grown
  exact ⟨hg.os, hg.tape, hg.output, hg.size, fun k hk hs => hg.block k hk (fun e => hs (by simpa using e))⟩
theorem NAt.enter {W : World} {a b c K : Nat} {R : List NP} (h : NAt W b (some (a, c)) K R) {s : ByteArray} {p : Int} (hm : may R s p = true) (hw : wfi p) (hK : K < maxLen) :
    ∃ w1 w2, (Instr.mapUpdate MO (.map (some a)) (.string s) (.agg #[.int .i64 p])).run Try.prog W = .ok () w1 ∧ w1.cell? ⟨b, 1, none⟩ = some (.map (some c)) ∧ (Instr.mapUpdate MN (.map (some c)) (.int .i64 p) (.agg #[.string s])).run Try.prog w1 = .ok () w2 ∧ NAt w2 b (some (a, c)) (K + 1) (insN R s p) ∧ But (fun k => k = a ∨ k = c) W w2 := by
  have hreg := h.reg
  have hss : s.size ≤ maxLen := by have := (ok_size (may_iff.1 hm).1).2.1; unfold maxLen; omega
  rcases h.mp with ⟨e, _⟩ | ⟨a', c', Da, Ea, e, h1, h2, h3, h4, n1, n2, n3⟩
  · cases e
  cases e
  obtain ⟨w1, hrun1, ho1, ht1⟩ := h1.store lawS undMO hK (keyS hss) (oElem_mk p)
  have hb1 := turned_but ht1
  have h2' := own_but h2 hb1 (fun e => n3 e.symm)
  obtain ⟨w2, hrun2, ho2, ht2⟩ := h2'.store lawI undMN hK (keyI hw) (nElem_mk s)
  have hb2 := turned_but ht2
  have hd1 := h.duo.but hb1 (fun e => n1 e.symm)
  exact ⟨w1, w2, hrun1, hd1.c1, hrun2, ⟨hd1.but hb2 (fun e => n2 e.symm), .inr ⟨a, c, _, _, rfl, own_but ho1 hb2 n3, ho2, h3.ins h1.isMap hreg hm hw, h4.ins h2'.isMap hreg hm hw, n1, n2, n3⟩, hreg.ins hm hw⟩, (hb1.mono (fun k _ e => .inl e)).trans (hb2.mono (fun k _ e => .inr e))⟩
abbrev made2 (w : World) (b : Nat) : World := (((w.setCell ⟨b, 0, none⟩ (.map (some w.heap.size))).setCell ⟨b, 1, none⟩ (.map (some (w.heap.size + 1)))).alloc (.map #[] 0)).alloc (.map #[] 0)
theorem NAt.made {w : World} {b K : Nat} {R : List NP} (h : NAt w b none K R) : NAt (made2 w b) b (some (w.heap.size, w.heap.size + 1)) 0 R ∧ But (fun k => k = b) w (made2 w b) := by
  have hlt := h.lt
  have hR : R = [] := by
    rcases h.mp with ⟨_, e⟩ | ⟨_, _, _, _, e, _⟩
    · exact e
    · cases e
  subst hR
  obtain ⟨W, hW⟩ : ∃ W, (w.setCell ⟨b, 0, none⟩ (.map (some w.heap.size))).setCell ⟨b, 1, none⟩ (.map (some (w.heap.size + 1))) = W := ⟨_, rfl⟩
  have hs : W.heap.size = w.heap.size := by rw [← hW]; simp
  have hd : Duo W b (.map (some w.heap.size)) (.map (some (w.heap.size + 1))) := by rw [← hW]; exact (h.duo.set0 _).set1 _
  have hb : But (fun k => k = b) w W := by rw [← hW]; exact ((But.refl (fun k => k = b) w).setCell (p := ⟨b, 0, none⟩) (fun _ => rfl) _).setCell (p := ⟨b, 1, none⟩) (fun _ => rfl) _
  have e1 := World.ownsMap_made W Try.prog ST oElem
  have e2 := World.ownsMap_made (W.alloc (.map #[] 0)) Try.prog IT nElem
  have hs2 : (W.alloc (.map #[] 0)).heap.size = w.heap.size + 1 := by simp [hs]
  rw [hs] at e1
  rw [hs2] at e2
  unfold made2
  rw [hW]
  refine ⟨⟨(hd.keep (below_new _ _)).keep (below_new _ _), .inr ⟨_, _, _, _, rfl, e1.alloc _, e2, ownD_nil, namD_nil, by omega, by omega, by omega⟩, reg_nil⟩, (hb.alloc _).alloc _⟩

set_option maxHeartbeats 1000000 in
theorem enter_any {w : World} {b K : Nat} {D : Nat → Prop} {R : List NP} (h : PN w b D K R) {s : ByteArray} {p : Int} (hm : may R s p = true) (hw : wfi p) (hK : K < maxLen) :
    Calls Try.prog 24 #[.pointer (some ⟨b, 0, none⟩), .string s, .int .i64 p] w fun e w' => e = .returned (.tuple #[]) ∧ PU w w' b D (K + 1) (insN R s p) := by
  obtain ⟨m, h, hd⟩ := h
  have hduo := h.duo
  match m, h, hd, hduo with
  | none, h, hd, hduo =>
    obtain ⟨h1, hb1⟩ := h.made
    have hlt := h.lt
    obtain ⟨w1, w2, r1, hc, r2, h2, hb2⟩ := h1.enter hm hw (by unfold maxLen; omega)
    have hd1 := h1.duo.c0
    have HP : Hid (PU w w2 b D (K + 1) (insN R s p)) := hidb (by
      have hsz : (made2 w b).heap.size = w.heap.size + 1 + 1 := by simp
      have hs2 := hb2.size
      refine ⟨⟨hb2.os.trans hb1.os, hb2.tape.trans hb1.tape, hb2.output.trans hb1.output, Nat.le_trans hb1.size hs2, fun k hk hn => (hb2.block k (by omega) (by omega)).trans (hb1.block k hk (fun e => hn (.inl e)))⟩, some (w.heap.size, w.heap.size + 1), ?_, fun k ⟨x, y, e, hk⟩ => .inr ?_⟩
      · exact ⟨h2.duo, by
          rcases h2.mp with e | ⟨x, y, Dx, Ex, e, q1, q2, q3⟩
          · exact .inl e
          · exact .inr ⟨x, y, Dx, Ex, e, q1.mono (by omega), q2.mono (by omega), q3⟩, h2.reg⟩
      · cases e; omega)
    obtain ⟨c0, c1, f0, f1, -⟩ := hduo
    simp only [Option.map_none] at c0 c1
    unfold made2 at r1
    have hmm := @run_makeMap Try.prog
    have hmn := map_nil1
    clear h h1 hb1 h2 hb2 hd hm hw hK hd1
    go_enter Try.func24, Try.ntmps24
    go_wp2
    go_end0
    exact ⟨rfl, HP.out⟩
  | some (a, c), h, hd, hduo =>
    obtain ⟨w1, w2, r1, hc, r2, h2, hb2⟩ := h.enter hm hw hK
    have HP : Hid (PU w w2 b D (K + 1) (insN R s p)) := hidb ⟨hb2.mono (fun k _ e => .inr (hd k ⟨a, c, rfl, e⟩)), some (a, c), h2, fun k hk => .inl (hd k hk)⟩
    obtain ⟨c0, c1, f0, f1, hlt⟩ := hduo
    simp only [Option.map_some] at c0 c1
    have hmn := map_nil0 a
    clear h h2 hb2 hd hm hw hK
    go_enter Try.func24, Try.ntmps24
    go_wp2
    go_end0
    exact ⟨rfl, HP.out⟩
end Go.Proofs.Ytfhgohpldpnkbaa
