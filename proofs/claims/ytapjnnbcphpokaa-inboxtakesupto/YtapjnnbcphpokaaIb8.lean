/- Take, walked. -/
import Derived.Test.YtapjnnbcphpokaaIb7
namespace Go.Proofs.Ytapjnnbcphpokaa
open Go.RowKit Go.Deep
attribute [local go_sem] store_float f64bits
attribute [local go_sem ↓] Go.wp_at_zero Go.wp_at_succ
variable {w : World} {bb place most puts : Nat} {ms : List Msg} {R : Nat → Prop}

theorem rewindB (h : BX w bb ms place most puts R) : Calls Try.prog 26 #[.pointer (some ⟨bb, 0, none⟩)] w fun e w' => e = .returned (.tuple #[]) ∧ w' = w.setCell ⟨bb, 2, none⟩ (.pointer none) := by
  obtain ⟨c2, f2⟩ := h.box.1 2 _ rfl
  clear h
  go_enter Try.func26, Try.ntmps26
  go_wp2
  exact bodyPost_end (by simp [results, Try.results26]) rfl ⟨rfl, rfl⟩

theorem take_facts {w w3 w5 : World} {C B0 : Nat} {S : Nat → Prop} {t : Tr} {told zs : List Value} {ty : TypeId} (h : BX w3 bb ms place most puts R) (hin : t.In w3 C) (hb : But S w w3) (hA : At w3 B0 zs) (hB0 : ¬ B0 = bb) (hC : bb < C) (hw : w5 = (w3.alloc (.cells told.toArray ty)).setCell ⟨bb, 2, none⟩ (.pointer none)) (hS : S bb := by exact .inl rfl) :
    BX w5 bb ms 0 most puts R ∧ At w5 w3.heap.size told ∧ At w5 B0 zs ∧ t.In w5 C ∧ But S w w5 ∧ ¬ w3.heap.size = B0 := by
  subst hw
  have hbl := h.box.2
  refine ⟨(h.keep (below_new w3 _)).wind, (At.new w3 told ty).other (p := ⟨bb, 2, none⟩) (fun e => by have e' : bb = w3.heap.size := e; omega) _, (hA.keep (below_new w3 _)).other (p := ⟨bb, 2, none⟩) (fun e => hB0 e.symm) _, in_set (in_over (fun p v _ hv => ((below_new w3 _).cell (World.block_lt_of_cell? _ _ hv)).trans hv) _ hin) hC _, (hb.alloc _).setCell (p := ⟨bb, 2, none⟩) (fun _ => hS) _, fun e => by have := hA.2; omega⟩

set_option maxHeartbeats 1000000 in
set_option maxRecDepth 100000 in
theorem takeB (h : BX w bb ms (place + 1) most puts R) {m : Msg} (hm : ms[place]? = some m) (hs : Small m.t) (hcn : cnT m.t ≤ 1000000000) (hl : ms.length ≤ 1000000) (hwd : wds ms ≤ 1000000000000) :
    Calls Try.prog 18 #[.pointer (some ⟨bb, 0, none⟩)] w fun e w' => ∃ (k' n' : Int) (f' : Nat) (s' : ByteArray) (a' : Option Addr) (c' : Nat) (kids' : List Tr), e = .returned (.tuple #[.agg #[.int .i64 k', .int .i64 n', .float .f64 f', .string s', .slice a' kids'.length c'], .int .i64 0]) ∧ Sm m.t (.mk k' n' f' s' a' c' kids') ∧ (Tr.mk k' n' f' s' a' c' kids').In w' w.heap.size ∧ BX w' bb (ms.eraseIdx place) 0 most puts R ∧ But (BS bb ms) w w' := by
  have hp1 : prv ms (place + 1) = some m.b := by unfold prv; rw [if_neg (by omega), Nat.add_sub_cancel, hm]; rfl
  have hX := h.keep (below_new w zT)
  obtain ⟨c2, f2⟩ := hX.box.1 2 _ rfl
  rw [hp1] at c2
  simp only [pt, Option.map_some] at c2
  have hbl := h.box.2
  have HR := hidb (fun W hb => removeB (w := W) (h.keep hb) hm hs hcn hl hwd)
  have AZ := At.new w [.int .i64 0, .int .i64 0, .float .f64 0, .string ⟨#[]⟩, .slice none 0 0] 36
  have HAZ := hidb AZ
  have hltm : ∀ x : Msg, x ∈ ms → x.b < w.heap.size := fun x hx => by
    obtain ⟨i, hi⟩ := List.getElem?_of_mem hx
    exact (h.msg i x hi).2
  have HNB : Hid (¬ BS bb ms w.heap.size) := hidb (by
    rintro (e | ⟨x, hx, e⟩)
    · omega
    · have := hltm x hx; omega)
  have HFR : Hid (∀ q, R q → q ≠ w.heap.size) := hidb (fun q hq => by have := (h.far q hq).1; omega)
  have HBS : Hid (∀ q, BS bb (ms.eraseIdx place) q → q ≠ w.heap.size) := hidb (by
    rintro q (e | ⟨x, hx, e⟩)
    · omega
    · have := hltm x (List.mem_of_mem_eraseIdx hx)
      omega)
  have hwb : ¬ w.heap.size = bb := by omega
  have hwb' : ¬ bb = w.heap.size := by omega
  clear h hX AZ hltm hm hs hcn hp1
  go_enter Try.func18, Try.ntmps18
  go_wp2_with (first
    | (go_at_call 39; refine (HR.out _ (below_new w zT)).mono ?_; rintro e w3 ⟨k', n', f', s', a', c', kids', rfl, hst, hti, hx3, hb3⟩; have HX3 := hidb hx3; have HTI := hidb hti; have HST := hidb hst; have HB3 := hidb ((But.of_below (S := BS bb ms) (below_new w zT)).trans (hb3.mono (fun _ _ h => h))); have HA3 := hidb (HAZ.out.but hb3 HNB.out); clear hst hti hx3 hb3)
    | (go_at_call 26; refine (rewindB (HX3.out.keep (below_new w3 _))).mono ?_; rintro e w5 ⟨rfl, hw5⟩; have HF5 := hidb (take_facts (told := [.int .i64 k', .int .i64 n', .float .f64 f', .string s', .slice a' kids'.length c']) HX3.out HTI.out HB3.out HA3.out hwb (by simp; omega) hw5); obtain ⟨x0, -⟩ := HF5.out.2.1.1 0 _ rfl; obtain ⟨x1, -⟩ := HF5.out.2.1.1 1 _ rfl; obtain ⟨x2, -⟩ := HF5.out.2.1.1 2 _ rfl; obtain ⟨x3, -⟩ := HF5.out.2.1.1 3 _ rfl; obtain ⟨x4, -⟩ := HF5.out.2.1.1 4 _ rfl; obtain ⟨r0, g0⟩ := HF5.out.2.2.1.1 0 _ rfl; obtain ⟨r1, g1⟩ := HF5.out.2.2.1.1 1 _ rfl; obtain ⟨r2, g2⟩ := HF5.out.2.2.1.1 2 _ rfl; obtain ⟨r3, g3⟩ := HF5.out.2.2.1.1 3 _ rfl; obtain ⟨r4, g4⟩ := HF5.out.2.2.1.1 4 _ rfl; have hlt5 := HF5.out.2.2.2.2.2; clear hw5))
  have HF := hidb (next_fin2 (w := w) (S := BS bb ms) (u0 := .int .i64 k') (u1 := .int .i64 n') (u2 := .float .f64 f') (u3 := .string s') (u4 := .slice a' kids'.length c') HF5.out.1 HF5.out.2.2.2.1 HF5.out.2.2.2.2.1 HFR.out HBS.out (by simp))
  exact bodyPost_ret (v := .tuple #[.agg #[.int .i64 k', .int .i64 n', .float .f64 f', .string s', .slice a' kids'.length c'], .int .i64 0]) (by simp [results, Try.results18, go_sem, r0, r1, r2, r3, r4]) rfl ⟨k', n', f', s', a', c', kids', rfl, HST.out, HF.out.1, HF.out.2.1, HF.out.2.2⟩
end Go.Proofs.Ytapjnnbcphpokaa
