import Derived.Test.YtdpfmmbfidknfaaGreatDoorG31
/- group, body, guard. -/
namespace Go.Proofs.YtdpfmmbfidknfaaGreatDoor
open Go.RowKit Go.Lib
attribute [local go_sem] store_float f64bits
attribute [local go_sem ↓] Go.wp_at_zero Go.wp_at_succ
attribute [local go_sem] nd_p tk_k tk_x tk_n tk_f tk_p
variable {B g b o : Nat} {e : PM Nat}

set_option maxHeartbeats 2000000 in
set_option maxRecDepth 100000 in
theorem pGroup (hE : EC B g b o e) (kind : Int) {P : Nat → Prop} {w : World} {V : Value} {s : PS} (h : At B g b o P w V s) :
    Calls Tryz.prog 83 #[.pointer (some ⟨g, 0, none⟩), .int .i64 kind] w fun r w' => Rz B g b o P w V (Gm.group e kind s) iv r w' := by
  have H : Hid (St B g b o P w V w V s) := hidb h
  obtain ⟨R, hR⟩ : ∃ R, Gm.group e kind s = R := ⟨_, rfl⟩
  rw [hR]
  have HR := hidb hR.symm
  clear hR
  have HE := hidb hE
  clear h hE
  go_enter Tryz.func83, Tryz.ntmps83
  go_wp2_with (first
    | (go_at_call 32; refine (sHere H.out.at).mono ?_; rintro r1 w1 ⟨t, hq, rfl, hs, hb⟩; have H := hidb (H.out.below hb); have HR := hidb (HR.out.trans (Gm.bind_here hq)); have Tt := hidb hq; clear hs hb hq)
    | (go_at_call 80; refine (pExprs HE.out Gm.noBound H.out.at).mono ?_; rintro r1 w1 (⟨er, q, hq, rfl, hbu⟩ | ⟨l, s1, V1, v, hq, rfl, hs, hs2, hi, hlen⟩) <;> first | (obtain ⟨la, lc, rfl⟩ := hi.sl; have HI := hidb (hi.lr H.out.plt);  have HL := hidb hs; have H := hidb (H.out.trans hs); (first | (with_reducible have HR := hidb (HR.out.trans hq)) | have HR := hidb (HR.out.trans (Gm.bind_ok hq))); clear hs hs2 hi hq hlen) | ((first | (with_reducible have HR := hidb (HR.out.trans hq)) | have HR := hidb (HR.out.trans (Gm.bind_err hq))); have HBU := hidb (but_then H.out.but H.out.own hbu); clear hq hbu))
    | (go_at_call 39; refine (sLay ⟨kind, ⟨#[]⟩, 0, 0, l, t.p⟩ _ H.out.at HI.out).mono ?_; rintro r1 w1 (⟨er, q, hq, rfl, hbu⟩ | ⟨x, s1, V1, hq, rfl, hs⟩) <;> first | (have HL := hidb hs; have H := hidb (H.out.trans hs); (first | (with_reducible have HR := hidb (HR.out.trans hq)) | have HR := hidb (HR.out.trans (Gm.bind_ok hq)));  clear hs hq) | ((first | (with_reducible have HR := hidb (HR.out.trans hq)) | have HR := hidb (HR.out.trans (Gm.bind_err hq))); have HBU := hidb (but_then H.out.but H.out.own hbu); clear hq hbu)))
  · exact ⟨rfl, .inl ⟨_, _, HR.out, rfl, HBU.out⟩⟩
  · exact ⟨rfl, .inl ⟨_, _, HR.out, rfl, HBU.out⟩⟩
  · exact bodyPost_ret (v := iv x) (by simp [results, Tryz.results83, go_sem]) rfl (.inr ⟨_, _, _, HR.out, rfl, H.out⟩)

set_option maxHeartbeats 2000000 in
set_option maxRecDepth 100000 in
theorem pBody (hE : EC B g b o e) {P : Nat → Prop} {w : World} {V : Value} {s : PS} (h : At B g b o P w V s) :
    Calls Tryz.prog 79 #[.pointer (some ⟨g, 0, none⟩)] w fun r w' => Rz B g b o P w V (Gm.body e s) iv r w' := by
  have H : Hid (St B g b o P w V w V s) := hidb h
  obtain ⟨R, hR⟩ : ∃ R, Gm.body e s = R := ⟨_, rfl⟩
  rw [hR]
  have HR := hidb hR.symm
  clear hR
  have HE := hidb hE
  clear h hE
  have HR : Hid (R = Gm.group e 19 s) := hidb HR.out
  go_enter Tryz.func79, Tryz.ntmps79
  go_wp2_with (first
    | (go_at_call 83; refine (pGroup HE.out 19 H.out.at).mono ?_; rintro r1 w1 (⟨er, q, hq, rfl, hbu⟩ | ⟨x, s1, V1, hq, rfl, hs⟩) <;> first | (have HL := hidb hs; have H := hidb (H.out.trans hs); (first | (with_reducible have HR := hidb (HR.out.trans hq)) | have HR := hidb (HR.out.trans (Gm.bind_ok hq)));  clear hs hq) | ((first | (with_reducible have HR := hidb (HR.out.trans hq)) | have HR := hidb (HR.out.trans (Gm.bind_err hq))); have HBU := hidb (but_then H.out.but H.out.own hbu); clear hq hbu)))
  · exact ⟨rfl, .inl ⟨_, _, HR.out, rfl, HBU.out⟩⟩
  · exact bodyPost_ret (v := iv x) (by simp [results, Tryz.results79, go_sem]) rfl (.inr ⟨_, _, _, HR.out, rfl, H.out⟩)

set_option maxHeartbeats 2000000 in
set_option maxRecDepth 100000 in
theorem pGuard (hE : EC B g b o e) {P : Nat → Prop} {w : World} {V : Value} {s : PS} (h : At B g b o P w V s) :
    Calls Tryz.prog 78 #[.pointer (some ⟨g, 0, none⟩)] w fun r w' => Rz B g b o P w V (Gm.guard e s) iv r w' := by
  have H : Hid (St B g b o P w V w V s) := hidb h
  obtain ⟨R, hR⟩ : ∃ R, Gm.guard e s = R := ⟨_, rfl⟩
  rw [hR]
  have HR := hidb hR.symm
  clear hR
  have HE := hidb hE
  clear h hE
  go_enter Tryz.func78, Tryz.ntmps78
  go_wp2_with (first
    | (go_at_call 51; refine (sTake _ H.out.at).mono ?_; rintro r1 w1 (⟨s1, hq, rfl, hs⟩ | ⟨hq, rfl, hs⟩) <;> first | (have HR := hidb (HR.out.trans (Gm.bind_t hq.1)); have HT := hidb hq.2; have HL := hidb hs; have H := hidb (H.out.trans hs);  clear hs hq) | (have HR := hidb (HR.out.trans (Gm.bind_f hq)); have HL := hidb hs; have H := hidb (H.out.trans hs);  clear hs hq))
    | (go_at_call 83; refine (pGroup HE.out 22 H.out.at).mono ?_; rintro r1 w1 (⟨er, q, hq, rfl, hbu⟩ | ⟨x, s1, V1, hq, rfl, hs⟩) <;> first | (have HL := hidb hs; have H := hidb (H.out.trans hs); (first | (with_reducible have HR := hidb (HR.out.trans hq)) | have HR := hidb (HR.out.trans (Gm.bind_ok hq)));  clear hs hq) | ((first | (with_reducible have HR := hidb (HR.out.trans hq)) | have HR := hidb (HR.out.trans (Gm.bind_err hq))); have HBU := hidb (but_then H.out.but H.out.own hbu); clear hq hbu))
    | (go_at_call 82; refine (sLayNone 22 H.out.at).mono ?_; rintro r1 w1 (⟨er, q, hq, rfl, hbu⟩ | ⟨x, s1, V1, hq, rfl, hs⟩) <;> first | (have HL := hidb hs; have H := hidb (H.out.trans hs); (first | (with_reducible have HR := hidb (HR.out.trans hq)) | have HR := hidb (HR.out.trans (Gm.bind_ok hq)));  clear hs hq) | ((first | (with_reducible have HR := hidb (HR.out.trans hq)) | have HR := hidb (HR.out.trans (Gm.bind_err hq))); have HBU := hidb (but_then H.out.but H.out.own hbu); clear hq hbu)))
  · exact ⟨rfl, .inl ⟨_, _, HR.out, rfl, HBU.out⟩⟩
  · exact bodyPost_ret (v := iv x) (by simp [results, Tryz.results78, go_sem]) rfl (.inr ⟨_, _, _, HR.out, rfl, H.out⟩)
  · exact ⟨rfl, .inl ⟨_, _, HR.out, rfl, HBU.out⟩⟩
  · exact bodyPost_ret (v := iv x) (by simp [results, Tryz.results78, go_sem]) rfl (.inr ⟨_, _, _, HR.out, rfl, H.out⟩)

end Go.Proofs.YtdpfmmbfidknfaaGreatDoor


/- Rows of operators that go from the right. -/
namespace Go.Proofs.YtdpfmmbfidknfaaGreatDoor
open Go.RowKit Go.Lib
attribute [local go_sem] store_float f64bits
attribute [local go_sem ↓] Go.wp_at_zero Go.wp_at_succ
attribute [local go_sem] nd_p tk_k tk_x tk_n tk_f tk_p
variable {B g b o : Nat} {e : PM Nat}

/-- The contract of a method that is handed on as a value. -/
structure FC (B g b o f : Nat) (m : PM Nat) : Prop where
  all : Gm.All m
  enter : ∀ args w, (callFunc f args).run Tryz.prog w = .ok (.enter f args) w
  run : ∀ {P : Nat → Prop} {w : World} {V : Value} {s : PS}, At B g b o P w V s → Calls Tryz.prog f #[.pointer (some ⟨g, 0, none⟩)] w fun r w' => Rz B g b o P w V (m s) iv r w'

theorem LR.lit {P : Nat → Prop} {w : World} {V : Value} {s : PS} (h : At B g b o P w V s) (cs : Array Value) (l : List Nat) (hc : cs.toList = l.map iv) (hl : l.length ≤ 1000) : LR (w.alloc (.cells cs IT)) g P V (.slice (some ⟨w.heap.size, 0, .none⟩) l.length l.length) l :=
  (IR.lit h cs l hc hl).1.lr h.plt

set_option maxHeartbeats 2000000 in
set_option maxRecDepth 100000 in
theorem pRightward {f : Nat} {m : PM Nat} (hF : FC B g b o f m) (x : ByteArray) : ∀ (k : Nat) (P : Nat → Prop) (w : World) (V : Value) (s : PS) (_ : At B g b o P w V s) (_ : s.ts.length ≤ k),
    Calls Tryz.prog 88 #[.pointer (some ⟨g, 0, none⟩), .func (.func f) #[.pointer (some ⟨g, 0, none⟩)] #[], .string x] w fun r w' => Rz B g b o P w V (Gm.rightward m x k s) iv r w' := by
  intro k
  induction k with
  | zero => intro P w V s h hk; obtain ⟨r, hr⟩ := Gm.ne_hd h.ne; rw [hr] at hk; simp at hk
  | succ k ih =>
    intro P w V s h hk
    have H : Hid (St B g b o P w V w V s) := hidb h
    have IH := hidb ih
    have HK := hidb hk
    obtain ⟨R, hR⟩ : ∃ R, Gm.rightward m x (k + 1) s = R := ⟨_, rfl⟩
    rw [hR]
    have HR := hidb hR.symm
    have eg := hF.enter
    clear hR h ih hk
    go_enter Tryz.func88, Tryz.ntmps88
    go_wp2_with (first
      | (go_at_call 32; refine (sHere H.out.at).mono ?_; rintro r1 w1 ⟨t, hq, rfl, hs, hb⟩; have H := hidb (H.out.below hb); have HR := hidb (HR.out.trans (Gm.bind_here hq)); have Tt := hidb hq; clear hs hb hq)
      | (go_at_call 88; refine (IH.out _ _ _ _ H.out.at (by have := HK.out; have := HT.out; have := HF.out.len; omega)).mono ?_; rintro r1 w1 (⟨er, q, hq, rfl, hbu⟩ | ⟨y2, s1, V1, hq, rfl, hs⟩) <;> first | (have HL := hidb hs; have H := hidb (H.out.trans hs); (first | (with_reducible have HR := hidb (HR.out.trans hq)) | have HR := hidb (HR.out.trans (Gm.bind_ok hq))); clear hs hq) | ((first | (with_reducible have HR := hidb (HR.out.trans hq)) | have HR := hidb (HR.out.trans (Gm.bind_err hq))); have HBU := hidb (but_then H.out.but H.out.own hbu); clear hq hbu))
      | (go_at_call 51; refine (sTake _ H.out.at).mono ?_; rintro r1 w1 (⟨s1, hq, rfl, hs⟩ | ⟨hq, rfl, hs⟩) <;> first | (have HR := hidb (HR.out.trans (Gm.bind_t hq.1)); have HT := hidb hq.2; have HL := hidb hs; have H := hidb (H.out.trans hs);  clear hs hq) | (have HR := hidb (HR.out.trans (Gm.bind_f hq)); have HL := hidb hs; have H := hidb (H.out.trans hs);  clear hs hq))
      | (go_at_call 87; refine (sOp t.p x [x1, y2] _ (H.out.below (below_new _ _)).at (LR.lit H.out.at #[iv x1, iv y2] [x1, y2] rfl (by simp))).mono ?_; rintro r1 w1 (⟨er, q, hq, rfl, hbu⟩ | ⟨z, s1, V1, hq, rfl, hs⟩) <;> first | (have HL := hidb hs; have H := hidb ((H.out.below (below_new _ _)).trans hs); (first | (with_reducible have HR := hidb (HR.out.trans hq)) | have HR := hidb (HR.out.trans (Gm.bind_ok hq)));  clear hs hq) | ((first | (with_reducible have HR := hidb (HR.out.trans hq)) | have HR := hidb (HR.out.trans (Gm.bind_err hq))); have HBU := hidb (but_then (H.out.below (below_new _ _)).but H.out.own hbu); clear hq hbu))
      | (refine (hF.run H.out.at).mono ?_; rintro r1 w1 (⟨er, q, hq, rfl, hbu⟩ | ⟨x1, s1, V1, hq, rfl, hs⟩) <;> first | (have HF := hidb (hF.all _ H.out.ne _ _ hq).1; have HL := hidb hs; have H := hidb (H.out.trans hs); (first | (with_reducible have HR := hidb (HR.out.trans hq)) | have HR := hidb (HR.out.trans (Gm.bind_ok hq))); clear hs hq) | ((first | (with_reducible have HR := hidb (HR.out.trans hq)) | have HR := hidb (HR.out.trans (Gm.bind_err hq))); have HBU := hidb (but_then H.out.but H.out.own hbu); clear hq hbu)))
    · exact ⟨rfl, .inl ⟨_, _, HR.out, rfl, HBU.out⟩⟩
    · exact ⟨rfl, .inl ⟨_, _, HR.out, rfl, HBU.out⟩⟩
    · exact ⟨rfl, .inl ⟨_, _, HR.out, rfl, HBU.out⟩⟩
    · exact bodyPost_ret (v := iv z) (by simp [results, Tryz.results88, go_sem]) rfl (.inr ⟨_, _, _, HR.out, rfl, H.out⟩)
    · exact bodyPost_ret (v := iv x1) (by simp [results, Tryz.results88, go_sem]) rfl (.inr ⟨_, _, _, HR.out, rfl, H.out⟩)

/-- A row of operators that goes from the right. -/
theorem pRight {f : Nat} {m : PM Nat} (hF : FC B g b o f m) (x : ByteArray) {P : Nat → Prop} {w : World} {V : Value} {s : PS} (h : At B g b o P w V s) :
    Calls Tryz.prog 88 #[.pointer (some ⟨g, 0, none⟩), .func (.func f) #[.pointer (some ⟨g, 0, none⟩)] #[], .string x] w fun r w' => Rz B g b o P w V (Gm.right m x s) iv r w' :=
  pRightward hF x s.ts.length P w V s h (Nat.le_refl _)

set_option maxHeartbeats 2000000 in
set_option maxRecDepth 100000 in
theorem pAppend {m : PM Nat} (hF : FC B g b o 93 m) {P : Nat → Prop} {w : World} {V : Value} {s : PS} (h : At B g b o P w V s) :
    Calls Tryz.prog 91 #[.pointer (some ⟨g, 0, none⟩)] w fun r w' => Rz B g b o P w V (Gm.right m ⟨#[43, 43]⟩ s) iv r w' := by
  have H : Hid (St B g b o P w V w V s) := hidb h
  obtain ⟨R, hR⟩ : ∃ R, Gm.right m ⟨#[43, 43]⟩ s = R := ⟨_, rfl⟩
  rw [hR]
  have HR := hidb hR.symm
  clear hR
  clear h
  have hmf : ∀ (fn : Fn) (first cap : Array Value) (w : World), (Instr.makeFunc fn first cap).run Tryz.prog w = .ok (.func fn first cap) w := fun _ _ _ _ => rfl
  have HR : Hid (R = Gm.right m ⟨#[43, 43]⟩ s) := hidb HR.out
  go_enter Tryz.func91, Tryz.ntmps91
  go_wp2_with (first
    | (go_at_call 88; refine (pRight hF ⟨#[43, 43]⟩ H.out.at).mono ?_; rintro r1 w1 (⟨er, q, hq, rfl, hbu⟩ | ⟨x, s1, V1, hq, rfl, hs⟩) <;> first | (have HL := hidb hs; have H := hidb (H.out.trans hs); (first | (with_reducible have HR := hidb (HR.out.trans hq)) | have HR := hidb (HR.out.trans (Gm.bind_ok hq)));  clear hs hq) | ((first | (with_reducible have HR := hidb (HR.out.trans hq)) | have HR := hidb (HR.out.trans (Gm.bind_err hq))); have HBU := hidb (but_then H.out.but H.out.own hbu); clear hq hbu)))
  · exact ⟨rfl, .inl ⟨_, _, HR.out, rfl, HBU.out⟩⟩
  · exact bodyPost_ret (v := iv x) (by simp [results, Tryz.results91, go_sem]) rfl (.inr ⟨_, _, _, HR.out, rfl, H.out⟩)

set_option maxHeartbeats 2000000 in
set_option maxRecDepth 100000 in
theorem pAndalso {m : PM Nat} (hF : FC B g b o 90 m) {P : Nat → Prop} {w : World} {V : Value} {s : PS} (h : At B g b o P w V s) :
    Calls Tryz.prog 89 #[.pointer (some ⟨g, 0, none⟩)] w fun r w' => Rz B g b o P w V (Gm.right m ⟨#[97, 110, 100, 97, 108, 115, 111]⟩ s) iv r w' := by
  have H : Hid (St B g b o P w V w V s) := hidb h
  obtain ⟨R, hR⟩ : ∃ R, Gm.right m ⟨#[97, 110, 100, 97, 108, 115, 111]⟩ s = R := ⟨_, rfl⟩
  rw [hR]
  have HR := hidb hR.symm
  clear hR
  clear h
  have hmf : ∀ (fn : Fn) (first cap : Array Value) (w : World), (Instr.makeFunc fn first cap).run Tryz.prog w = .ok (.func fn first cap) w := fun _ _ _ _ => rfl
  have HR : Hid (R = Gm.right m ⟨#[97, 110, 100, 97, 108, 115, 111]⟩ s) := hidb HR.out
  go_enter Tryz.func89, Tryz.ntmps89
  go_wp2_with (first
    | (go_at_call 88; refine (pRight hF ⟨#[97, 110, 100, 97, 108, 115, 111]⟩ H.out.at).mono ?_; rintro r1 w1 (⟨er, q, hq, rfl, hbu⟩ | ⟨x, s1, V1, hq, rfl, hs⟩) <;> first | (have HL := hidb hs; have H := hidb (H.out.trans hs); (first | (with_reducible have HR := hidb (HR.out.trans hq)) | have HR := hidb (HR.out.trans (Gm.bind_ok hq)));  clear hs hq) | ((first | (with_reducible have HR := hidb (HR.out.trans hq)) | have HR := hidb (HR.out.trans (Gm.bind_err hq))); have HBU := hidb (but_then H.out.but H.out.own hbu); clear hq hbu)))
  · exact ⟨rfl, .inl ⟨_, _, HR.out, rfl, HBU.out⟩⟩
  · exact bodyPost_ret (v := iv x) (by simp [results, Tryz.results89, go_sem]) rfl (.inr ⟨_, _, _, HR.out, rfl, H.out⟩)

set_option maxHeartbeats 2000000 in
set_option maxRecDepth 100000 in
theorem pOrelse {m : PM Nat} (hF : FC B g b o 89 m) {P : Nat → Prop} {w : World} {V : Value} {s : PS} (h : At B g b o P w V s) :
    Calls Tryz.prog 86 #[.pointer (some ⟨g, 0, none⟩)] w fun r w' => Rz B g b o P w V (Gm.right m ⟨#[111, 114, 101, 108, 115, 101]⟩ s) iv r w' := by
  have H : Hid (St B g b o P w V w V s) := hidb h
  obtain ⟨R, hR⟩ : ∃ R, Gm.right m ⟨#[111, 114, 101, 108, 115, 101]⟩ s = R := ⟨_, rfl⟩
  rw [hR]
  have HR := hidb hR.symm
  clear hR
  clear h
  have hmf : ∀ (fn : Fn) (first cap : Array Value) (w : World), (Instr.makeFunc fn first cap).run Tryz.prog w = .ok (.func fn first cap) w := fun _ _ _ _ => rfl
  have HR : Hid (R = Gm.right m ⟨#[111, 114, 101, 108, 115, 101]⟩ s) := hidb HR.out
  go_enter Tryz.func86, Tryz.ntmps86
  go_wp2_with (first
    | (go_at_call 88; refine (pRight hF ⟨#[111, 114, 101, 108, 115, 101]⟩ H.out.at).mono ?_; rintro r1 w1 (⟨er, q, hq, rfl, hbu⟩ | ⟨x, s1, V1, hq, rfl, hs⟩) <;> first | (have HL := hidb hs; have H := hidb (H.out.trans hs); (first | (with_reducible have HR := hidb (HR.out.trans hq)) | have HR := hidb (HR.out.trans (Gm.bind_ok hq)));  clear hs hq) | ((first | (with_reducible have HR := hidb (HR.out.trans hq)) | have HR := hidb (HR.out.trans (Gm.bind_err hq))); have HBU := hidb (but_then H.out.but H.out.own hbu); clear hq hbu)))
  · exact ⟨rfl, .inl ⟨_, _, HR.out, rfl, HBU.out⟩⟩
  · exact bodyPost_ret (v := iv x) (by simp [results, Tryz.results86, go_sem]) rfl (.inr ⟨_, _, _, HR.out, rfl, H.out⟩)

end Go.Proofs.YtdpfmmbfidknfaaGreatDoor


