import Derived.Test.YthdljnakmekhkaaGreatDoorSI
import Derived.Test.YthdljnakmekhkaaGreatDoorSJ
import Derived.Test.YthdljnakmekhkaaGreatDoorSK
import Derived.Test.YthdljnakmekhkaaGreatDoorSL
namespace Go.Proofs.YthdljnakmekhkaaGreatDoor
namespace Rf
open Go.RowKit Go.Lib
attribute [local go_sem] store_float f64bits
attribute [local go_sem ↓] Go.wp_at_zero Go.wp_at_succ
attribute [local go_sem] nd_p tk_k tk_x tk_n tk_f tk_p
variable {B g b o : Nat} {e : PM Nat}
theorem pCaught (hE : EC B g b o e) {P : Nat → Prop} {w : World} {V : Value} {s : PS} (h : At B g b o P w V s) :
    Calls Tryz.prog 156 #[.pointer (some ⟨g, 0, none⟩)] w fun r w' => Rz B g b o P w V (Gm.cclause e s) r w' := by
  by_cases h1 : (Gm.hd s).k = 1
  · cases hm : Gm.isM (Gm.hd2 s) ⟨#[58]⟩ with
    | false => exact pCaughtC1 hE h h1 hm
    | true =>
      have hI : Gm.isClass (Gm.hd s) = (decide ((Gm.hd s).x = ⟨#[101, 114, 114, 111, 114]⟩) || decide ((Gm.hd s).x = ⟨#[101, 120, 105, 116]⟩) || decide ((Gm.hd s).x = ⟨#[116, 104, 114, 111, 119]⟩)) := by unfold Gm.isClass; rw [if_neg (by omega)]
      by_cases hx1 : (Gm.hd s).x = ⟨#[101, 114, 114, 111, 114]⟩
      · exact pCaught1E hE h h1 hm (by rw [hI, hx1]; rfl) hx1
      by_cases hx2 : (Gm.hd s).x = ⟨#[101, 120, 105, 116]⟩
      · exact pCaught1X hE h h1 hm (by rw [hI, hx2]; rfl) ⟨hx1, hx2⟩
      by_cases hx3 : (Gm.hd s).x = ⟨#[116, 104, 114, 111, 119]⟩
      · exact pCaught1T hE h h1 hm (by rw [hI, hx3]; rfl) ⟨hx1, hx2, hx3⟩
      exact pCaught1B hE h h1 hm (by rw [hI]; simp [hx1, hx2, hx3]) ⟨hx1, hx2, hx3⟩
  by_cases h2 : (Gm.hd s).k = 2
  · cases hm : Gm.isM (Gm.hd2 s) ⟨#[58]⟩ with
    | false => exact pCaughtC2 hE h h2 hm
    | true =>
      have hI : Gm.isClass (Gm.hd s) = decide ((Gm.hd s).x = ⟨#[95]⟩) := by unfold Gm.isClass; rw [if_pos h2]
      by_cases hx1 : (Gm.hd s).x = ⟨#[95]⟩
      · exact pCaught2A hE h h2 hm (by rw [hI, hx1]; rfl) hx1
      exact pCaught2B hE h h2 hm (by rw [hI]; simp [hx1]) hx1
  exact pCaughtN hE h (fun h => h.elim h1 h2)
theorem pTry_all (hE : EC B g b o e) (q : Nat) {P : Nat → Prop} {w : World} {V : Value} {s : PS} (h : At B g b o P w V s) : Calls Tryz.prog 150 #[.pointer (some ⟨g, 0, none⟩), .int .i64 (q : Int)] w fun r w' => Rz B g b o P w V (tryP e q s) r w' := pTry hE (fun h => pCaught hE h) q h
theorem pPrimary_end (hE : EC B g b o e) {P : Nat → Prop} {w : World} {V : Value} {s : PS} (h : At B g b o P w V s) : Calls Tryz.prog 143 #[.pointer (some ⟨g, 0, none⟩)] w fun r w' => RzP B g b o P w V (Gm.called e s) r w' := pPrimary_all hE (fun q _ _ _ _ h => pTry_all hE q h) h
theorem pCall_end (hE : EC B g b o e) {P : Nat → Prop} {w : World} {V : Value} {s : PS} (h : At B g b o P w V s) : Calls Tryz.prog 141 #[.pointer (some ⟨g, 0, none⟩)] w fun r w' => Rz B g b o P w V (Gm.call e s) r w' := pCall hE (fun h => pPrimary_end hE h) h
end Rf
end Go.Proofs.YthdljnakmekhkaaGreatDoor
