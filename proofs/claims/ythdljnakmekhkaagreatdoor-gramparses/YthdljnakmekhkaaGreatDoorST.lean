import Derived.Test.YthdljnakmekhkaaGreatDoorSN
import Derived.Test.YthdljnakmekhkaaGreatDoorSQ
import Derived.Test.YthdljnakmekhkaaGreatDoorSR
import Derived.Test.YthdljnakmekhkaaGreatDoorSS
namespace Go.Proofs.YthdljnakmekhkaaGreatDoor
namespace Rf
open Go.RowKit Go.Lib
attribute [local go_sem] store_float f64bits
attribute [local go_sem ↓] Go.wp_at_zero Go.wp_at_succ
attribute [local go_sem] nd_p tk_k tk_x tk_n tk_f tk_p
variable {B g b o : Nat} {e : PM Nat}
theorem pAppends (hE : EC B g b o e) {P : Nat → Prop} {w : World} {V : Value} {s : PS} (h : At B g b o P w V s) : Calls Tryz.prog 132 #[.pointer (some ⟨g, 0, none⟩)] w fun r w' => Rz B g b o P w V (Gm.appends e s) r w' := pJoined (Gm.all_add hE.all) (fun h => pAdd_end hE h) h
theorem pCompared_end (hE : EC B g b o e) {P : Nat → Prop} {w : World} {V : Value} {s : PS} (h : At B g b o P w V s) : Calls Tryz.prog 129 #[.pointer (some ⟨g, 0, none⟩)] w fun r w' => Rz B g b o P w V (Gm.compare e s) r w' := pCompared hE (fun h => pAppends hE h) h
theorem pAndalso (hE : EC B g b o e) {P : Nat → Prop} {w : World} {V : Value} {s : PS} (h : At B g b o P w V s) : Calls Tryz.prog 125 #[.pointer (some ⟨g, 0, none⟩)] w fun r w' => Rz B g b o P w V (Gm.andalso e s) r w' := pBoth (Gm.all_compare hE.all) (fun h => pCompared_end hE h) h
theorem pOrelse (hE : EC B g b o e) {P : Nat → Prop} {w : World} {V : Value} {s : PS} (h : At B g b o P w V s) : Calls Tryz.prog 122 #[.pointer (some ⟨g, 0, none⟩)] w fun r w' => Rz B g b o P w V (Gm.orelse e s) r w' := pEither (Gm.all_right (Gm.all_compare hE.all) _) (fun h => pAndalso hE h) h
theorem pWhole_end (hE : EC B g b o e) {P : Nat → Prop} {w : World} {V : Value} {s : PS} (h : At B g b o P w V s) : Calls Tryz.prog 117 #[.pointer (some ⟨g, 0, none⟩)] w fun r w' => Rz B g b o P w V (Gm.opened e s) r w' := pWhole hE (fun h => pOrelse hE h) h
theorem ec_expr : ∀ (k o : Nat), o + k = 200 → EC B g b o (Gm.expr (k + 1))
  | 0, o, h => by
    obtain rfl : o = 200 := by omega
    exact ⟨Gm.all_expr _, fun h => pExpr_deep h⟩
  | k + 1, o, h => ⟨Gm.all_expr _, fun h' => pExpr_step (fun h2 => pWhole_end (ec_expr k (o + 1) (by omega)) h2) (by omega) h'⟩
end Rf
end Go.Proofs.YthdljnakmekhkaaGreatDoor
