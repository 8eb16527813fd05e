/- Floats without their fractions: the four ways. -/
import Derived.Test.YtihkabgoaejcgaaDoorX2
import Derived.Test.YtihkabgoaejcgaaDoorR2
import Derived.Test.YtihkabgoaejcgaaDoorFltM
namespace Go.Proofs.YtihkabgoaejcgaaDoor
open Go.RowKit Ieee
open Flt (ordI exactV)

set_option maxRecDepth 100000 in
theorem floor_to (x y : Nat) (hr : Extern.MathFloor.toIntegral "math.archFloor" .down #[.float .f64 x] = pure (.float .f64 y)) (w : World) : Calls Tryd.prog 72 #[.float .f64 x] w fun e w' => e = .returned (.float .f64 y) ∧ w' = w := by
  have hx : ∀ w, (callFunc 89 #[.float .f64 x]).run Tryd.prog w = .ok (.value (.float .f64 y)) w := fun w => by
    rw [run_callFunc_extern Tryd.func89 (by kernel_rfl) (by kernel_rfl) (by kernel_rfl) (e := Extern.MathFloor.toIntegral "math.archFloor" .down) (by kernel_rfl), hr]
    rfl
  clear hr
  go_enter Tryd.func72, Tryd.ntmps72
  go_wp2
  go_ret
  exact ⟨rfl, rfl⟩

set_option maxRecDepth 100000 in
theorem ceil_to (x y : Nat) (hr : Extern.MathFloor.toIntegral "math.archCeil" .up #[.float .f64 x] = pure (.float .f64 y)) (w : World) : Calls Tryd.prog 73 #[.float .f64 x] w fun e w' => e = .returned (.float .f64 y) ∧ w' = w := by
  have hx : ∀ w, (callFunc 91 #[.float .f64 x]).run Tryd.prog w = .ok (.value (.float .f64 y)) w := fun w => by
    rw [run_callFunc_extern Tryd.func91 (by kernel_rfl) (by kernel_rfl) (by kernel_rfl) (e := Extern.MathFloor.toIntegral "math.archCeil" .up) (by kernel_rfl), hr]
    rfl
  clear hr
  go_enter Tryd.func73, Tryd.ntmps73
  go_wp2
  go_ret
  exact ⟨rfl, rfl⟩

theorem integral_by' (nm : String) (tw : Toward) (x : Nat) {s : Bool} {m : Nat} {p : Int} {z : Nat} (hr : double.read x = .number s m p) (hz : double.write ((Datum.number s m p).integral tw) = z) : Extern.MathFloor.toIntegral nm tw #[.float .f64 x] = pure (.float .f64 z) := by
  have hG : ∃ G : Bool → Nat → Sem Value, Extern.MathFloor.toIntegral nm tw #[.float .f64 x] = (match FloatKind.f64.decode x with | .nan s t => G s t | d => pure (.float .f64 (FloatKind.f64.encode (d.integral tw)))) := ⟨_, rfl⟩
  obtain ⟨G, hG⟩ := hG
  have hdc : FloatKind.f64.decode x = .number s m p := hr
  rw [hG, hdc]
  show pure (Value.float .f64 (FloatKind.f64.encode ((Datum.number s m p).integral tw))) = _
  rw [← hz]
  rfl

theorem wf_round (x z : Nat) (h : ∀ w, Calls Tryd.prog 71 #[.float .f64 x] w fun e w' => e = .returned (.float .f64 z) ∧ w' = w) (w : World) : Calls Tryd.prog 57 #[.string ⟨#[114, 111, 117, 110, 100]⟩, .float .f64 x] w fun e w' => e = .returned (.float .f64 z) ∧ w' = w := by
  have H := hidE h
  clear h
  go_enter Tryd.func57, Tryd.ntmps57
  go_wp2_with (go_at_call 71; refine (H.out _).mono ?_; rintro e w' ⟨rfl, rfl⟩)
  go_ret
  exact ⟨rfl, rfl⟩

theorem wf_floor (x z : Nat) (h : ∀ w, Calls Tryd.prog 72 #[.float .f64 x] w fun e w' => e = .returned (.float .f64 z) ∧ w' = w) (w : World) : Calls Tryd.prog 57 #[.string ⟨#[102, 108, 111, 111, 114]⟩, .float .f64 x] w fun e w' => e = .returned (.float .f64 z) ∧ w' = w := by
  have H := hidE h
  clear h
  go_enter Tryd.func57, Tryd.ntmps57
  go_wp2_with (go_at_call 72; refine (H.out _).mono ?_; rintro e w' ⟨rfl, rfl⟩)
  go_ret
  exact ⟨rfl, rfl⟩

theorem wf_ceil (x z : Nat) (h : ∀ w, Calls Tryd.prog 73 #[.float .f64 x] w fun e w' => e = .returned (.float .f64 z) ∧ w' = w) (w : World) : Calls Tryd.prog 57 #[.string ⟨#[99, 101, 105, 108]⟩, .float .f64 x] w fun e w' => e = .returned (.float .f64 z) ∧ w' = w := by
  have H := hidE h
  clear h
  go_enter Tryd.func57, Tryd.ntmps57
  go_wp2_with (go_at_call 73; refine (H.out _).mono ?_; rintro e w' ⟨rfl, rfl⟩)
  go_ret
  exact ⟨rfl, rfl⟩

theorem wf_trunc (x z : Nat) (h : ∀ w, Calls Tryd.prog 59 #[.float .f64 x] w fun e w' => e = .returned (.float .f64 z) ∧ w' = w) (w : World) : Calls Tryd.prog 57 #[.string ⟨#[116, 114, 117, 110, 99]⟩, .float .f64 x] w fun e w' => e = .returned (.float .f64 z) ∧ w' = w := by
  have H := hidE h
  clear h
  go_enter Tryd.func57, Tryd.ntmps57
  go_wp2_with (go_at_call 59; refine (H.out _).mono ?_; rintro e w' ⟨rfl, rfl⟩)
  go_ret
  exact ⟨rfl, rfl⟩

/-- the four ways' spellings -/
def way (i : Fin 4) : ByteArray := match i with
  | 0 => ⟨#[116, 114, 117, 110, 99]⟩
  | 1 => ⟨#[102, 108, 111, 111, 114]⟩
  | 2 => ⟨#[99, 101, 105, 108]⟩
  | 3 => ⟨#[114, 111, 117, 110, 100]⟩

/-- a float without its fraction, each way; how the four lie to each other -/
theorem ways {x : Nat} (hx : x < 18446744073709551616) (fx : Flt.fin x = true) : ∃ (z : Fin 4 → Nat) (v : Fin 4 → Int),
    (∀ i, Flt.Made x (z i) (v i)) ∧ (∀ i w, Calls Tryd.prog 57 #[.string (way i), .float .f64 x] w fun e w' => e = .returned (.float .f64 (z i)) ∧ w' = w) ∧
    Flt.Lies (Flt.U x) (v 1) (v 2) (v 0) (v 3) ∧ Flt.Rounded x (z 3) (v 3) ∧ (double.read x).toInt .zero = some (v 0) ∧ Flt.U x < (v 1 + 1) * Flt.P ∧ (v 2 - 1) * Flt.P < Flt.U x := by
  obtain ⟨zt, zf, zc, t, f, c, ⟨s, m, p, hr, h1, h2, h3⟩, mt, mf, mc, ht, b1, b2, b3, b4, b5, b6⟩ := Flt.cut_all hx fx
  obtain ⟨zr, r, hR, hw⟩ := round_any hx fx
  refine ⟨fun i => match i with | 0 => zt | 1 => zf | 2 => zc | 3 => zr, fun i => match i with | 0 => t | 1 => f | 2 => c | 3 => r, ?_, ?_, Flt.lies b1 b2 b3 b4 b5 b6 hR, hR, ht, b2, b4⟩
  · intro i
    match i with
    | 0 => exact mt
    | 1 => exact mf
    | 2 => exact mc
    | 3 => exact hR.made
  · intro i
    match i with
    | 0 => exact wf_trunc x zt (trunc_to x zt (integral_by' _ _ x hr h1))
    | 1 => exact wf_floor x zf (floor_to x zf (integral_by' _ _ x hr h2))
    | 2 => exact wf_ceil x zc (ceil_to x zc (integral_by' _ _ x hr h3))
    | 3 => exact wf_round x zr hw
end Go.Proofs.YtihkabgoaejcgaaDoor
