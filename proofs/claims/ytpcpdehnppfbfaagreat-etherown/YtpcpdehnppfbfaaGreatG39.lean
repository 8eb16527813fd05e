import Derived.Test.YtpcpdehnppfbfaaGreatG02
/- A queue of whole numbers: NewRow, Len, All, Push, Pop. -/
namespace Go.Proofs.YtpcpdehnppfbfaaGreat
open Go.RowKit Go.Lib
attribute [local go_sem] store_float f64bits
attribute [local go_sem ↓] Go.wp_at_zero Go.wp_at_succ

theorem infoI : ∃ i0, Tryz.prog.info? IT = some i0 ∧ i0.zero = some (.int .i64 0) ∧ i0.size = 1 ∧ i0.bytes = 8 := by
  obtain ⟨i0, hi, hz0, hz1, hz2⟩ := info_parts (P := Tryz.prog) (e := IT) (z := (.int .i64 0)) (size := 1) (bytes := 8) (by kernel_rfl)
  exact ⟨i0, hi, hz0, hz1, hz2⟩

end Go.Proofs.YtpcpdehnppfbfaaGreat


/- Pop of a queue of whole numbers. -/
namespace Go.Proofs.YtpcpdehnppfbfaaGreat
open Go.RowKit Go.Lib
attribute [local go_sem] store_float f64bits
attribute [local go_sem ↓] Go.wp_at_zero Go.wp_at_succ
end Go.Proofs.YtpcpdehnppfbfaaGreat


