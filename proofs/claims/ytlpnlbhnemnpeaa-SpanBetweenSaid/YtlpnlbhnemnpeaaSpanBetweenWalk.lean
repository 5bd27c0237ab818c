/- The law SpanBetween, walked: it answers true, whatever the time. -/
import Derived.Test.YtlpnlbhnemnpeaaSpanNum
namespace Go.Proofs.Ytlpnlbhnemnpeaa
open Go.ChangeShapes Go.WideShapes Go.ChangeAt Go.RowKit
set_option linter.unusedVariables false

theorem SpanBetween_walk (a0 : Int) (w0 : (Lit.int .u32 a0).wf = true) (w : World) :
    Calls Try.prog 4 #[.int .u32 a0] w fun e w' => e = .returned (.bool true) ∧ Below w.heap.size w w' := by
  obtain ⟨p0, p1⟩ := bounds_u32 w0
  clear w0
  have m : max a0 0 = a0 := by omega
  have f0 : floorI a0 = a0 / 256 := by unfold floorI; rw [m]
  have c0 : ceilI a0 = (a0 + 255) / 256 := by unfold ceilI; rw [m]
  have f1 : floorI (-a0) = 0 := by unfold floorI; omega
  have c1 : ceilI (-a0) = 0 := by unfold ceilI; omega
  clear m
  have x1 : decide (a0 < floorI a0 * 256) = false := by rw [f0]; simp; omega
  have x2 : decide ((floorI a0 + 1) * 256 ≤ a0) = false := by rw [f0]; simp; omega
  have x3 : decide (ceilI a0 * 256 < a0) = false := by rw [c0]; simp; omega
  have x4 : decide (1 < ceilI a0 - floorI a0) = false := by rw [f0, c0]; simp; omega
  have x5 : decide (ceilI a0 < floorI a0) = false := by rw [f0, c0]; simp; omega
  have x6 : ((floorI a0 == ceilI a0) == (a0 % 256 == 0)) = true := by
    rw [f0, c0, beq_iff_eq, Bool.eq_iff_iff]; simp only [beq_iff_eq]; omega
  have y1 : (floorI (-a0) == 0) = true := by rw [f1]; rfl
  have y2 : (ceilI (-a0) == 0) = true := by rw [c1]; rfl
  obtain ⟨b0, b1⟩ : 0 ≤ floorI a0 ∧ floorI a0 ≤ 16777215 := by rw [f0]; omega
  obtain ⟨d0, d1⟩ : 0 ≤ ceilI a0 ∧ ceilI a0 ≤ 16777216 := by rw [c0]; omega
  clear f0 c0 f1 c1
  go_enter Try.func4, Try.ntmps4
  go_wp2_with (first
    | (go_at_call 8; (with_reducible refine (awake_span _).mono ?_); rintro e w' ⟨rfl, rfl⟩)
    | (go_at_call 15; (with_reducible refine (floor_any _ (by omega) (by omega) _).mono ?_); rintro e w' ⟨rfl, rfl⟩)
    | (go_at_call 16; (with_reducible refine (ceil_any _ (by omega) (by omega) _).mono ?_); rintro e w' ⟨rfl, rfl⟩))
  go_ret
  exact ⟨rfl, Below.refl _ _⟩

end Go.Proofs.Ytlpnlbhnemnpeaa
