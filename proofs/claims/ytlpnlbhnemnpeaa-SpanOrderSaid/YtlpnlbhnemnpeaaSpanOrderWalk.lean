/- The law SpanOrder, walked: it answers true, whatever the times. -/
import Derived.Test.YtlpnlbhnemnpeaaSpanNum
namespace Go.Proofs.Ytlpnlbhnemnpeaa
open Go.ChangeShapes Go.WideShapes Go.ChangeAt Go.RowKit
set_option linter.unusedVariables false

theorem SpanOrder_walk (a0 : Int) (a1 : Int) (w0 : (Lit.int .i32 a0).wf = true) (w1 : (Lit.int .i32 a1).wf = true) (w : World) :
    Calls Try.prog 7 #[.int .i32 a0, .int .i32 a1] w fun e w' => e = .returned (.bool true) ∧ Below w.heap.size w w' := by
  obtain ⟨p0, p1⟩ := bounds_i32 w0
  obtain ⟨q0, q1⟩ := bounds_i32 w1
  clear w0 w1
  have m0 : -2147483648 ≤ min a0 a1 := by omega
  have m1 : min a0 a1 ≤ 2147483647 := by omega
  have n0 : -2147483648 ≤ max a0 a1 := by omega
  have n1 : max a0 a1 ≤ 2147483647 := by omega
  have x1 : decide (floorI (min a0 a1) ≤ floorI (max a0 a1)) = true := by unfold floorI; simp only [decide_eq_true_eq]; omega
  have x2 : decide (ceilI (min a0 a1) ≤ ceilI (max a0 a1)) = true := by unfold ceilI; simp only [decide_eq_true_eq]; omega
  have x3 : decide (cutI (min a0 a1) ≤ cutI (max a0 a1)) = true := by unfold cutI; simp only [decide_eq_true_eq]; omega
  have x4 : decide (ofI (min a0 a1) ≤ ofI (max a0 a1)) = true := by unfold ofI cutI; simp only [decide_eq_true_eq]; omega
  go_enter Try.func7, Try.ntmps7
  go_wp2_with (first
    | (go_at_call 8; (with_reducible refine (awake_span _).mono ?_); rintro e w' ⟨rfl, rfl⟩)
    | (go_at_call 11; (with_reducible refine (of_any _ (by omega) (by omega) _).mono ?_); rintro e w' ⟨rfl, rfl⟩)
    | (go_at_call 15; (with_reducible refine (floor_any _ (by omega) (by omega) _).mono ?_); rintro e w' ⟨rfl, rfl⟩)
    | (go_at_call 16; (with_reducible refine (ceil_any _ (by omega) (by omega) _).mono ?_); rintro e w' ⟨rfl, rfl⟩)
    | (go_at_call 9; (with_reducible refine (field_any _ (by omega) (by omega) _).mono ?_); rintro e w' ⟨rfl, rfl⟩))
  go_ret
  exact ⟨rfl, Below.refl _ _⟩

end Go.Proofs.Ytlpnlbhnemnpeaa
