/- The law SpanSeconds, walked: it answers true, whatever the number. -/
import Derived.Test.YtlpnlbhnemnpeaaSpanNum
namespace Go.Proofs.Ytlpnlbhnemnpeaa
open Go.ChangeShapes Go.WideShapes Go.ChangeAt Go.RowKit
set_option linter.unusedVariables false

theorem SpanSeconds_walk (a0 : Int) (w0 : (Lit.int .u8 a0).wf = true) (w : World) :
    Calls Try.prog 6 #[.int .u8 a0] w fun e w' => e = .returned (.bool true) ∧ Below w.heap.size w w' := by
  obtain ⟨p0, p1⟩ := bounds_u8 w0
  clear w0
  have e0 : ofI a0 = 256 * a0 := by unfold ofI cutI; omega
  have e1 : floorI (256 * a0) = a0 := by unfold floorI; omega
  have e2 : ceilI (256 * a0) = a0 := by unfold ceilI; omega
  have e3 : cutI (256 * a0) = 256 * a0 := by unfold cutI; omega
  go_enter Try.func6, Try.ntmps6
  go_wp2_with (first
    | (go_at_call 8; (with_reducible refine (awake_span _).mono ?_); rintro e w' ⟨rfl, rfl⟩)
    | (go_at_call 11; (with_reducible refine (of_any _ (by omega) (by omega) _).mono ?_); rintro e w' ⟨rfl, rfl⟩; rw [e0])
    | (go_at_call 15; (with_reducible refine (floor_any _ (by omega) (by omega) _).mono ?_); rintro e w' ⟨rfl, rfl⟩; rw [e1])
    | (go_at_call 16; (with_reducible refine (ceil_any _ (by omega) (by omega) _).mono ?_); rintro e w' ⟨rfl, rfl⟩; rw [e2])
    | (go_at_call 9; (with_reducible refine (field_any _ (by omega) (by omega) _).mono ?_); rintro e w' ⟨rfl, rfl⟩; rw [e3]))
  go_ret
  exact ⟨rfl, Below.refl _ _⟩

end Go.Proofs.Ytlpnlbhnemnpeaa
