/- The document's Right: contract. -/
import Derived.Test.YtbjcjeadnfckgaaDoorIdsBase
namespace Go.Proofs.YtbjcjeadnfckgaaDoor
set_option maxRecDepth 100000
open Go.ChangeShapes Go.WideShapes Go.ChangeAt Go.RowKit
set_option linter.unusedVariables false

def rightB (a : Int) : Bool := decide (0 < a ∧ a < 281474976710656 ∧ a / 1099511627776 % 2 = 0)

theorem refright_any (a : Int) (hp0 : 0 ≤ a) (hp1 : a ≤ 18446744073709551615) (w : World) :
    Calls Tryd.prog 22 #[.int .u64 a] w fun e w' => e = .returned (.bool (rightB a)) ∧ w = w' := by
  go_enter Tryd.func22, Tryd.ntmps22
  go_wp2
  all_goals go_ret
  all_goals exact ⟨ret_bool (by unfold rightB; rw [Bool.eq_iff_iff]; simp <;> omega), rfl⟩

end Go.Proofs.YtbjcjeadnfckgaaDoor
