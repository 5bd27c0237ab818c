/- Which addresses are reserved: contract. -/
import Derived.Test.YtbjcjeadnfckgaaDoorIdsBase
namespace Go.Proofs.YtbjcjeadnfckgaaDoor
set_option maxRecDepth 100000
open Go.ChangeShapes Go.WideShapes Go.ChangeAt Go.RowKit
set_option linter.unusedVariables false

def resB (a : Int) : Bool := a / 16 == 103282638848

theorem reserved_any (a : Int) (hp0 : 0 ≤ a) (hp1 : a ≤ 18446744073709551615) (w : World) :
    Calls Tryd.prog 18 #[.int .u64 a] w fun e w' => e = .returned (.bool (resB a)) ∧ w = w' := by
  go_enter Tryd.func18, Tryd.ntmps18
  go_wp2
  all_goals go_ret
  all_goals exact ⟨ret_bool (by unfold resB; rw [Bool.eq_iff_iff]; simp <;> omega), rfl⟩

end Go.Proofs.YtbjcjeadnfckgaaDoor
