/- Which addresses may be one's: contracts of Group and Right, the program's and the document's. -/
import Derived.Test.YtbjcjeadnfckgaaDoorIdsRefRight
import Derived.Test.YtbjcjeadnfckgaaDoorIdsBase
namespace Go.Proofs.YtbjcjeadnfckgaaDoor
set_option maxRecDepth 100000
open Go.ChangeShapes Go.WideShapes Go.ChangeAt Go.RowKit
set_option linter.unusedVariables false

def groupB (a : Int) : Bool := a / 1099511627776 % 2 == 1
theorem group_any (a : Int) (hp0 : 0 ≤ a) (hp1 : a ≤ 18446744073709551615) (w : World) :
    Calls Tryd.prog 15 #[.int .u64 a] w fun e w' => e = .returned (.bool (groupB a)) ∧ w = w' := by
  go_enter Tryd.func15, Tryd.ntmps15
  go_wp2
  go_ret
  exact ⟨ret_bool (bit40 a hp0 hp1), rfl⟩

theorem right_any (a : Int) (hp0 : 0 ≤ a) (hp1 : a ≤ 18446744073709551615) (w : World) :
    Calls Tryd.prog 21 #[.int .u64 a] w fun e w' => e = .returned (.bool (rightB a)) ∧ w = w' := by
  go_enter Tryd.func21, Tryd.ntmps21
  go_wp2_with (go_at_call 15; refine (group_any _ hp0 hp1 _).mono ?_; rintro e w' ⟨rfl, rfl⟩)
  all_goals go_ret
  all_goals exact ⟨ret_bool (by unfold rightB; (try unfold groupB); rw [Bool.eq_iff_iff]; simp <;> omega), rfl⟩

end Go.Proofs.YtbjcjeadnfckgaaDoor
