/- Which addresses may be one's: contracts of Group and Right, the program's and the document's. -/
import Derived.Test.YtlccdjkababapaaIdsBase
namespace Go.Proofs.Ytlccdjkababapaa
open Go.ChangeShapes Go.WideShapes Go.ChangeAt Go.RowKit
set_option linter.unusedVariables false

def groupB (a : Int) : Bool := a / 1099511627776 % 2 == 1
def rightB (a : Int) : Bool := decide (0 < a ∧ a < 281474976710656 ∧ a / 1099511627776 % 2 = 0)

theorem group_any (a : Int) (hp0 : 0 ≤ a) (hp1 : a ≤ 18446744073709551615) (w : World) :
    Calls Try.prog 29 #[.int .u64 a] w fun e w' => e = .returned (.bool (groupB a)) ∧ w = w' := by
  go_enter Try.func29, Try.ntmps29
  go_wp2
  go_ret
  exact ⟨ret_bool (bit40 a hp0 hp1), rfl⟩

theorem right_any (a : Int) (hp0 : 0 ≤ a) (hp1 : a ≤ 18446744073709551615) (w : World) :
    Calls Try.prog 20 #[.int .u64 a] w fun e w' => e = .returned (.bool (rightB a)) ∧ w = w' := by
  go_enter Try.func20, Try.ntmps20
  go_wp2_with (go_at_call 29; refine (group_any _ hp0 hp1 _).mono ?_; rintro e w' ⟨rfl, rfl⟩)
  all_goals go_ret
  all_goals exact ⟨ret_bool (by unfold rightB; (try unfold groupB); rw [Bool.eq_iff_iff]; simp <;> omega), rfl⟩

theorem refright_any (a : Int) (hp0 : 0 ≤ a) (hp1 : a ≤ 18446744073709551615) (w : World) :
    Calls Try.prog 24 #[.int .u64 a] w fun e w' => e = .returned (.bool (rightB a)) ∧ w = w' := by
  go_enter Try.func24, Try.ntmps24
  go_wp2
  all_goals go_ret
  all_goals exact ⟨ret_bool (by unfold rightB; rw [Bool.eq_iff_iff]; simp <;> omega), rfl⟩

end Go.Proofs.Ytlccdjkababapaa
