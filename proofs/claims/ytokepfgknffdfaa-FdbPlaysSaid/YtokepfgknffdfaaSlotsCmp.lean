/- cmp.Compare of two addresses. -/
import Derived.Test.YtokepfgknffdfaaIdsBase
namespace Go.Proofs.Ytokepfgknffdfaa
open Go.ChangeShapes Go.WideShapes Go.ChangeAt Go.RowKit
set_option linter.unusedVariables false

def cmpA (x y : Int) : Int := if x < y then -1 else if y < x then 1 else 0

theorem isnan_is (x : Int) (w : World) : Calls Try.prog 47 #[.int .u64 x] w fun e w' => e = .returned (.bool false) ∧ w = w' := by
  go_enter Try.func47, Try.ntmps47
  go_wp2
  go_ret
  exact ⟨by simp, rfl⟩

theorem cmp_is (x y : Int) (w : World) : Calls Try.prog 43 #[.int .u64 x, .int .u64 y] w fun e w' => e = .returned (.int .i64 (cmpA x y)) ∧ w = w' := by
  rcases Int.lt_trichotomy x y with h | h | h
  · have hc : cmpA x y = -1 := if_pos h
    rw [hc]; clear hc
    go_enter Try.func43, Try.ntmps43
    go_wp2_with (go_at_call 47; (with_reducible refine (isnan_is _ _).mono ?_); rintro e w' ⟨rfl, rfl⟩)
    go_ret
    exact ⟨rfl, rfl⟩
  · have hc : cmpA x y = 0 := by unfold cmpA; rw [if_neg (by omega), if_neg (by omega)]
    rw [hc]; clear hc
    subst h
    have h1 : decide (x < x) = false := by simp
    go_enter Try.func43, Try.ntmps43
    go_wp2_with (go_at_call 47; (with_reducible refine (isnan_is _ _).mono ?_); rintro e w' ⟨rfl, rfl⟩)
    go_ret
    exact ⟨rfl, rfl⟩
  · have hc : cmpA x y = 1 := by unfold cmpA; rw [if_neg (by omega), if_pos h]
    rw [hc]; clear hc
    have h1 : decide (x < y) = false := by simp; omega
    go_enter Try.func43, Try.ntmps43
    go_wp2_with (go_at_call 47; (with_reducible refine (isnan_is _ _).mono ?_); rintro e w' ⟨rfl, rfl⟩)
    go_ret
    exact ⟨rfl, rfl⟩

end Go.Proofs.Ytokepfgknffdfaa
