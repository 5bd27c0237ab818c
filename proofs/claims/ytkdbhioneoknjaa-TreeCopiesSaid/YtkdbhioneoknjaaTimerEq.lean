/- '==' of timers. -/
import Derived.Test.YtkdbhioneoknjaaRows
import Derived.Test.YtkdbhioneoknjaaKit
import Derived.Laws.StructEq
namespace Go.Proofs.Ytkdbhioneoknjaa
open Go.ChangeShapes Go.WideShapes Go.ChangeAt Go.RowKit
set_option linter.unusedVariables false

/-- '==' of timers. -/
theorem tmr_eq (o q : Bool) (v u : Int) (r : Bool) (hr : (decide (o = q) && decide (v = u)) = r) (w : World) : (Op.equalIn 10000 28 (.agg #[.bool o, .int .i64 v]) (.agg #[.bool q, .int .i64 u])).run Try.prog w = .ok r w := by
  rw [show (10000 : Nat) = 9999 + 1 from rfl, run_equalIn_struct w 9999 28 _ _ (by kernel_rfl) (by kernel_rfl)]
  simp only [Program.fieldsOf, Try.underlying28]
  subst hr
  cases o <;> cases q <;> go_simp <;> first | (done) | simp_all | (split <;> simp_all)

end Go.Proofs.Ytkdbhioneoknjaa
