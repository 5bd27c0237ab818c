/- The document's Times: contract. -/
import Derived.Test.YtkdbhioneoknjaaConfFew
namespace Go.Proofs.Ytkdbhioneoknjaa
open Go.ChangeShapes Go.WideShapes Go.ChangeAt Go.RowKit
set_option linter.unusedVariables false

set_option maxHeartbeats 1000000 in
theorem rtimes_is (c : Cf) (hb : CB c) (r : Bool) (hr : Hid (timesB c = r)) (w : World) :
    Calls Try.prog 39 #[.agg #[.int .u64 c.ad, .int .u16 c.pr, .int .i64 c.ma, .int .i64 c.he, .int .i64 c.de, .int .i64 c.ag, .int .i64 c.tb, .slice c.A c.n c.cap]] w fun e w' => e = .returned (.bool r) ∧ Below w.heap.size w w' := by
  obtain rfl := hr.out
  obtain ⟨-, -, ⟨a0, a1⟩, ⟨b0, b1⟩, ⟨d0, d1⟩, -⟩ := hb
  clear hr
  go_enter Try.func39, Try.ntmps39
  go_wp2
  all_goals go_ret
  all_goals exact ⟨ret_bool (by unfold timesB inI; rw [Bool.eq_iff_iff]; simp <;> omega), (Below.refl _ _).alloc (Nat.le_refl _) _⟩

end Go.Proofs.Ytkdbhioneoknjaa
