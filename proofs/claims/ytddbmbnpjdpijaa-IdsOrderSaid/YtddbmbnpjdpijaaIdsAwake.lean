/- The document's example holds. -/
import Derived.Test.YtddbmbnpjdpijaaIdsText
import Derived.Test.YtddbmbnpjdpijaaIdsNum
namespace Go.Proofs.Ytddbmbnpjdpijaa
open Go.ChangeShapes Go.WideShapes Go.ChangeAt Go.RowKit
set_option linter.unusedVariables false

theorem txt258 : txt 258 = [48, 48, 58, 48, 48, 58, 48, 48, 58, 48, 48, 58, 48, 49, 58, 48, 50] := by decide

theorem awake_any (w : World) : Calls Try.prog 8 #[] w fun e w' => e = .returned (.bool true) ∧ Below w.heap.size w w' := by
  have r1 : resB 1652522221583 = true := by decide
  have r2 : resB 1652522221584 = false := by decide
  go_enter Try.func8, Try.ntmps8
  go_wp2_with (first
    | (go_at_call 22; refine (text_any 258 (by omega) (by omega) _).mono ?_; rintro e w1 ⟨rfl, hb1⟩; rw [txt258])
    | (go_at_call 17; refine (reserved_any _ (by omega) (by omega) _).mono ?_; rintro e w' ⟨rfl, rfl⟩))
  go_ret
  exact ⟨rfl, hb1⟩

end Go.Proofs.Ytddbmbnpjdpijaa
