/- Forwards, Learns of a port's state: contracts. -/
import Derived.Test.YtbjcjeadnfckgaaDoorRows
import Derived.Test.YtbjcjeadnfckgaaDoorKit
import Derived.Deep.DeepCutAuto
namespace Go.Proofs.YtbjcjeadnfckgaaDoor
set_option maxRecDepth 100000
open Go.ChangeShapes Go.WideShapes Go.ChangeAt Go.RowKit
set_option linter.unusedVariables false

def learnsB (s : Int) : Bool := decide (s = 3) || decide (s = 4)

theorem fwd_is (s : Int) (w : World) :
    Calls Tryd.prog 23 #[.int .i64 s] w fun e w' => e = .returned (.bool (decide (s = 4))) ∧ w = w' := by
  go_enter Tryd.func23, Tryd.ntmps23
  go_wp2
  go_ret
  exact ⟨ret_bool (by rw [Bool.eq_iff_iff]; simp), rfl⟩

theorem learns_is (s : Int) (q : Bool) (hq : Hid (learnsB s = q)) (w : World) :
    Calls Tryd.prog 20 #[.int .i64 s] w fun e w' => e = .returned (.bool q) ∧ w = w' := by
  have hq := hq.out
  unfold learnsB at hq
  by_cases h : s = 3
  · subst h
    simp at hq
    subst hq
    go_enter Tryd.func20, Tryd.ntmps20
    go_wp2
    go_ret
    exact ⟨rfl, rfl⟩
  · have hb : (s == 3) = false := by simpa using h
    rw [decide_eq_false h, Bool.false_or] at hq
    have HF := fun W => Lib.hid (fwd_is s W)
    rw [hq] at HF
    clear hq
    go_enter Tryd.func20, Tryd.ntmps20
    go_wp2_with (go_at_call 23; (with_reducible refine (HF _).out.mono ?_); rintro e w' ⟨rfl, rfl⟩)
    go_ret
    exact ⟨rfl, rfl⟩

end Go.Proofs.YtbjcjeadnfckgaaDoor
