/- The document's example, walked. -/
import Derived.Test.YtlklklkjjmlgeaaSlotsApiI
namespace Go.Proofs.Ytlklklkjjmlgeaa
open Go.ChangeShapes Go.WideShapes Go.ChangeAt Go.RowKit
set_option linter.unusedVariables false

theorem But.belowN {B g : Nat} {a w w' : World} (h : Below B a w) (k : But g w w') (hB : B ≤ w.heap.size) (hg : B ≤ g) : Below B a w' := But.below h k hB hg

set_option maxHeartbeats 1000000 in
theorem awake_is (w : World) : Calls Try.prog 8 #[] w fun e w' => e = .returned (.bool true) ∧ Below w.heap.size w w' := by
  go_enter Try.func8, Try.ntmps8
  go_wp2_with fail
  (with_reducible refine (newI_api 1 1 (by decide) _).mono ?_); rintro e w1 ⟨rfl, t1, b1⟩
  have T1 := Lib.hid t1
  clear t1
  go_wp2_with fail
  (with_reducible refine (putI_api T1.out 5 (by omega) (by omega) 1 true (by decide) ).mono ?_); rintro e w2 ⟨rfl, t2, b2⟩
  have T2 := Lib.hid t2
  have B2 := But.below b1 b2 b1.size (Nat.le_refl _)
  clear t2 b2
  go_wp2_with fail
  (with_reducible refine (putI_api T2.out 6 (by omega) (by omega) 2 false (by decide) ).mono ?_); rintro e w3 ⟨rfl, t3, b3⟩
  have T3 := Lib.hid t3
  have B3 := But.below B2 b3 B2.size (Nat.le_refl _)
  clear t3 b3
  go_wp2_with fail
  (with_reducible refine (putI_api T3.out 5 (by omega) (by omega) 3 true (by decide) ).mono ?_); rintro e w4 ⟨rfl, t4, b4⟩
  have T4 := Lib.hid t4
  have B4 := But.below B3 b4 B3.size (Nat.le_refl _)
  clear t4 b4
  go_wp2_with fail
  (with_reducible refine (getI_api T4.out 5 (by omega) (by omega) (some 3) (by decide)).mono ?_); rintro e w5 ⟨rfl, b5⟩
  have T5 := Lib.hid (T4.out.below b5)
  have B5 : Below w.heap.size w w5 := B4.trans (b5.mono B4.size)
  clear b5
  have o5 : ofOI (some 3) = .int .i64 3 := rfl
  go_wp2_with fail
  (with_reducible refine (lenI_api T5.out).mono ?_); rintro e w6 ⟨rfl, b6⟩
  have B6 : Below w.heap.size w w6 := B5.trans (b6.mono B5.size)
  clear b6
  have hl : (putEnd (putEnd (putEnd ([] : List (Int × Int)) 5 1 true) 6 2 false) 5 3 true).length = 1 := by decide
  rw [hl]
  go_wp2
  go_ret
  exact ⟨rfl, B6⟩

end Go.Proofs.Ytlklklkjjmlgeaa
