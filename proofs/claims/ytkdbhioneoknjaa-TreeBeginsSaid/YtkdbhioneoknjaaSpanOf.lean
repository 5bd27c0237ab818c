/- Times of seconds: contract. -/
import Derived.Test.YtkdbhioneoknjaaRows
import Derived.Test.YtkdbhioneoknjaaKit
import Derived.Lib.MinMax
namespace Go.Proofs.Ytkdbhioneoknjaa
open Go.ChangeShapes Go.WideShapes Go.ChangeAt Go.RowKit
set_option linter.unusedVariables false

/-- A number, cut to what a field tells. -/
def cutI (t : Int) : Int := min (max t 0) 65535
def ofI (s : Int) : Int := cutI (cutI s * 256)
theorem cutI_bd (t : Int) : 0 ≤ cutI t ∧ cutI t ≤ 65535 := by unfold cutI; omega
theorem cut_any (t : Int) (h0 : -9223372036854775808 ≤ t) (h1 : t ≤ 9223372036854775807) (w : World) :
    Calls Try.prog 56 #[.int .i64 t] w fun e w' => e = .returned (.int .i64 (cutI t)) ∧ w = w' := by
  go_enter Try.func56, Try.ntmps56
  go_wp2
  go_ret
  exact ⟨rfl, rfl⟩

theorem of_any (s : Int) (h0 : -9223372036854775808 ≤ s) (h1 : s ≤ 9223372036854775807) (w : World) :
    Calls Try.prog 41 #[.int .i64 s] w fun e w' => e = .returned (.int .i64 (ofI s)) ∧ w = w' := by
  obtain ⟨b0, b1⟩ := cutI_bd s
  go_enter Try.func41, Try.ntmps41
  go_wp2_with (go_at_call 56; (with_reducible refine (cut_any _ (by omega) (by omega) _).mono ?_); rintro e w' ⟨rfl, rfl⟩)
  go_ret
  exact ⟨rfl, rfl⟩

end Go.Proofs.Ytkdbhioneoknjaa
