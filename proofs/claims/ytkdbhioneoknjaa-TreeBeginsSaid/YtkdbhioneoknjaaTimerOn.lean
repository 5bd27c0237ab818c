/- Timers: what they are; Start and Stop: contracts. -/
import Derived.Test.YtkdbhioneoknjaaRows
import Derived.Test.YtkdbhioneoknjaaKit
import Derived.Lib.MinMax
import Derived.RegionTactic
import Derived.BigRegion
import Derived.Deep.DeepCutAuto
namespace Go.Proofs.Ytkdbhioneoknjaa
open Go.ChangeShapes Go.WideShapes Go.ChangeAt Go.RowKit
set_option linter.unusedVariables false

/-- A timer, as a value. -/
def tmr (o : Bool) (v : Int) : Value := .agg #[.bool o, .int .i64 v]

/-- How long one has run that was started; that ran a second longer. -/
def startI (v : Int) : Int := min (max v 0) 1073741824
def laterI (v : Int) : Int := min v 1073741568 + 256

theorem startI_bd (v : Int) : 0 ≤ startI v ∧ startI v ≤ 1073741824 := by unfold startI; omega
theorem laterI_bd (v : Int) (h : 0 ≤ v) : 256 ≤ laterI v ∧ laterI v ≤ 1073741824 := by unfold laterI; omega
theorem laterI_is (v : Int) (h : 0 ≤ v) : laterI v = startI (v + 256) := by unfold laterI startI; omega

/-- What one calls that answers a timer. -/
def TEnd (W : World) (o : Bool) (v : Int) (e : Ending) (W' : World) : Prop :=
  e = .returned (.agg #[.bool o, .int .i64 v]) ∧ Below W.heap.size W W'

theorem start_is (v : Int) (h0 : -9223372036854775808 ≤ v) (h1 : v ≤ 9223372036854775807) (w : World) :
    Calls Try.prog 59 #[.int .i64 v] w (TEnd w true (startI v)) := by
  obtain ⟨s, hs⟩ : ∃ s, startI v = s := ⟨_, rfl⟩
  have hss : min (max v 0) 1073741824 = s := hs
  have sb := startI_bd v
  rw [hs] at sb ⊢
  clear hs
  go_enter Try.func59, Try.ntmps59
  go_wp2
  exact bodyPost_ret (v := .agg #[.bool true, .int .i64 s]) (by simp [results, Try.results59, go_sem]) rfl ⟨rfl, ((Below.refl _ _).alloc (Nat.le_refl _) _)⟩

theorem stop_is (w : World) : Calls Try.prog 42 #[] w (TEnd w false 0) := by
  go_enter Try.func42, Try.ntmps42
  go_wp2
  exact bodyPost_ret (v := .agg #[.bool false, .int .i64 0]) (by simp [results, Try.results42, go_sem]) rfl ⟨rfl, ((Below.refl _ _).alloc (Nat.le_refl _) _)⟩

end Go.Proofs.Ytkdbhioneoknjaa
