/- Timers: contracts of the functions of timer and of the document's answers. -/
import Derived.Test.YtdpdgipbcimnlaaRows
import Derived.Test.YtdpdgipbcimnlaaKit
import Derived.Lib.MinMax
import Derived.RegionTactic
import Derived.BigRegion
import Derived.Deep.DeepCutAuto
namespace Go.Proofs.Ytdpdgipbcimnlaa
open Go.ChangeShapes Go.WideShapes Go.ChangeAt Go.RowKit
set_option linter.unusedVariables false

/-- A timer, as a value. -/
def tmr (o : Bool) (v : Int) : Value := .agg #[.bool o, .int .i64 v]

/-- How long one has run that was started; that ran a second longer. -/
def startI (v : Int) : Int := min (max v 0) 1073741824
def laterI (v : Int) : Int := min v 1073741568 + 256

theorem startI_bd (v : Int) : 0 ≤ startI v ∧ startI v ≤ 1073741824 := by unfold startI; omega
theorem laterI_bd (v : Int) (h : 0 ≤ v) : 256 ≤ laterI v ∧ laterI v ≤ 1073741824 := by unfold laterI; omega
theorem laterI_is (v : Int) (h : 0 ≤ v) : laterI v = startI (v + 256) := by unfold laterI startI; omega

/-- What one calls that answers a timer. -/
def TEnd (W : World) (o : Bool) (v : Int) (e : Ending) (W' : World) : Prop :=
  e = .returned (.agg #[.bool o, .int .i64 v]) ∧ Below W.heap.size W W'

theorem start_is (v : Int) (h0 : -9223372036854775808 ≤ v) (h1 : v ≤ 9223372036854775807) (w : World) :
    Calls Try.prog 9 #[.int .i64 v] w (TEnd w true (startI v)) := by
  obtain ⟨s, hs⟩ : ∃ s, startI v = s := ⟨_, rfl⟩
  have hss : min (max v 0) 1073741824 = s := hs
  have sb := startI_bd v
  rw [hs] at sb ⊢
  clear hs
  go_enter Try.func9, Try.ntmps9
  go_wp2
  exact bodyPost_ret (v := .agg #[.bool true, .int .i64 s]) (by simp [results, Try.results9, go_sem]) rfl ⟨rfl, ((Below.refl _ _).alloc (Nat.le_refl _) _)⟩

theorem stop_is (w : World) : Calls Try.prog 8 #[] w (TEnd w false 0) := by
  go_enter Try.func8, Try.ntmps8
  go_wp2
  exact bodyPost_ret (v := .agg #[.bool false, .int .i64 0]) (by simp [results, Try.results8, go_sem]) rfl ⟨rfl, ((Below.refl _ _).alloc (Nat.le_refl _) _)⟩

theorem tick_on (v : Int) (h0 : 0 ≤ v) (h1 : v ≤ 1073741824) (w : World) :
    Calls Try.prog 13 #[.agg #[.bool true, .int .i64 v]] w (TEnd w true (laterI v)) := by
  obtain ⟨s, hs⟩ : ∃ s, laterI v = s := ⟨_, rfl⟩
  have hss : min v 1073741568 + 256 = s := hs
  have sb := laterI_bd v h0
  rw [hs] at sb ⊢
  clear hs
  go_enter Try.func13, Try.ntmps13
  go_wp2
  exact bodyPost_ret (v := .agg #[.bool true, .int .i64 s]) (by simp [results, Try.results13, go_sem]) rfl ⟨rfl, ((Below.refl _ _).alloc (Nat.le_refl _) _).alloc (by simp) _⟩

theorem tick_off (v : Int) (h0 : 0 ≤ v) (h1 : v ≤ 1073741824) (w : World) :
    Calls Try.prog 13 #[.agg #[.bool false, .int .i64 v]] w (TEnd w false v) := by
  go_enter Try.func13, Try.ntmps13
  go_wp2
  exact bodyPost_ret (v := .agg #[.bool false, .int .i64 v]) (by simp [results, Try.results13, go_sem]) rfl ⟨rfl, ((Below.refl _ _).alloc (Nat.le_refl _) _).alloc (by simp) _⟩

theorem over_is (o : Bool) (v l : Int) (h0 : 0 ≤ v) (h1 : v ≤ 1073741824) (k0 : -9223372036854775808 ≤ l) (k1 : l ≤ 9223372036854775807) (r : Bool) (hr : Hid ((o && decide (l ≤ v)) = r)) (w : World) :
    Calls Try.prog 11 #[.agg #[.bool o, .int .i64 v], .int .i64 l] w fun e w' => e = .returned (.bool r) ∧ Below w.heap.size w w' := by
  cases o with
  | true =>
    go_enter Try.func11, Try.ntmps11
    go_wp2
    go_ret
    exact ⟨ret_bool (by simpa using hr.out), ((Below.refl _ _).alloc (Nat.le_refl _) _)⟩
  | false =>
    go_enter Try.func11, Try.ntmps11
    go_wp2
    go_ret
    exact ⟨ret_bool (by simpa using hr.out), ((Below.refl _ _).alloc (Nat.le_refl _) _)⟩

end Go.Proofs.Ytdpdgipbcimnlaa
