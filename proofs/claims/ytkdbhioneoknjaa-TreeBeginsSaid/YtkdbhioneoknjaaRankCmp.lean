/- cmp.Compare of the numbers of a telling, and cmp.Or of two and of three. -/
import Derived.Test.YtkdbhioneoknjaaRankMath
import Derived.Test.YtkdbhioneoknjaaKit
import Derived.RegionTactic
import Derived.BigRegion
namespace Go.Proofs.Ytkdbhioneoknjaa
open Go.ChangeShapes Go.WideShapes Go.ChangeAt Go.RowKit
set_option linter.unusedVariables false

theorem isnanP (x : Int) (w : World) : Calls Try.prog 66 #[.int .u16 x] w fun e w' => e = .returned (.bool false) ∧ w = w' := by
  go_enter Try.func66, Try.ntmps66
  go_wp2
  go_ret
  exact ⟨by simp, rfl⟩

theorem cmpP_is (x y : Int) (w : World) : Calls Try.prog 62 #[.int .u16 x, .int .u16 y] w fun e w' => e = .returned (.int .i64 (cmpI x y)) ∧ w = w' := by
  rcases Int.lt_trichotomy x y with h | h | h
  · have hc : cmpI x y = -1 := cmpI_lt h
    rw [hc]; clear hc
    go_enter Try.func62, Try.ntmps62
    go_wp2_with (go_at_call 66; (with_reducible refine (isnanP _ _).mono ?_); rintro e w' ⟨rfl, rfl⟩)
    go_ret
    exact ⟨rfl, rfl⟩
  · subst h
    have hc : cmpI x x = 0 := cmpI_eq x
    rw [hc]; clear hc
    have h1 : decide (x < x) = false := by simp
    go_enter Try.func62, Try.ntmps62
    go_wp2_with (go_at_call 66; (with_reducible refine (isnanP _ _).mono ?_); rintro e w' ⟨rfl, rfl⟩)
    go_ret
    exact ⟨rfl, rfl⟩
  · have hc : cmpI x y = 1 := cmpI_gt h
    rw [hc]; clear hc
    have h1 : decide (x < y) = false := by simp; omega
    go_enter Try.func62, Try.ntmps62
    go_wp2_with (go_at_call 66; (with_reducible refine (isnanP _ _).mono ?_); rintro e w' ⟨rfl, rfl⟩)
    go_ret
    exact ⟨rfl, rfl⟩

theorem isnanB (x : Int) (w : World) : Calls Try.prog 69 #[.int .u64 x] w fun e w' => e = .returned (.bool false) ∧ w = w' := by
  go_enter Try.func69, Try.ntmps69
  go_wp2
  go_ret
  exact ⟨by simp, rfl⟩

theorem cmpB_is (x y : Int) (w : World) : Calls Try.prog 67 #[.int .u64 x, .int .u64 y] w fun e w' => e = .returned (.int .i64 (cmpI x y)) ∧ w = w' := by
  rcases Int.lt_trichotomy x y with h | h | h
  · have hc : cmpI x y = -1 := cmpI_lt h
    rw [hc]; clear hc
    go_enter Try.func67, Try.ntmps67
    go_wp2_with (go_at_call 69; (with_reducible refine (isnanB _ _).mono ?_); rintro e w' ⟨rfl, rfl⟩)
    go_ret
    exact ⟨rfl, rfl⟩
  · subst h
    have hc : cmpI x x = 0 := cmpI_eq x
    rw [hc]; clear hc
    have h1 : decide (x < x) = false := by simp
    go_enter Try.func67, Try.ntmps67
    go_wp2_with (go_at_call 69; (with_reducible refine (isnanB _ _).mono ?_); rintro e w' ⟨rfl, rfl⟩)
    go_ret
    exact ⟨rfl, rfl⟩
  · have hc : cmpI x y = 1 := cmpI_gt h
    rw [hc]; clear hc
    have h1 : decide (x < y) = false := by simp; omega
    go_enter Try.func67, Try.ntmps67
    go_wp2_with (go_at_call 69; (with_reducible refine (isnanB _ _).mono ?_); rintro e w' ⟨rfl, rfl⟩)
    go_ret
    exact ⟨rfl, rfl⟩

theorem isnanC (x : Int) (w : World) : Calls Try.prog 70 #[.int .u32 x] w fun e w' => e = .returned (.bool false) ∧ w = w' := by
  go_enter Try.func70, Try.ntmps70
  go_wp2
  go_ret
  exact ⟨by simp, rfl⟩

theorem cmpC_is (x y : Int) (w : World) : Calls Try.prog 68 #[.int .u32 x, .int .u32 y] w fun e w' => e = .returned (.int .i64 (cmpI x y)) ∧ w = w' := by
  rcases Int.lt_trichotomy x y with h | h | h
  · have hc : cmpI x y = -1 := cmpI_lt h
    rw [hc]; clear hc
    go_enter Try.func68, Try.ntmps68
    go_wp2_with (go_at_call 70; (with_reducible refine (isnanC _ _).mono ?_); rintro e w' ⟨rfl, rfl⟩)
    go_ret
    exact ⟨rfl, rfl⟩
  · subst h
    have hc : cmpI x x = 0 := cmpI_eq x
    rw [hc]; clear hc
    have h1 : decide (x < x) = false := by simp
    go_enter Try.func68, Try.ntmps68
    go_wp2_with (go_at_call 70; (with_reducible refine (isnanC _ _).mono ?_); rintro e w' ⟨rfl, rfl⟩)
    go_ret
    exact ⟨rfl, rfl⟩
  · have hc : cmpI x y = 1 := cmpI_gt h
    rw [hc]; clear hc
    have h1 : decide (x < y) = false := by simp; omega
    go_enter Try.func68, Try.ntmps68
    go_wp2_with (go_at_call 70; (with_reducible refine (isnanC _ _).mono ?_); rintro e w' ⟨rfl, rfl⟩)
    go_ret
    exact ⟨rfl, rfl⟩

theorem or2_is (B : Nat) (x y : Int) (w : World) (h0 : w.cell? ⟨B, 0, none⟩ = some (.int .i64 x)) (h1 : w.cell? ⟨B, 1, none⟩ = some (.int .i64 y)) :
    Calls Try.prog 61 #[.slice (some ⟨B, 0, none⟩) 2 2] w fun e w' => e = .returned (.int .i64 (orI x y)) ∧ w = w' := by
  by_cases hx : x = 0
  · by_cases hy : y = 0
    · have hc : orI x y = 0 := by unfold orI; rw [if_pos hx, hy]
      rw [hc]; clear hc
      go_enter Try.func61, Try.ntmps61
      go_wp2
      go_rounds 3
      go_ret
      exact ⟨rfl, rfl⟩
    · have hc : orI x y = y := by unfold orI; rw [if_pos hx]
      rw [hc]; clear hc
      go_enter Try.func61, Try.ntmps61
      go_wp2
      go_rounds 3
      go_ret
      exact ⟨rfl, rfl⟩
  · have hc : orI x y = x := by unfold orI; rw [if_neg hx]
    rw [hc]; clear hc
    go_enter Try.func61, Try.ntmps61
    go_wp2
    go_rounds 3
    go_ret
    exact ⟨rfl, rfl⟩

theorem or3_is (B : Nat) (x y z : Int) (w : World) (h0 : w.cell? ⟨B, 0, none⟩ = some (.int .i64 x)) (h1 : w.cell? ⟨B, 1, none⟩ = some (.int .i64 y)) (h2 : w.cell? ⟨B, 2, none⟩ = some (.int .i64 z)) :
    Calls Try.prog 61 #[.slice (some ⟨B, 0, none⟩) 3 3] w fun e w' => e = .returned (.int .i64 (orI x (orI y z))) ∧ w = w' := by
  by_cases hx : x = 0
  · by_cases hy : y = 0
    · by_cases hz : z = 0
      · have hc : orI x (orI y z) = 0 := by unfold orI; rw [if_pos hx, if_pos hy, hz]
        rw [hc]; clear hc
        go_enter Try.func61, Try.ntmps61
        go_wp2
        go_rounds 4
        go_ret
        exact ⟨rfl, rfl⟩
      · have hc : orI x (orI y z) = z := by unfold orI; rw [if_pos hx, if_pos hy]
        rw [hc]; clear hc
        go_enter Try.func61, Try.ntmps61
        go_wp2
        go_rounds 4
        go_ret
        exact ⟨rfl, rfl⟩
    · have hc : orI x (orI y z) = y := by unfold orI; rw [if_pos hx, if_neg hy]
      rw [hc]; clear hc
      go_enter Try.func61, Try.ntmps61
      go_wp2
      go_rounds 4
      go_ret
      exact ⟨rfl, rfl⟩
  · have hc : orI x (orI y z) = x := by unfold orI; rw [if_neg hx]
    rw [hc]; clear hc
    go_enter Try.func61, Try.ntmps61
    go_wp2
    go_rounds 4
    go_ret
    exact ⟨rfl, rfl⟩

end Go.Proofs.Ytkdbhioneoknjaa
