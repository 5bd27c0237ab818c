/- Times: contracts of the functions of span and of the document's answers, for every argument. -/
import Derived.Test.YtlpnlbhnemnpeaaRows
import Derived.Test.YtlpnlbhnemnpeaaKit
import Derived.Lib.MinMax
namespace Go.Proofs.Ytlpnlbhnemnpeaa
open Go.ChangeShapes Go.WideShapes Go.ChangeAt Go.RowKit
set_option linter.unusedVariables false

/-- A number, cut to what a field tells. -/
def cutI (t : Int) : Int := min (max t 0) 65535
/-- Whole seconds, and begun ones. -/
def floorI (t : Int) : Int := max t 0 / 256
def ceilI (t : Int) : Int := (max t 0 + 255) / 256
def ofI (s : Int) : Int := cutI (cutI s * 256)
def olderI (t : Int) : Int := cutI (cutI t + 256)

theorem cutI_bd (t : Int) : 0 ≤ cutI t ∧ cutI t ≤ 65535 := by unfold cutI; omega
theorem floorI_bd (t : Int) (h : t ≤ 9223372036854775807) : 0 ≤ floorI t ∧ floorI t ≤ 36028797018963967 := by unfold floorI; omega
theorem ceilI_bd (t : Int) (h : t ≤ 9223372036854775807) : 0 ≤ ceilI t ∧ ceilI t ≤ 36028797018963968 := by unfold ceilI; omega

theorem cut_any (t : Int) (h0 : -9223372036854775808 ≤ t) (h1 : t ≤ 9223372036854775807) (w : World) :
    Calls Try.prog 17 #[.int .i64 t] w fun e w' => e = .returned (.int .i64 (cutI t)) ∧ w = w' := by
  go_enter Try.func17, Try.ntmps17
  go_wp2
  go_ret
  exact ⟨rfl, rfl⟩

theorem field_any (t : Int) (h0 : -9223372036854775808 ≤ t) (h1 : t ≤ 9223372036854775807) (w : World) :
    Calls Try.prog 9 #[.int .i64 t] w fun e w' => e = .returned (.int .u16 (cutI t)) ∧ w = w' := by
  obtain ⟨b0, b1⟩ := cutI_bd t
  go_enter Try.func9, Try.ntmps9
  go_wp2_with (go_at_call 17; (with_reducible refine (cut_any _ h0 h1 _).mono ?_); rintro e w' ⟨rfl, rfl⟩)
  go_ret
  exact ⟨rfl, rfl⟩

theorem of_any (s : Int) (h0 : -9223372036854775808 ≤ s) (h1 : s ≤ 9223372036854775807) (w : World) :
    Calls Try.prog 11 #[.int .i64 s] w fun e w' => e = .returned (.int .i64 (ofI s)) ∧ w = w' := by
  obtain ⟨b0, b1⟩ := cutI_bd s
  go_enter Try.func11, Try.ntmps11
  go_wp2_with (go_at_call 17; (with_reducible refine (cut_any _ (by omega) (by omega) _).mono ?_); rintro e w' ⟨rfl, rfl⟩)
  go_ret
  exact ⟨rfl, rfl⟩

theorem older_any (t : Int) (h0 : -9223372036854775808 ≤ t) (h1 : t ≤ 9223372036854775807) (w : World) :
    Calls Try.prog 13 #[.int .i64 t] w fun e w' => e = .returned (.int .i64 (olderI t)) ∧ w = w' := by
  obtain ⟨b0, b1⟩ := cutI_bd t
  go_enter Try.func13, Try.ntmps13
  go_wp2_with (go_at_call 17; (with_reducible refine (cut_any _ (by omega) (by omega) _).mono ?_); rintro e w' ⟨rfl, rfl⟩)
  go_ret
  exact ⟨rfl, rfl⟩

theorem floor_any (t : Int) (h0 : -9223372036854775808 ≤ t) (h1 : t ≤ 9223372036854775807) (w : World) :
    Calls Try.prog 15 #[.int .i64 t] w fun e w' => e = .returned (.int .i64 (floorI t)) ∧ w = w' := by
  have m0 : 0 ≤ max t 0 := by omega
  have m1 : max t 0 ≤ 9223372036854775807 := by omega
  go_enter Try.func15, Try.ntmps15
  go_wp2
  go_ret
  exact ⟨rfl, rfl⟩

theorem ceil_any (t : Int) (h0 : -9223372036854775808 ≤ t) (h1 : t ≤ 9223372036854775807) (w : World) :
    Calls Try.prog 16 #[.int .i64 t] w fun e w' => e = .returned (.int .i64 (ceilI t)) ∧ w = w' := by
  have m0 : 0 ≤ max t 0 := by omega
  have m1 : max t 0 ≤ 9223372036854775807 := by omega
  obtain ⟨b0, b1⟩ := floorI_bd t h1
  go_enter Try.func16, Try.ntmps16
  go_wp2_with (go_at_call 15; (with_reducible refine (floor_any _ h0 h1 _).mono ?_); rintro e w' ⟨rfl, rfl⟩)
  all_goals go_ret
  all_goals exact ⟨ret_int (by unfold floorI ceilI; omega), rfl⟩

theorem refcut_any (t : Int) (h0 : -9223372036854775808 ≤ t) (h1 : t ≤ 9223372036854775807) (w : World) :
    Calls Try.prog 10 #[.int .i64 t] w fun e w' => e = .returned (.int .i64 (cutI t)) ∧ w = w' := by
  go_enter Try.func10, Try.ntmps10
  go_wp2
  all_goals go_ret
  all_goals exact ⟨ret_int (by unfold cutI; omega), rfl⟩

theorem awake_span (w : World) : Calls Try.prog 8 #[] w fun e w' => e = .returned (.bool true) ∧ w = w' := by
  have o1 : ofI 20 = 5120 := by decide
  have o2 : ceilI 257 = 2 := by decide
  have o3 : floorI 257 = 1 := by decide
  go_enter Try.func8, Try.ntmps8
  go_wp2_with (first
    | (go_at_call 11; (with_reducible refine (of_any _ (by omega) (by omega) _).mono ?_); rintro e w' ⟨rfl, rfl⟩)
    | (go_at_call 16; (with_reducible refine (ceil_any _ (by omega) (by omega) _).mono ?_); rintro e w' ⟨rfl, rfl⟩)
    | (go_at_call 15; (with_reducible refine (floor_any _ (by omega) (by omega) _).mono ?_); rintro e w' ⟨rfl, rfl⟩))
  go_ret
  exact ⟨rfl, rfl⟩

end Go.Proofs.Ytlpnlbhnemnpeaa
