/- Contracts of Slot and Next: the program's alone. -/
import Derived.Test.YtokepfgknffdfaaHashOne
namespace Go.Proofs.Ytokepfgknffdfaa
open Go.ChangeShapes Go.WideShapes Go.ChangeAt Go.RowKit
set_option linter.unusedVariables false

theorem slot_none (a n : Int) (h : n < 1) (hn0 : -9223372036854775808 ≤ n) (w : World) :
    Calls Try.prog 36 #[.int .u64 a, .int .i64 n] w fun e w' => e = .returned (.int .i64 0) ∧ Below w.heap.size w w' := by
  go_enter Try.func36, Try.ntmps36
  go_wp2
  go_ret
  exact ⟨rfl, Below.refl _ _⟩

theorem slot_some (a n : Int) (hp0 : 0 ≤ a) (hp1 : a ≤ 18446744073709551615) (h : 1 ≤ n) (hn1 : n ≤ 9223372036854775807) (w : World) :
    Calls Try.prog 36 #[.int .u64 a, .int .i64 n] w fun e w' => e = .returned (.int .i64 (fnv a % n)) ∧ Below w.heap.size w w' := by
  have HO := Lib.hid (hashof_any a hp0 hp1 w)
  obtain ⟨f0, f1⟩ := fnv_bd a
  obtain ⟨g0, g1⟩ := fnv_mod a n h
  go_enter Try.func36, Try.ntmps36
  go_wp2_with ((with_reducible refine HO.out.mono ?_); rintro e w1 ⟨rfl, hb⟩)
  go_ret
  exact ⟨rfl, hb⟩

theorem next_any (i n : Int) (hi0 : -9223372036854775808 ≤ i) (hi1 : i ≤ 9223372036854775807) (hn0 : -9223372036854775808 ≤ n) (hn1 : n ≤ 9223372036854775807) (w : World) :
    Calls Try.prog 37 #[.int .i64 i, .int .i64 n] w fun e w' => e = .returned (.int .i64 (nextI i n)) ∧ w = w' := by
  by_cases h : n < 1
  · go_enter Try.func37, Try.ntmps37
    go_wp2
    all_goals go_ret
    all_goals exact ⟨ret_int (by unfold nextI; rw [if_neg (by omega)]), rfl⟩
  · by_cases h2 : 0 ≤ i ∧ i < n - 1
    · obtain ⟨h3, h4⟩ := h2
      have h5 : 1 ≤ n := by omega
      go_enter Try.func37, Try.ntmps37
      go_wp2
      all_goals go_ret
      all_goals exact ⟨ret_int (by unfold nextI; rw [if_pos ⟨h3, h4⟩]), rfl⟩
    · have h5 : 1 ≤ n := by omega
      have hz : nextI i n = 0 := if_neg h2
      rw [hz]
      clear hz
      go_enter Try.func37, Try.ntmps37
      go_wp2
      all_goals first | (exfalso; omega) | skip
      all_goals go_ret
      all_goals exact ⟨rfl, rfl⟩

end Go.Proofs.Ytokepfgknffdfaa
