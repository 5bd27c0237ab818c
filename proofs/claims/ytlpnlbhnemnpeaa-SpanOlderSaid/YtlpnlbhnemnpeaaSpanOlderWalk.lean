/- The law SpanOlder, walked: it answers true, whatever the ages. -/
import Derived.Test.YtlpnlbhnemnpeaaSpanNum
namespace Go.Proofs.Ytlpnlbhnemnpeaa
open Go.ChangeShapes Go.WideShapes Go.ChangeAt Go.RowKit
set_option linter.unusedVariables false

theorem SpanOlder_walk (a0 : Int) (a1 : Int) (w0 : (Lit.int .i64 a0).wf = true) (w1 : (Lit.int .i64 a1).wf = true) (w : World) :
    Calls Try.prog 5 #[.int .i64 a0, .int .i64 a1] w fun e w' => e = .returned (.bool true) ∧ Below w.heap.size w w' := by
  obtain ⟨p0, p1⟩ := bounds_i64 w0
  obtain ⟨q0, q1⟩ := bounds_i64 w1
  clear w0 w1
  have x1 : decide (olderI a0 < 256) = false := by unfold olderI cutI; simp only [decide_eq_false_iff_not]; omega
  have x2 : decide (65535 < olderI a0) = false := by unfold olderI cutI; simp only [decide_eq_false_iff_not]; omega
  have x3 : a0 ≤ a1 → decide (olderI a1 < olderI a0) = false := fun h => by unfold olderI cutI; simp only [decide_eq_false_iff_not]; omega
  have x4 : a0 ≤ 65535 → decide (olderI a0 < a0) = false := fun h => by unfold olderI cutI; simp only [decide_eq_false_iff_not]; omega
  have x5 : 0 ≤ a0 → a0 ≤ 65279 → (olderI a0 == a0 + 256) = true := fun h g => by unfold olderI cutI; simp only [beq_iff_eq]; omega
  have c1 : a0 ≤ a1 ∨ a1 < a0 := by omega
  have c2 : a0 < 0 ∨ (0 ≤ a0 ∧ a0 ≤ 65279) ∨ (65279 < a0 ∧ a0 ≤ 65535) ∨ 65535 < a0 := by omega
  rcases c1 with c1 | c1
  · replace x3 := x3 c1
    have d1 : decide (a0 ≤ a1) = true := by simp only [decide_eq_true_eq]; omega
    rcases c2 with c2 | ⟨c2, c3⟩ | ⟨c2, c3⟩ | c2
    · replace x4 := x4 (by omega); clear x5
      go_enter Try.func5, Try.ntmps5
      go_wp2_with (first
        | (go_at_call 8; (with_reducible refine (awake_span _).mono ?_); rintro e w' ⟨rfl, rfl⟩)
        | (go_at_call 13; (with_reducible refine (older_any _ (by omega) (by omega) _).mono ?_); rintro e w' ⟨rfl, rfl⟩))
      go_ret
      exact ⟨rfl, Below.refl _ _⟩
    · replace x4 := x4 (by omega); replace x5 := x5 c2 c3
      go_enter Try.func5, Try.ntmps5
      go_wp2_with (first
        | (go_at_call 8; (with_reducible refine (awake_span _).mono ?_); rintro e w' ⟨rfl, rfl⟩)
        | (go_at_call 13; (with_reducible refine (older_any _ (by omega) (by omega) _).mono ?_); rintro e w' ⟨rfl, rfl⟩))
      go_ret
      exact ⟨rfl, Below.refl _ _⟩
    · replace x4 := x4 (by omega); clear x5
      go_enter Try.func5, Try.ntmps5
      go_wp2_with (first
        | (go_at_call 8; (with_reducible refine (awake_span _).mono ?_); rintro e w' ⟨rfl, rfl⟩)
        | (go_at_call 13; (with_reducible refine (older_any _ (by omega) (by omega) _).mono ?_); rintro e w' ⟨rfl, rfl⟩))
      go_ret
      exact ⟨rfl, Below.refl _ _⟩
    · clear x4 x5
      go_enter Try.func5, Try.ntmps5
      go_wp2_with (first
        | (go_at_call 8; (with_reducible refine (awake_span _).mono ?_); rintro e w' ⟨rfl, rfl⟩)
        | (go_at_call 13; (with_reducible refine (older_any _ (by omega) (by omega) _).mono ?_); rintro e w' ⟨rfl, rfl⟩))
      go_ret
      exact ⟨rfl, Below.refl _ _⟩
  · clear x3
    have d1 : decide (a0 ≤ a1) = false := by simp only [decide_eq_false_iff_not]; omega
    rcases c2 with c2 | ⟨c2, c3⟩ | ⟨c2, c3⟩ | c2
    · replace x4 := x4 (by omega); clear x5
      go_enter Try.func5, Try.ntmps5
      go_wp2_with (first
        | (go_at_call 8; (with_reducible refine (awake_span _).mono ?_); rintro e w' ⟨rfl, rfl⟩)
        | (go_at_call 13; (with_reducible refine (older_any _ (by omega) (by omega) _).mono ?_); rintro e w' ⟨rfl, rfl⟩))
      go_ret
      exact ⟨rfl, Below.refl _ _⟩
    · replace x4 := x4 (by omega); replace x5 := x5 c2 c3
      go_enter Try.func5, Try.ntmps5
      go_wp2_with (first
        | (go_at_call 8; (with_reducible refine (awake_span _).mono ?_); rintro e w' ⟨rfl, rfl⟩)
        | (go_at_call 13; (with_reducible refine (older_any _ (by omega) (by omega) _).mono ?_); rintro e w' ⟨rfl, rfl⟩))
      go_ret
      exact ⟨rfl, Below.refl _ _⟩
    · replace x4 := x4 (by omega); clear x5
      go_enter Try.func5, Try.ntmps5
      go_wp2_with (first
        | (go_at_call 8; (with_reducible refine (awake_span _).mono ?_); rintro e w' ⟨rfl, rfl⟩)
        | (go_at_call 13; (with_reducible refine (older_any _ (by omega) (by omega) _).mono ?_); rintro e w' ⟨rfl, rfl⟩))
      go_ret
      exact ⟨rfl, Below.refl _ _⟩
    · clear x4 x5
      go_enter Try.func5, Try.ntmps5
      go_wp2_with (first
        | (go_at_call 8; (with_reducible refine (awake_span _).mono ?_); rintro e w' ⟨rfl, rfl⟩)
        | (go_at_call 13; (with_reducible refine (older_any _ (by omega) (by omega) _).mono ?_); rintro e w' ⟨rfl, rfl⟩))
      go_ret
      exact ⟨rfl, Below.refl _ _⟩

end Go.Proofs.Ytlpnlbhnemnpeaa
