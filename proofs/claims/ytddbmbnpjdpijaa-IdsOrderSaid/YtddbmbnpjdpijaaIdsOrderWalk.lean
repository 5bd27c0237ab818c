/- The law IdsOrder, walked: it answers true, whatever the numbers. -/
import Derived.Test.YtddbmbnpjdpijaaIdsAwake
namespace Go.Proofs.Ytddbmbnpjdpijaa
open Go.ChangeShapes Go.WideShapes Go.ChangeAt Go.RowKit
set_option linter.unusedVariables false

theorem order_lt_l (a0 a1 a2 a3 a4 a5 : Int) (w : World) (p0 : 0 ≤ a0) (p1 : a0 ≤ 65535) (q0 : 0 ≤ a1) (q1 : a1 ≤ 65535) (r0 : 0 ≤ a2) (r1 : a2 ≤ 18446744073709551615) (s0 : 0 ≤ a3) (s1 : a3 ≤ 18446744073709551615)
    (t0 : 0 ≤ a4) (t1 : a4 ≤ 255) (u0 : 0 ≤ a5) (u1 : a5 ≤ 255) (c0 : a0 < a1) (c1 : a0 % 256 < a1 % 256) :
    Calls Try.prog 5 #[.int .u16 a0, .int .u16 a1, .int .u64 a2, .int .u64 a3, .int .u8 a4, .int .u8 a5] w fun e w' => e = .returned (.bool true) ∧ Below w.heap.size w w' := by
  have f0 : (decide (a0 < a1)) = true := by simp <;> omega
  have f1 : (a0 == a1) = false := by simp <;> omega
  have f2 : (decide (a0 * 281474976710656 + a2 % 281474976710656 < a1 * 281474976710656 + a3 % 281474976710656)) = true := by simp <;> omega
  have f3 : (a0 * 281474976710656 + a2 % 281474976710656 == a1 * 281474976710656 + a3 % 281474976710656) = false := by simp <;> omega
  have f4 : ((a0 * 281474976710656 + a2 % 281474976710656) / 281474976710656 == a0) = true := by simp <;> omega
  have f5 : ((a0 * 281474976710656 + a2 % 281474976710656) % 281474976710656 == a2 % 281474976710656) = true := by simp <;> omega
  have f6 : (decide (a0 % 256 < a1 % 256)) = true := by simp <;> omega
  have f7 : (decide (a0 % 256 * 256 + (a4 % 255 + 1) < a1 % 256 * 256 + (a5 % 255 + 1))) = true := by simp <;> omega
  clear c0 c1
  go_enter Try.func5, Try.ntmps5
  go_wp2_with (first
    | (go_at_call 8; (with_reducible refine (awake_any _).mono ?_); rintro e wa ⟨rfl, hba⟩)
    | (go_at_call 9; (with_reducible refine (bridge_any _ _ (by omega) (by omega) (by omega) (by omega) _).mono ?_); rintro e w' ⟨rfl, rfl⟩)
    | (go_at_call 10; (with_reducible refine (split_any _ (by omega) (by omega) _).mono ?_); rintro e w' ⟨rfl, rfl⟩)
    | (go_at_call 11; (with_reducible refine (port_any _ _ (by omega) (by omega) (by omega) (by omega) _).mono ?_); rintro e w' ⟨rfl, rfl⟩))
  go_ret
  exact ⟨rfl, hba⟩

theorem order_lt_g (a0 a1 a2 a3 a4 a5 : Int) (w : World) (p0 : 0 ≤ a0) (p1 : a0 ≤ 65535) (q0 : 0 ≤ a1) (q1 : a1 ≤ 65535) (r0 : 0 ≤ a2) (r1 : a2 ≤ 18446744073709551615) (s0 : 0 ≤ a3) (s1 : a3 ≤ 18446744073709551615)
    (t0 : 0 ≤ a4) (t1 : a4 ≤ 255) (u0 : 0 ≤ a5) (u1 : a5 ≤ 255) (c0 : a0 < a1) (c1 : a1 % 256 < a0 % 256) :
    Calls Try.prog 5 #[.int .u16 a0, .int .u16 a1, .int .u64 a2, .int .u64 a3, .int .u8 a4, .int .u8 a5] w fun e w' => e = .returned (.bool true) ∧ Below w.heap.size w w' := by
  have f0 : (decide (a0 < a1)) = true := by simp <;> omega
  have f1 : (a0 == a1) = false := by simp <;> omega
  have f2 : (decide (a0 * 281474976710656 + a2 % 281474976710656 < a1 * 281474976710656 + a3 % 281474976710656)) = true := by simp <;> omega
  have f3 : (a0 * 281474976710656 + a2 % 281474976710656 == a1 * 281474976710656 + a3 % 281474976710656) = false := by simp <;> omega
  have f4 : ((a0 * 281474976710656 + a2 % 281474976710656) / 281474976710656 == a0) = true := by simp <;> omega
  have f5 : ((a0 * 281474976710656 + a2 % 281474976710656) % 281474976710656 == a2 % 281474976710656) = true := by simp <;> omega
  have f6 : (decide (a0 % 256 < a1 % 256)) = false := by simp <;> omega
  have f7 : (a0 % 256 == a1 % 256) = false := by simp <;> omega
  have f8 : (decide (a0 % 256 * 256 + (a4 % 255 + 1) < a1 % 256 * 256 + (a5 % 255 + 1))) = false := by simp <;> omega
  clear c0 c1
  go_enter Try.func5, Try.ntmps5
  go_wp2_with (first
    | (go_at_call 8; (with_reducible refine (awake_any _).mono ?_); rintro e wa ⟨rfl, hba⟩)
    | (go_at_call 9; (with_reducible refine (bridge_any _ _ (by omega) (by omega) (by omega) (by omega) _).mono ?_); rintro e w' ⟨rfl, rfl⟩)
    | (go_at_call 10; (with_reducible refine (split_any _ (by omega) (by omega) _).mono ?_); rintro e w' ⟨rfl, rfl⟩)
    | (go_at_call 11; (with_reducible refine (port_any _ _ (by omega) (by omega) (by omega) (by omega) _).mono ?_); rintro e w' ⟨rfl, rfl⟩))
  go_ret
  exact ⟨rfl, hba⟩

theorem order_lt_el (a0 a1 a2 a3 a4 a5 : Int) (w : World) (p0 : 0 ≤ a0) (p1 : a0 ≤ 65535) (q0 : 0 ≤ a1) (q1 : a1 ≤ 65535) (r0 : 0 ≤ a2) (r1 : a2 ≤ 18446744073709551615) (s0 : 0 ≤ a3) (s1 : a3 ≤ 18446744073709551615)
    (t0 : 0 ≤ a4) (t1 : a4 ≤ 255) (u0 : 0 ≤ a5) (u1 : a5 ≤ 255) (c0 : a0 < a1) (c1 : a0 % 256 = a1 % 256) (c2 : a4 % 255 < a5 % 255) :
    Calls Try.prog 5 #[.int .u16 a0, .int .u16 a1, .int .u64 a2, .int .u64 a3, .int .u8 a4, .int .u8 a5] w fun e w' => e = .returned (.bool true) ∧ Below w.heap.size w w' := by
  have f0 : (decide (a0 < a1)) = true := by simp <;> omega
  have f1 : (a0 == a1) = false := by simp <;> omega
  have f2 : (decide (a0 * 281474976710656 + a2 % 281474976710656 < a1 * 281474976710656 + a3 % 281474976710656)) = true := by simp <;> omega
  have f3 : (a0 * 281474976710656 + a2 % 281474976710656 == a1 * 281474976710656 + a3 % 281474976710656) = false := by simp <;> omega
  have f4 : ((a0 * 281474976710656 + a2 % 281474976710656) / 281474976710656 == a0) = true := by simp <;> omega
  have f5 : ((a0 * 281474976710656 + a2 % 281474976710656) % 281474976710656 == a2 % 281474976710656) = true := by simp <;> omega
  have f6 : (decide (a0 % 256 < a1 % 256)) = false := by simp <;> omega
  have f7 : (a0 % 256 == a1 % 256) = true := by simp <;> omega
  have f8 : (decide (a4 % 255 < a5 % 255)) = true := by simp <;> omega
  have f9 : (decide (a0 % 256 * 256 + (a4 % 255 + 1) < a1 % 256 * 256 + (a5 % 255 + 1))) = true := by simp <;> omega
  clear c0 c1 c2
  go_enter Try.func5, Try.ntmps5
  go_wp2_with (first
    | (go_at_call 8; (with_reducible refine (awake_any _).mono ?_); rintro e wa ⟨rfl, hba⟩)
    | (go_at_call 9; (with_reducible refine (bridge_any _ _ (by omega) (by omega) (by omega) (by omega) _).mono ?_); rintro e w' ⟨rfl, rfl⟩)
    | (go_at_call 10; (with_reducible refine (split_any _ (by omega) (by omega) _).mono ?_); rintro e w' ⟨rfl, rfl⟩)
    | (go_at_call 11; (with_reducible refine (port_any _ _ (by omega) (by omega) (by omega) (by omega) _).mono ?_); rintro e w' ⟨rfl, rfl⟩))
  go_ret
  exact ⟨rfl, hba⟩

theorem order_lt_en (a0 a1 a2 a3 a4 a5 : Int) (w : World) (p0 : 0 ≤ a0) (p1 : a0 ≤ 65535) (q0 : 0 ≤ a1) (q1 : a1 ≤ 65535) (r0 : 0 ≤ a2) (r1 : a2 ≤ 18446744073709551615) (s0 : 0 ≤ a3) (s1 : a3 ≤ 18446744073709551615)
    (t0 : 0 ≤ a4) (t1 : a4 ≤ 255) (u0 : 0 ≤ a5) (u1 : a5 ≤ 255) (c0 : a0 < a1) (c1 : a0 % 256 = a1 % 256) (c2 : ¬ a4 % 255 < a5 % 255) :
    Calls Try.prog 5 #[.int .u16 a0, .int .u16 a1, .int .u64 a2, .int .u64 a3, .int .u8 a4, .int .u8 a5] w fun e w' => e = .returned (.bool true) ∧ Below w.heap.size w w' := by
  have f0 : (decide (a0 < a1)) = true := by simp <;> omega
  have f1 : (a0 == a1) = false := by simp <;> omega
  have f2 : (decide (a0 * 281474976710656 + a2 % 281474976710656 < a1 * 281474976710656 + a3 % 281474976710656)) = true := by simp <;> omega
  have f3 : (a0 * 281474976710656 + a2 % 281474976710656 == a1 * 281474976710656 + a3 % 281474976710656) = false := by simp <;> omega
  have f4 : ((a0 * 281474976710656 + a2 % 281474976710656) / 281474976710656 == a0) = true := by simp <;> omega
  have f5 : ((a0 * 281474976710656 + a2 % 281474976710656) % 281474976710656 == a2 % 281474976710656) = true := by simp <;> omega
  have f6 : (decide (a0 % 256 < a1 % 256)) = false := by simp <;> omega
  have f7 : (a0 % 256 == a1 % 256) = true := by simp <;> omega
  have f8 : (decide (a4 % 255 < a5 % 255)) = false := by simp <;> omega
  have f9 : (decide (a0 % 256 * 256 + (a4 % 255 + 1) < a1 % 256 * 256 + (a5 % 255 + 1))) = false := by simp <;> omega
  clear c0 c1 c2
  go_enter Try.func5, Try.ntmps5
  go_wp2_with (first
    | (go_at_call 8; (with_reducible refine (awake_any _).mono ?_); rintro e wa ⟨rfl, hba⟩)
    | (go_at_call 9; (with_reducible refine (bridge_any _ _ (by omega) (by omega) (by omega) (by omega) _).mono ?_); rintro e w' ⟨rfl, rfl⟩)
    | (go_at_call 10; (with_reducible refine (split_any _ (by omega) (by omega) _).mono ?_); rintro e w' ⟨rfl, rfl⟩)
    | (go_at_call 11; (with_reducible refine (port_any _ _ (by omega) (by omega) (by omega) (by omega) _).mono ?_); rintro e w' ⟨rfl, rfl⟩))
  go_ret
  exact ⟨rfl, hba⟩

theorem order_gt_l (a0 a1 a2 a3 a4 a5 : Int) (w : World) (p0 : 0 ≤ a0) (p1 : a0 ≤ 65535) (q0 : 0 ≤ a1) (q1 : a1 ≤ 65535) (r0 : 0 ≤ a2) (r1 : a2 ≤ 18446744073709551615) (s0 : 0 ≤ a3) (s1 : a3 ≤ 18446744073709551615)
    (t0 : 0 ≤ a4) (t1 : a4 ≤ 255) (u0 : 0 ≤ a5) (u1 : a5 ≤ 255) (c0 : a1 < a0) (c1 : a0 % 256 < a1 % 256) :
    Calls Try.prog 5 #[.int .u16 a0, .int .u16 a1, .int .u64 a2, .int .u64 a3, .int .u8 a4, .int .u8 a5] w fun e w' => e = .returned (.bool true) ∧ Below w.heap.size w w' := by
  have f0 : (decide (a0 < a1)) = false := by simp <;> omega
  have f1 : (a0 == a1) = false := by simp <;> omega
  have f2 : (decide (a0 * 281474976710656 + a2 % 281474976710656 < a1 * 281474976710656 + a3 % 281474976710656)) = false := by simp <;> omega
  have f3 : (a0 * 281474976710656 + a2 % 281474976710656 == a1 * 281474976710656 + a3 % 281474976710656) = false := by simp <;> omega
  have f4 : ((a0 * 281474976710656 + a2 % 281474976710656) / 281474976710656 == a0) = true := by simp <;> omega
  have f5 : ((a0 * 281474976710656 + a2 % 281474976710656) % 281474976710656 == a2 % 281474976710656) = true := by simp <;> omega
  have f6 : (decide (a0 % 256 < a1 % 256)) = true := by simp <;> omega
  have f7 : (decide (a0 % 256 * 256 + (a4 % 255 + 1) < a1 % 256 * 256 + (a5 % 255 + 1))) = true := by simp <;> omega
  clear c0 c1
  go_enter Try.func5, Try.ntmps5
  go_wp2_with (first
    | (go_at_call 8; (with_reducible refine (awake_any _).mono ?_); rintro e wa ⟨rfl, hba⟩)
    | (go_at_call 9; (with_reducible refine (bridge_any _ _ (by omega) (by omega) (by omega) (by omega) _).mono ?_); rintro e w' ⟨rfl, rfl⟩)
    | (go_at_call 10; (with_reducible refine (split_any _ (by omega) (by omega) _).mono ?_); rintro e w' ⟨rfl, rfl⟩)
    | (go_at_call 11; (with_reducible refine (port_any _ _ (by omega) (by omega) (by omega) (by omega) _).mono ?_); rintro e w' ⟨rfl, rfl⟩))
  go_ret
  exact ⟨rfl, hba⟩

theorem order_gt_g (a0 a1 a2 a3 a4 a5 : Int) (w : World) (p0 : 0 ≤ a0) (p1 : a0 ≤ 65535) (q0 : 0 ≤ a1) (q1 : a1 ≤ 65535) (r0 : 0 ≤ a2) (r1 : a2 ≤ 18446744073709551615) (s0 : 0 ≤ a3) (s1 : a3 ≤ 18446744073709551615)
    (t0 : 0 ≤ a4) (t1 : a4 ≤ 255) (u0 : 0 ≤ a5) (u1 : a5 ≤ 255) (c0 : a1 < a0) (c1 : a1 % 256 < a0 % 256) :
    Calls Try.prog 5 #[.int .u16 a0, .int .u16 a1, .int .u64 a2, .int .u64 a3, .int .u8 a4, .int .u8 a5] w fun e w' => e = .returned (.bool true) ∧ Below w.heap.size w w' := by
  have f0 : (decide (a0 < a1)) = false := by simp <;> omega
  have f1 : (a0 == a1) = false := by simp <;> omega
  have f2 : (decide (a0 * 281474976710656 + a2 % 281474976710656 < a1 * 281474976710656 + a3 % 281474976710656)) = false := by simp <;> omega
  have f3 : (a0 * 281474976710656 + a2 % 281474976710656 == a1 * 281474976710656 + a3 % 281474976710656) = false := by simp <;> omega
  have f4 : ((a0 * 281474976710656 + a2 % 281474976710656) / 281474976710656 == a0) = true := by simp <;> omega
  have f5 : ((a0 * 281474976710656 + a2 % 281474976710656) % 281474976710656 == a2 % 281474976710656) = true := by simp <;> omega
  have f6 : (decide (a0 % 256 < a1 % 256)) = false := by simp <;> omega
  have f7 : (a0 % 256 == a1 % 256) = false := by simp <;> omega
  have f8 : (decide (a0 % 256 * 256 + (a4 % 255 + 1) < a1 % 256 * 256 + (a5 % 255 + 1))) = false := by simp <;> omega
  clear c0 c1
  go_enter Try.func5, Try.ntmps5
  go_wp2_with (first
    | (go_at_call 8; (with_reducible refine (awake_any _).mono ?_); rintro e wa ⟨rfl, hba⟩)
    | (go_at_call 9; (with_reducible refine (bridge_any _ _ (by omega) (by omega) (by omega) (by omega) _).mono ?_); rintro e w' ⟨rfl, rfl⟩)
    | (go_at_call 10; (with_reducible refine (split_any _ (by omega) (by omega) _).mono ?_); rintro e w' ⟨rfl, rfl⟩)
    | (go_at_call 11; (with_reducible refine (port_any _ _ (by omega) (by omega) (by omega) (by omega) _).mono ?_); rintro e w' ⟨rfl, rfl⟩))
  go_ret
  exact ⟨rfl, hba⟩

theorem order_gt_el (a0 a1 a2 a3 a4 a5 : Int) (w : World) (p0 : 0 ≤ a0) (p1 : a0 ≤ 65535) (q0 : 0 ≤ a1) (q1 : a1 ≤ 65535) (r0 : 0 ≤ a2) (r1 : a2 ≤ 18446744073709551615) (s0 : 0 ≤ a3) (s1 : a3 ≤ 18446744073709551615)
    (t0 : 0 ≤ a4) (t1 : a4 ≤ 255) (u0 : 0 ≤ a5) (u1 : a5 ≤ 255) (c0 : a1 < a0) (c1 : a0 % 256 = a1 % 256) (c2 : a4 % 255 < a5 % 255) :
    Calls Try.prog 5 #[.int .u16 a0, .int .u16 a1, .int .u64 a2, .int .u64 a3, .int .u8 a4, .int .u8 a5] w fun e w' => e = .returned (.bool true) ∧ Below w.heap.size w w' := by
  have f0 : (decide (a0 < a1)) = false := by simp <;> omega
  have f1 : (a0 == a1) = false := by simp <;> omega
  have f2 : (decide (a0 * 281474976710656 + a2 % 281474976710656 < a1 * 281474976710656 + a3 % 281474976710656)) = false := by simp <;> omega
  have f3 : (a0 * 281474976710656 + a2 % 281474976710656 == a1 * 281474976710656 + a3 % 281474976710656) = false := by simp <;> omega
  have f4 : ((a0 * 281474976710656 + a2 % 281474976710656) / 281474976710656 == a0) = true := by simp <;> omega
  have f5 : ((a0 * 281474976710656 + a2 % 281474976710656) % 281474976710656 == a2 % 281474976710656) = true := by simp <;> omega
  have f6 : (decide (a0 % 256 < a1 % 256)) = false := by simp <;> omega
  have f7 : (a0 % 256 == a1 % 256) = true := by simp <;> omega
  have f8 : (decide (a4 % 255 < a5 % 255)) = true := by simp <;> omega
  have f9 : (decide (a0 % 256 * 256 + (a4 % 255 + 1) < a1 % 256 * 256 + (a5 % 255 + 1))) = true := by simp <;> omega
  clear c0 c1 c2
  go_enter Try.func5, Try.ntmps5
  go_wp2_with (first
    | (go_at_call 8; (with_reducible refine (awake_any _).mono ?_); rintro e wa ⟨rfl, hba⟩)
    | (go_at_call 9; (with_reducible refine (bridge_any _ _ (by omega) (by omega) (by omega) (by omega) _).mono ?_); rintro e w' ⟨rfl, rfl⟩)
    | (go_at_call 10; (with_reducible refine (split_any _ (by omega) (by omega) _).mono ?_); rintro e w' ⟨rfl, rfl⟩)
    | (go_at_call 11; (with_reducible refine (port_any _ _ (by omega) (by omega) (by omega) (by omega) _).mono ?_); rintro e w' ⟨rfl, rfl⟩))
  go_ret
  exact ⟨rfl, hba⟩

theorem order_gt_en (a0 a1 a2 a3 a4 a5 : Int) (w : World) (p0 : 0 ≤ a0) (p1 : a0 ≤ 65535) (q0 : 0 ≤ a1) (q1 : a1 ≤ 65535) (r0 : 0 ≤ a2) (r1 : a2 ≤ 18446744073709551615) (s0 : 0 ≤ a3) (s1 : a3 ≤ 18446744073709551615)
    (t0 : 0 ≤ a4) (t1 : a4 ≤ 255) (u0 : 0 ≤ a5) (u1 : a5 ≤ 255) (c0 : a1 < a0) (c1 : a0 % 256 = a1 % 256) (c2 : ¬ a4 % 255 < a5 % 255) :
    Calls Try.prog 5 #[.int .u16 a0, .int .u16 a1, .int .u64 a2, .int .u64 a3, .int .u8 a4, .int .u8 a5] w fun e w' => e = .returned (.bool true) ∧ Below w.heap.size w w' := by
  have f0 : (decide (a0 < a1)) = false := by simp <;> omega
  have f1 : (a0 == a1) = false := by simp <;> omega
  have f2 : (decide (a0 * 281474976710656 + a2 % 281474976710656 < a1 * 281474976710656 + a3 % 281474976710656)) = false := by simp <;> omega
  have f3 : (a0 * 281474976710656 + a2 % 281474976710656 == a1 * 281474976710656 + a3 % 281474976710656) = false := by simp <;> omega
  have f4 : ((a0 * 281474976710656 + a2 % 281474976710656) / 281474976710656 == a0) = true := by simp <;> omega
  have f5 : ((a0 * 281474976710656 + a2 % 281474976710656) % 281474976710656 == a2 % 281474976710656) = true := by simp <;> omega
  have f6 : (decide (a0 % 256 < a1 % 256)) = false := by simp <;> omega
  have f7 : (a0 % 256 == a1 % 256) = true := by simp <;> omega
  have f8 : (decide (a4 % 255 < a5 % 255)) = false := by simp <;> omega
  have f9 : (decide (a0 % 256 * 256 + (a4 % 255 + 1) < a1 % 256 * 256 + (a5 % 255 + 1))) = false := by simp <;> omega
  clear c0 c1 c2
  go_enter Try.func5, Try.ntmps5
  go_wp2_with (first
    | (go_at_call 8; (with_reducible refine (awake_any _).mono ?_); rintro e wa ⟨rfl, hba⟩)
    | (go_at_call 9; (with_reducible refine (bridge_any _ _ (by omega) (by omega) (by omega) (by omega) _).mono ?_); rintro e w' ⟨rfl, rfl⟩)
    | (go_at_call 10; (with_reducible refine (split_any _ (by omega) (by omega) _).mono ?_); rintro e w' ⟨rfl, rfl⟩)
    | (go_at_call 11; (with_reducible refine (port_any _ _ (by omega) (by omega) (by omega) (by omega) _).mono ?_); rintro e w' ⟨rfl, rfl⟩))
  go_ret
  exact ⟨rfl, hba⟩

theorem order_eq_l_l (a0 a2 a3 a4 a5 : Int) (w : World) (p0 : 0 ≤ a0) (p1 : a0 ≤ 65535) (r0 : 0 ≤ a2) (r1 : a2 ≤ 18446744073709551615) (s0 : 0 ≤ a3) (s1 : a3 ≤ 18446744073709551615)
    (t0 : 0 ≤ a4) (t1 : a4 ≤ 255) (u0 : 0 ≤ a5) (u1 : a5 ≤ 255) (c0 : a2 % 281474976710656 < a3 % 281474976710656) (c1 : a4 % 255 < a5 % 255) :
    Calls Try.prog 5 #[.int .u16 a0, .int .u16 a0, .int .u64 a2, .int .u64 a3, .int .u8 a4, .int .u8 a5] w fun e w' => e = .returned (.bool true) ∧ Below w.heap.size w w' := by
  have f0 : (decide (a2 % 281474976710656 < a3 % 281474976710656)) = true := by simp <;> omega
  have f1 : (a2 % 281474976710656 == a3 % 281474976710656) = false := by simp <;> omega
  have f2 : (decide (a0 * 281474976710656 + a2 % 281474976710656 < a0 * 281474976710656 + a3 % 281474976710656)) = true := by simp <;> omega
  have f3 : (a0 * 281474976710656 + a2 % 281474976710656 == a0 * 281474976710656 + a3 % 281474976710656) = false := by simp <;> omega
  have f4 : ((a0 * 281474976710656 + a2 % 281474976710656) / 281474976710656 == a0) = true := by simp <;> omega
  have f5 : ((a0 * 281474976710656 + a2 % 281474976710656) % 281474976710656 == a2 % 281474976710656) = true := by simp <;> omega
  have f6 : (decide (a4 % 255 < a5 % 255)) = true := by simp <;> omega
  have f7 : (decide (a0 % 256 * 256 + (a4 % 255 + 1) < a0 % 256 * 256 + (a5 % 255 + 1))) = true := by simp <;> omega
  clear c0 c1
  go_enter Try.func5, Try.ntmps5
  go_wp2_with (first
    | (go_at_call 8; (with_reducible refine (awake_any _).mono ?_); rintro e wa ⟨rfl, hba⟩)
    | (go_at_call 9; (with_reducible refine (bridge_any _ _ (by omega) (by omega) (by omega) (by omega) _).mono ?_); rintro e w' ⟨rfl, rfl⟩)
    | (go_at_call 10; (with_reducible refine (split_any _ (by omega) (by omega) _).mono ?_); rintro e w' ⟨rfl, rfl⟩)
    | (go_at_call 11; (with_reducible refine (port_any _ _ (by omega) (by omega) (by omega) (by omega) _).mono ?_); rintro e w' ⟨rfl, rfl⟩))
  go_ret
  exact ⟨rfl, hba⟩

theorem order_eq_l_n (a0 a2 a3 a4 a5 : Int) (w : World) (p0 : 0 ≤ a0) (p1 : a0 ≤ 65535) (r0 : 0 ≤ a2) (r1 : a2 ≤ 18446744073709551615) (s0 : 0 ≤ a3) (s1 : a3 ≤ 18446744073709551615)
    (t0 : 0 ≤ a4) (t1 : a4 ≤ 255) (u0 : 0 ≤ a5) (u1 : a5 ≤ 255) (c0 : a2 % 281474976710656 < a3 % 281474976710656) (c1 : ¬ a4 % 255 < a5 % 255) :
    Calls Try.prog 5 #[.int .u16 a0, .int .u16 a0, .int .u64 a2, .int .u64 a3, .int .u8 a4, .int .u8 a5] w fun e w' => e = .returned (.bool true) ∧ Below w.heap.size w w' := by
  have f0 : (decide (a2 % 281474976710656 < a3 % 281474976710656)) = true := by simp <;> omega
  have f1 : (a2 % 281474976710656 == a3 % 281474976710656) = false := by simp <;> omega
  have f2 : (decide (a0 * 281474976710656 + a2 % 281474976710656 < a0 * 281474976710656 + a3 % 281474976710656)) = true := by simp <;> omega
  have f3 : (a0 * 281474976710656 + a2 % 281474976710656 == a0 * 281474976710656 + a3 % 281474976710656) = false := by simp <;> omega
  have f4 : ((a0 * 281474976710656 + a2 % 281474976710656) / 281474976710656 == a0) = true := by simp <;> omega
  have f5 : ((a0 * 281474976710656 + a2 % 281474976710656) % 281474976710656 == a2 % 281474976710656) = true := by simp <;> omega
  have f6 : (decide (a4 % 255 < a5 % 255)) = false := by simp <;> omega
  have f7 : (decide (a0 % 256 * 256 + (a4 % 255 + 1) < a0 % 256 * 256 + (a5 % 255 + 1))) = false := by simp <;> omega
  clear c0 c1
  go_enter Try.func5, Try.ntmps5
  go_wp2_with (first
    | (go_at_call 8; (with_reducible refine (awake_any _).mono ?_); rintro e wa ⟨rfl, hba⟩)
    | (go_at_call 9; (with_reducible refine (bridge_any _ _ (by omega) (by omega) (by omega) (by omega) _).mono ?_); rintro e w' ⟨rfl, rfl⟩)
    | (go_at_call 10; (with_reducible refine (split_any _ (by omega) (by omega) _).mono ?_); rintro e w' ⟨rfl, rfl⟩)
    | (go_at_call 11; (with_reducible refine (port_any _ _ (by omega) (by omega) (by omega) (by omega) _).mono ?_); rintro e w' ⟨rfl, rfl⟩))
  go_ret
  exact ⟨rfl, hba⟩

theorem order_eq_e_l (a0 a2 a3 a4 a5 : Int) (w : World) (p0 : 0 ≤ a0) (p1 : a0 ≤ 65535) (r0 : 0 ≤ a2) (r1 : a2 ≤ 18446744073709551615) (s0 : 0 ≤ a3) (s1 : a3 ≤ 18446744073709551615)
    (t0 : 0 ≤ a4) (t1 : a4 ≤ 255) (u0 : 0 ≤ a5) (u1 : a5 ≤ 255) (c0 : a2 % 281474976710656 = a3 % 281474976710656) (c1 : a4 % 255 < a5 % 255) :
    Calls Try.prog 5 #[.int .u16 a0, .int .u16 a0, .int .u64 a2, .int .u64 a3, .int .u8 a4, .int .u8 a5] w fun e w' => e = .returned (.bool true) ∧ Below w.heap.size w w' := by
  have f0 : (decide (a2 % 281474976710656 < a3 % 281474976710656)) = false := by simp <;> omega
  have f1 : (a2 % 281474976710656 == a3 % 281474976710656) = true := by simp <;> omega
  have f2 : (decide (a0 * 281474976710656 + a2 % 281474976710656 < a0 * 281474976710656 + a3 % 281474976710656)) = false := by simp <;> omega
  have f3 : (a0 * 281474976710656 + a2 % 281474976710656 == a0 * 281474976710656 + a3 % 281474976710656) = true := by simp <;> omega
  have f4 : ((a0 * 281474976710656 + a2 % 281474976710656) / 281474976710656 == a0) = true := by simp <;> omega
  have f5 : ((a0 * 281474976710656 + a2 % 281474976710656) % 281474976710656 == a2 % 281474976710656) = true := by simp <;> omega
  have f6 : (decide (a4 % 255 < a5 % 255)) = true := by simp <;> omega
  have f7 : (decide (a0 % 256 * 256 + (a4 % 255 + 1) < a0 % 256 * 256 + (a5 % 255 + 1))) = true := by simp <;> omega
  clear c0 c1
  go_enter Try.func5, Try.ntmps5
  go_wp2_with (first
    | (go_at_call 8; (with_reducible refine (awake_any _).mono ?_); rintro e wa ⟨rfl, hba⟩)
    | (go_at_call 9; (with_reducible refine (bridge_any _ _ (by omega) (by omega) (by omega) (by omega) _).mono ?_); rintro e w' ⟨rfl, rfl⟩)
    | (go_at_call 10; (with_reducible refine (split_any _ (by omega) (by omega) _).mono ?_); rintro e w' ⟨rfl, rfl⟩)
    | (go_at_call 11; (with_reducible refine (port_any _ _ (by omega) (by omega) (by omega) (by omega) _).mono ?_); rintro e w' ⟨rfl, rfl⟩))
  go_ret
  exact ⟨rfl, hba⟩

theorem order_eq_e_n (a0 a2 a3 a4 a5 : Int) (w : World) (p0 : 0 ≤ a0) (p1 : a0 ≤ 65535) (r0 : 0 ≤ a2) (r1 : a2 ≤ 18446744073709551615) (s0 : 0 ≤ a3) (s1 : a3 ≤ 18446744073709551615)
    (t0 : 0 ≤ a4) (t1 : a4 ≤ 255) (u0 : 0 ≤ a5) (u1 : a5 ≤ 255) (c0 : a2 % 281474976710656 = a3 % 281474976710656) (c1 : ¬ a4 % 255 < a5 % 255) :
    Calls Try.prog 5 #[.int .u16 a0, .int .u16 a0, .int .u64 a2, .int .u64 a3, .int .u8 a4, .int .u8 a5] w fun e w' => e = .returned (.bool true) ∧ Below w.heap.size w w' := by
  have f0 : (decide (a2 % 281474976710656 < a3 % 281474976710656)) = false := by simp <;> omega
  have f1 : (a2 % 281474976710656 == a3 % 281474976710656) = true := by simp <;> omega
  have f2 : (decide (a0 * 281474976710656 + a2 % 281474976710656 < a0 * 281474976710656 + a3 % 281474976710656)) = false := by simp <;> omega
  have f3 : (a0 * 281474976710656 + a2 % 281474976710656 == a0 * 281474976710656 + a3 % 281474976710656) = true := by simp <;> omega
  have f4 : ((a0 * 281474976710656 + a2 % 281474976710656) / 281474976710656 == a0) = true := by simp <;> omega
  have f5 : ((a0 * 281474976710656 + a2 % 281474976710656) % 281474976710656 == a2 % 281474976710656) = true := by simp <;> omega
  have f6 : (decide (a4 % 255 < a5 % 255)) = false := by simp <;> omega
  have f7 : (decide (a0 % 256 * 256 + (a4 % 255 + 1) < a0 % 256 * 256 + (a5 % 255 + 1))) = false := by simp <;> omega
  clear c0 c1
  go_enter Try.func5, Try.ntmps5
  go_wp2_with (first
    | (go_at_call 8; (with_reducible refine (awake_any _).mono ?_); rintro e wa ⟨rfl, hba⟩)
    | (go_at_call 9; (with_reducible refine (bridge_any _ _ (by omega) (by omega) (by omega) (by omega) _).mono ?_); rintro e w' ⟨rfl, rfl⟩)
    | (go_at_call 10; (with_reducible refine (split_any _ (by omega) (by omega) _).mono ?_); rintro e w' ⟨rfl, rfl⟩)
    | (go_at_call 11; (with_reducible refine (port_any _ _ (by omega) (by omega) (by omega) (by omega) _).mono ?_); rintro e w' ⟨rfl, rfl⟩))
  go_ret
  exact ⟨rfl, hba⟩

theorem order_eq_g_l (a0 a2 a3 a4 a5 : Int) (w : World) (p0 : 0 ≤ a0) (p1 : a0 ≤ 65535) (r0 : 0 ≤ a2) (r1 : a2 ≤ 18446744073709551615) (s0 : 0 ≤ a3) (s1 : a3 ≤ 18446744073709551615)
    (t0 : 0 ≤ a4) (t1 : a4 ≤ 255) (u0 : 0 ≤ a5) (u1 : a5 ≤ 255) (c0 : a3 % 281474976710656 < a2 % 281474976710656) (c1 : a4 % 255 < a5 % 255) :
    Calls Try.prog 5 #[.int .u16 a0, .int .u16 a0, .int .u64 a2, .int .u64 a3, .int .u8 a4, .int .u8 a5] w fun e w' => e = .returned (.bool true) ∧ Below w.heap.size w w' := by
  have f0 : (decide (a2 % 281474976710656 < a3 % 281474976710656)) = false := by simp <;> omega
  have f1 : (a2 % 281474976710656 == a3 % 281474976710656) = false := by simp <;> omega
  have f2 : (decide (a0 * 281474976710656 + a2 % 281474976710656 < a0 * 281474976710656 + a3 % 281474976710656)) = false := by simp <;> omega
  have f3 : (a0 * 281474976710656 + a2 % 281474976710656 == a0 * 281474976710656 + a3 % 281474976710656) = false := by simp <;> omega
  have f4 : ((a0 * 281474976710656 + a2 % 281474976710656) / 281474976710656 == a0) = true := by simp <;> omega
  have f5 : ((a0 * 281474976710656 + a2 % 281474976710656) % 281474976710656 == a2 % 281474976710656) = true := by simp <;> omega
  have f6 : (decide (a4 % 255 < a5 % 255)) = true := by simp <;> omega
  have f7 : (decide (a0 % 256 * 256 + (a4 % 255 + 1) < a0 % 256 * 256 + (a5 % 255 + 1))) = true := by simp <;> omega
  clear c0 c1
  go_enter Try.func5, Try.ntmps5
  go_wp2_with (first
    | (go_at_call 8; (with_reducible refine (awake_any _).mono ?_); rintro e wa ⟨rfl, hba⟩)
    | (go_at_call 9; (with_reducible refine (bridge_any _ _ (by omega) (by omega) (by omega) (by omega) _).mono ?_); rintro e w' ⟨rfl, rfl⟩)
    | (go_at_call 10; (with_reducible refine (split_any _ (by omega) (by omega) _).mono ?_); rintro e w' ⟨rfl, rfl⟩)
    | (go_at_call 11; (with_reducible refine (port_any _ _ (by omega) (by omega) (by omega) (by omega) _).mono ?_); rintro e w' ⟨rfl, rfl⟩))
  go_ret
  exact ⟨rfl, hba⟩

theorem order_eq_g_n (a0 a2 a3 a4 a5 : Int) (w : World) (p0 : 0 ≤ a0) (p1 : a0 ≤ 65535) (r0 : 0 ≤ a2) (r1 : a2 ≤ 18446744073709551615) (s0 : 0 ≤ a3) (s1 : a3 ≤ 18446744073709551615)
    (t0 : 0 ≤ a4) (t1 : a4 ≤ 255) (u0 : 0 ≤ a5) (u1 : a5 ≤ 255) (c0 : a3 % 281474976710656 < a2 % 281474976710656) (c1 : ¬ a4 % 255 < a5 % 255) :
    Calls Try.prog 5 #[.int .u16 a0, .int .u16 a0, .int .u64 a2, .int .u64 a3, .int .u8 a4, .int .u8 a5] w fun e w' => e = .returned (.bool true) ∧ Below w.heap.size w w' := by
  have f0 : (decide (a2 % 281474976710656 < a3 % 281474976710656)) = false := by simp <;> omega
  have f1 : (a2 % 281474976710656 == a3 % 281474976710656) = false := by simp <;> omega
  have f2 : (decide (a0 * 281474976710656 + a2 % 281474976710656 < a0 * 281474976710656 + a3 % 281474976710656)) = false := by simp <;> omega
  have f3 : (a0 * 281474976710656 + a2 % 281474976710656 == a0 * 281474976710656 + a3 % 281474976710656) = false := by simp <;> omega
  have f4 : ((a0 * 281474976710656 + a2 % 281474976710656) / 281474976710656 == a0) = true := by simp <;> omega
  have f5 : ((a0 * 281474976710656 + a2 % 281474976710656) % 281474976710656 == a2 % 281474976710656) = true := by simp <;> omega
  have f6 : (decide (a4 % 255 < a5 % 255)) = false := by simp <;> omega
  have f7 : (decide (a0 % 256 * 256 + (a4 % 255 + 1) < a0 % 256 * 256 + (a5 % 255 + 1))) = false := by simp <;> omega
  clear c0 c1
  go_enter Try.func5, Try.ntmps5
  go_wp2_with (first
    | (go_at_call 8; (with_reducible refine (awake_any _).mono ?_); rintro e wa ⟨rfl, hba⟩)
    | (go_at_call 9; (with_reducible refine (bridge_any _ _ (by omega) (by omega) (by omega) (by omega) _).mono ?_); rintro e w' ⟨rfl, rfl⟩)
    | (go_at_call 10; (with_reducible refine (split_any _ (by omega) (by omega) _).mono ?_); rintro e w' ⟨rfl, rfl⟩)
    | (go_at_call 11; (with_reducible refine (port_any _ _ (by omega) (by omega) (by omega) (by omega) _).mono ?_); rintro e w' ⟨rfl, rfl⟩))
  go_ret
  exact ⟨rfl, hba⟩

theorem IdsOrder_walk (a0 : Int) (a1 : Int) (a2 : Int) (a3 : Int) (a4 : Int) (a5 : Int) (w0 : (Lit.int .u16 a0).wf = true) (w1 : (Lit.int .u16 a1).wf = true) (w2 : (Lit.int .u64 a2).wf = true) (w3 : (Lit.int .u64 a3).wf = true) (w4 : (Lit.int .u8 a4).wf = true) (w5 : (Lit.int .u8 a5).wf = true) (w : World) :
    Calls Try.prog 5 #[.int .u16 a0, .int .u16 a1, .int .u64 a2, .int .u64 a3, .int .u8 a4, .int .u8 a5] w fun e w' => e = .returned (.bool true) ∧ Below w.heap.size w w' := by
  obtain ⟨p0, p1⟩ := bounds_u16 w0
  obtain ⟨q0, q1⟩ := bounds_u16 w1
  obtain ⟨r0, r1⟩ := bounds_u64 w2
  obtain ⟨s0, s1⟩ := bounds_u64 w3
  obtain ⟨t0, t1⟩ := bounds_u8 w4
  obtain ⟨u0, u1⟩ := bounds_u8 w5
  rcases (show a0 < a1 ∨ a1 < a0 ∨ a0 = a1 from by omega) with c | c | c
  · rcases (show a0 % 256 < a1 % 256 ∨ a1 % 256 < a0 % 256 ∨ a0 % 256 = a1 % 256 from by omega) with d | d | d
    · exact order_lt_l a0 a1 a2 a3 a4 a5 w p0 p1 q0 q1 r0 r1 s0 s1 t0 t1 u0 u1 c d
    · exact order_lt_g a0 a1 a2 a3 a4 a5 w p0 p1 q0 q1 r0 r1 s0 s1 t0 t1 u0 u1 c d
    · by_cases e : a4 % 255 < a5 % 255
      · exact order_lt_el a0 a1 a2 a3 a4 a5 w p0 p1 q0 q1 r0 r1 s0 s1 t0 t1 u0 u1 c d e
      · exact order_lt_en a0 a1 a2 a3 a4 a5 w p0 p1 q0 q1 r0 r1 s0 s1 t0 t1 u0 u1 c d e
  · rcases (show a0 % 256 < a1 % 256 ∨ a1 % 256 < a0 % 256 ∨ a0 % 256 = a1 % 256 from by omega) with d | d | d
    · exact order_gt_l a0 a1 a2 a3 a4 a5 w p0 p1 q0 q1 r0 r1 s0 s1 t0 t1 u0 u1 c d
    · exact order_gt_g a0 a1 a2 a3 a4 a5 w p0 p1 q0 q1 r0 r1 s0 s1 t0 t1 u0 u1 c d
    · by_cases e : a4 % 255 < a5 % 255
      · exact order_gt_el a0 a1 a2 a3 a4 a5 w p0 p1 q0 q1 r0 r1 s0 s1 t0 t1 u0 u1 c d e
      · exact order_gt_en a0 a1 a2 a3 a4 a5 w p0 p1 q0 q1 r0 r1 s0 s1 t0 t1 u0 u1 c d e
  · subst c
    rcases (show a2 % 281474976710656 < a3 % 281474976710656 ∨ a2 % 281474976710656 = a3 % 281474976710656 ∨ a3 % 281474976710656 < a2 % 281474976710656 from by omega) with d | d | d
    · by_cases e : a4 % 255 < a5 % 255
      · exact order_eq_l_l a0 a2 a3 a4 a5 w p0 p1 r0 r1 s0 s1 t0 t1 u0 u1 d e
      · exact order_eq_l_n a0 a2 a3 a4 a5 w p0 p1 r0 r1 s0 s1 t0 t1 u0 u1 d e
    · by_cases e : a4 % 255 < a5 % 255
      · exact order_eq_e_l a0 a2 a3 a4 a5 w p0 p1 r0 r1 s0 s1 t0 t1 u0 u1 d e
      · exact order_eq_e_n a0 a2 a3 a4 a5 w p0 p1 r0 r1 s0 s1 t0 t1 u0 u1 d e
    · by_cases e : a4 % 255 < a5 % 255
      · exact order_eq_g_l a0 a2 a3 a4 a5 w p0 p1 r0 r1 s0 s1 t0 t1 u0 u1 d e
      · exact order_eq_g_n a0 a2 a3 a4 a5 w p0 p1 r0 r1 s0 s1 t0 t1 u0 u1 d e

end Go.Proofs.Ytddbmbnpjdpijaa
