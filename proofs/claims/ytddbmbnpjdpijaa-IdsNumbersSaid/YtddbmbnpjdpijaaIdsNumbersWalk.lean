/- The law IdsNumbers, walked: it answers true, whatever the numbers. -/
import Derived.Test.YtddbmbnpjdpijaaIdsAwake
namespace Go.Proofs.Ytddbmbnpjdpijaa
open Go.ChangeShapes Go.WideShapes Go.ChangeAt Go.RowKit
set_option linter.unusedVariables false

set_option maxHeartbeats 1000000 in
theorem IdsNumbers_walk (a0 : Int) (a1 : Int) (a2 : Int) (a3 : Int) (a4 : Int) (w0 : (Lit.int .u16 a0).wf = true) (w1 : (Lit.int .u64 a1).wf = true) (w2 : (Lit.int .u64 a2).wf = true) (w3 : (Lit.int .u8 a3).wf = true) (w4 : (Lit.int .u8 a4).wf = true) (w : World) :
    Calls Try.prog 3 #[.int .u16 a0, .int .u64 a1, .int .u64 a2, .int .u8 a3, .int .u8 a4] w fun e w' => e = .returned (.bool true) ∧ Below w.heap.size w w' := by
  obtain ⟨p0, p1⟩ := bounds_u16 w0
  obtain ⟨q0, q1⟩ := bounds_u64 w1
  obtain ⟨r0, r1⟩ := bounds_u64 w2
  obtain ⟨s0, s1⟩ := bounds_u8 w3
  obtain ⟨t0, t1⟩ := bounds_u8 w4
  clear w0 w1 w2 w3 w4
  have e1 : (a3 * 256 + (a4 % 255 + 1) == 256 * a3 + a4 % 255 + 1) = true := by simp; omega
  have e2 : ((a3 * 256 + (a4 % 255 + 1)) % 256 - 1 == a4 % 255) = true := by simp; omega
  have e3 : (groupB a1 == (a1 / 1099511627776 % 2 == 1)) = true := by simp [groupB]
  have e4 : (resB a1 == (a1 / 16 == 103282638848)) = true := by simp [resB]
  go_enter Try.func3, Try.ntmps3
  go_wp2_with (first
    | (go_at_call 8; (with_reducible refine (awake_any _).mono ?_); rintro e wa ⟨rfl, hba⟩)
    | (go_at_call 9; (with_reducible refine (bridge_any _ _ p0 p1 q0 q1 _).mono ?_); rintro e w' ⟨rfl, rfl⟩)
    | (go_at_call 10; (with_reducible refine (split_any _ r0 r1 _).mono ?_); rintro e w' ⟨rfl, rfl⟩)
    | (go_at_call 11; (with_reducible refine (port_any _ _ s0 s1 (by omega) (by omega) _).mono ?_); rintro e w' ⟨rfl, rfl⟩)
    | (go_at_call 12; (with_reducible refine (least_any _ (by omega) (by omega) _).mono ?_); rintro e w' ⟨rfl, rfl⟩)
    | (go_at_call 13; (with_reducible refine (number_any _ (by omega) (by omega) _).mono ?_); rintro e w' ⟨rfl, rfl⟩)
    | (go_at_call 14; (with_reducible refine (group_any _ (by omega) (by omega) _).mono ?_); rintro e w' ⟨rfl, rfl⟩)
    | (go_at_call 15; (with_reducible refine (right_any _ (by omega) (by omega) _).mono ?_); rintro e w' ⟨rfl, rfl⟩)
    | (go_at_call 16; (with_reducible refine (refright_any _ (by omega) (by omega) _).mono ?_); rintro e w' ⟨rfl, rfl⟩)
    | (go_at_call 17; (with_reducible refine (reserved_any _ (by omega) (by omega) _).mono ?_); rintro e w' ⟨rfl, rfl⟩))
  go_ret
  exact ⟨rfl, hba⟩

end Go.Proofs.Ytddbmbnpjdpijaa
