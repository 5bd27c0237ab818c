/- The numbers of bridges and ports, and what is told of addresses: contracts of the functions, for every argument. -/
import Derived.Test.YtddbmbnpjdpijaaIdsBase
namespace Go.Proofs.Ytddbmbnpjdpijaa
open Go.ChangeShapes Go.WideShapes Go.ChangeAt Go.RowKit
set_option linter.unusedVariables false

def groupB (a : Int) : Bool := a / 1099511627776 % 2 == 1
def resB (a : Int) : Bool := a / 16 == 103282638848
def rightB (a : Int) : Bool := decide (0 < a ∧ a < 281474976710656 ∧ a / 1099511627776 % 2 = 0)


theorem bridge_any (p a : Int) (hp0 : 0 ≤ p) (hp1 : p ≤ 65535) (ha0 : 0 ≤ a) (ha1 : a ≤ 18446744073709551615) (w : World) :
    Calls Try.prog 9 #[.int .u16 p, .int .u64 a] w fun e w' => e = .returned (.int .u64 (p * 281474976710656 + a % 281474976710656)) ∧ w = w' := by
  go_enter Try.func9, Try.ntmps9
  go_wp2
  go_ret
  exact ⟨ret_int (by rw [and48 a ha0 ha1, or48 p _ hp0 hp1 (by omega) (by omega)]), rfl⟩

theorem split_any (a : Int) (ha0 : 0 ≤ a) (ha1 : a ≤ 18446744073709551615) (w : World) :
    Calls Try.prog 10 #[.int .u64 a] w fun e w' => e = .returned (.tuple #[.int .u16 (a / 281474976710656), .int .u64 (a % 281474976710656)]) ∧ w = w' := by
  go_enter Try.func10, Try.ntmps10
  go_wp2
  go_ret2
  exact ⟨ret_int2 rfl (and48 a ha0 ha1), rfl⟩

theorem port_any (p i : Int) (hp0 : 0 ≤ p) (hp1 : p ≤ 255) (hi0 : 0 ≤ i) (hi1 : i ≤ 254) (w : World) :
    Calls Try.prog 11 #[.int .u8 p, .int .i64 i] w fun e w' => e = .returned (.int .u16 (p * 256 + (i + 1))) ∧ w = w' := by
  go_enter Try.func11, Try.ntmps11
  go_wp2
  go_ret
  exact ⟨ret_int (or8_16 p _ hp0 hp1 (by omega) (by omega)), rfl⟩

theorem number_any (p : Int) (hp0 : 0 ≤ p) (hp1 : p ≤ 65535) (w : World) :
    Calls Try.prog 13 #[.int .u16 p] w fun e w' => e = .returned (.int .i64 (p % 256 - 1)) ∧ w = w' := by
  go_enter Try.func13, Try.ntmps13
  go_wp2
  go_ret
  exact ⟨rfl, rfl⟩

theorem group_any (a : Int) (hp0 : 0 ≤ a) (hp1 : a ≤ 18446744073709551615) (w : World) :
    Calls Try.prog 14 #[.int .u64 a] w fun e w' => e = .returned (.bool (groupB a)) ∧ w = w' := by
  go_enter Try.func14, Try.ntmps14
  go_wp2
  go_ret
  exact ⟨ret_bool (bit40 a hp0 hp1), rfl⟩

theorem reserved_any (a : Int) (hp0 : 0 ≤ a) (hp1 : a ≤ 18446744073709551615) (w : World) :
    Calls Try.prog 17 #[.int .u64 a] w fun e w' => e = .returned (.bool (resB a)) ∧ w = w' := by
  go_enter Try.func17, Try.ntmps17
  go_wp2
  all_goals go_ret
  all_goals exact ⟨ret_bool (by unfold resB; rw [Bool.eq_iff_iff]; simp <;> omega), rfl⟩

theorem right_any (a : Int) (hp0 : 0 ≤ a) (hp1 : a ≤ 18446744073709551615) (w : World) :
    Calls Try.prog 15 #[.int .u64 a] w fun e w' => e = .returned (.bool (rightB a)) ∧ w = w' := by
  go_enter Try.func15, Try.ntmps15
  go_wp2_with (go_at_call 14; refine (group_any _ hp0 hp1 _).mono ?_; rintro e w' ⟨rfl, rfl⟩)
  all_goals go_ret
  all_goals exact ⟨ret_bool (by unfold rightB; (try unfold groupB); rw [Bool.eq_iff_iff]; simp <;> omega), rfl⟩

theorem least_any (a : Int) (hp0 : 0 ≤ a) (hp1 : a ≤ 18446744073709551615) (w : World) :
    Calls Try.prog 12 #[.int .u64 a] w fun e w' => e = .returned (.int .u64 (a % 281474976710656)) ∧ w = w' := by
  go_enter Try.func12, Try.ntmps12
  go_wp2
  go_ret
  exact ⟨rfl, rfl⟩

theorem refright_any (a : Int) (hp0 : 0 ≤ a) (hp1 : a ≤ 18446744073709551615) (w : World) :
    Calls Try.prog 16 #[.int .u64 a] w fun e w' => e = .returned (.bool (rightB a)) ∧ w = w' := by
  go_enter Try.func16, Try.ntmps16
  go_wp2
  all_goals go_ret
  all_goals exact ⟨ret_bool (by unfold rightB; rw [Bool.eq_iff_iff]; simp <;> omega), rfl⟩

end Go.Proofs.Ytddbmbnpjdpijaa
