/- The numbers of bridges and ports, and the document's lowest 48 bits: contracts, for every argument. -/
import Derived.Test.YtkdbhioneoknjaaIdsBase
namespace Go.Proofs.Ytkdbhioneoknjaa
open Go.ChangeShapes Go.WideShapes Go.ChangeAt Go.RowKit
set_option linter.unusedVariables false

theorem bridge_any (p a : Int) (hp0 : 0 ≤ p) (hp1 : p ≤ 65535) (ha0 : 0 ≤ a) (ha1 : a ≤ 18446744073709551615) (w : World) :
    Calls Try.prog 55 #[.int .u16 p, .int .u64 a] w fun e w' => e = .returned (.int .u64 (p * 281474976710656 + a % 281474976710656)) ∧ w = w' := by
  go_enter Try.func55, Try.ntmps55
  go_wp2
  go_ret
  exact ⟨ret_int (by rw [and48 a ha0 ha1, or48 p _ hp0 hp1 (by omega) (by omega)]), rfl⟩

theorem port_any (p i : Int) (hp0 : 0 ≤ p) (hp1 : p ≤ 255) (hi0 : 0 ≤ i) (hi1 : i ≤ 254) (w : World) :
    Calls Try.prog 57 #[.int .u8 p, .int .i64 i] w fun e w' => e = .returned (.int .u16 (p * 256 + (i + 1))) ∧ w = w' := by
  go_enter Try.func57, Try.ntmps57
  go_wp2
  go_ret
  exact ⟨ret_int (or8_16 p _ hp0 hp1 (by omega) (by omega)), rfl⟩

theorem least_any (a : Int) (hp0 : 0 ≤ a) (hp1 : a ≤ 18446744073709551615) (w : World) :
    Calls Try.prog 58 #[.int .u64 a] w fun e w' => e = .returned (.int .u64 (a % 281474976710656)) ∧ w = w' := by
  go_enter Try.func58, Try.ntmps58
  go_wp2
  go_ret
  exact ⟨rfl, rfl⟩

end Go.Proofs.Ytkdbhioneoknjaa
