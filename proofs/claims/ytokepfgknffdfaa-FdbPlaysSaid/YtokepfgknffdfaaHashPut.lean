/- An address' six bytes, put: the program's alone. -/
import Derived.Test.YtokepfgknffdfaaIdsBase
namespace Go.Proofs.Ytokepfgknffdfaa
open Go.ChangeShapes Go.WideShapes Go.ChangeAt Go.RowKit
set_option linter.unusedVariables false

def six (a : Int) : Array Value :=
  #[.int .u8 (a / 1099511627776 % 256), .int .u8 (a / 4294967296 % 256), .int .u8 (a / 16777216 % 256), .int .u8 (a / 65536 % 256), .int .u8 (a / 256 % 256), .int .u8 (a % 256)]

set_option maxRecDepth 100000 in
set_option maxHeartbeats 1000000 in
theorem put_any (a : Int) (hp0 : 0 ≤ a) (hp1 : a ≤ 18446744073709551615) (w : World) :
    Calls Try.prog 44 #[.int .u64 a] w fun e w' => e = .returned (.slice (some ⟨w.heap.size, 0, none⟩) 6 6) ∧ w.alloc (.cells (six a) 5) = w' := by
  have hmk : ∀ w, (Instr.makeSlice 78 (.int .i64 6) (.int .i64 6)).run Try.prog w = .ok (.slice (some ⟨w.heap.size, 0, none⟩) 6 6) (w.alloc (.cells #[.int .u8 0, .int .u8 0, .int .u8 0, .int .u8 0, .int .u8 0, .int .u8 0] 5)) := fun _ => by kernel_rfl
  go_enter Try.func44, Try.ntmps44
  go_wp2
  go_rounds 7
  go_ret
  exact ⟨rfl, rfl⟩

end Go.Proofs.Ytokepfgknffdfaa
