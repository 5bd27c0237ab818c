/- An address' six bytes, put; the document's own put. -/
import Derived.Test.YthpjonedpemhkaaIdsBase
namespace Go.Proofs.Ythpjonedpemhkaa
open Go.ChangeShapes Go.WideShapes Go.ChangeAt Go.RowKit
set_option linter.unusedVariables false

def six (a : Int) : Array Value :=
  #[.int .u8 (a / 1099511627776 % 256), .int .u8 (a / 4294967296 % 256), .int .u8 (a / 16777216 % 256), .int .u8 (a / 65536 % 256), .int .u8 (a / 256 % 256), .int .u8 (a % 256)]

set_option maxRecDepth 100000 in
set_option maxHeartbeats 1000000 in
theorem put_any (a : Int) (hp0 : 0 ≤ a) (hp1 : a ≤ 18446744073709551615) (w : World) :
    Calls Try.prog 15 #[.int .u64 a] w fun e w' => e = .returned (.slice (some ⟨w.heap.size, 0, none⟩) 6 6) ∧ w.alloc (.cells (six a) 5) = w' := by
  have hmk : ∀ w, (Instr.makeSlice 37 (.int .i64 6) (.int .i64 6)).run Try.prog w = .ok (.slice (some ⟨w.heap.size, 0, none⟩) 6 6) (w.alloc (.cells #[.int .u8 0, .int .u8 0, .int .u8 0, .int .u8 0, .int .u8 0, .int .u8 0] 5)) := fun _ => by kernel_rfl
  go_enter Try.func15, Try.ntmps15
  go_wp2
  go_rounds 7
  go_ret
  exact ⟨rfl, rfl⟩

theorem six_ref (a : Int) (h : 0 ≤ a) : six a = #[.int .u8 (a % 281474976710656 / 256 / 256 / 256 / 256 / 256 % 256), .int .u8 (a % 281474976710656 / 256 / 256 / 256 / 256 % 256), .int .u8 (a % 281474976710656 / 256 / 256 / 256 % 256),
    .int .u8 (a % 281474976710656 / 256 / 256 % 256), .int .u8 (a % 281474976710656 / 256 % 256), .int .u8 (a % 256)] := by
  have e0 : a / 1099511627776 % 256 = a % 281474976710656 / 256 / 256 / 256 / 256 / 256 % 256 := by omega
  have e1 : a / 4294967296 % 256 = a % 281474976710656 / 256 / 256 / 256 / 256 % 256 := by omega
  have e2 : a / 16777216 % 256 = a % 281474976710656 / 256 / 256 / 256 % 256 := by omega
  have e3 : a / 65536 % 256 = a % 281474976710656 / 256 / 256 % 256 := by omega
  have e4 : a / 256 % 256 = a % 281474976710656 / 256 % 256 := by omega
  unfold six
  rw [← e0, ← e1, ← e2, ← e3, ← e4]

set_option maxRecDepth 100000 in
set_option maxHeartbeats 1000000 in
theorem refput_any (a : Int) (hp0 : 0 ≤ a) (hp1 : a ≤ 18446744073709551615) (w : World) :
    Calls Try.prog 14 #[.int .u64 a] w fun e w' => e = .returned (.slice (some ⟨w.heap.size, 0, none⟩) 6 6) ∧ w.alloc (.cells (six a) 5) = w' := by
  have hmk : ∀ w, (Instr.makeSlice 37 (.int .i64 6) (.int .i64 6)).run Try.prog w = .ok (.slice (some ⟨w.heap.size, 0, none⟩) 6 6) (w.alloc (.cells #[.int .u8 0, .int .u8 0, .int .u8 0, .int .u8 0, .int .u8 0, .int .u8 0] 5)) := fun _ => by kernel_rfl
  go_enter Try.func14, Try.ntmps14
  go_wp2
  go_rounds 7
  go_ret
  exact ⟨rfl, congrArg (fun c => w.alloc (.cells c 5)) (six_ref a hp0)⟩

end Go.Proofs.Ythpjonedpemhkaa
