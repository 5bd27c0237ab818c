/- An address' six bytes: put, read again; the document's own put. -/
import Derived.Test.YtddbmbnpjdpijaaIdsBase
namespace Go.Proofs.Ytddbmbnpjdpijaa
open Go.ChangeShapes Go.WideShapes Go.ChangeAt Go.RowKit
set_option linter.unusedVariables false

def six (a : Int) : Array Value :=
  #[.int .u8 (a / 1099511627776 % 256), .int .u8 (a / 4294967296 % 256), .int .u8 (a / 16777216 % 256), .int .u8 (a / 65536 % 256), .int .u8 (a / 256 % 256), .int .u8 (a % 256)]

set_option maxRecDepth 100000 in
set_option maxHeartbeats 1000000 in
theorem put_any (a : Int) (hp0 : 0 ≤ a) (hp1 : a ≤ 18446744073709551615) (w : World) :
    Calls Try.prog 20 #[.int .u64 a] w fun e w' => e = .returned (.slice (some ⟨w.heap.size, 0, none⟩) 6 6) ∧ w.alloc (.cells (six a) 5) = w' := by
  have hmk : ∀ w, (Instr.makeSlice 43 (.int .i64 6) (.int .i64 6)).run Try.prog w = .ok (.slice (some ⟨w.heap.size, 0, none⟩) 6 6) (w.alloc (.cells #[.int .u8 0, .int .u8 0, .int .u8 0, .int .u8 0, .int .u8 0, .int .u8 0] 5)) := fun _ => by kernel_rfl
  go_enter Try.func20, Try.ntmps20
  go_wp2
  go_rounds 7
  go_ret
  exact ⟨rfl, rfl⟩

theorem six_ref (a : Int) (h : 0 ≤ a) : six a = #[.int .u8 (a % 281474976710656 / 256 / 256 / 256 / 256 / 256 % 256), .int .u8 (a % 281474976710656 / 256 / 256 / 256 / 256 % 256), .int .u8 (a % 281474976710656 / 256 / 256 / 256 % 256),
    .int .u8 (a % 281474976710656 / 256 / 256 % 256), .int .u8 (a % 281474976710656 / 256 % 256), .int .u8 (a % 256)] := by
  have e0 : a / 1099511627776 % 256 = a % 281474976710656 / 256 / 256 / 256 / 256 / 256 % 256 := by omega
  have e1 : a / 4294967296 % 256 = a % 281474976710656 / 256 / 256 / 256 / 256 % 256 := by omega
  have e2 : a / 16777216 % 256 = a % 281474976710656 / 256 / 256 / 256 % 256 := by omega
  have e3 : a / 65536 % 256 = a % 281474976710656 / 256 / 256 % 256 := by omega
  have e4 : a / 256 % 256 = a % 281474976710656 / 256 % 256 := by omega
  unfold six
  rw [← e0, ← e1, ← e2, ← e3, ← e4]

set_option maxRecDepth 100000 in
set_option maxHeartbeats 1000000 in
theorem refput_any (a : Int) (hp0 : 0 ≤ a) (hp1 : a ≤ 18446744073709551615) (w : World) :
    Calls Try.prog 25 #[.int .u64 a] w fun e w' => e = .returned (.slice (some ⟨w.heap.size, 0, none⟩) 6 6) ∧ w.alloc (.cells (six a) 5) = w' := by
  have hmk : ∀ w, (Instr.makeSlice 43 (.int .i64 6) (.int .i64 6)).run Try.prog w = .ok (.slice (some ⟨w.heap.size, 0, none⟩) 6 6) (w.alloc (.cells #[.int .u8 0, .int .u8 0, .int .u8 0, .int .u8 0, .int .u8 0, .int .u8 0] 5)) := fun _ => by kernel_rfl
  go_enter Try.func25, Try.ntmps25
  go_wp2
  go_rounds 7
  go_ret
  exact ⟨rfl, congrArg (fun c => w.alloc (.cells c 5)) (six_ref a hp0)⟩

theorem get_short (ao : Option Addr) (l c : Nat) (hl : l < 6) (w : World) :
    Calls Try.prog 21 #[.slice ao l c] w fun e w' => e = .returned (.tuple #[.int .u64 0, .int .i64 2]) ∧ w = w' := by
  go_enter Try.func21, Try.ntmps21
  go_wp2
  go_ret2
  exact ⟨rfl, rfl⟩

set_option maxRecDepth 100000 in
set_option maxHeartbeats 1000000 in
theorem get_six (b off l c : Nat) (hl : 6 ≤ l) (hm : l ≤ 9223372036854775807) (x0 x1 x2 x3 x4 x5 : Int) (w : World)
    (b0 : 0 ≤ x0) (u0 : x0 ≤ 255) (b1 : 0 ≤ x1) (u1 : x1 ≤ 255) (b2 : 0 ≤ x2) (u2 : x2 ≤ 255) (b3 : 0 ≤ x3) (u3 : x3 ≤ 255) (b4 : 0 ≤ x4) (u4 : x4 ≤ 255) (b5 : 0 ≤ x5) (u5 : x5 ≤ 255)
    (h0 : w.cell? ⟨b, off, none⟩ = some (.int .u8 x0)) (h1 : w.cell? ⟨b, off + 1, none⟩ = some (.int .u8 x1)) (h2 : w.cell? ⟨b, off + 2, none⟩ = some (.int .u8 x2))
    (h3 : w.cell? ⟨b, off + 3, none⟩ = some (.int .u8 x3)) (h4 : w.cell? ⟨b, off + 4, none⟩ = some (.int .u8 x4)) (h5 : w.cell? ⟨b, off + 5, none⟩ = some (.int .u8 x5)) :
    Calls Try.prog 21 #[.slice (some ⟨b, off, none⟩) l c] w fun e w' => e = .returned (.tuple #[.int .u64 (((((x0 * 256 + x1) * 256 + x2) * 256 + x3) * 256 + x4) * 256 + x5), .int .i64 0]) ∧ w = w' := by
  have o0 := or8_64 0 x0 (by omega) (by omega) b0 (by omega)
  have o1 := or8_64 x0 x1 b0 (by omega) b1 (by omega)
  have o2 := or8_64 (x0 * 256 + x1) x2 (by omega) (by omega) b2 (by omega)
  have o3 := or8_64 ((x0 * 256 + x1) * 256 + x2) x3 (by omega) (by omega) b3 (by omega)
  have o4 := or8_64 (((x0 * 256 + x1) * 256 + x2) * 256 + x3) x4 (by omega) (by omega) b4 (by omega)
  have o5 := or8_64 ((((x0 * 256 + x1) * 256 + x2) * 256 + x3) * 256 + x4) x5 (by omega) (by omega) b5 (by omega)
  simp only [Int.zero_mul, Int.zero_add] at o0
  go_enter Try.func21, Try.ntmps21
  go_wp2
  go_rounds 7
  go_ret2
  exact ⟨rfl, rfl⟩

end Go.Proofs.Ytddbmbnpjdpijaa
