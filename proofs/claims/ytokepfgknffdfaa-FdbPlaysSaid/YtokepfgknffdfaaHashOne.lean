/- The hash of an address: the program's, for every number. -/
import Derived.Test.YtokepfgknffdfaaHashPut
import Derived.Test.YtokepfgknffdfaaHashMath
namespace Go.Proofs.Ytokepfgknffdfaa
open Go.ChangeShapes Go.WideShapes Go.ChangeAt Go.RowKit
set_option linter.unusedVariables false

set_option maxRecDepth 100000 in
set_option maxHeartbeats 1000000 in
theorem hashof_any (a : Int) (hp0 : 0 ≤ a) (hp1 : a ≤ 18446744073709551615) (w : World) :
    Calls Try.prog 40 #[.int .u64 a] w fun e w' => e = .returned (.int .u32 (fnv a)) ∧ Below w.heap.size w w' := by
  obtain ⟨b0, e0⟩ : ∃ x, a / 1099511627776 % 256 = x := ⟨_, rfl⟩
  obtain ⟨b1, e1⟩ : ∃ x, a / 4294967296 % 256 = x := ⟨_, rfl⟩
  obtain ⟨b2, e2⟩ : ∃ x, a / 16777216 % 256 = x := ⟨_, rfl⟩
  obtain ⟨b3, e3⟩ : ∃ x, a / 65536 % 256 = x := ⟨_, rfl⟩
  obtain ⟨b4, e4⟩ : ∃ x, a / 256 % 256 = x := ⟨_, rfl⟩
  obtain ⟨b5, e5⟩ : ∃ x, a % 256 = x := ⟨_, rfl⟩
  have hput := put_any a hp0 hp1 w
  have hf : fnv a = fnv6 b0 b1 b2 b3 b4 b5 := by unfold fnv; rw [e0, e1, e2, e3, e4, e5]
  rw [hf]
  unfold six at hput
  rw [e0, e1, e2, e3, e4, e5] at hput
  have l0 : 0 ≤ b0 ∧ b0 ≤ 255 := by omega
  have l1 : 0 ≤ b1 ∧ b1 ≤ 255 := by omega
  have l2 : 0 ≤ b2 ∧ b2 ≤ 255 := by omega
  have l3 : 0 ≤ b3 ∧ b3 ≤ 255 := by omega
  have l4 : 0 ≤ b4 ∧ b4 ≤ 255 := by omega
  have l5 : 0 ≤ b5 ∧ b5 ≤ 255 := by omega
  have HP := Lib.hid hput
  clear e0 e1 e2 e3 e4 e5 hf hput
  go_enter Try.func40, Try.ntmps40
  go_wp2_with fail
  (with_reducible refine HP.out.mono ?_); rintro e w' ⟨rfl, rfl⟩
  clear HP
  go_wp2
  go_rounds 7
  go_ret
  refine ⟨ret_int ?_, (Below.refl _ _).alloc (Nat.le_refl _) _⟩
  unfold fnv6
  rw [xs32 2166136261 b0 (by omega) (by omega) l0.1 l0.2, xs32 _ b1 (fs_bd _ _).1 (fs_bd _ _).2 l1.1 l1.2, xs32 _ b2 (fs_bd _ _).1 (fs_bd _ _).2 l2.1 l2.2,
    xs32 _ b3 (fs_bd _ _).1 (fs_bd _ _).2 l3.1 l3.2, xs32 _ b4 (fs_bd _ _).1 (fs_bd _ _).2 l4.1 l4.2, xs32 _ b5 (fs_bd _ _).1 (fs_bd _ _).2 l5.1 l5.2]

end Go.Proofs.Ytokepfgknffdfaa
