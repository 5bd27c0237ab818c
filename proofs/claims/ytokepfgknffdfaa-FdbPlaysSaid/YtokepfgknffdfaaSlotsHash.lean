/- Where an address is looked for in a table: a number. -/
import Derived.Test.YtokepfgknffdfaaHashStep
import Derived.Test.YtokepfgknffdfaaSlotsMath
namespace Go.Proofs.Ytokepfgknffdfaa
open Go.ChangeShapes Go.WideShapes Go.ChangeAt Go.RowKit
set_option linter.unusedVariables false

/-- The place of so many at which an address is looked for first. -/
def hs (n : Nat) (a : Int) : Nat := (fnv a % (n : Int)).toNat

theorem hs_eq (n : Nat) (h : 0 < n) (a : Int) : fnv a % (n : Int) = hs n a := by
  have := mod_bd (fnv a) n (by omega)
  unfold hs
  omega

theorem hs_lt (n : Nat) (h : 0 < n) (a : Int) : hs n a < n := by
  have := mod_bd (fnv a) n (by omega)
  unfold hs
  omega

theorem slot_is (a : Int) (n : Nat) (ha0 : 0 ≤ a) (ha1 : a ≤ 18446744073709551615) (h : 0 < n) (hn : n ≤ 64) (w : World) :
    Calls Try.prog 36 #[.int .u64 a, .int .i64 n] w fun e w' => e = .returned (.int .i64 (hs n a)) ∧ Below w.heap.size w w' := by
  rw [← hs_eq n h a]
  exact slot_some a n ha0 ha1 (by omega) (by omega) w

theorem nextI_nx (i n : Nat) : nextI i n = nx n i := by
  unfold nextI nx
  split <;> split <;> omega

theorem next_is (i n : Nat) (hi : i ≤ 64) (hn : n ≤ 64) (w : World) :
    Calls Try.prog 37 #[.int .i64 i, .int .i64 n] w fun e w' => e = .returned (.int .i64 (nx n i)) ∧ w = w' := by
  rw [← nextI_nx]
  exact next_any i n (by omega) (by omega) (by omega) (by omega) w

end Go.Proofs.Ytokepfgknffdfaa
