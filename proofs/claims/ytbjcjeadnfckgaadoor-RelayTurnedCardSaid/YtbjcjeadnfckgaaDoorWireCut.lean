/- Slices of bytes cut: 's[p:]', 's[p:q]', 's[:q]', run, for every p and q. -/
import Derived.Test.YtbjcjeadnfckgaaDoorWireMake
namespace Go.Proofs.YtbjcjeadnfckgaaDoor
set_option maxRecDepth 100000
open Go.ChangeShapes Go.WideShapes Go.ChangeAt Go.RowKit
set_option linter.unusedVariables false

/-- 's[p:]', run. -/
theorem scut_any (A : Option Addr) (m c p : Nat) (h : p ≤ m) (w : World) :
    (Instr.sliceAt 25 (.slice A m c) (some (.int .i64 (p : Int))) none none).run Tryd.prog w = .ok (.slice (cutA A p c) (m - p) (c - p)) w := by
  have hu : Tryd.prog.underlying 25 = some (.slice (Tryd.prog.elem 25)) := by kernel_rfl
  have hs : (sizeOf (Tryd.prog.elem 25)).run Tryd.prog w = .ok 1 w := by kernel_rfl
  rw [run_sliceAt_slice w _ _ _ _ _ hu, run_slice_l w _ _ _ _ hu .i64 (p : Int) (by omega) (by omega), hs]
  simp [Result.andThen, sliced, cutA]

/-- 's[p:p+k]', run. -/
theorem cut2_any (A : Option Addr) (m c p q k : Nat) (hq : q = p + k) (h : q ≤ c) (w : World) :
    (Instr.sliceAt 25 (.slice A m c) (some (.int .i64 (p : Int))) (some (.int .i64 (q : Int))) none).run Tryd.prog w = .ok (.slice (cutA A p c) k (c - p)) w := by
  have hu : Tryd.prog.underlying 25 = some (.slice (Tryd.prog.elem 25)) := by kernel_rfl
  have hs : (sizeOf (Tryd.prog.elem 25)).run Tryd.prog w = .ok 1 w := by kernel_rfl
  rw [run_sliceAt_slice w _ _ _ _ _ hu, run_slice_lh w _ _ _ _ hu .i64 .i64 (p : Int) (q : Int) (by omega) (by omega) (by omega), hs]
  have e : q - p = k := by omega
  simp [Result.andThen, sliced, cutA, e]

/-- 's[:q]', run. -/
theorem cut3_any (A : Option Addr) (m c q : Nat) (h : q ≤ c) (w : World) :
    (Instr.sliceAt 25 (.slice A m c) none (some (.int .i64 (q : Int))) none).run Tryd.prog w = .ok (.slice A q c) w := by
  have hu : Tryd.prog.underlying 25 = some (.slice (Tryd.prog.elem 25)) := by kernel_rfl
  have hs : (sizeOf (Tryd.prog.elem 25)).run Tryd.prog w = .ok 1 w := by kernel_rfl
  rw [run_sliceAt_slice w _ _ _ _ _ hu, run_slice_h w _ _ _ _ hu .i64 (q : Int) (by omega) (by omega), hs]
  simp [Result.andThen, sliced]
  cases A <;> simp [Addr.add]

end Go.Proofs.YtbjcjeadnfckgaaDoor
