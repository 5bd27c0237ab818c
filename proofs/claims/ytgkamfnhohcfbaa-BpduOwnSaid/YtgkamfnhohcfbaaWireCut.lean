/- Slices of bytes cut: 's[p:]', 's[p:q]', 's[:q]', run, for every p and q. -/
import Derived.Test.YtgkamfnhohcfbaaWireMake
namespace Go.Proofs.Ytgkamfnhohcfbaa
open Go.ChangeShapes Go.WideShapes Go.ChangeAt Go.RowKit
set_option linter.unusedVariables false

/-- 's[p:]', run. -/
theorem cut_any (A : Option Addr) (m c p : Nat) (h : p ≤ m) (w : World) :
    (Instr.sliceAt 30 (.slice A m c) (some (.int .i64 (p : Int))) none none).run Try.prog w = .ok (.slice (cutA A p c) (m - p) (c - p)) w := by
  have hu : Try.prog.underlying 30 = some (.slice (Try.prog.elem 30)) := by kernel_rfl
  have hs : (sizeOf (Try.prog.elem 30)).run Try.prog w = .ok 1 w := by kernel_rfl
  rw [run_sliceAt_slice w _ _ _ _ _ hu, run_slice_l w _ _ _ _ hu .i64 (p : Int) (by omega) (by omega), hs]
  simp [Result.andThen, sliced, cutA]

/-- 's[p:p+k]', run. -/
theorem cut2_any (A : Option Addr) (m c p q k : Nat) (hq : q = p + k) (h : q ≤ c) (w : World) :
    (Instr.sliceAt 30 (.slice A m c) (some (.int .i64 (p : Int))) (some (.int .i64 (q : Int))) none).run Try.prog w = .ok (.slice (cutA A p c) k (c - p)) w := by
  have hu : Try.prog.underlying 30 = some (.slice (Try.prog.elem 30)) := by kernel_rfl
  have hs : (sizeOf (Try.prog.elem 30)).run Try.prog w = .ok 1 w := by kernel_rfl
  rw [run_sliceAt_slice w _ _ _ _ _ hu, run_slice_lh w _ _ _ _ hu .i64 .i64 (p : Int) (q : Int) (by omega) (by omega) (by omega), hs]
  have e : q - p = k := by omega
  simp [Result.andThen, sliced, cutA, e]

/-- 's[:q]', run. -/
theorem cut3_any (A : Option Addr) (m c q : Nat) (h : q ≤ c) (w : World) :
    (Instr.sliceAt 30 (.slice A m c) none (some (.int .i64 (q : Int))) none).run Try.prog w = .ok (.slice A q c) w := by
  have hu : Try.prog.underlying 30 = some (.slice (Try.prog.elem 30)) := by kernel_rfl
  have hs : (sizeOf (Try.prog.elem 30)).run Try.prog w = .ok 1 w := by kernel_rfl
  rw [run_sliceAt_slice w _ _ _ _ _ hu, run_slice_h w _ _ _ _ hu .i64 (q : Int) (by omega) (by omega), hs]
  simp [Result.andThen, sliced]
  cases A <;> simp [Addr.add]

end Go.Proofs.Ytgkamfnhohcfbaa
