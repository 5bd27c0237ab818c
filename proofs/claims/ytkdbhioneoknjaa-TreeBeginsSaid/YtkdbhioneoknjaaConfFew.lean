/- Few ports, and times that may be, of the document. -/
import Derived.Test.YtkdbhioneoknjaaConfMem
namespace Go.Proofs.Ytkdbhioneoknjaa
open Go.ChangeShapes Go.WideShapes Go.ChangeAt Go.RowKit
set_option linter.unusedVariables false

/-- Is a number one from the least to the most? -/
def inI (n l m : Int) : Bool := decide (l ≤ n) && decide (n ≤ m)
def timesB (c : Cf) : Bool := inI c.ma 6 40 && (inI c.he 1 10 && (inI c.de 4 30 && inI c.ma (2 * (c.he + 1)) (2 * (c.de - 1))))

theorem inI_t {n l m : Int} (h : inI n l m = true) : l ≤ n ∧ n ≤ m := by unfold inI at h; simpa using h
theorem inI_f {n l m : Int} (h : inI n l m = false) : n < l ∨ m < n := by unfold inI at h; simp at h; omega

theorem few_is (c : Cf) (hn : c.n ≤ 9223372036854775807) (w : World) :
    Calls Try.prog 18 #[.agg #[.int .u64 c.ad, .int .u16 c.pr, .int .i64 c.ma, .int .i64 c.he, .int .i64 c.de, .int .i64 c.ag, .int .i64 c.tb, .slice c.A c.n c.cap]] w fun e w' => e = .returned (.bool (decide (c.n ≤ 200))) ∧ Below w.heap.size w w' := by
  go_enter Try.func18, Try.ntmps18
  go_wp2
  go_ret
  exact ⟨ret_bool (by rw [Bool.eq_iff_iff]; simp <;> omega), (Below.refl _ _).alloc (Nat.le_refl _) _⟩

end Go.Proofs.Ytkdbhioneoknjaa
