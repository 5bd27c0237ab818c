/- The document's Times; the law's example. -/
import Derived.Test.YtlccdjkababapaaConfTimes
namespace Go.Proofs.Ytlccdjkababapaa
open Go.ChangeShapes Go.WideShapes Go.ChangeAt Go.RowKit
set_option linter.unusedVariables false

set_option maxHeartbeats 1000000 in
theorem rtimes_is (c : Cf) (hb : CB c) (r : Bool) (hr : Hid (timesB c = r)) (w : World) :
    Calls Try.prog 13 #[.agg #[.int .u64 c.ad, .int .u16 c.pr, .int .i64 c.ma, .int .i64 c.he, .int .i64 c.de, .int .i64 c.ag, .int .i64 c.tb, .slice c.A c.n c.cap]] w fun e w' => e = .returned (.bool r) ∧ Below w.heap.size w w' := by
  obtain rfl := hr.out
  obtain ⟨-, -, ⟨a0, a1⟩, ⟨b0, b1⟩, ⟨d0, d1⟩, -⟩ := hb
  clear hr
  go_enter Try.func13, Try.ntmps13
  go_wp2
  all_goals go_ret
  all_goals exact ⟨ret_bool (by unfold timesB inI; rw [Bool.eq_iff_iff]; simp <;> omega), (Below.refl _ _).alloc (Nat.le_refl _) _⟩

theorem awake_conf (w : World) : Calls Try.prog 8 #[] w fun e w' => e = .returned (.bool true) ∧ Below w.heap.size w w' := by
  have HT := fun W => Lib.hid (times_is ⟨0, 0, 20, 2, 15, 0, 0, none, 0, 0⟩ true (by rw [Hid]; decide) W)
  have HF := fun W => Lib.hid (times_is ⟨0, 0, 20, 2, 10, 0, 0, none, 0, 0⟩ false (by rw [Hid]; decide) W)
  dsimp only at HT HF
  go_enter Try.func8, Try.ntmps8
  go_wp2_with fail
  (with_reducible refine (HT _).out.mono ?_); rintro e w1 ⟨rfl, b1⟩
  go_wp2_with fail
  (with_reducible refine (HF _).out.mono ?_); rintro e w2 ⟨rfl, b2⟩
  go_wp2
  go_ret
  exact ⟨rfl, b1.trans (b2.mono b1.size)⟩

end Go.Proofs.Ytlccdjkababapaa
