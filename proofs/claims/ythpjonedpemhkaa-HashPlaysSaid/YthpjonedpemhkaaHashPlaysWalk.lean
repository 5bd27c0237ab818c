/- The law HashPlays, walked: it answers true, whatever the numbers. -/
import Derived.Test.YthpjonedpemhkaaHashNum
namespace Go.Proofs.Ythpjonedpemhkaa
open Go.ChangeShapes Go.WideShapes Go.ChangeAt Go.RowKit
set_option linter.unusedVariables false

/-- The document's Next, of every int. -/
theorem refnext_all (i n : Int) (hi0 : -9223372036854775808 ≤ i) (hi1 : i ≤ 9223372036854775807) (hn0 : -9223372036854775808 ≤ n) (hn1 : n ≤ 9223372036854775807) (w : World) :
    Calls Try.prog 12 #[.int .i64 i, .int .i64 n] w fun e w' => e = .returned (.int .i64 (nextI i n)) ∧ w = w' := by
  by_cases h : i = 9223372036854775807
  · subst h
    exact refnext_last n hn0 hn1 w
  · exact refnext_any i n hi0 (by omega) hn0 hn1 w

set_option maxHeartbeats 1000000 in
theorem HashPlays_walk (a0 : Int) (a1 : Int) (a2 : Int) (w0 : (Lit.int .u64 a0).wf = true) (w1 : (Lit.int .i64 a1).wf = true) (w2 : (Lit.int .i64 a2).wf = true) (w : World) :
    Calls Try.prog 3 #[.int .u64 a0, .int .i64 a1, .int .i64 a2] w fun e w' => e = .returned (.bool true) ∧ Below w.heap.size w w' := by
  obtain ⟨p0, p1⟩ := bounds_u64 w0
  obtain ⟨q0, q1⟩ := bounds_i64 w1
  obtain ⟨r0, r1⟩ := bounds_i64 w2
  clear w0 w1 w2
  have HO := Lib.hid (hashof_any a0 p0 p1)
  have HR := Lib.hid (refof_any a0 p0 p1)
  obtain ⟨f0, f1⟩ := fnv_bd a0
  by_cases h : a2 < 1
  · have HS := Lib.hid (slot_none a0 a2 h r0)
    go_enter Try.func3, Try.ntmps3
    go_wp2_with (first
      | (go_at_call 7; (with_reducible refine (awake_hash _).mono ?_); rintro e w' ⟨rfl, rfl⟩)
      | (go_at_call 9; (with_reducible refine (HO.out _).mono ?_); rintro e w1 ⟨rfl, hb1⟩)
      | (go_at_call 8; (with_reducible refine (HR.out _).mono ?_); rintro e w2 ⟨rfl, hb2⟩)
      | (go_at_call 10; (with_reducible refine (HS.out _).mono ?_); rintro e w3 ⟨rfl, hb3⟩)
      | (go_at_call 11; (with_reducible refine (next_any _ _ q0 q1 r0 r1 _).mono ?_); rintro e w' ⟨rfl, rfl⟩)
      | (go_at_call 12; (with_reducible refine (refnext_all _ _ q0 q1 r0 r1 _).mono ?_); rintro e w' ⟨rfl, rfl⟩))
    go_ret
    have h12 := hb1.trans (hb2.mono hb1.size)
    exact ⟨rfl, h12.trans (hb3.mono h12.size)⟩
  · have h1 : 1 ≤ a2 := by omega
    have HS := Lib.hid (slot_some a0 a2 p0 p1 h1 r1)
    obtain ⟨g0, g1⟩ := fnv_mod a0 a2 h1
    go_enter Try.func3, Try.ntmps3
    go_wp2_with fail
    (with_reducible refine (awake_hash _).mono ?_); rintro e w' ⟨rfl, rfl⟩
    go_wp2_with fail
    (with_reducible refine (HR.out _).mono ?_); rintro e wr ⟨rfl, hbr⟩
    go_wp2_with (first
      | (go_at_call 9; (with_reducible refine (HO.out _).mono ?_); rintro e w1 ⟨rfl, hb1⟩)
      | (go_at_call 8; (with_reducible refine (HR.out _).mono ?_); rintro e w2 ⟨rfl, hb2⟩)
      | (go_at_call 10; (with_reducible refine (HS.out _).mono ?_); rintro e w3 ⟨rfl, hb3⟩)
      | (go_at_call 11; (with_reducible refine (next_any _ _ q0 q1 r0 r1 _).mono ?_); rintro e w' ⟨rfl, rfl⟩)
      | (go_at_call 12; (with_reducible refine (refnext_all _ _ q0 q1 r0 r1 _).mono ?_); rintro e w' ⟨rfl, rfl⟩))
    go_ret
    have h01 := hbr.trans (hb1.mono hbr.size)
    have h12 := h01.trans (hb2.mono h01.size)
    exact ⟨rfl, h12.trans (hb3.mono h12.size)⟩

end Go.Proofs.Ythpjonedpemhkaa
