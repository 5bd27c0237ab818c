/- Via, Keeps, the document's Far and Less: contracts. -/
import Derived.Test.YtkdbhioneoknjaaRankBase
namespace Go.Proofs.Ytkdbhioneoknjaa
open Go.ChangeShapes Go.WideShapes Go.ChangeAt Go.RowKit
set_option linter.unusedVariables false

theorem keeps_is (x y : Vec) (r : Bool) (hr : decide (cmpV x y ≤ 0) = r) (w : World) :
    Calls Try.prog 30 #[.agg #[.int .u64 x.r, .int .u32 x.c, .int .u64 x.b, .int .u16 x.p], .agg #[.int .u64 y.r, .int .u32 y.c, .int .u64 y.b, .int .u16 y.p]] w
      fun e w' => e = .returned (.bool r) ∧ Below w.heap.size w w' := by
  obtain ⟨wb, hwb, hx, hy, B⟩ := boxes2 39 w x y
  obtain ⟨x0, x1, x2, x3⟩ := hx.cells
  obtain ⟨y0, y1, y2, y3⟩ := hy.cells
  go_enter Try.func30, Try.ntmps30
  go_wp2_with fail
  clear hwb
  (with_reducible refine (cmp_v x y _).mono ?_); rintro e w5 ⟨rfl, b5⟩
  go_wp2
  go_ret
  exact ⟨ret_bool (by first | rfl | exact hr), B.trans (b5.mono B.size)⟩

set_option maxHeartbeats 1000000 in
theorem via_is (x : Vec) (k : Int) (hb : VB x) (k0 : 0 ≤ k) (k1 : k < 4294967296) (w : World) :
    Calls Try.prog 53 #[.agg #[.int .u64 x.r, .int .u32 x.c, .int .u64 x.b, .int .u16 x.p], .int .u32 k] w
      fun e w' => e = .returned (.agg #[.int .u64 x.r, .int .u32 (farI x.c k), .int .u64 x.b, .int .u16 x.p]) ∧ Below w.heap.size w w' := by
  have HF := fun W => Lib.hid (far_is x.c k hb.2.1.1 hb.2.1.2 k0 k1 W)
  clear hb
  go_enter Try.func53, Try.ntmps53
  go_wp2_with fail
  (with_reducible refine (HF _).out.mono ?_); rintro e w5 ⟨rfl, rfl⟩
  go_wp2
  exact bodyPost_ret (v := .agg #[.int .u64 x.r, .int .u32 (farI x.c k), .int .u64 x.b, .int .u16 x.p]) (by simp [results, Try.results53, go_sem]) rfl ⟨rfl, ((Below.refl _ _).alloc (Nat.le_refl _) _).alloc (by simp) _⟩

theorem rfar_is (a b : Int) (a0 : 0 ≤ a) (a1 : a < 4294967296) (b0 : 0 ≤ b) (b1 : b < 4294967296) (w : World) :
    Calls Try.prog 35 #[.int .u32 a, .int .u32 b] w fun e w' => e = .returned (.int .u32 (farI a b)) ∧ w = w' := by
  by_cases h : 4294967295 < a + b
  · go_enter Try.func35, Try.ntmps35
    go_wp2
    go_ret
    exact ⟨ret_int (by unfold farI; omega), rfl⟩
  · go_enter Try.func35, Try.ntmps35
    go_wp2
    go_ret
    exact ⟨ret_int (by unfold farI; omega), rfl⟩

theorem less_is (x y : Vec) (r : Bool) (hr : Hid (lessB x y = r)) (w : World) :
    Calls Try.prog 34 #[.agg #[.int .u64 x.r, .int .u32 x.c, .int .u64 x.b, .int .u16 x.p], .agg #[.int .u64 y.r, .int .u32 y.c, .int .u64 y.b, .int .u16 y.p]] w fun e w' => e = .returned (.bool r) ∧ Below w.heap.size w w' := by
  by_cases h1 : x.r = y.r
  · by_cases h2 : x.c = y.c
    · by_cases h3 : x.b = y.b
      · have e := hr.out
        rw [lessB, if_pos h1, if_pos h2, if_pos h3] at e
        have e := Lib.hid e
        clear hr
        go_enter Try.func34, Try.ntmps34
        go_wp2
        go_ret
        exact ⟨ret_bool (by first | rfl | exact e.out), ((Below.refl _ _).alloc (Nat.le_refl _) _).alloc (by simp) _⟩
      · have e := hr.out
        rw [lessB, if_pos h1, if_pos h2, if_neg h3] at e
        have e := Lib.hid e
        clear hr
        go_enter Try.func34, Try.ntmps34
        go_wp2
        go_ret
        exact ⟨ret_bool (by first | rfl | exact e.out), ((Below.refl _ _).alloc (Nat.le_refl _) _).alloc (by simp) _⟩
    · have e := hr.out
      rw [lessB, if_pos h1, if_neg h2] at e
      have e := Lib.hid e
      clear hr
      go_enter Try.func34, Try.ntmps34
      go_wp2
      go_ret
      exact ⟨ret_bool (by first | rfl | exact e.out), ((Below.refl _ _).alloc (Nat.le_refl _) _).alloc (by simp) _⟩
  · have e := hr.out
    rw [lessB, if_neg h1] at e
    have e := Lib.hid e
    clear hr
    go_enter Try.func34, Try.ntmps34
    go_wp2
    go_ret
    exact ⟨ret_bool (by first | rfl | exact e.out), ((Below.refl _ _).alloc (Nat.le_refl _) _).alloc (by simp) _⟩

end Go.Proofs.Ytkdbhioneoknjaa
