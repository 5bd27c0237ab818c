/- Via, Keeps, Supersedes, Of, the document's answers, the law's example. -/
import Derived.Test.YtimldigjjbiemaaRankBase
namespace Go.Proofs.Ytimldigjjbiemaa
open Go.ChangeShapes Go.WideShapes Go.ChangeAt Go.RowKit
set_option linter.unusedVariables false

theorem keeps_is (x y : Vec) (r : Bool) (hr : decide (cmpV x y ≤ 0) = r) (w : World) :
    Calls Try.prog 14 #[.agg #[.int .u64 x.r, .int .u32 x.c, .int .u64 x.b, .int .u16 x.p], .agg #[.int .u64 y.r, .int .u32 y.c, .int .u64 y.b, .int .u16 y.p]] w
      fun e w' => e = .returned (.bool r) ∧ Below w.heap.size w w' := by
  obtain ⟨wb, hwb, hx, hy, B⟩ := boxes2 28 w x y
  obtain ⟨x0, x1, x2, x3⟩ := hx.cells
  obtain ⟨y0, y1, y2, y3⟩ := hy.cells
  go_enter Try.func14, Try.ntmps14
  go_wp2_with fail
  clear hwb
  (with_reducible refine (cmp_v x y _).mono ?_); rintro e w5 ⟨rfl, b5⟩
  go_wp2
  go_ret
  exact ⟨ret_bool (by first | rfl | exact hr), B.trans (b5.mono B.size)⟩

set_option maxHeartbeats 1000000 in
theorem via_is (x : Vec) (k : Int) (hb : VB x) (k0 : 0 ≤ k) (k1 : k < 4294967296) (w : World) :
    Calls Try.prog 12 #[.agg #[.int .u64 x.r, .int .u32 x.c, .int .u64 x.b, .int .u16 x.p], .int .u32 k] w
      fun e w' => e = .returned (.agg #[.int .u64 x.r, .int .u32 (farI x.c k), .int .u64 x.b, .int .u16 x.p]) ∧ Below w.heap.size w w' := by
  have HF := fun W => Lib.hid (far_is x.c k hb.2.1.1 hb.2.1.2 k0 k1 W)
  clear hb
  go_enter Try.func12, Try.ntmps12
  go_wp2_with fail
  (with_reducible refine (HF _).out.mono ?_); rintro e w5 ⟨rfl, rfl⟩
  go_wp2
  exact bodyPost_ret (v := .agg #[.int .u64 x.r, .int .u32 (farI x.c k), .int .u64 x.b, .int .u16 x.p]) (by simp [results, Try.results12, go_sem]) rfl ⟨rfl, ((Below.refl _ _).alloc (Nat.le_refl _) _).alloc (by simp) _⟩

theorem of_is (x : Vec) (tc ch ak : Bool) (ag ma he de : Int) (w : World) :
    Calls Try.prog 18 #[.agg #[.bool tc, .bool ch, .bool ak, .int .u64 x.r, .int .u32 x.c, .int .u64 x.b, .int .u16 x.p, .int .u16 ag, .int .u16 ma, .int .u16 he, .int .u16 de]] w
      fun e w' => e = .returned (.agg #[.int .u64 x.r, .int .u32 x.c, .int .u64 x.b, .int .u16 x.p]) ∧ Below w.heap.size w w' := by
  go_enter Try.func18, Try.ntmps18
  go_wp2
  exact bodyPost_ret (v := .agg #[.int .u64 x.r, .int .u32 x.c, .int .u64 x.b, .int .u16 x.p]) (by simp [results, Try.results18, go_sem]) rfl ⟨rfl, ((Below.refl _ _).alloc (Nat.le_refl _) _).alloc (by simp) _⟩

theorem plain_is (x : Vec) (w : World) :
    Calls Try.prog 10 #[.agg #[.int .u64 x.r, .int .u32 x.c, .int .u64 x.b, .int .u16 x.p]] w
      fun e w' => e = .returned (.agg #[.int .u64 x.r, .int .u32 x.c, .int .u64 x.b, .int .u16 x.p]) ∧ Below w.heap.size w w' := by
  go_enter Try.func10, Try.ntmps10
  go_wp2
  exact bodyPost_ret (v := .agg #[.int .u64 x.r, .int .u32 x.c, .int .u64 x.b, .int .u16 x.p]) (by simp [results, Try.results10, go_sem]) rfl ⟨rfl, ((Below.refl _ _).alloc (Nat.le_refl _) _).alloc (by simp) _⟩

theorem rfar_is (a b : Int) (a0 : 0 ≤ a) (a1 : a < 4294967296) (b0 : 0 ≤ b) (b1 : b < 4294967296) (w : World) :
    Calls Try.prog 13 #[.int .u32 a, .int .u32 b] w fun e w' => e = .returned (.int .u32 (farI a b)) ∧ w = w' := by
  by_cases h : 4294967295 < a + b
  · go_enter Try.func13, Try.ntmps13
    go_wp2
    go_ret
    exact ⟨ret_int (by unfold farI; omega), rfl⟩
  · go_enter Try.func13, Try.ntmps13
    go_wp2
    go_ret
    exact ⟨ret_int (by unfold farI; omega), rfl⟩

theorem less_is (x y : Vec) (r : Bool) (hr : Hid (lessB x y = r)) (w : World) :
    Calls Try.prog 11 #[.agg #[.int .u64 x.r, .int .u32 x.c, .int .u64 x.b, .int .u16 x.p], .agg #[.int .u64 y.r, .int .u32 y.c, .int .u64 y.b, .int .u16 y.p]] w fun e w' => e = .returned (.bool r) ∧ Below w.heap.size w w' := by
  by_cases h1 : x.r = y.r
  · by_cases h2 : x.c = y.c
    · by_cases h3 : x.b = y.b
      · have e := hr.out
        rw [lessB, if_pos h1, if_pos h2, if_pos h3] at e
        have e := Lib.hid e
        clear hr
        go_enter Try.func11, Try.ntmps11
        go_wp2
        go_ret
        exact ⟨ret_bool (by first | rfl | exact e.out), ((Below.refl _ _).alloc (Nat.le_refl _) _).alloc (by simp) _⟩
      · have e := hr.out
        rw [lessB, if_pos h1, if_pos h2, if_neg h3] at e
        have e := Lib.hid e
        clear hr
        go_enter Try.func11, Try.ntmps11
        go_wp2
        go_ret
        exact ⟨ret_bool (by first | rfl | exact e.out), ((Below.refl _ _).alloc (Nat.le_refl _) _).alloc (by simp) _⟩
    · have e := hr.out
      rw [lessB, if_pos h1, if_neg h2] at e
      have e := Lib.hid e
      clear hr
      go_enter Try.func11, Try.ntmps11
      go_wp2
      go_ret
      exact ⟨ret_bool (by first | rfl | exact e.out), ((Below.refl _ _).alloc (Nat.le_refl _) _).alloc (by simp) _⟩
  · have e := hr.out
    rw [lessB, if_neg h1] at e
    have e := Lib.hid e
    clear hr
    go_enter Try.func11, Try.ntmps11
    go_wp2
    go_ret
    exact ⟨ret_bool (by first | rfl | exact e.out), ((Below.refl _ _).alloc (Nat.le_refl _) _).alloc (by simp) _⟩

set_option maxHeartbeats 1000000 in
theorem sup_is (x y : Vec) (o : Int) (r : Bool) (hr : Hid (supB x y o = r)) (w : World) :
    Calls Try.prog 16 #[.agg #[.int .u64 x.r, .int .u32 x.c, .int .u64 x.b, .int .u16 x.p], .agg #[.int .u64 y.r, .int .u32 y.c, .int .u64 y.b, .int .u16 y.p], .int .u64 o] w fun e w' => e = .returned (.bool r) ∧ Below w.heap.size w w' := by
  obtain ⟨wb, hwb, hx, hy, B⟩ := boxes2 28 w x y
  have hxl := hx.lt
  have hyl := hy.lt
  have z := B.size
  have HW := fun W => Lib.hid (wp_is x y W)
  rcases wpI_cases x y with ⟨-, e⟩ | ⟨-, e⟩ | ⟨-, e⟩
  · rw [supB_lt e] at hr
    rw [e] at HW
    have hr := Lib.hid hr.out
    clear e
    obtain ⟨x0, x1, x2, x3⟩ := hx.cells
    obtain ⟨y0, y1, y2, y3⟩ := hy.cells
    go_enter Try.func16, Try.ntmps16
    go_wp2_with fail
    (with_reducible refine (HW _).out.mono ?_); rintro e w5 ⟨rfl, b5⟩
    clear HW
    go_wp2
    go_ret
    exact ⟨ret_bool (by first | rfl | exact hr.out), B.trans (b5.mono z)⟩
  · rw [supB_eq e] at hr
    rw [e] at HW
    clear e
    obtain ⟨x0, x1, x2, x3⟩ := hx.cells
    obtain ⟨y0, y1, y2, y3⟩ := hy.cells
    by_cases hb : x.b = o
    · have e := hr.out
      rw [decide_eq_true hb] at e
      have e := Lib.hid (show decide (x.p ≤ y.p) = r from e)
      clear hr
      subst hb
      go_enter Try.func16, Try.ntmps16
      go_wp2_with fail
      (with_reducible refine (HW _).out.mono ?_); rintro e w5 ⟨rfl, b5⟩
      clear HW
      obtain ⟨c0, c1, c2, c3⟩ := (hx.below b5 hxl).cells
      obtain ⟨d0, d1, d2, d3⟩ := (hy.below b5 hyl).cells
      go_wp2
      go_ret
      exact ⟨ret_bool (by first | rfl | exact e.out), B.trans (b5.mono z)⟩
    · have e := hr.out
      rw [decide_eq_false hb] at e
      have e := Lib.hid (show true = r from e)
      clear hr
      go_enter Try.func16, Try.ntmps16
      go_wp2_with fail
      (with_reducible refine (HW _).out.mono ?_); rintro e w5 ⟨rfl, b5⟩
      clear HW
      obtain ⟨c0, c1, c2, c3⟩ := (hx.below b5 hxl).cells
      obtain ⟨d0, d1, d2, d3⟩ := (hy.below b5 hyl).cells
      go_wp2
      go_ret
      exact ⟨ret_bool (by first | rfl | exact e.out), B.trans (b5.mono z)⟩
  · rw [supB_gt e] at hr
    rw [e] at HW
    have hr := Lib.hid hr.out
    clear e
    obtain ⟨x0, x1, x2, x3⟩ := hx.cells
    obtain ⟨y0, y1, y2, y3⟩ := hy.cells
    go_enter Try.func16, Try.ntmps16
    go_wp2_with fail
    (with_reducible refine (HW _).out.mono ?_); rintro e w5 ⟨rfl, b5⟩
    clear HW
    go_wp2
    go_ret
    exact ⟨ret_bool (by first | rfl | exact hr.out), B.trans (b5.mono z)⟩

set_option maxHeartbeats 1000000 in
theorem rsup_is (x y : Vec) (o : Int) (r : Bool) (hr : Hid (supB x y o = r)) (w : World) :
    Calls Try.prog 17 #[.agg #[.int .u64 x.r, .int .u32 x.c, .int .u64 x.b, .int .u16 x.p], .agg #[.int .u64 y.r, .int .u32 y.c, .int .u64 y.b, .int .u16 y.p], .int .u64 o] w fun e w' => e = .returned (.bool r) ∧ Below w.heap.size w w' := by
  have hw := wpI_cases x y
  rcases Int.lt_trichotomy x.r y.r with gr | gr | gr
  · rw [supB_lt (by omega)] at hr
    have e := Lib.hid hr.out
    have n0 : ¬ x.r = y.r := by omega
    clear hr hw
    go_enter Try.func17, Try.ntmps17
    go_wp2
    go_ret
    exact ⟨ret_bool (by first | rfl | exact e.out), ((Below.refl _ _).alloc (Nat.le_refl _) _).alloc (by simp) _⟩
  · rcases Int.lt_trichotomy x.c y.c with gc | gc | gc
    · rw [supB_lt (by omega)] at hr
      have e := Lib.hid hr.out
      have n0 : ¬ x.r < y.r := by omega
      have n1 : ¬ x.c = y.c := by omega
      clear hr hw
      go_enter Try.func17, Try.ntmps17
      go_wp2
      go_ret
      exact ⟨ret_bool (by first | rfl | exact e.out), ((Below.refl _ _).alloc (Nat.le_refl _) _).alloc (by simp) _⟩
    · rcases Int.lt_trichotomy x.b y.b with gb | gb | gb
      · rw [supB_lt (by omega)] at hr
        have e := Lib.hid hr.out
        have n0 : ¬ x.r < y.r := by omega
        have n1 : ¬ x.c < y.c := by omega
        have n2 : ¬ x.b = y.b := by omega
        clear hr hw
        go_enter Try.func17, Try.ntmps17
        go_wp2
        go_ret
        exact ⟨ret_bool (by first | rfl | exact e.out), ((Below.refl _ _).alloc (Nat.le_refl _) _).alloc (by simp) _⟩
      · by_cases hb : x.b = o
        · rw [supB_eq (by omega)] at hr
          have e := hr.out
          rw [decide_eq_true hb] at e
          have e := Lib.hid (show decide (x.p ≤ y.p) = r from e)
          have n0 : ¬ x.r < y.r := by omega
          have n1 : ¬ x.c < y.c := by omega
          have n2 : ¬ x.b < y.b := by omega
          clear hr hw
          go_enter Try.func17, Try.ntmps17
          go_wp2
          go_ret
          exact ⟨ret_bool (by first | rfl | exact e.out), ((Below.refl _ _).alloc (Nat.le_refl _) _).alloc (by simp) _⟩
        · rw [supB_eq (by omega)] at hr
          have e := hr.out
          rw [decide_eq_false hb] at e
          have e := Lib.hid (show true = r from e)
          have n0 : ¬ x.r < y.r := by omega
          have n1 : ¬ x.c < y.c := by omega
          have n2 : ¬ x.b < y.b := by omega
          clear hr hw
          go_enter Try.func17, Try.ntmps17
          go_wp2
          go_ret
          exact ⟨ret_bool (by first | rfl | exact e.out), ((Below.refl _ _).alloc (Nat.le_refl _) _).alloc (by simp) _⟩
      · rw [supB_gt (by omega)] at hr
        have e := Lib.hid hr.out
        have n0 : ¬ x.r < y.r := by omega
        have n1 : ¬ x.c < y.c := by omega
        have n2 : ¬ x.b = y.b := by omega
        have n3 : ¬ x.b < y.b := by omega
        clear hr hw
        go_enter Try.func17, Try.ntmps17
        go_wp2
        go_ret
        exact ⟨ret_bool (by first | rfl | exact e.out), ((Below.refl _ _).alloc (Nat.le_refl _) _).alloc (by simp) _⟩
    · rw [supB_gt (by omega)] at hr
      have e := Lib.hid hr.out
      have n0 : ¬ x.r < y.r := by omega
      have n1 : ¬ x.c = y.c := by omega
      have n2 : ¬ x.c < y.c := by omega
      clear hr hw
      go_enter Try.func17, Try.ntmps17
      go_wp2
      go_ret
      exact ⟨ret_bool (by first | rfl | exact e.out), ((Below.refl _ _).alloc (Nat.le_refl _) _).alloc (by simp) _⟩
  · rw [supB_gt (by omega)] at hr
    have e := Lib.hid hr.out
    have n0 : ¬ x.r = y.r := by omega
    have n1 : ¬ x.r < y.r := by omega
    clear hr hw
    go_enter Try.func17, Try.ntmps17
    go_wp2
    go_ret
    exact ⟨ret_bool (by first | rfl | exact e.out), ((Below.refl _ _).alloc (Nat.le_refl _) _).alloc (by simp) _⟩

theorem awake_rank (w : World) : Calls Try.prog 8 #[] w fun e w' => e = .returned (.bool true) ∧ Below w.heap.size w w' := by
  have HF := fun W => Lib.hid (far_is 4294967295 1 (by decide) (by decide) (by decide) (by decide) W)
  have HC := fun W => Lib.hid (cmp_v ⟨1, 0, 0, 0⟩ ⟨0, 5, 0, 0⟩ W)
  rw [show farI 4294967295 1 = 4294967295 by decide] at HF
  rw [show cmpV ⟨1, 0, 0, 0⟩ ⟨0, 5, 0, 0⟩ = 1 by decide] at HC
  dsimp only at HC
  go_enter Try.func8, Try.ntmps8
  go_wp2_with fail
  (with_reducible refine (HF _).out.mono ?_); rintro e w1 ⟨rfl, rfl⟩
  go_wp2_with fail
  (with_reducible refine (HC _).out.mono ?_); rintro e w2 ⟨rfl, b2⟩
  go_wp2
  go_ret
  exact ⟨rfl, b2⟩

end Go.Proofs.Ytimldigjjbiemaa
