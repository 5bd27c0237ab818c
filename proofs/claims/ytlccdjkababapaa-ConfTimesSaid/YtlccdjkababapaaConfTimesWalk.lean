/- The law ConfTimes, walked. -/
import Derived.Test.YtlccdjkababapaaConfRef
import Derived.LoopTactic
import Derived.Deep.DeepCutAuto
namespace Go.Proofs.Ytlccdjkababapaa
open Go.ChangeShapes Go.WideShapes Go.ChangeAt Go.RowKit
set_option linter.unusedVariables false

theorem times_in {c : Cf} (h : timesB c = true) : (6 ≤ c.ma ∧ c.ma ≤ 40) ∧ (1 ≤ c.he ∧ c.he ≤ 10) ∧ (4 ≤ c.de ∧ c.de ≤ 30) ∧ 2 * (c.he + 1) ≤ c.ma ∧ c.ma ≤ 2 * (c.de - 1) := by
  unfold timesB inI at h
  simp at h
  omega

theorem times_more {c : Cf} (h : timesB c = true) (k : timesB ⟨c.ad, c.pr, c.ma, c.he, c.de + 1, c.ag, c.tb, c.A, c.n, c.cap⟩ = false) : 30 < c.de + 1 := by
  have g := times_in h
  unfold timesB inI at k
  simp at k
  omega

set_option maxHeartbeats 2000000 in
theorem ConfTimes_walk (c : Cf) (w : World) (hb : CB c) :
    Calls Try.prog 5 #[.agg #[.int .u64 c.ad, .int .u16 c.pr, .int .i64 c.ma, .int .i64 c.he, .int .i64 c.de, .int .i64 c.ag, .int .i64 c.tb, .slice c.A c.n c.cap]] w fun e w' => e = .returned (.bool true) ∧ Below w.heap.size w w' := by
  obtain ⟨wb, hwb, hx, B⟩ := cf_box w c
  have hxl := hx.lt
  have z := B.size
  have HB := Lib.hid hb
  clear hb
  obtain ⟨r, hr⟩ : ∃ r, timesB c = r := ⟨_, rfl⟩
  have HR := Lib.hid hr
  clear hr
  go_enter Try.func5, Try.ntmps5
  go_upto_region 1 with fail
  clear hwb
  go_wp2_with fail
  (with_reducible refine (awake_conf _).mono ?_); rintro e w1 ⟨rfl, b1⟩
  have hx1 := hx.below b1 hxl
  have B1 := B.trans (b1.mono z)
  have hl1 := hx1.lt
  clear hx B b1 z hxl
  obtain ⟨x0, x1, x2, x3, x4, x5, x6, x7⟩ := hx1.cells
  go_wp2_with fail
  (with_reducible refine (times_is c r HR _).mono ?_); rintro e w2 ⟨rfl, b2⟩
  clear x0 x1 x2 x3 x4 x5 x6 x7
  have hx2 := hx1.below b2 hl1
  have B2 := B1.trans (b2.mono B1.size)
  have hl2 := hx2.lt
  obtain ⟨x0, x1, x2, x3, x4, x5, x6, x7⟩ := hx2.cells
  clear hx1 B1 b2 hl1
  cases r with
  | false =>
    go_wp2
    go_ret
    exact ⟨rfl, B2⟩
  | true =>
    obtain ⟨⟨m0, m1⟩, ⟨h0, h1⟩, ⟨d0, d1⟩, e0, e1⟩ := times_in HR.out
    have B2 := Lib.hid B2
    have HX2 := Lib.hid hx2
    clear hx2
    go_upto_region 7 with fail
    obtain ⟨s, hs⟩ : ∃ s, timesB ⟨c.ad, c.pr, c.ma, c.he, c.de + 1, c.ag, c.tb, c.A, c.n, c.cap⟩ = s := ⟨_, rfl⟩
    have HS := Lib.hid hs
    clear hs
    have hy := CX.new w2 ⟨c.ad, c.pr, c.ma, c.he, c.de + 1, c.ag, c.tb, c.A, c.n, c.cap⟩
    dsimp only at hy
    obtain ⟨w3, hw3⟩ : ∃ w3, w2.alloc (.cells #[.int .u64 c.ad, .int .u16 c.pr, .int .i64 c.ma, .int .i64 c.he, .int .i64 (c.de + 1), .int .i64 c.ag, .int .i64 c.tb, .slice c.A c.n c.cap] 27) = w3 := ⟨_, rfl⟩
    have hx3 : CX w3 w.heap.size c := hw3 ▸ HX2.out.alloc _
    have B3 : Below w.heap.size w w3 := hw3 ▸ B2.out.alloc B2.out.size _
    rw [hw3] at hy ⊢
    clear hw3 x0 x1 x2 x3 x4 x5 x6 x7 HX2
    obtain ⟨-, -, x2, x3, x4, -⟩ := hx3.cells
    obtain ⟨y0, y1, y2, y3, y4, y5, y6, y7⟩ := hy.cells
    dsimp only at y0 y1 y2 y3 y4 y5 y6 y7
    have B3 := Lib.hid B3
    have HY := Lib.hid hy
    clear hx3 hy
    cases s with
    | true =>
      go_wp2_with fail
      (with_reducible refine (times_is ⟨c.ad, c.pr, c.ma, c.he, c.de + 1, c.ag, c.tb, c.A, c.n, c.cap⟩ _ HS _).mono ?_); rintro e w4 ⟨rfl, b4⟩
      go_wp2
      go_ret
      exact ⟨ret_bool (by simp), B3.out.trans (b4.mono B3.out.size)⟩
    | false =>
      go_wp2_with fail
      (with_reducible refine (times_is ⟨c.ad, c.pr, c.ma, c.he, c.de + 1, c.ag, c.tb, c.A, c.n, c.cap⟩ _ HS _).mono ?_); rintro e w4 ⟨rfl, b4⟩
      clear y0 y1 y2 y3 y4 y5 y6 y7
      obtain ⟨-, -, -, -, y4, -⟩ := (HY.out.below b4 HY.out.lt).cells
      dsimp only at y4
      have g := times_more HR.out HS.out
      go_wp2
      go_ret
      exact ⟨ret_bool (by first | rfl | simp | (simp; omega)), B3.out.trans (b4.mono B3.out.size)⟩

end Go.Proofs.Ytlccdjkababapaa
