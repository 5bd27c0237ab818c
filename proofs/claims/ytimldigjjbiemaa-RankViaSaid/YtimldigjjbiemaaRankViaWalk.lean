/- The law RankVia, walked: it answers true, whatever the telling and the costs are. -/
import Derived.Test.YtimldigjjbiemaaRankIn
namespace Go.Proofs.Ytimldigjjbiemaa
open Go.ChangeShapes Go.WideShapes Go.ChangeAt Go.RowKit
set_option linter.unusedVariables false

set_option maxHeartbeats 1000000 in
theorem RankVia_walk (v : Vec) (a b : Int) (w : World) (hv : VB v) (wa : (Lit.int .u32 a).wf = true) (wb : (Lit.int .u32 b).wf = true) :
    Calls Try.prog 7 #[.agg #[.int .u64 v.r, .int .u32 v.c, .int .u64 v.b, .int .u16 v.p], .int .u32 a, .int .u32 b] w fun e w' => e = .returned (.bool true) ∧ Below w.heap.size w w' := by
  obtain ⟨a0, a1⟩ := bounds_u32 wa
  obtain ⟨b0, b1⟩ := bounds_u32 wb
  have a2 : a < 4294967296 := by omega
  have b2 : b < 4294967296 := by omega
  clear wa wb a1 b1
  have H1 := fun W => Lib.hid (via_is v a hv a0 a2 W)
  have F1 := fun W => Lib.hid (far_is a b a0 a2 b0 b2 W)
  have F2 := fun W => Lib.hid (far_is b a b0 b2 a0 a2 W)
  have sb := farI_bd a0 b0
  have H3 := fun W => Lib.hid (via_is v (farI a b) hv sb.1 sb.2 W)
  have H2 := fun W => Lib.hid (via_is (viaV v a) b (hv.via a0) b0 b2 W)
  rw [show farI b a = farI a b by unfold farI; omega] at F2
  have hv1 := hv.2.1
  rw [show farI v.c (farI a b) = farI (farI v.c a) b by unfold farI; omega] at H3
  have hc : v.c ≤ farI (farI v.c a) b := by unfold farI; omega
  clear hv1
  simp only [viaV] at H2
  obtain ⟨s, hs⟩ : ∃ s, farI a b = s := ⟨_, rfl⟩
  rw [hs] at F1 F2 H3
  clear hs sb
  obtain ⟨k1, hk1⟩ : ∃ k1, farI v.c a = k1 := ⟨_, rfl⟩
  rw [hk1] at H1 H2 H3 hc
  clear hk1
  obtain ⟨k2, hk2⟩ : ∃ k2, farI k1 b = k2 := ⟨_, rfl⟩
  rw [hk2] at H2 H3 hc
  clear hk2
  have q1 := fun W => vec_eq v.r k2 v.b v.p v.r k2 v.b v.p true (by simp) W
  obtain ⟨wb, hwb, hx, B⟩ := boxes1 28 w v
  go_enter Try.func7, Try.ntmps7
  go_wp2_with fail
  clear hwb
  (with_reducible refine (awake_rank _).mono ?_); rintro e w1 ⟨rfl, c1⟩
  have hx1 := hx.below c1 hx.lt
  have B1 := B.trans (c1.mono B.size)
  obtain ⟨x0, x1, x2, x3⟩ := hx1.cells
  clear hx B c1
  go_wp2_with fail
  (with_reducible refine (H1 _).out.mono ?_); rintro e w2 ⟨rfl, c2⟩
  have hx2 := hx1.below c2 hx1.lt
  have B2 := B1.trans (c2.mono B1.size)
  clear hx1 B1 c2 x0 x1 x2 x3
  go_wp2_with fail
  (with_reducible refine (H2 _).out.mono ?_); rintro e w3 ⟨rfl, c3⟩
  have hx3 := hx2.below c3 hx2.lt
  have B3 := B2.trans (c3.mono B2.size)
  clear hx2 B2 c3
  obtain ⟨wd, hwd, hy, Bd⟩ := boxes1 28 w3 ⟨v.r, k2, v.b, v.p⟩
  dsimp only at hwd
  have hx := hx3.below Bd hx3.lt
  have B := B3.trans (Bd.mono B3.size)
  have hxl := hx.lt
  have hyl := hy.lt
  have z := B.size
  obtain ⟨x0, x1, x2, x3⟩ := hx.cells
  obtain ⟨y0, y1, y2, y3⟩ := hy.cells
  go_upto_region 4 with fail
  clear hwd B3 Bd hx3
  obtain ⟨Y, hY⟩ : ∃ Y, w3.heap.size = Y := ⟨_, rfl⟩
  obtain ⟨X, hX⟩ : ∃ X, w.heap.size = X := ⟨_, rfl⟩
  rw [hY] at hy hyl y0 y1 y2 y3 ⊢
  rw [hX] at hx hxl x0 x1 x2 x3 ⊢
  clear hX hY
  have K0 := Lib.hid (VX.eight hx.drew hy.drew)
  go_region_held3 (fun w' => w'.cell? ⟨X, 0, none⟩ = some (.int .u64 v.r) ∧ w'.cell? ⟨X, 1, none⟩ = some (.int .u32 v.c) ∧ w'.cell? ⟨X, 2, none⟩ = some (.int .u64 v.b) ∧ w'.cell? ⟨X, 3, none⟩ = some (.int .u16 v.p) ∧ w'.cell? ⟨Y, 0, none⟩ = some (.int .u64 v.r) ∧ w'.cell? ⟨Y, 1, none⟩ = some (.int .u32 k2) ∧ w'.cell? ⟨Y, 2, none⟩ = some (.int .u64 v.b) ∧ w'.cell? ⟨Y, 3, none⟩ = some (.int .u16 v.p)) (first | exact K0.out | exact K5.out | assumption) (first
    | (go_at_call 15; (with_reducible refine (F1 _).out.mono ?_); rintro e w6 ⟨rfl, rfl⟩)
    | (go_at_call 15; (with_reducible refine (F2 _).out.mono ?_); rintro e w6 ⟨rfl, rfl⟩)
    | (go_at_call 12; (with_reducible refine (H3 _).out.mono ?_); rintro e w5 ⟨rfl, b5⟩; have hx5 := hx.drew.below b5 hxl; have hy5 := hy.drew.below b5 hyl; have K5 := Lib.hid (VX.eight hx5 hy5); have B5 := B.drew.trans (b5.mono z)))
  all_goals go_wp2_with fail
  all_goals go_ret
  all_goals exact ⟨rfl, B5⟩

end Go.Proofs.Ytimldigjjbiemaa
