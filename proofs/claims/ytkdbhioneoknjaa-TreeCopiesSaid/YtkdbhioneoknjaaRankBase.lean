/- Tellings: contracts of the functions of rank. -/
import Derived.Test.YtkdbhioneoknjaaRankMem
import Derived.Lib.MinMax
import Derived.Lib.Hide
import Derived.Deep.RegionHeld3
import Derived.Deep.DeepCutAuto
namespace Go.Proofs.Ytkdbhioneoknjaa
open Go.ChangeShapes Go.WideShapes Go.ChangeAt Go.RowKit
set_option linter.unusedVariables false

set_option maxHeartbeats 1000000 in
theorem wp_is (x y : Vec) (w : World) :
    Calls Try.prog 64 #[.agg #[.int .u64 x.r, .int .u32 x.c, .int .u64 x.b, .int .u16 x.p], .agg #[.int .u64 y.r, .int .u32 y.c, .int .u64 y.b, .int .u16 y.p]] w
      fun e w' => e = .returned (.int .i64 (wpI x y)) ∧ Below w.heap.size w w' := by
  have hc : wpI x y = orI (cmpI x.r y.r) (orI (cmpI x.c y.c) (cmpI x.b y.b)) := rfl
  rw [hc]; clear hc
  obtain ⟨wb, hwb, hx, hy, B⟩ := boxes2 39 w x y
  obtain ⟨x0, x1, x2, x3⟩ := hx.cells
  obtain ⟨y0, y1, y2, y3⟩ := hy.cells
  go_enter Try.func64, Try.ntmps64
  go_upto_region 1 with fail
  clear hwb
  have z := B.size
  obtain ⟨X, hX⟩ : ∃ X, w.heap.size = X := ⟨_, rfl⟩
  rw [hX] at hx hy x0 x1 x2 y0 y1 y2 ⊢
  obtain ⟨Y, hY⟩ : ∃ Y, X + 1 = Y := ⟨_, rfl⟩
  rw [hY] at hy y0 y1 y2 ⊢
  clear hX hY
  have H := fun a b c => Lib.hid (or3_at wb wb.heap.size rfl a b c)
  have K1 := fun o => Lib.hid (VX.six (hx.alloc o).drew (hy.alloc o).drew)
  clear hx hy
  go_region_held3 (fun w' => w'.cell? ⟨X, 0, none⟩ = some (.int .u64 x.r) ∧ w'.cell? ⟨X, 1, none⟩ = some (.int .u32 x.c) ∧ w'.cell? ⟨X, 2, none⟩ = some (.int .u64 x.b) ∧ w'.cell? ⟨Y, 0, none⟩ = some (.int .u64 y.r) ∧ w'.cell? ⟨Y, 1, none⟩ = some (.int .u32 y.c) ∧ w'.cell? ⟨Y, 2, none⟩ = some (.int .u64 y.b)) (first | exact ⟨x0, x1, x2, y0, y1, y2⟩ | exact (K1 _).out | assumption) (first
    | (go_at_call 67; (with_reducible refine (cmpB_is _ _ _).mono ?_); rintro e w5 ⟨rfl, rfl⟩)
    | (go_at_call 68; (with_reducible refine (cmpC_is _ _ _).mono ?_); rintro e w5 ⟨rfl, rfl⟩)
    | (go_at_call 61; (with_reducible refine (H _ _ _).out.mono ?_); rintro e w6 ⟨rfl, rfl⟩))
  all_goals go_wp2_with fail
  all_goals go_ret
  all_goals exact ⟨rfl, (B.alloc z _).drew⟩

set_option maxHeartbeats 1000000 in
theorem cmp_v (x y : Vec) (w : World) :
    Calls Try.prog 54 #[.agg #[.int .u64 x.r, .int .u32 x.c, .int .u64 x.b, .int .u16 x.p], .agg #[.int .u64 y.r, .int .u32 y.c, .int .u64 y.b, .int .u16 y.p]] w
      fun e w' => e = .returned (.int .i64 (cmpV x y)) ∧ Below w.heap.size w w' := by
  have hc : cmpV x y = orI (wpI x y) (cmpI x.p y.p) := rfl
  rw [hc]; clear hc
  obtain ⟨wb, hwb, hx, hy, B⟩ := boxes2 39 w x y
  go_enter Try.func54, Try.ntmps54
  go_upto_region 1 with fail
  clear hwb
  have hxl := hx.lt
  have hyl := hy.lt
  have z := B.size
  obtain ⟨X, hX⟩ : ∃ X, w.heap.size = X := ⟨_, rfl⟩
  rw [hX] at hx hy hxl hyl ⊢
  obtain ⟨Y, hY⟩ : ∃ Y, X + 1 = Y := ⟨_, rfl⟩
  rw [hY] at hy hyl ⊢
  clear hX hY
  have K0 := Lib.hid (VX.eight hx.drew hy.drew)
  go_region_held3 (fun w' => w'.cell? ⟨X, 0, none⟩ = some (.int .u64 x.r) ∧ w'.cell? ⟨X, 1, none⟩ = some (.int .u32 x.c) ∧ w'.cell? ⟨X, 2, none⟩ = some (.int .u64 x.b) ∧ w'.cell? ⟨X, 3, none⟩ = some (.int .u16 x.p) ∧ w'.cell? ⟨Y, 0, none⟩ = some (.int .u64 y.r) ∧ w'.cell? ⟨Y, 1, none⟩ = some (.int .u32 y.c) ∧ w'.cell? ⟨Y, 2, none⟩ = some (.int .u64 y.b) ∧ w'.cell? ⟨Y, 3, none⟩ = some (.int .u16 y.p)) (first | exact K0.out | exact K5.out | exact (K6 _).out | assumption) (first
    | (go_at_call 64; (with_reducible refine (wp_is x y _).mono ?_); rintro e w5 ⟨rfl, b5⟩; have hx5 := hx.drew.below b5 hxl; have hy5 := hy.drew.below b5 hyl; have K5 := Lib.hid (VX.eight hx5 hy5); have K6 := fun o => Lib.hid (VX.eight (hx5.alloc o) (hy5.alloc o)); have H := fun a b => Lib.hid (or2_at w5 w5.heap.size rfl a b); have B5 := B.drew.trans (b5.mono z))
    | (go_at_call 62; (with_reducible refine (cmpP_is _ _ _).mono ?_); rintro e w6 ⟨rfl, rfl⟩)
    | (go_at_call 61; (with_reducible refine (H _ _).out.mono ?_); rintro e w6 ⟨rfl, rfl⟩))
  all_goals go_wp2_with fail
  all_goals go_ret
  all_goals exact ⟨rfl, B5.alloc B5.size _⟩

theorem far_is (a b : Int) (a0 : 0 ≤ a) (a1 : a < 4294967296) (b0 : 0 ≤ b) (b1 : b < 4294967296) (w : World) :
    Calls Try.prog 63 #[.int .u32 a, .int .u32 b] w fun e w' => e = .returned (.int .u32 (farI a b)) ∧ w = w' := by
  go_enter Try.func63, Try.ntmps63
  go_wp2
  go_ret
  exact ⟨ret_int (by unfold farI; omega), rfl⟩

end Go.Proofs.Ytkdbhioneoknjaa
