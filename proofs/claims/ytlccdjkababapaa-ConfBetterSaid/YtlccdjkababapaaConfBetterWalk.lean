/- The law ConfBetter, walked. -/
import Derived.Test.YtlccdjkababapaaConfRef
import Derived.Test.YtlccdjkababapaaConfIds
import Derived.LoopTactic
import Derived.RegionTactic
import Derived.BigRegion
import Derived.ChangeAlike
import Derived.Deep.DeepCutAuto
import Derived.Deep.RegionHeld3
namespace Go.Proofs.Ytlccdjkababapaa
open Go.ChangeShapes Go.WideShapes Go.ChangeAt Go.RowKit
set_option linter.unusedVariables false

/-- Both boxes, in a later world. -/
theorem cf_two {w : World} {X Y : Nat} {c d : Cf} (h : CX w X c) (k : CX w Y d) : (w.cell? ⟨X, 0, none⟩ = some (.int .u64 c.ad) ∧ w.cell? ⟨X, 1, none⟩ = some (.int .u16 c.pr) ∧ w.cell? ⟨X, 2, none⟩ = some (.int .i64 c.ma) ∧ w.cell? ⟨X, 3, none⟩ = some (.int .i64 c.he) ∧ w.cell? ⟨X, 4, none⟩ = some (.int .i64 c.de) ∧ w.cell? ⟨X, 5, none⟩ = some (.int .i64 c.ag) ∧ w.cell? ⟨X, 6, none⟩ = some (.int .i64 c.tb) ∧ w.cell? ⟨X, 7, none⟩ = some (.slice c.A c.n c.cap)) ∧ (w.cell? ⟨Y, 0, none⟩ = some (.int .u64 d.ad) ∧ w.cell? ⟨Y, 1, none⟩ = some (.int .u16 d.pr) ∧ w.cell? ⟨Y, 2, none⟩ = some (.int .i64 d.ma) ∧ w.cell? ⟨Y, 3, none⟩ = some (.int .i64 d.he) ∧ w.cell? ⟨Y, 4, none⟩ = some (.int .i64 d.de) ∧ w.cell? ⟨Y, 5, none⟩ = some (.int .i64 d.ag) ∧ w.cell? ⟨Y, 6, none⟩ = some (.int .i64 d.tb) ∧ w.cell? ⟨Y, 7, none⟩ = some (.slice d.A d.n d.cap)) := ⟨h.cells, k.cells⟩

/-- A configuration's address cut to its lowest 48 bits. -/
theorem cut_cf {c : Cf} (hb : CB c) {w : World} {X : Nat} (h : CX w X ⟨c.ad % 281474976710656, c.pr, c.ma, c.he, c.de, c.ag, c.tb, c.A, c.n, c.cap⟩) :
    ∃ c' : Cf, CX w X c' ∧ CB c' ∧ c'.ad < 281474976710656 := by
  refine ⟨_, h, ?_, ?_⟩
  · unfold CB at hb ⊢
    dsimp only
    omega
  · dsimp only
    omega

theorem id_lt1 {c d : Cf} (hc : CB c) (hd : CB d) (h : c.ad < 281474976710656) (k : d.ad < 281474976710656) (hn : (c.pr != d.pr) = true) : (decide (idI c < idI d) == decide (c.pr < d.pr)) = true := by
  unfold CB at hc hd
  unfold idI
  simp at hn
  by_cases q : c.pr < d.pr
  · rw [decide_eq_true q, decide_eq_true (by omega)]; rfl
  · rw [decide_eq_false q, decide_eq_false (by omega)]; rfl
theorem id_lt2 {c d : Cf} (hc : CB c) (hd : CB d) (h : c.ad < 281474976710656) (k : d.ad < 281474976710656) (hn : (c.pr != d.pr) = false) : (decide (idI c < idI d) == decide (c.ad < d.ad)) = true := by
  unfold CB at hc hd
  unfold idI
  simp at hn
  by_cases q : c.ad < d.ad
  · rw [decide_eq_true q, decide_eq_true (by omega)]; rfl
  · rw [decide_eq_false q, decide_eq_false (by omega)]; rfl

set_option maxHeartbeats 2000000 in
theorem ConfBetter_walk (c : Cf) (L : List PV) (d : Cf) (M : List PV) (w : World) (hb : CB c) (hd : CB d) :
    Calls Try.prog 7 #[.agg #[.int .u64 c.ad, .int .u16 c.pr, .int .i64 c.ma, .int .i64 c.he, .int .i64 c.de, .int .i64 c.ag, .int .i64 c.tb, .slice c.A c.n c.cap], .agg #[.int .u64 d.ad, .int .u16 d.pr, .int .i64 d.ma, .int .i64 d.he, .int .i64 d.de, .int .i64 d.ag, .int .i64 d.tb, .slice d.A d.n d.cap]] w fun e w' => e = .returned (.bool true) ∧ Below w.heap.size w w' := by
  obtain ⟨wb, hwb, hx, hy, B⟩ := cf_box2 w c d
  have hxl := hx.lt
  have hyl := hy.lt
  have z := B.size
  have HB := Lib.hid hb
  have HD := Lib.hid hd
  obtain ⟨⟨a0, a1⟩, -⟩ := hb
  obtain ⟨⟨b0, b1⟩, -⟩ := hd
  go_enter Try.func7, Try.ntmps7
  go_upto_region 1 with fail
  clear hwb
  go_wp2_with fail
  (with_reducible refine (awake_conf _).mono ?_); rintro e w1 ⟨rfl, b1⟩
  have hx1 := hx.below b1 hxl
  have hy1 := hy.below b1 hyl
  have B1 := Lib.hid (B.trans (b1.mono z))
  clear hx hy B b1 z hxl hyl
  obtain ⟨x0, x1, x2, x3, x4, x5, x6, x7⟩ := hx1.cells
  obtain ⟨y0, y1, y2, y3, y4, y5, y6, y7⟩ := hy1.cells
  have f0 := hx1.thaw 0
  have g0 := hy1.thaw 0
  have HX := Lib.hid hx1
  have HY := Lib.hid hy1
  clear hx1 hy1
  clear x2 x3 x4 x5 x6 x7 y2 y3 y4 y5 y6 y7
  obtain ⟨X, hX⟩ : ∃ X, w.heap.size = X := ⟨_, rfl⟩
  rw [hX] at x0 x1 y0 y1 f0 g0 HX HY ⊢
  obtain ⟨Y, hY⟩ : ∃ Y, X + 1 = Y := ⟨_, rfl⟩
  rw [hY] at y0 y1 g0 HY ⊢
  have hXY : X ≠ Y := by omega
  have hXX : w.heap.size ≤ X := by omega
  have hYY : w.heap.size ≤ Y := by omega
  clear hX hY
  go_wp2
  go_region
  obtain ⟨w3, hw3⟩ : ∃ w3, ((w1.setCell ⟨X, 0, none⟩ (.int .u64 (c.ad % 281474976710656))).setCell ⟨Y, 0, none⟩ (.int .u64 (d.ad % 281474976710656))).drew = w3 := ⟨_, rfl⟩
  have hx3 := hw3 ▸ ((HX.out.set0 (c.ad % 281474976710656)).far (p := ⟨Y, 0, none⟩) (by show Y ≠ X; omega) (.int .u64 (d.ad % 281474976710656))).drew
  have hy3 := hw3 ▸ ((HY.out.far (p := ⟨X, 0, none⟩) hXY (.int .u64 (c.ad % 281474976710656))).set0 (d.ad % 281474976710656)).drew
  have B3 : Below w.heap.size w w3 := hw3 ▸ ((B1.out.setCell (p := ⟨X, 0, none⟩) hXX _).setCell (p := ⟨Y, 0, none⟩) hYY _).drew
  rw [hw3]
  obtain ⟨c', hx, hcb, hca⟩ := cut_cf HB.out hx3
  obtain ⟨d', hy, hdb, hda⟩ := cut_cf HD.out hy3
  clear hw3 hx3 hy3 B1 HX HY x0 x1 y0 y1 f0 g0 hXX hYY HB HD a0 a1 b0 b1
  have hX := hx.lt
  have hY := hy.lt
  have HCD := Lib.hid (And.intro (And.intro hcb hdb) (And.intro hca hda))
  have HI := fun W => Lib.hid (id_is c' hcb W)
  have HJ := fun W => Lib.hid (id_is d' hdb W)
  have HX := Lib.hid hx
  have HY := Lib.hid hy
  have B3 := Lib.hid B3
  clear hcb hdb hca hda hx hy
  have K0 := Lib.hid (cf_two HX.out.drew HY.out.drew)
  obtain ⟨q, hq⟩ : ∃ q, (c'.pr != d'.pr) = q := ⟨_, rfl⟩
  obtain ⟨x0, x1, -⟩ := HX.out.cells
  obtain ⟨y0, y1, -⟩ := HY.out.cells
  cases q with
  | true =>
    go_wp2
    go_region_held3 (fun w' => (w'.cell? ⟨X, 0, none⟩ = some (.int .u64 c'.ad) ∧ w'.cell? ⟨X, 1, none⟩ = some (.int .u16 c'.pr) ∧ w'.cell? ⟨X, 2, none⟩ = some (.int .i64 c'.ma) ∧ w'.cell? ⟨X, 3, none⟩ = some (.int .i64 c'.he) ∧ w'.cell? ⟨X, 4, none⟩ = some (.int .i64 c'.de) ∧ w'.cell? ⟨X, 5, none⟩ = some (.int .i64 c'.ag) ∧ w'.cell? ⟨X, 6, none⟩ = some (.int .i64 c'.tb) ∧ w'.cell? ⟨X, 7, none⟩ = some (.slice c'.A c'.n c'.cap)) ∧ (w'.cell? ⟨Y, 0, none⟩ = some (.int .u64 d'.ad) ∧ w'.cell? ⟨Y, 1, none⟩ = some (.int .u16 d'.pr) ∧ w'.cell? ⟨Y, 2, none⟩ = some (.int .i64 d'.ma) ∧ w'.cell? ⟨Y, 3, none⟩ = some (.int .i64 d'.he) ∧ w'.cell? ⟨Y, 4, none⟩ = some (.int .i64 d'.de) ∧ w'.cell? ⟨Y, 5, none⟩ = some (.int .i64 d'.ag) ∧ w'.cell? ⟨Y, 6, none⟩ = some (.int .i64 d'.tb) ∧ w'.cell? ⟨Y, 7, none⟩ = some (.slice d'.A d'.n d'.cap))) (first | exact K0.out | exact K5.out | exact K6.out | assumption) (first
      | (go_at_call 15; (with_reducible refine (HI _).out.mono ?_); rintro e w5 ⟨rfl, b5⟩; have hx5 := HX.out.drew.below b5 hX; have hy5 := HY.out.drew.below b5 hY; have K5 := Lib.hid (cf_two hx5 hy5); have B5 := B3.out.drew.trans (b5.mono B3.out.size))
      | (go_at_call 15; (with_reducible refine (HJ _).out.mono ?_); rintro e w6 ⟨rfl, b6⟩; have hx6 := hx5.below b6 hx5.lt; have hy6 := hy5.below b6 hy5.lt; have K6 := Lib.hid (cf_two hx6 hy6); have B6 := B5.trans (b6.mono B5.size)))
    all_goals go_wp2_with fail
    all_goals go_ret
    all_goals exact ⟨ret_bool (id_lt1 HCD.out.1.1 HCD.out.1.2 HCD.out.2.1 HCD.out.2.2 hq), B6⟩
  | false =>
    go_wp2
    go_region_held3 (fun w' => (w'.cell? ⟨X, 0, none⟩ = some (.int .u64 c'.ad) ∧ w'.cell? ⟨X, 1, none⟩ = some (.int .u16 c'.pr) ∧ w'.cell? ⟨X, 2, none⟩ = some (.int .i64 c'.ma) ∧ w'.cell? ⟨X, 3, none⟩ = some (.int .i64 c'.he) ∧ w'.cell? ⟨X, 4, none⟩ = some (.int .i64 c'.de) ∧ w'.cell? ⟨X, 5, none⟩ = some (.int .i64 c'.ag) ∧ w'.cell? ⟨X, 6, none⟩ = some (.int .i64 c'.tb) ∧ w'.cell? ⟨X, 7, none⟩ = some (.slice c'.A c'.n c'.cap)) ∧ (w'.cell? ⟨Y, 0, none⟩ = some (.int .u64 d'.ad) ∧ w'.cell? ⟨Y, 1, none⟩ = some (.int .u16 d'.pr) ∧ w'.cell? ⟨Y, 2, none⟩ = some (.int .i64 d'.ma) ∧ w'.cell? ⟨Y, 3, none⟩ = some (.int .i64 d'.he) ∧ w'.cell? ⟨Y, 4, none⟩ = some (.int .i64 d'.de) ∧ w'.cell? ⟨Y, 5, none⟩ = some (.int .i64 d'.ag) ∧ w'.cell? ⟨Y, 6, none⟩ = some (.int .i64 d'.tb) ∧ w'.cell? ⟨Y, 7, none⟩ = some (.slice d'.A d'.n d'.cap))) (first | exact K0.out | exact K5.out | exact K6.out | assumption) (first
      | (go_at_call 15; (with_reducible refine (HI _).out.mono ?_); rintro e w5 ⟨rfl, b5⟩; have hx5 := HX.out.drew.below b5 hX; have hy5 := HY.out.drew.below b5 hY; have K5 := Lib.hid (cf_two hx5 hy5); have B5 := B3.out.drew.trans (b5.mono B3.out.size))
      | (go_at_call 15; (with_reducible refine (HJ _).out.mono ?_); rintro e w6 ⟨rfl, b6⟩; have hx6 := hx5.below b6 hx5.lt; have hy6 := hy5.below b6 hy5.lt; have K6 := Lib.hid (cf_two hx6 hy6); have B6 := B5.trans (b6.mono B5.size)))
    all_goals go_wp2_with fail
    all_goals go_ret
    all_goals exact ⟨ret_bool (id_lt2 HCD.out.1.1 HCD.out.1.2 HCD.out.2.1 HCD.out.2.2 hq), B6⟩

end Go.Proofs.Ytlccdjkababapaa
