/- The law RankTells, walked: it answers true, whatever the Bpdu is. -/
import Derived.Test.YtimldigjjbiemaaRankIn
namespace Go.Proofs.Ytimldigjjbiemaa
open Go.ChangeShapes Go.WideShapes Go.ChangeAt Go.RowKit
set_option linter.unusedVariables false

/-- A Bpdu in a block of its own. -/
def PX (w : World) (g : Nat) (tc ch ak : Bool) (x : Vec) (ag ma he de : Int) : Prop :=
  Bk w g 44 [.bool tc, .bool ch, .bool ak, .int .u64 x.r, .int .u32 x.c, .int .u64 x.b, .int .u16 x.p, .int .u16 ag, .int .u16 ma, .int .u16 he, .int .u16 de]

theorem PX.box (w : World) (tc ch ak : Bool) (x : Vec) (ag ma he de : Int) :
    ∃ w', w.alloc (.cells #[.bool tc, .bool ch, .bool ak, .int .u64 x.r, .int .u32 x.c, .int .u64 x.b, .int .u16 x.p, .int .u16 ag, .int .u16 ma, .int .u16 he, .int .u16 de] 44) = w' ∧ PX w' w.heap.size tc ch ak x ag ma he de ∧ Below w.heap.size w w' :=
  ⟨_, rfl, heap_alloc_new w _, (Below.refl _ _).alloc (Nat.le_refl _) _⟩
theorem PX.lt {w : World} {g : Nat} {tc ch ak : Bool} {x : Vec} {ag ma he de : Int} (h : PX w g tc ch ak x ag ma he de) : g < w.heap.size := Bk.lt h
theorem PX.below {w w' : World} {g B : Nat} {tc ch ak : Bool} {x : Vec} {ag ma he de : Int} (h : PX w g tc ch ak x ag ma he de) (hb : Below B w w') (hg : g < B) : PX w' g tc ch ak x ag ma he de := Bk.below h hb hg
theorem PX.drew {w : World} {g : Nat} {tc ch ak : Bool} {x : Vec} {ag ma he de : Int} (h : PX w g tc ch ak x ag ma he de) : PX w.drew g tc ch ak x ag ma he de := h
/-- All eleven cells. -/
theorem PX.cells {w : World} {g : Nat} {tc ch ak : Bool} {x : Vec} {ag ma he de : Int} (h : PX w g tc ch ak x ag ma he de) :
    w.cell? ⟨g, 0, none⟩ = some (.bool tc) ∧ w.cell? ⟨g, 1, none⟩ = some (.bool ch) ∧ w.cell? ⟨g, 2, none⟩ = some (.bool ak) ∧ w.cell? ⟨g, 3, none⟩ = some (.int .u64 x.r) ∧ w.cell? ⟨g, 4, none⟩ = some (.int .u32 x.c) ∧ w.cell? ⟨g, 5, none⟩ = some (.int .u64 x.b) ∧ w.cell? ⟨g, 6, none⟩ = some (.int .u16 x.p) ∧
    w.cell? ⟨g, 7, none⟩ = some (.int .u16 ag) ∧ w.cell? ⟨g, 8, none⟩ = some (.int .u16 ma) ∧ w.cell? ⟨g, 9, none⟩ = some (.int .u16 he) ∧ w.cell? ⟨g, 10, none⟩ = some (.int .u16 de) :=
  ⟨Bk.cell h 0, Bk.cell h 1, Bk.cell h 2, Bk.cell h 3, Bk.cell h 4, Bk.cell h 5, Bk.cell h 6, Bk.cell h 7, Bk.cell h 8, Bk.cell h 9, Bk.cell h 10⟩

/-- What the law's last region reads. -/
def TG (w : World) (X V Y : Nat) (x : Vec) : Prop :=
  w.cell? ⟨X, 3, none⟩ = some (.int .u64 x.r) ∧ w.cell? ⟨X, 4, none⟩ = some (.int .u32 x.c) ∧ w.cell? ⟨X, 5, none⟩ = some (.int .u64 x.b) ∧ w.cell? ⟨X, 6, none⟩ = some (.int .u16 x.p) ∧
  w.cell? ⟨V, 0, none⟩ = some (.int .u64 x.r) ∧ w.cell? ⟨V, 1, none⟩ = some (.int .u32 x.c) ∧ w.cell? ⟨V, 2, none⟩ = some (.int .u64 x.b) ∧ w.cell? ⟨V, 3, none⟩ = some (.int .u16 x.p) ∧
  w.cell? ⟨Y, 0, none⟩ = some (.bool false) ∧ w.cell? ⟨Y, 1, none⟩ = some (.bool false) ∧ w.cell? ⟨Y, 2, none⟩ = some (.bool false) ∧ w.cell? ⟨Y, 3, none⟩ = some (.int .u64 x.r) ∧ w.cell? ⟨Y, 4, none⟩ = some (.int .u32 x.c) ∧ w.cell? ⟨Y, 5, none⟩ = some (.int .u64 x.b) ∧ w.cell? ⟨Y, 6, none⟩ = some (.int .u16 x.p) ∧
  w.cell? ⟨Y, 7, none⟩ = some (.int .u16 0) ∧ w.cell? ⟨Y, 8, none⟩ = some (.int .u16 0) ∧ w.cell? ⟨Y, 9, none⟩ = some (.int .u16 0) ∧ w.cell? ⟨Y, 10, none⟩ = some (.int .u16 0)
theorem TG.of {w : World} {X V Y : Nat} {x : Vec} {tc ch ak : Bool} {ag ma he de : Int} (h : PX w X tc ch ak x ag ma he de) (hv : VX 28 w V x) (hy : PX w Y false false false x 0 0 0 0) : TG w X V Y x :=
  ⟨h.cells.2.2.2.1, h.cells.2.2.2.2.1, h.cells.2.2.2.2.2.1, h.cells.2.2.2.2.2.2.1, hv.cells.1, hv.cells.2.1, hv.cells.2.2.1, hv.cells.2.2.2, hy.cells⟩

set_option maxRecDepth 100000 in
set_option maxHeartbeats 1000000 in
theorem RankTells_core (x : Vec) (tc ch ak : Bool) (ag ma he de : Int) (w : World) :
    Calls Try.prog 6 #[.agg #[.bool tc, .bool ch, .bool ak, .int .u64 x.r, .int .u32 x.c, .int .u64 x.b, .int .u16 x.p, .int .u16 ag, .int .u16 ma, .int .u16 he, .int .u16 de]] w fun e w' => e = .returned (.bool true) ∧ Below w.heap.size w w' := by
  have H1 := fun W => Lib.hid (of_is x tc ch ak ag ma he de W)
  have H2 := fun W => Lib.hid (of_is x false false false 0 0 0 0 W)
  have q1 := fun W => vec_eq x.r x.c x.b x.p x.r x.c x.b x.p true (by simp) W
  obtain ⟨wb, hwb, hx, B⟩ := PX.box w tc ch ak x ag ma he de
  obtain ⟨x0, x1, x2, x3, x4, x5, x6, x7, x8, x9, x10⟩ := hx.cells
  go_enter Try.func6, Try.ntmps6
  go_wp2_with fail
  clear hwb x0 x1 x2 x3 x4 x5 x6 x7 x8 x9 x10
  (with_reducible refine (awake_rank _).mono ?_); rintro e w1 ⟨rfl, c1⟩
  have hx1 := hx.below c1 hx.lt
  have B1 := B.trans (c1.mono B.size)
  clear hx B c1
  obtain ⟨x0, x1, x2, x3, x4, x5, x6, x7, x8, x9, x10⟩ := hx1.cells
  go_wp2_with fail
  clear x0 x1 x2 x3 x4 x5 x6 x7 x8 x9 x10
  (with_reducible refine (H1 _).out.mono ?_); rintro e w2 ⟨rfl, c2⟩
  have hx2 := hx1.below c2 hx1.lt
  have B2 := B1.trans (c2.mono B1.size)
  clear hx1 B1 c2
  obtain ⟨wc, hwc, hv, Bc⟩ := boxes1 28 w2 x
  have hx3 := hx2.below Bc hx2.lt
  have B3 := B2.trans (Bc.mono B2.size)
  obtain ⟨v0, v1, v2, v3⟩ := hv.cells
  go_upto_region 4 with fail
  clear hwc
  obtain ⟨V, hV⟩ : ∃ V, w2.heap.size = V := ⟨_, rfl⟩
  rw [hV] at hv v0 v1 v2 v3 ⊢
  clear hV Bc hx2 B2
  go_upto_region 5 with fail
  obtain ⟨wd, hwd, hy, Bd⟩ := PX.box wc false false false x 0 0 0 0
  have hx4 := hx3.below Bd hx3.lt
  have hv4 := hv.below Bd hv.lt
  have B4 := B3.trans (Bd.mono B3.size)
  rw [hwd]
  obtain ⟨Y, hY⟩ : ∃ Y, wc.heap.size = Y := ⟨_, rfl⟩
  obtain ⟨X, hX⟩ : ∃ X, w.heap.size = X := ⟨_, rfl⟩
  rw [hY] at hy ⊢
  rw [hX] at hx4 ⊢
  clear hwd hX hY Bd hx3 hv B3
  have hxl := hx4.lt
  have hvl := hv4.lt
  have hyl := hy.lt
  have z := B4.size
  have K0 := Lib.hid (TG.of hx4.drew hv4.drew hy.drew)
  unfold TG at K0
  go_region_held3 (fun w' => w'.cell? ⟨X, 3, none⟩ = some (.int .u64 x.r) ∧ w'.cell? ⟨X, 4, none⟩ = some (.int .u32 x.c) ∧ w'.cell? ⟨X, 5, none⟩ = some (.int .u64 x.b) ∧ w'.cell? ⟨X, 6, none⟩ = some (.int .u16 x.p) ∧ w'.cell? ⟨V, 0, none⟩ = some (.int .u64 x.r) ∧ w'.cell? ⟨V, 1, none⟩ = some (.int .u32 x.c) ∧ w'.cell? ⟨V, 2, none⟩ = some (.int .u64 x.b) ∧ w'.cell? ⟨V, 3, none⟩ = some (.int .u16 x.p) ∧ w'.cell? ⟨Y, 0, none⟩ = some (.bool false) ∧ w'.cell? ⟨Y, 1, none⟩ = some (.bool false) ∧ w'.cell? ⟨Y, 2, none⟩ = some (.bool false) ∧ w'.cell? ⟨Y, 3, none⟩ = some (.int .u64 x.r) ∧ w'.cell? ⟨Y, 4, none⟩ = some (.int .u32 x.c) ∧ w'.cell? ⟨Y, 5, none⟩ = some (.int .u64 x.b) ∧ w'.cell? ⟨Y, 6, none⟩ = some (.int .u16 x.p) ∧ w'.cell? ⟨Y, 7, none⟩ = some (.int .u16 0) ∧ w'.cell? ⟨Y, 8, none⟩ = some (.int .u16 0) ∧ w'.cell? ⟨Y, 9, none⟩ = some (.int .u16 0) ∧ w'.cell? ⟨Y, 10, none⟩ = some (.int .u16 0)) (first | exact K0.out | exact K5.out | assumption) (first
    | (go_at_call 18; (with_reducible refine (H2 _).out.mono ?_); rintro e w5 ⟨rfl, b5⟩; have K5 := Lib.hid (TG.of (hx4.drew.below b5 hxl) (hv4.drew.below b5 hvl) (hy.drew.below b5 hyl)); have B5 := B4.drew.trans (b5.mono z)))
  all_goals go_wp2_with fail
  all_goals go_ret
  all_goals exact ⟨rfl, B5⟩

theorem RankTells_walk (tc ch ak : Bool) (ro co br po ag ma he de : Int) (w : World) :
    Calls Try.prog 6 #[.agg #[.bool tc, .bool ch, .bool ak, .int .u64 ro, .int .u32 co, .int .u64 br, .int .u16 po, .int .u16 ag, .int .u16 ma, .int .u16 he, .int .u16 de]] w fun e w' => e = .returned (.bool true) ∧ Below w.heap.size w w' :=
  RankTells_core ⟨ro, co, br, po⟩ tc ch ak ag ma he de w

end Go.Proofs.Ytimldigjjbiemaa
