/- Several texts in one, one behind the other: RankMem, RankBase, RankVia, VecIn, PortIn, TreeSmall, TreeMath, TreeLeads, TreeBest. -/
import Derived.Test.YtnmnihlhcokjpaaDoorPk01
import Derived.Test.YtnmnihlhcokjpaaDoorPk02
import Derived.Lib.MinMax
import Derived.Lib.Hide
import Derived.Deep.RegionHeld3
import Derived.Deep.DeepCutAuto
import Derived.Deep.Slices
import Derived.Deep.Fields
import Derived.ChangeSame
import Derived.Lib.SmallJoins
import Derived.Laws.StructEq
import Derived.LoopTactic

/- A telling in a block of its own; a row of two and of three numbers that cmp.Or reads. -/
namespace Go.Proofs.YtnmnihlhcokjpaaDoor
set_option maxRecDepth 100000
open Go.ChangeShapes Go.WideShapes Go.ChangeAt Go.RowKit
set_option linter.unusedVariables false

/-- A telling in a block of its own (its type is the program's or the document's). -/
def VX (T : TypeId) (w : World) (g : Nat) (x : Vec) : Prop := Bk w g T [.int .u64 x.r, .int .u32 x.c, .int .u64 x.b, .int .u16 x.p]

/-- What the block's cells are. -/
def VC (w : World) (g : Nat) (x : Vec) : Prop :=
  w.cell? ⟨g, 0, none⟩ = some (.int .u64 x.r) ∧ w.cell? ⟨g, 1, none⟩ = some (.int .u32 x.c) ∧ w.cell? ⟨g, 2, none⟩ = some (.int .u64 x.b) ∧ w.cell? ⟨g, 3, none⟩ = some (.int .u16 x.p)

theorem VX.new (T : TypeId) (w : World) (x : Vec) : VX T (w.alloc (.cells #[.int .u64 x.r, .int .u32 x.c, .int .u64 x.b, .int .u16 x.p] T)) w.heap.size x := heap_alloc_new w _
theorem VX.lt {T : TypeId} {w : World} {g : Nat} {x : Vec} (h : VX T w g x) : g < w.heap.size := Bk.lt h
theorem VX.below {T : TypeId} {w w' : World} {g B : Nat} {x : Vec} (h : VX T w g x) (hb : Below B w w') (hg : g < B) : VX T w' g x := Bk.below h hb hg
theorem VX.alloc {T : TypeId} {w : World} {g : Nat} {x : Vec} (h : VX T w g x) (o : Obj) : VX T (w.alloc o) g x := h.below ((Below.refl w.heap.size w).alloc (Nat.le_refl _) o) h.lt
theorem VX.drew {T : TypeId} {w : World} {g : Nat} {x : Vec} (h : VX T w g x) : VX T w.drew g x := h
theorem VX.cells {T : TypeId} {w : World} {g : Nat} {x : Vec} (h : VX T w g x) : VC w g x := ⟨Bk.cell h 0, Bk.cell h 1, Bk.cell h 2, Bk.cell h 3⟩
theorem VX.thaw {T : TypeId} {w : World} {g : Nat} {x : Vec} (h : VX T w g x) (i : Nat) : w.frozen? ⟨g, i, none⟩ = false := Bk.thaw h i
theorem VX.set {T : TypeId} {w : World} {g : Nat} {x : Vec} (h : VX T w g x) (k : Int) : VX T (w.setCell ⟨g, 1, none⟩ (.int .u32 k)) g ⟨x.r, k, x.b, x.p⟩ := Bk.set h 1 _

theorem VX.six {T U : TypeId} {w : World} {g k : Nat} {x y : Vec} (h : VX T w g x) (i : VX U w k y) :
    w.cell? ⟨g, 0, none⟩ = some (.int .u64 x.r) ∧ w.cell? ⟨g, 1, none⟩ = some (.int .u32 x.c) ∧ w.cell? ⟨g, 2, none⟩ = some (.int .u64 x.b) ∧ w.cell? ⟨k, 0, none⟩ = some (.int .u64 y.r) ∧ w.cell? ⟨k, 1, none⟩ = some (.int .u32 y.c) ∧ w.cell? ⟨k, 2, none⟩ = some (.int .u64 y.b) :=
  ⟨h.cells.1, h.cells.2.1, h.cells.2.2.1, i.cells.1, i.cells.2.1, i.cells.2.2.1⟩
theorem VX.eight {T U : TypeId} {w : World} {g k : Nat} {x y : Vec} (h : VX T w g x) (i : VX U w k y) :
    w.cell? ⟨g, 0, none⟩ = some (.int .u64 x.r) ∧ w.cell? ⟨g, 1, none⟩ = some (.int .u32 x.c) ∧ w.cell? ⟨g, 2, none⟩ = some (.int .u64 x.b) ∧ w.cell? ⟨g, 3, none⟩ = some (.int .u16 x.p) ∧ w.cell? ⟨k, 0, none⟩ = some (.int .u64 y.r) ∧ w.cell? ⟨k, 1, none⟩ = some (.int .u32 y.c) ∧ w.cell? ⟨k, 2, none⟩ = some (.int .u64 y.b) ∧ w.cell? ⟨k, 3, none⟩ = some (.int .u16 y.p) :=
  ⟨h.cells.1, h.cells.2.1, h.cells.2.2.1, h.cells.2.2.2, i.cells.1, i.cells.2.1, i.cells.2.2.1, i.cells.2.2.2⟩

/-- Two that were boxed one behind the other. -/
theorem boxes2 (T : TypeId) (w : World) (x y : Vec) : ∃ w', (w.alloc (.cells #[.int .u64 x.r, .int .u32 x.c, .int .u64 x.b, .int .u16 x.p] T)).alloc (.cells #[.int .u64 y.r, .int .u32 y.c, .int .u64 y.b, .int .u16 y.p] T) = w'
    ∧ VX T w' w.heap.size x ∧ VX T w' (w.heap.size + 1) y ∧ Below w.heap.size w w' := by
  refine ⟨_, rfl, (VX.new T w x).alloc _, ?_, ((Below.refl _ _).alloc (Nat.le_refl _) _).alloc (by simp) _⟩
  have := VX.new T (w.alloc (.cells #[.int .u64 x.r, .int .u32 x.c, .int .u64 x.b, .int .u16 x.p] T)) y
  simpa using this

/-- cmp.Or, called with what was just made. -/
theorem or2_at (W : World) (B : Nat) (hB : W.heap.size = B) (x y : Int) :
    Calls Tryd.prog 85 #[.slice (some ⟨B, 0, none⟩) 2 2] (W.alloc (.cells #[.int .i64 x, .int .i64 y] 3)) fun e w' => e = .returned (.int .i64 (orI x y)) ∧ (W.alloc (.cells #[.int .i64 x, .int .i64 y] 3)) = w' := by
  subst hB
  have h : Bk (W.alloc (.cells #[.int .i64 x, .int .i64 y] 3)) W.heap.size 3 [.int .i64 x, .int .i64 y] := heap_alloc_new W _
  exact or2_is _ x y _ (Bk.cell h 0) (Bk.cell h 1)
theorem or3_at (W : World) (B : Nat) (hB : W.heap.size = B) (x y z : Int) :
    Calls Tryd.prog 85 #[.slice (some ⟨B, 0, none⟩) 3 3] (W.alloc (.cells #[.int .i64 x, .int .i64 y, .int .i64 z] 3)).drew fun e w' => e = .returned (.int .i64 (orI x (orI y z))) ∧ (W.alloc (.cells #[.int .i64 x, .int .i64 y, .int .i64 z] 3)).drew = w' := by
  subst hB
  have h : Bk (W.alloc (.cells #[.int .i64 x, .int .i64 y, .int .i64 z] 3)) W.heap.size 3 [.int .i64 x, .int .i64 y, .int .i64 z] := heap_alloc_new W _
  exact or3_is _ x y z _ (Bk.cell h 0) (Bk.cell h 1) (Bk.cell h 2)

end Go.Proofs.YtnmnihlhcokjpaaDoor

/- Tellings: contracts of the functions of rank. -/
namespace Go.Proofs.YtnmnihlhcokjpaaDoor
set_option maxRecDepth 100000
open Go.ChangeShapes Go.WideShapes Go.ChangeAt Go.RowKit
set_option linter.unusedVariables false

set_option maxHeartbeats 1000000 in
theorem wp_is (x y : Vec) (w : World) :
    Calls Tryd.prog 86 #[.agg #[.int .u64 x.r, .int .u32 x.c, .int .u64 x.b, .int .u16 x.p], .agg #[.int .u64 y.r, .int .u32 y.c, .int .u64 y.b, .int .u16 y.p]] w
      fun e w' => e = .returned (.int .i64 (wpI x y)) ∧ Below w.heap.size w w' := by
  have hc : wpI x y = orI (cmpI x.r y.r) (orI (cmpI x.c y.c) (cmpI x.b y.b)) := rfl
  rw [hc]; clear hc
  obtain ⟨wb, hwb, hx, hy, B⟩ := boxes2 40 w x y
  obtain ⟨x0, x1, x2, x3⟩ := hx.cells
  obtain ⟨y0, y1, y2, y3⟩ := hy.cells
  go_enter Tryd.func86, Tryd.ntmps86
  go_upto_region 1 with fail
  clear hwb
  have z := B.size
  obtain ⟨X, hX⟩ : ∃ X, w.heap.size = X := ⟨_, rfl⟩
  rw [hX] at hx hy x0 x1 x2 y0 y1 y2 ⊢
  obtain ⟨Y, hY⟩ : ∃ Y, X + 1 = Y := ⟨_, rfl⟩
  rw [hY] at hy y0 y1 y2 ⊢
  clear hX hY
  have H := fun a b c => Lib.hid (or3_at wb wb.heap.size rfl a b c)
  have K1 := fun o => Lib.hid (VX.six (hx.alloc o).drew (hy.alloc o).drew)
  clear hx hy
  go_region_held3 (fun w' => w'.cell? ⟨X, 0, none⟩ = some (.int .u64 x.r) ∧ w'.cell? ⟨X, 1, none⟩ = some (.int .u32 x.c) ∧ w'.cell? ⟨X, 2, none⟩ = some (.int .u64 x.b) ∧ w'.cell? ⟨Y, 0, none⟩ = some (.int .u64 y.r) ∧ w'.cell? ⟨Y, 1, none⟩ = some (.int .u32 y.c) ∧ w'.cell? ⟨Y, 2, none⟩ = some (.int .u64 y.b)) (first | exact ⟨x0, x1, x2, y0, y1, y2⟩ | exact (K1 _).out | assumption) (first
    | (go_at_call 89; (with_reducible refine (cmpB_is _ _ _).mono ?_); rintro e w5 ⟨rfl, rfl⟩)
    | (go_at_call 90; (with_reducible refine (cmpC_is _ _ _).mono ?_); rintro e w5 ⟨rfl, rfl⟩)
    | (go_at_call 85; (with_reducible refine (H _ _ _).out.mono ?_); rintro e w6 ⟨rfl, rfl⟩))
  all_goals go_wp2_with fail
  all_goals go_ret
  all_goals exact ⟨rfl, (B.alloc z _).drew⟩

set_option maxHeartbeats 1000000 in
theorem cmp_v (x y : Vec) (w : World) :
    Calls Tryd.prog 74 #[.agg #[.int .u64 x.r, .int .u32 x.c, .int .u64 x.b, .int .u16 x.p], .agg #[.int .u64 y.r, .int .u32 y.c, .int .u64 y.b, .int .u16 y.p]] w
      fun e w' => e = .returned (.int .i64 (cmpV x y)) ∧ Below w.heap.size w w' := by
  have hc : cmpV x y = orI (wpI x y) (cmpI x.p y.p) := rfl
  rw [hc]; clear hc
  obtain ⟨wb, hwb, hx, hy, B⟩ := boxes2 40 w x y
  go_enter Tryd.func74, Tryd.ntmps74
  go_upto_region 1 with fail
  clear hwb
  have hxl := hx.lt
  have hyl := hy.lt
  have z := B.size
  obtain ⟨X, hX⟩ : ∃ X, w.heap.size = X := ⟨_, rfl⟩
  rw [hX] at hx hy hxl hyl ⊢
  obtain ⟨Y, hY⟩ : ∃ Y, X + 1 = Y := ⟨_, rfl⟩
  rw [hY] at hy hyl ⊢
  clear hX hY
  have K0 := Lib.hid (VX.eight hx.drew hy.drew)
  go_region_held3 (fun w' => w'.cell? ⟨X, 0, none⟩ = some (.int .u64 x.r) ∧ w'.cell? ⟨X, 1, none⟩ = some (.int .u32 x.c) ∧ w'.cell? ⟨X, 2, none⟩ = some (.int .u64 x.b) ∧ w'.cell? ⟨X, 3, none⟩ = some (.int .u16 x.p) ∧ w'.cell? ⟨Y, 0, none⟩ = some (.int .u64 y.r) ∧ w'.cell? ⟨Y, 1, none⟩ = some (.int .u32 y.c) ∧ w'.cell? ⟨Y, 2, none⟩ = some (.int .u64 y.b) ∧ w'.cell? ⟨Y, 3, none⟩ = some (.int .u16 y.p)) (first | exact K0.out | exact K5.out | exact (K6 _).out | assumption) (first
    | (go_at_call 86; (with_reducible refine (wp_is x y _).mono ?_); rintro e w5 ⟨rfl, b5⟩; have hx5 := hx.drew.below b5 hxl; have hy5 := hy.drew.below b5 hyl; have K5 := Lib.hid (VX.eight hx5 hy5); have K6 := fun o => Lib.hid (VX.eight (hx5.alloc o) (hy5.alloc o)); have H := fun a b => Lib.hid (or2_at w5 w5.heap.size rfl a b); have B5 := B.drew.trans (b5.mono z))
    | (go_at_call 87; (with_reducible refine (cmpP_is _ _ _).mono ?_); rintro e w6 ⟨rfl, rfl⟩)
    | (go_at_call 85; (with_reducible refine (H _ _).out.mono ?_); rintro e w6 ⟨rfl, rfl⟩))
  all_goals go_wp2_with fail
  all_goals go_ret
  all_goals exact ⟨rfl, B5.alloc B5.size _⟩

theorem far_is (a b : Int) (a0 : 0 ≤ a) (a1 : a < 4294967296) (b0 : 0 ≤ b) (b1 : b < 4294967296) (w : World) :
    Calls Tryd.prog 88 #[.int .u32 a, .int .u32 b] w fun e w' => e = .returned (.int .u32 (farI a b)) ∧ w = w' := by
  go_enter Tryd.func88, Tryd.ntmps88
  go_wp2
  go_ret
  exact ⟨ret_int (by unfold farI; omega), rfl⟩

end Go.Proofs.YtnmnihlhcokjpaaDoor

/- Via, Keeps, the document's Far and Less: contracts. -/
namespace Go.Proofs.YtnmnihlhcokjpaaDoor
set_option maxRecDepth 100000
open Go.ChangeShapes Go.WideShapes Go.ChangeAt Go.RowKit
set_option linter.unusedVariables false

theorem keeps_is (x y : Vec) (r : Bool) (hr : decide (cmpV x y ≤ 0) = r) (w : World) :
    Calls Tryd.prog 63 #[.agg #[.int .u64 x.r, .int .u32 x.c, .int .u64 x.b, .int .u16 x.p], .agg #[.int .u64 y.r, .int .u32 y.c, .int .u64 y.b, .int .u16 y.p]] w
      fun e w' => e = .returned (.bool r) ∧ Below w.heap.size w w' := by
  obtain ⟨wb, hwb, hx, hy, B⟩ := boxes2 40 w x y
  obtain ⟨x0, x1, x2, x3⟩ := hx.cells
  obtain ⟨y0, y1, y2, y3⟩ := hy.cells
  go_enter Tryd.func63, Tryd.ntmps63
  go_wp2_with fail
  clear hwb
  (with_reducible refine (cmp_v x y _).mono ?_); rintro e w5 ⟨rfl, b5⟩
  go_wp2
  go_ret
  exact ⟨ret_bool (by first | rfl | exact hr), B.trans (b5.mono B.size)⟩

set_option maxHeartbeats 1000000 in
theorem via_is (x : Vec) (k : Int) (hb : VB x) (k0 : 0 ≤ k) (k1 : k < 4294967296) (w : World) :
    Calls Tryd.prog 77 #[.agg #[.int .u64 x.r, .int .u32 x.c, .int .u64 x.b, .int .u16 x.p], .int .u32 k] w
      fun e w' => e = .returned (.agg #[.int .u64 x.r, .int .u32 (farI x.c k), .int .u64 x.b, .int .u16 x.p]) ∧ Below w.heap.size w w' := by
  have HF := fun W => Lib.hid (far_is x.c k hb.2.1.1 hb.2.1.2 k0 k1 W)
  clear hb
  go_enter Tryd.func77, Tryd.ntmps77
  go_wp2_with fail
  (with_reducible refine (HF _).out.mono ?_); rintro e w5 ⟨rfl, rfl⟩
  go_wp2
  exact bodyPost_ret (v := .agg #[.int .u64 x.r, .int .u32 (farI x.c k), .int .u64 x.b, .int .u16 x.p]) (by simp [results, Tryd.results77, go_sem]) rfl ⟨rfl, ((Below.refl _ _).alloc (Nat.le_refl _) _).alloc (by simp) _⟩

end Go.Proofs.YtnmnihlhcokjpaaDoor

/- A telling that came in as an argument; '==' of tellings. -/
namespace Go.Proofs.YtnmnihlhcokjpaaDoor
set_option maxRecDepth 100000
open Go.Joins Go.ChangeShapes Go.WideShapes Go.ChangeAt Go.RowKit Go.Deep
set_option linter.unusedVariables false

theorem Tryd.cellsVector : Tryd.prog.cellsOf 40 = 4 := by kernel_rfl

/-- '==' of tellings. -/
theorem vec_eq (r c b p r' c' b' p' : Int) (q : Bool) (hq : (((decide (r = r') && decide (c = c')) && decide (b = b')) && decide (p = p')) = q) (w : World) :
    (Op.equalIn 10000 40 (.agg #[.int .u64 r, .int .u32 c, .int .u64 b, .int .u16 p]) (.agg #[.int .u64 r', .int .u32 c', .int .u64 b', .int .u16 p'])).run Tryd.prog w = .ok q w := by
  rw [show (10000 : Nat) = 9999 + 1 from rfl, run_equalIn_struct w 9999 40 _ _ (by kernel_rfl) (by kernel_rfl)]
  simp only [Program.fieldsOf, Tryd.underlying40]
  subst hq
  go_simp
  by_cases h1 : r = r' <;> by_cases h2 : c = c' <;> by_cases h3 : b = b' <;> by_cases h4 : p = p' <;> simp [h1, h2, h3, h4]

end Go.Proofs.YtnmnihlhcokjpaaDoor

/- A port that came in as an argument. -/
namespace Go.Proofs.YtnmnihlhcokjpaaDoor
set_option maxRecDepth 100000
open Go.Joins Go.ChangeShapes Go.WideShapes Go.ChangeAt Go.RowKit Go.Deep
set_option linter.unusedVariables false

/-- The numbers' bounds. -/
def PoB (p : Po) : Prop := (0 ≤ p.id ∧ p.id ≤ 65535) ∧ (-9223372036854775808 ≤ p.st ∧ p.st ≤ 9223372036854775807) ∧ (0 ≤ p.co ∧ p.co ≤ 4294967295) ∧
  ((0 ≤ p.hr ∧ p.hr ≤ 18446744073709551615) ∧ (0 ≤ p.hc ∧ p.hc ≤ 4294967295) ∧ (0 ≤ p.hb ∧ p.hb ≤ 18446744073709551615) ∧ (0 ≤ p.hp ∧ p.hp ≤ 65535)) ∧
  (-9223372036854775808 ≤ p.av ∧ p.av ≤ 9223372036854775807) ∧ (-9223372036854775808 ≤ p.yv ∧ p.yv ≤ 9223372036854775807) ∧ (-9223372036854775808 ≤ p.hv ∧ p.hv ≤ 9223372036854775807)

theorem Tryd.cellsPo : Tryd.prog.cellsOf 42 = 15 := by kernel_rfl
theorem Tryd.cellsTm : Tryd.prog.cellsOf 28 = 2 := by kernel_rfl
theorem Tryd.cells1_16 : Tryd.prog.cellsOf 38 = 1 := by kernel_rfl
theorem Tryd.cells1_64 : Tryd.prog.cellsOf 3 = 1 := by kernel_rfl
theorem Tryd.cells1_32 : Tryd.prog.cellsOf 24 = 1 := by kernel_rfl
theorem Tryd.cells1_b : Tryd.prog.cellsOf 4 = 1 := by kernel_rfl
theorem Tryd.cells1_id : Tryd.prog.cellsOf 23 = 1 := by kernel_rfl

section
variable {H : Type} {enc : TypeId × Value → H} {w : World} {base : Nat} {spare : Nat → Bool} {held : Bool}

theorem tm_trod {n : Nat} {c0 c1 : Value} {y : DataW H × List MemPlace} (h : DataW.trod enc Tryd.prog w base spare held n 28 [c0, c1] = some y) :
    ∃ (o : Bool) (v : Int), c0 = .bool o ∧ c1 = .int .i64 v ∧ -9223372036854775808 ≤ v ∧ v ≤ 9223372036854775807 := by
  obtain ⟨ys, n', _, _, hlen, hyl, hfl⟩ := DataW.trod_struct Tryd.underlying28 h
  have h0 : DataW.trod enc Tryd.prog w base spare held n' 4 (([c0, c1].drop 0).take (Tryd.prog.cellsOf 4)) = ys[0]? := hfl 0 _ rfl
  have h1 : DataW.trod enc Tryd.prog w base spare held n' 3 (([c0, c1].drop 1).take (Tryd.prog.cellsOf 3)) = ys[1]? := hfl 1 _ rfl
  rw [Tryd.cells1_b] at h0
  rw [Tryd.cells1_64] at h1
  have hy2 : ys.length = 2 := hyl
  have y0 : ys[0]? = some (ys[0]'(by omega)) := List.getElem?_eq_getElem (by omega)
  have y1 : ys[1]? = some (ys[1]'(by omega)) := List.getElem?_eq_getElem (by omega)
  rw [y0] at h0
  rw [y1] at h1
  obtain ⟨o, e0, _⟩ := DataW.trod_bool Tryd.underlying4 h0
  obtain ⟨v, e1, _, w1⟩ := DataW.trod_int Tryd.underlying3 h1
  simp at e0 e1
  subst e0 e1
  have := bounds_i64 w1
  exact ⟨o, v, rfl, rfl, by omega, by omega⟩

theorem vec_trod {n : Nat} {c0 c1 c2 c3 : Value} {y : DataW H × List MemPlace} (h : DataW.trod enc Tryd.prog w base spare held n 40 [c0, c1, c2, c3] = some y) :
    ∃ (r c b p : Int), c0 = .int .u64 r ∧ c1 = .int .u32 c ∧ c2 = .int .u64 b ∧ c3 = .int .u16 p ∧ (0 ≤ r ∧ r ≤ 18446744073709551615) ∧ (0 ≤ c ∧ c ≤ 4294967295) ∧ (0 ≤ b ∧ b ≤ 18446744073709551615) ∧ (0 ≤ p ∧ p ≤ 65535) := by
  obtain ⟨ys, n', _, _, hlen, hyl, hfl⟩ := DataW.trod_struct Tryd.underlying40 h
  have h0 : DataW.trod enc Tryd.prog w base spare held n' 23 (([c0, c1, c2, c3].drop 0).take (Tryd.prog.cellsOf 23)) = ys[0]? := hfl 0 _ rfl
  have h1 : DataW.trod enc Tryd.prog w base spare held n' 24 (([c0, c1, c2, c3].drop 1).take (Tryd.prog.cellsOf 24)) = ys[1]? := hfl 1 _ rfl
  have h2 : DataW.trod enc Tryd.prog w base spare held n' 23 (([c0, c1, c2, c3].drop 2).take (Tryd.prog.cellsOf 23)) = ys[2]? := hfl 2 _ rfl
  have h3 : DataW.trod enc Tryd.prog w base spare held n' 38 (([c0, c1, c2, c3].drop 3).take (Tryd.prog.cellsOf 38)) = ys[3]? := hfl 3 _ rfl
  rw [Tryd.cells1_id] at h0 h2
  rw [Tryd.cells1_32] at h1
  rw [Tryd.cells1_16] at h3
  have hy4 : ys.length = 4 := hyl
  have y0 : ys[0]? = some (ys[0]'(by omega)) := List.getElem?_eq_getElem (by omega)
  have y1 : ys[1]? = some (ys[1]'(by omega)) := List.getElem?_eq_getElem (by omega)
  have y2 : ys[2]? = some (ys[2]'(by omega)) := List.getElem?_eq_getElem (by omega)
  have y3 : ys[3]? = some (ys[3]'(by omega)) := List.getElem?_eq_getElem (by omega)
  rw [y0] at h0
  rw [y1] at h1
  rw [y2] at h2
  rw [y3] at h3
  obtain ⟨r, e0, _, w0⟩ := DataW.trod_int Tryd.underlying23 h0
  obtain ⟨c, e1, _, w1⟩ := DataW.trod_int Tryd.underlying24 h1
  obtain ⟨b, e2, _, w2⟩ := DataW.trod_int Tryd.underlying23 h2
  obtain ⟨p, e3, _, w3⟩ := DataW.trod_int Tryd.underlying38 h3
  simp at e0 e1 e2 e3
  subst e0 e1 e2 e3
  have := bounds_u64 w0
  have := bounds_u32 w1
  have := bounds_u64 w2
  have := bounds_u16 w3
  exact ⟨r, c, b, p, rfl, rfl, rfl, rfl, by omega, by omega, by omega, by omega⟩

/-- The cells of a port, read. -/
theorem po_trod {n : Nat} {c0 c1 c2 c3 c4 c5 c6 c7 c8 c9 c10 c11 c12 c13 c14 : Value} {y : DataW H × List MemPlace} (h : DataW.trod enc Tryd.prog w base spare held n 42 [c0, c1, c2, c3, c4, c5, c6, c7, c8, c9, c10, c11, c12, c13, c14] = some y) :
    ∃ x : Po, [c0, c1, c2, c3, c4, c5, c6, c7, c8, c9, c10, c11, c12, c13, c14] = [.int .u16 x.id, .int .i64 x.st, .int .u32 x.co, .int .u64 x.hr, .int .u32 x.hc, .int .u64 x.hb, .int .u16 x.hp, .bool x.ak, .bool x.pe, .bool x.ao, .int .i64 x.av, .bool x.yo, .int .i64 x.yv, .bool x.ho, .int .i64 x.hv] ∧ PoB x := by
  obtain ⟨ys, n', _, _, hlen, hyl, hfl⟩ := DataW.trod_struct Tryd.underlying42 h
  have h0 : DataW.trod enc Tryd.prog w base spare held n' 38 (([c0, c1, c2, c3, c4, c5, c6, c7, c8, c9, c10, c11, c12, c13, c14].drop 0).take (Tryd.prog.cellsOf 38)) = ys[0]? := hfl 0 _ rfl
  have h1 : DataW.trod enc Tryd.prog w base spare held n' 3 (([c0, c1, c2, c3, c4, c5, c6, c7, c8, c9, c10, c11, c12, c13, c14].drop 1).take (Tryd.prog.cellsOf 3)) = ys[1]? := hfl 1 _ rfl
  have h2 : DataW.trod enc Tryd.prog w base spare held n' 24 (([c0, c1, c2, c3, c4, c5, c6, c7, c8, c9, c10, c11, c12, c13, c14].drop 2).take (Tryd.prog.cellsOf 24)) = ys[2]? := hfl 2 _ rfl
  have h3 : DataW.trod enc Tryd.prog w base spare held n' 40 (([c0, c1, c2, c3, c4, c5, c6, c7, c8, c9, c10, c11, c12, c13, c14].drop 3).take (Tryd.prog.cellsOf 40)) = ys[3]? := hfl 3 _ rfl
  have h4 : DataW.trod enc Tryd.prog w base spare held n' 4 (([c0, c1, c2, c3, c4, c5, c6, c7, c8, c9, c10, c11, c12, c13, c14].drop 7).take (Tryd.prog.cellsOf 4)) = ys[4]? := hfl 4 _ rfl
  have h5 : DataW.trod enc Tryd.prog w base spare held n' 4 (([c0, c1, c2, c3, c4, c5, c6, c7, c8, c9, c10, c11, c12, c13, c14].drop 8).take (Tryd.prog.cellsOf 4)) = ys[5]? := hfl 5 _ rfl
  have h6 : DataW.trod enc Tryd.prog w base spare held n' 28 (([c0, c1, c2, c3, c4, c5, c6, c7, c8, c9, c10, c11, c12, c13, c14].drop 9).take (Tryd.prog.cellsOf 28)) = ys[6]? := hfl 6 _ rfl
  have h7 : DataW.trod enc Tryd.prog w base spare held n' 28 (([c0, c1, c2, c3, c4, c5, c6, c7, c8, c9, c10, c11, c12, c13, c14].drop 11).take (Tryd.prog.cellsOf 28)) = ys[7]? := hfl 7 _ rfl
  have h8 : DataW.trod enc Tryd.prog w base spare held n' 28 (([c0, c1, c2, c3, c4, c5, c6, c7, c8, c9, c10, c11, c12, c13, c14].drop 13).take (Tryd.prog.cellsOf 28)) = ys[8]? := hfl 8 _ rfl
  rw [Tryd.cells1_16] at h0
  rw [Tryd.cells1_64] at h1
  rw [Tryd.cells1_32] at h2
  rw [Tryd.cellsVector] at h3
  rw [Tryd.cells1_b] at h4 h5
  rw [Tryd.cellsTm] at h6 h7 h8
  have hy : ys.length = 9 := hyl
  have y0 : ys[0]? = some (ys[0]'(by omega)) := List.getElem?_eq_getElem (by omega)
  have y1 : ys[1]? = some (ys[1]'(by omega)) := List.getElem?_eq_getElem (by omega)
  have y2 : ys[2]? = some (ys[2]'(by omega)) := List.getElem?_eq_getElem (by omega)
  have y3 : ys[3]? = some (ys[3]'(by omega)) := List.getElem?_eq_getElem (by omega)
  have y4 : ys[4]? = some (ys[4]'(by omega)) := List.getElem?_eq_getElem (by omega)
  have y5 : ys[5]? = some (ys[5]'(by omega)) := List.getElem?_eq_getElem (by omega)
  have y6 : ys[6]? = some (ys[6]'(by omega)) := List.getElem?_eq_getElem (by omega)
  have y7 : ys[7]? = some (ys[7]'(by omega)) := List.getElem?_eq_getElem (by omega)
  have y8 : ys[8]? = some (ys[8]'(by omega)) := List.getElem?_eq_getElem (by omega)
  rw [y0] at h0
  rw [y1] at h1
  rw [y2] at h2
  rw [y3] at h3
  rw [y4] at h4
  rw [y5] at h5
  rw [y6] at h6
  rw [y7] at h7
  rw [y8] at h8
  obtain ⟨id, e0, _, w0⟩ := DataW.trod_int Tryd.underlying38 h0
  obtain ⟨st, e1, _, w1⟩ := DataW.trod_int Tryd.underlying3 h1
  obtain ⟨co, e2, _, w2⟩ := DataW.trod_int Tryd.underlying24 h2
  obtain ⟨hr, hc, hb, hp, e3, e3b, e3c, e3d, q0, q1, q2, q3⟩ := vec_trod h3
  obtain ⟨ak, e4, _⟩ := DataW.trod_bool Tryd.underlying4 h4
  obtain ⟨pe, e5, _⟩ := DataW.trod_bool Tryd.underlying4 h5
  obtain ⟨ao, av, e6, e6b, u0, u1⟩ := tm_trod h6
  obtain ⟨yo, yv, e7, e7b, u2, u3⟩ := tm_trod h7
  obtain ⟨ho, hv, e8, e8b, u4, u5⟩ := tm_trod h8
  simp at e0 e1 e2 e4 e5
  subst e0 e1 e2 e3 e3b e3c e3d e4 e5 e6 e6b e7 e7b e8 e8b
  have := bounds_u16 w0
  have := bounds_i64 w1
  have := bounds_u32 w2
  exact ⟨⟨id, st, co, hr, hc, hb, hp, ak, pe, ao, av, yo, yv, ho, hv⟩, rfl, by unfold PoB; dsimp only; omega⟩
end

end Go.Proofs.YtnmnihlhcokjpaaDoor

/- IsRoot, Telling, through, mayLead, owesNothing: contracts. -/
namespace Go.Proofs.YtnmnihlhcokjpaaDoor
set_option maxRecDepth 100000
open Go.ChangeShapes Go.WideShapes Go.ChangeAt Go.RowKit
set_option linter.unusedVariables false

theorem desig_row (p : Po) (o : Int) (q : Bool) (hq : Hid ((decide (p.hb = o) && decide (p.hp = p.id)) = q)) (w : World) :
    Calls Tryd.prog 19 #[.agg (lP p).toArray, .int .u64 o] w fun e w' => e = .returned (.bool q) ∧ Below w.heap.size w w' := desig_is p o q hq w

theorem isroot_is (t : Th) (A : Option Addr) (n cap : Nat) (q : Bool) (hq : Hid (decide (t.ro = t.ow) = q)) (w : World) :
    Calls Tryd.prog 11 #[.agg (lT t A n cap).toArray] w fun e w' => e = .returned (.bool q) ∧ Below w.heap.size w w' := by
  obtain ⟨wb, hwb, S⟩ := hs_one w 31 (lT t A n cap)
  go_enter Tryd.func11, Tryd.ntmps11
  go_upto_region 1 with fail
  clear hwb
  have c0 := S.cell 0 0 rfl rfl
  have c1 := S.cell 0 1 rfl rfl
  go_wp2
  go_ret
  exact ⟨ret_bool (by rw [← hq.out]; exact (Bool.eq_iff_iff.2 (by simp))), S.old⟩

theorem telling_is (t : Th) (A : Option Addr) (n cap : Nat) (w : World) :
    Calls Tryd.prog 17 #[.agg (lT t A n cap).toArray] w fun e w' => e = .returned (.agg #[.int .u64 t.ro, .int .u32 t.co, .int .u64 t.ow, .int .u16 0]) ∧ Below w.heap.size w w' := by
  obtain ⟨wb, hwb, S⟩ := hs_two w 31 40 (lT t A n cap) [.int .u64 0, .int .u32 0, .int .u64 0, .int .u16 0]
  go_enter Tryd.func17, Tryd.ntmps17
  go_upto_region 1 with fail
  clear hwb
  obtain ⟨X, hX⟩ : ∃ X, w.heap.size = X := ⟨_, rfl⟩
  rw [hX] at S ⊢
  obtain ⟨Y, hY⟩ : ∃ Y, X + 1 = Y := ⟨_, rfl⟩
  rw [hY] at S ⊢
  have c0 := S.cell 1 0 rfl rfl
  have c1 := S.cell 1 1 rfl rfl
  have c2 := S.cell 1 2 rfl rfl
  have hy := S.bk 0 rfl
  go_wp2_with (refine wpList_store_row rfl 40 _ _ rfl Y _ rfl rfl _ _ hy (by kernel_rfl) (by kernel_rfl) (by kernel_rfl) ?_)
  exact bodyPost_ret (v := .agg #[.int .u64 t.ro, .int .u32 t.co, .int .u64 t.ow, .int .u16 0]) (results_cell_row rfl _ _ Y _ _ _ _ rfl (setRow_heap _ _ _ _ _ _ hy) Tryd.underlying40 rfl (by kernel_rfl)) rfl ⟨rfl, (S.row 0 rfl [.int .u64 t.ro, .int .u32 t.co, .int .u64 t.ow, .int .u16 0]).old⟩

/-- What its LAN tells, through a port. -/
def thruV (p : Po) : Vec := ⟨p.hr, farI p.hc p.co, p.hb, p.hp⟩

theorem through_is (p : Po) (hb : PoB p) (w : World) :
    Calls Tryd.prog 65 #[.agg (lP p).toArray] w fun e w' => e = .returned (.agg #[.int .u64 (thruV p).r, .int .u32 (thruV p).c, .int .u64 (thruV p).b, .int .u16 (thruV p).p]) ∧ Below w.heap.size w w' := by
  have HV := fun W => Lib.hid (via_is ⟨p.hr, p.hc, p.hb, p.hp⟩ p.co (by unfold PoB at hb; unfold VB; dsimp only; omega) (by unfold PoB at hb; omega) (by unfold PoB at hb; omega) W)
  dsimp only at HV
  clear hb
  obtain ⟨wb, hwb, S⟩ := hs_two w 42 40 (lP p) [.int .u64 0, .int .u32 0, .int .u64 0, .int .u16 0]
  go_enter Tryd.func65, Tryd.ntmps65
  go_upto_region 1 with fail
  clear hwb
  obtain ⟨X, hX⟩ : ∃ X, w.heap.size = X := ⟨_, rfl⟩
  rw [hX] at S ⊢
  obtain ⟨Y, hY⟩ : ∃ Y, X + 1 = Y := ⟨_, rfl⟩
  rw [hY] at S ⊢
  have c2 := S.cell 1 2 rfl rfl
  have c3 := S.cell 1 3 rfl rfl
  have c4 := S.cell 1 4 rfl rfl
  have c5 := S.cell 1 5 rfl rfl
  have c6 := S.cell 1 6 rfl rfl
  go_wp2_with fail
  (with_reducible refine (HV _).out.mono ?_); rintro e w1 ⟨rfl, b1⟩
  have S1 := S.below b1
  have hy := S1.bk 0 rfl
  clear S HV c2 c3 c4 c5 c6
  go_wp2_with (refine wpList_store_row rfl 40 _ _ rfl Y _ rfl rfl _ _ hy (by kernel_rfl) (by kernel_rfl) (by kernel_rfl) ?_)
  exact bodyPost_ret (v := .agg #[.int .u64 (thruV p).r, .int .u32 (thruV p).c, .int .u64 (thruV p).b, .int .u16 (thruV p).p]) (results_cell_row rfl _ _ Y _ _ _ _ rfl (setRow_heap _ _ _ _ _ _ hy) Tryd.underlying40 rfl (by kernel_rfl)) rfl ⟨rfl, (S1.row 0 rfl [.int .u64 (thruV p).r, .int .u32 (thruV p).c, .int .u64 (thruV p).b, .int .u16 (thruV p).p]).old⟩

/-- May a port lead to the root? -/
def desB (p : Po) (o : Int) : Bool := decide (p.hb = o) && decide (p.hp = p.id)
def mayB (p : Po) (o : Int) : Bool := !desB p o && (decide (p.st ≠ 0) && decide (p.hr < o))

theorem may_is (p : Po) (o : Int) (q : Bool) (hq : Hid (mayB p o = q)) (w : World) :
    Calls Tryd.prog 75 #[.agg (lP p).toArray, .int .u64 o] w fun e w' => e = .returned (.bool q) ∧ Below w.heap.size w w' := by
  obtain ⟨d, hd⟩ : ∃ d, desB p o = d := ⟨_, rfl⟩
  have HD := fun W => Lib.hid (desig_row p o d (Lib.hid hd) W)
  have HQ := Lib.hid hq.out
  unfold mayB at HQ
  rw [hd] at HQ
  clear hq hd
  obtain ⟨wb, hwb, S⟩ := hs_one w 42 (lP p)
  go_enter Tryd.func75, Tryd.ntmps75
  go_upto_region 1 with fail
  clear hwb
  obtain ⟨X, hX⟩ : ∃ X, w.heap.size = X := ⟨_, rfl⟩
  rw [hX] at S ⊢
  have hx := S.bk 0 rfl
  go_wp2_with (refine wpList_load_row rfl 42 _ rfl X rfl _ _ (0, 0) _ hx Tryd.underlying42 rfl (by kernel_rfl) ?_)
  (with_reducible refine (HD _).out.mono ?_); rintro e w1 ⟨rfl, b1⟩
  have S1 := S.below b1
  clear S HD hx
  have c1 := S1.cell 0 1 rfl rfl
  have c3 := S1.cell 0 3 rfl rfl
  cases d with
  | true =>
    go_wp2
    go_ret
    exact ⟨ret_bool (by rw [← HQ.out]; rfl), S1.old⟩
  | false =>
    by_cases h1 : p.st = 0
    · have e := HQ.out
      rw [show decide (p.st ≠ 0) = false from decide_eq_false (fun k => k h1)] at e
      have HQ := Lib.hid e
      rw [h1] at c1
      clear h1
      go_wp2
      go_ret
      exact ⟨ret_bool (by rw [← HQ.out]; rfl), S1.old⟩
    · have hb : (p.st == 0) = false := by simpa using h1
      have hb' : (p.st != 0) = true := by simp [bne, hb]
      have e := HQ.out
      rw [show decide (p.st ≠ 0) = true from decide_eq_true h1] at e
      have HQ := Lib.hid e
      clear h1 e
      go_wp2
      go_ret
      exact ⟨ret_bool (by rw [← HQ.out]; simp), S1.old⟩

/-- A port without what its LAN waits for. -/
def owesP (p : Po) : Po := { p with ak := false, pe := false }
theorem owes_is (p : Po) (w : World) :
    Calls Tryd.prog 30 #[.agg (lP p).toArray] w fun e w' => e = .returned (.agg (lP (owesP p)).toArray) ∧ Below w.heap.size w w' := by
  obtain ⟨wb, hwb, S⟩ := hs_two w 42 42 (lP p) [.int .u16 0, .int .i64 0, .int .u32 0, .int .u64 0, .int .u32 0, .int .u64 0, .int .u16 0, .bool false, .bool false, .bool false, .int .i64 0, .bool false, .int .i64 0, .bool false, .int .i64 0]
  go_enter Tryd.func30, Tryd.ntmps30
  go_upto_region 1 with fail
  clear hwb
  obtain ⟨X, hX⟩ : ∃ X, w.heap.size = X := ⟨_, rfl⟩
  rw [hX] at S ⊢
  obtain ⟨Y, hY⟩ : ∃ Y, X + 1 = Y := ⟨_, rfl⟩
  rw [hY] at S ⊢
  have c7 := S.cell 1 7 rfl rfl
  have c8 := S.cell 1 8 rfl rfl
  have f7 := S.thaw 1 7 rfl
  have f8 := S.thaw 1 8 rfl
  go_upto_region 2 with fail
  have S3 : Hs w [(Y, 42, [.int .u16 0, .int .i64 0, .int .u32 0, .int .u64 0, .int .u32 0, .int .u64 0, .int .u16 0, .bool false, .bool false, .bool false, .int .i64 0, .bool false, .int .i64 0, .bool false, .int .i64 0]), (X, 42, lP (owesP p))] _ := (S.set 1 rfl 8 (.bool false)).set 1 rfl 7 (.bool false)
  generalize (wb.setCell ⟨X, 8, none⟩ (.bool false)).setCell ⟨X, 7, none⟩ (.bool false) = w2 at S3 ⊢
  clear S c7 c8 f7 f8
  have hx := S3.bk 1 rfl
  have hy := S3.bk 0 rfl
  go_wp2_with (first | (refine wpList_load_row rfl 42 _ rfl X rfl _ _ (0, 0) _ hx Tryd.underlying42 rfl (by kernel_rfl) ?_) | (refine wpList_store_row rfl 42 _ _ rfl Y _ rfl rfl _ _ hy (by kernel_rfl) (by kernel_rfl) (by kernel_rfl) ?_))
  exact bodyPost_ret (v := .agg (lP (owesP p)).toArray) (results_cell_row rfl _ _ Y _ _ _ _ rfl (setRow_heap _ _ _ _ _ _ hy) Tryd.underlying42 rfl (by kernel_rfl)) rfl ⟨rfl, (S3.row 0 rfl (lP (owesP p))).old⟩

end Go.Proofs.YtnmnihlhcokjpaaDoor

/- What becomes of a view: which port leads to the root, which ones are designated, which ones rise: no memory. -/
namespace Go.Proofs.YtnmnihlhcokjpaaDoor
set_option maxRecDepth 100000
set_option linter.unusedVariables false

/-- Does p lead better than q? -/
def betterB (p q : Po) : Bool := decide (orI (cmpV (thruV p) (thruV q)) (cmpI p.id q.id) < 0)
theorem betterB_iff (p q : Po) : betterB p q = true ↔ ((thruV p).r < (thruV q).r ∨ (thruV p).r = (thruV q).r ∧ ((thruV p).c < (thruV q).c ∨ (thruV p).c = (thruV q).c ∧ ((thruV p).b < (thruV q).b ∨ (thruV p).b = (thruV q).b ∧ ((thruV p).p < (thruV q).p ∨ (thruV p).p = (thruV q).p ∧ p.id < q.id)))) := by
  unfold betterB orI
  rw [decide_eq_true_eq]
  generalize thruV p = a
  generalize thruV q = b
  have h1 := wpI_cases a b; have h2 := cmpV_cases a b; have h3 := cmpI_cases p.id q.id
  split <;> omega
theorem betterB_anti {p q : Po} (h : betterB p q = true) : betterB q p = false := by
  rw [betterB_iff] at h
  cases e : betterB q p with
  | false => rfl
  | true => rw [betterB_iff] at e; omega
theorem betterB_trans {p q r : Po} (h : betterB p q = true) (k : betterB q r = true) : betterB p r = true := by
  rw [betterB_iff] at h k ⊢
  generalize thruV p = a at *
  generalize thruV q = b at *
  generalize thruV r = c at *
  omega
/-- The place of the port that leads best, among the first k. -/
def bst (o : Int) (L : List Po) : Nat → Option Nat
  | 0 => none
  | k + 1 => match L[k]? with
    | none => bst o L k
    | some p => if mayB p o then (match bst o L k with
      | none => some k
      | some j => match L[j]? with
        | none => some k
        | some q => if betterB p q then some k else some j) else bst o L k
def toI : Option Nat → Int
  | none => -1
  | some j => (j : Int)
theorem bst_lt {o : Int} {L : List Po} : ∀ {k j : Nat}, bst o L k = some j → j < k ∧ j < L.length := by
  intro k
  induction k with
  | zero => intro j h; cases h
  | succ k ih =>
    intro j h
    simp only [bst] at h
    split at h
    · have := ih h; omega
    · rename_i p hp
      have hk := po_lt hp
      split at h
      · split at h
        · cases h; omega
        · rename_i i hi
          have := ih hi
          split at h
          · cases h; omega
          · split at h <;> cases h <;> omega
      · have := ih h; omega

theorem bst_no {o : Int} {L : List Po} {k : Nat} {x : Po} (hx : L[k]? = some x) (hm : mayB x o = false) : bst o L (k + 1) = bst o L k := by simp [bst, hx, hm]
theorem bst_first {o : Int} {L : List Po} {k : Nat} {x : Po} (hx : L[k]? = some x) (hm : mayB x o = true) (hb : bst o L k = none) : bst o L (k + 1) = some k := by simp [bst, hx, hm, hb]
theorem bst_next {o : Int} {L : List Po} {k j : Nat} {x y : Po} {r : Bool} (hx : L[k]? = some x) (hm : mayB x o = true) (hb : bst o L k = some j) (hy : L[j]? = some y) (hr : betterB x y = r) : bst o L (k + 1) = some (if r = true then k else j) := by
  cases r <;> simp [bst, hx, hm, hb, hy, hr]

/-- Nobody of the first k leads better than number j. -/
def Top (o : Int) (L : List Po) (k j : Nat) : Prop := ∃ p, L[j]? = some p ∧ mayB p o = true ∧ ∀ i, i < k → i ≠ j → ∀ q, L[i]? = some q → mayB q o = true → betterB q p = false

theorem bst_spec (o : Int) (L : List Po) : ∀ k, match bst o L k with
    | none => ∀ i, i < k → ∀ p, L[i]? = some p → mayB p o = false
    | some j => j < k ∧ Top o L k j := by
  intro k
  induction k with
  | zero => intro i h; omega
  | succ k ih =>
    simp only [bst]
    cases hp : L[k]? with
    | none =>
      simp only
      revert ih
      cases hb : bst o L k with
      | none =>
        intro ih i hi p hq
        by_cases e : i = k
        · subst e; rw [hp] at hq; cases hq
        · exact ih i (by omega) p hq
      | some j =>
        intro ih
        obtain ⟨hj, p, h1, h2, h3⟩ := ih
        refine ⟨by omega, p, h1, h2, fun i hi hn q hq hm => ?_⟩
        by_cases e : i = k
        · subst e; rw [hp] at hq; cases hq
        · exact h3 i (by omega) hn q hq hm
    | some p =>
      simp only
      by_cases hm : mayB p o = true
      · rw [if_pos hm]
        revert ih
        cases hb : bst o L k with
        | none =>
          intro ih
          refine ⟨by omega, p, hp, hm, fun i hi hn q hq hmq => ?_⟩
          rw [ih i (by omega) q hq] at hmq
          cases hmq
        | some j =>
          intro ih
          obtain ⟨hj, q, h1, h2, h3⟩ := ih
          simp only [h1]
          by_cases hbt : betterB p q = true
          · rw [if_pos hbt]
            refine ⟨by omega, p, hp, hm, fun i hi hn x hx hmx => ?_⟩
            by_cases e : i = j
            · subst e; rw [h1] at hx; cases hx; exact betterB_anti hbt
            · have := h3 i (by omega) e x hx hmx
              cases hxp : betterB x p with
              | false => rfl
              | true => rw [betterB_trans hxp hbt] at this; cases this
          · rw [if_neg hbt]
            refine ⟨by omega, q, h1, h2, fun i hi hn x hx hmx => ?_⟩
            by_cases e : i = k
            · subst e; rw [hp] at hx; cases hx; simpa using hbt
            · exact h3 i (by omega) hn x hx hmx
      · rw [if_neg hm]
        revert ih
        cases hb : bst o L k with
        | none =>
          intro ih i hi q hq
          by_cases e : i = k
          · subst e; rw [hp] at hq; cases hq; simpa using hm
          · exact ih i (by omega) q hq
        | some j =>
          intro ih
          obtain ⟨hj, q, h1, h2, h3⟩ := ih
          refine ⟨by omega, q, h1, h2, fun i hi hn x hx hmx => ?_⟩
          by_cases e : i = k
          · subst e; rw [hp] at hx; cases hx; rw [hmx] at hm; exact absurd rfl hm
          · exact h3 i (by omega) hn x hx hmx

/-- Ports have unlike numbers. -/
def Unlike (L : List Po) : Prop := ∀ (i j : Nat) (p q : Po), L[i]? = some p → L[j]? = some q → i ≠ j → p.id ≠ q.id
/-- What the document's loop has found behind the first k. -/
def RS (o : Int) (L : List Po) (k : Nat) : Option Nat → Prop
  | none => ∀ i, i < k → ¬ Top o L L.length i
  | some j => j < k ∧ Top o L L.length j
/-- The view with the root, and the port to it. -/
def selT (t : Th) (L : List Po) : Option Nat → Th
  | none => { t with rp := -1, ro := t.ow, co := 0 }
  | some j => match L[j]? with
    | none => { t with rp := -1, ro := t.ow, co := 0 }
    | some p => { t with rp := (j : Int), ro := p.hr, co := farI p.hc p.co }
def selectT (t : Th) (L : List Po) : Th := selT t L (bst t.ow L L.length)

/-- A port that holds what its bridge tells. -/
def becomeP (t : Th) (p : Po) : Po := { p with hr := t.ro, hc := t.co, hb := t.ow, hp := p.id }
def ownV (t : Th) (p : Po) : Vec := ⟨t.ro, t.co, t.ow, p.id⟩
def heldV (p : Po) : Vec := ⟨p.hr, p.hc, p.hb, p.hp⟩
def takesB (t : Th) (p : Po) : Bool := desB p t.ow || (decide (p.hr ≠ t.ro) || decide (cmpV (ownV t p) (heldV p) ≤ 0))
def desP (t : Th) (p : Po) : Po := if takesB t p = true then becomeP t p else p

/-- The first k made anew. -/
def mixL (f : Nat → Po → Po) (k : Nat) (L : List Po) : List Po := L.mapIdx fun j x => if j < k then f j x else x
theorem mixL_len (f : Nat → Po → Po) (k : Nat) (L : List Po) : (mixL f k L).length = L.length := by simp [mixL]
theorem mixL_get (f : Nat → Po → Po) (k : Nat) (L : List Po) (j : Nat) : (mixL f k L)[j]? = (L[j]?).map fun x => if j < k then f j x else x := by simp [mixL]
theorem mixL_at {f : Nat → Po → Po} {k : Nat} {L : List Po} {x : Po} (h : L[k]? = some x) : (mixL f k L)[k]? = some x := by rw [mixL_get, h]; simp
theorem mixL_zero (f : Nat → Po → Po) (L : List Po) : mixL f 0 L = L := by
  apply List.ext_getElem?
  intro j
  rw [mixL_get]
  cases L[j]? <;> simp
theorem mixL_set {f : Nat → Po → Po} {k : Nat} {L : List Po} {x : Po} (h : L[k]? = some x) : (mixL f k L).set k (f k x) = mixL f (k + 1) L := by
  apply List.ext_getElem?
  intro j
  rw [List.getElem?_set, mixL_get, mixL_get, mixL_len]
  by_cases e : k = j
  · subst e
    have := po_lt h
    rw [h, if_pos rfl, if_pos this]
    simp
  · rw [if_neg e]
    cases L[j]? with
    | none => rfl
    | some y =>
      simp only [Option.map_some]
      by_cases q : j < k
      · rw [if_pos q, if_pos (by omega)]
      · rw [if_neg q, if_neg (by omega)]
theorem mixL_same {f : Nat → Po → Po} {k : Nat} {L : List Po} {x : Po} (h : L[k]? = some x) (e : f k x = x) : mixL f k L = mixL f (k + 1) L := by
  rw [← mixL_set h, e]
  apply List.ext_getElem?
  intro j
  rw [List.getElem?_set, mixL_len]
  by_cases q : k = j
  · subst q
    rw [mixL_at h]
    have := po_lt h
    simp [this]
  · rw [if_neg q]
def allL (f : Nat → Po → Po) (L : List Po) : List Po := L.mapIdx f
theorem allL_len (f : Nat → Po → Po) (L : List Po) : (allL f L).length = L.length := by simp [allL]
theorem allL_get (f : Nat → Po → Po) (L : List Po) (j : Nat) : (allL f L)[j]? = (L[j]?).map (f j) := by simp [allL]
theorem mixL_all {f : Nat → Po → Po} {k : Nat} {L : List Po} (h : L.length ≤ k) : mixL f k L = allL f L := by
  apply List.ext_getElem?
  intro j
  rw [mixL_get, allL_get]
  cases e : L[j]? with
  | none => rfl
  | some x => have := po_lt e; simp [show j < k by omega]
def desL (t : Th) (L : List Po) : List Po := allL (fun _ p => desP t p) L

/-- One port, and whether it learnt, or forwarded, and was blocked. -/
def restP (p : Po) : Po := { p with ao := false, av := 0 }
def stP (t : Th) (j : Nat) (p : Po) : Po × Bool := if (j : Int) = t.rp then (riseP (owesP p), false) else if desB p t.ow = true then (riseP (restP p), false) else blockP (owesP p)
def statesL (t : Th) (L : List Po) : List Po := allL (fun j p => (stP t j p).1) L
def lostB (t : Th) (L : List Po) : Nat → Bool
  | 0 => false
  | k + 1 => lostB t L k || (match L[k]? with | some x => (stP t k x).2 | none => false)
theorem lostB_step {t : Th} {L : List Po} {k : Nat} {x : Po} (h : L[k]? = some x) : lostB t L (k + 1) = (lostB t L k || (stP t k x).2) := by simp only [lostB, h]

end Go.Proofs.YtnmnihlhcokjpaaDoor

/- leadsBetter: contract. -/
namespace Go.Proofs.YtnmnihlhcokjpaaDoor
set_option maxRecDepth 100000
open Go.ChangeShapes Go.WideShapes Go.ChangeAt Go.RowKit
set_option linter.unusedVariables false
set_option linter.unusedSimpArgs false

theorem exec_load_row {P : Program} {a : Act} {o : Oper} {w : World} (ty : TypeId) (x : Operand) (ho : o.op = .load ty x)
    (g : Nat) (hx : a.eval x = .pointer (some ⟨g, 0, none⟩)) (t : TypeId) (cs : Array Value) (fr : Nat × Nat) (d : TypeDesc) (hg : w.heap[g]? = some (.cells cs t fr))
    (hu : P.underlying ty = some d) (hd : (match d with | .struct _ | .array _ _ => true | _ => false) = true) (hi : (P.info? ty).map (·.size) = some cs.size) :
    (execOp a.eval o).run P w = .ok (.value (.agg cs)) w := by
  unfold execOp
  simp only [ho, hx, Instr.loadAt, Instr.sureAddr, Sem.run_bind, Sem.run_pure, Result.andThen_ok, run_loadVar_row w g t ty cs fr d hg hu hd hi]

theorem exec_if_row {P : Program} {ops : Array Oper} {o : Oper} {a : Act} {w : World} {K : Act → World → Prop} {Q : Exit → Act → World → Prop} (hw : Region.wanted o (yielded ops a.tmps) = true) (ty : TypeId) (x : Operand) (ho : o.op = .load ty x)
    (g : Nat) (hx : a.eval x = .pointer (some ⟨g, 0, none⟩)) (t : TypeId) (cs : Array Value) (fr : Nat × Nat) (d : TypeDesc) (hg : w.heap[g]? = some (.cells cs t fr))
    (hu : P.underlying ty = some d) (hd : (match d with | .struct _ | .array _ _ => true | _ => false) = true) (hi : (P.info? ty).map (·.size) = some cs.size)
    (h : K (a.put o.dst (.agg cs)) w) : if Region.wanted o (yielded ops a.tmps) = true then Oper.wp P o a w K Q else K (a.put o.dst undef) w := by
  rw [if_pos hw]
  exact wp_load_row ty x ho g hx t cs fr d hg hu hd hi h

set_option maxHeartbeats 1000000 in
theorem leads_is (p q : Po) (hp : PoB p) (hq : PoB q) (r : Bool) (hr : Hid (betterB p q = r)) (w : World) :
    Calls Tryd.prog 76 #[.agg (lP p).toArray, .agg (lP q).toArray] w fun e w' => e = .returned (.bool r) ∧ Below w.heap.size w w' := by
  have HP := fun W => Lib.hid (through_is p hp W)
  have HQ := fun W => Lib.hid (through_is q hq W)
  have HC := fun W => Lib.hid (cmp_v (thruV p) (thruV q) W)
  have HI := fun W => Lib.hid (cmpP_is p.id q.id W)
  clear hp hq
  obtain ⟨a, ha⟩ : ∃ a, cmpV (thruV p) (thruV q) = a := ⟨_, rfl⟩
  obtain ⟨b, hb⟩ : ∃ b, cmpI p.id q.id = b := ⟨_, rfl⟩
  rw [ha] at HC
  rw [hb] at HI
  have hr2 := hr.out
  unfold betterB at hr2
  rw [ha, hb] at hr2
  have HR := Lib.hid hr2
  clear hr hr2 ha hb
  obtain ⟨wb, hwb, S⟩ := hs_two w 42 42 (lP p) (lP q)
  go_enter Tryd.func76, Tryd.ntmps76
  go_upto_region 1 with fail
  clear hwb
  obtain ⟨X, hX⟩ : ∃ X, w.heap.size = X := ⟨_, rfl⟩
  rw [hX] at S
  obtain ⟨Y, hY⟩ : ∃ Y, X + 1 = Y := ⟨_, rfl⟩
  rw [hY] at S
  rw [hX]
  rw [hY]
  clear hX hY
  refine wp_region_held_drew (S := (fun w' => Hs w [(Y, 42, lP q), (X, 42, lP p)] w')) (by kernel_rfl) S.drew (fun hHeld => ?_)
  refine wpAnyH_take (i := 0) (v := _) rfl (by kernel_rfl) (by kernel_rfl) (by kernel_rfl) (fun _ _ _ h => h) (Or.inl ⟨by kernel_rfl, fun w' hSw => exec_load_row 42 _ rfl X (by kernel_rfl) _ _ (0, 0) _ (hSw.bk 1 rfl) Tryd.underlying42 rfl (by kernel_rfl)⟩) (by assumption) ?_
  try simp only [Act.put, List.setIfInBounds_toArray, List.set_cons_succ]
  refine wpAnyH_take (i := 2) (v := _) rfl (by kernel_rfl) (by kernel_rfl) (by kernel_rfl) (fun _ _ _ h => h) (Or.inl ⟨by kernel_rfl, fun w' hSw => exec_load_row 42 _ rfl Y (by kernel_rfl) _ _ (0, 0) _ (hSw.bk 0 rfl) Tryd.underlying42 rfl (by kernel_rfl)⟩) (by assumption) ?_
  try simp only [Act.put, List.setIfInBounds_toArray, List.set_cons_succ]
  refine wpAnyH_take (i := 5) (v := ?_) rfl (by kernel_rfl) (by kernel_rfl) (by kernel_rfl) (fun _ _ _ h => h) (Or.inl ⟨by kernel_rfl, ?_⟩) (by assumption) ?_
  rotate_left
  · intro w hSw; (try dsimp only at hSw); go_simp; with_reducible rfl
  try simp only [Act.put, List.setIfInBounds_toArray, List.set_cons_succ]
  refine wpAnyH_take (i := 6) (v := ?_) rfl (by kernel_rfl) (by kernel_rfl) (by kernel_rfl) (fun _ _ _ h => h) (Or.inl ⟨by kernel_rfl, ?_⟩) (by assumption) ?_
  rotate_left
  · intro w hSw; (try dsimp only at hSw); have c := hSw.cell 1 0 rfl rfl; go_simp; with_reducible rfl
  try simp only [Act.put, List.setIfInBounds_toArray, List.set_cons_succ]
  refine wpAnyH_take (i := 7) (v := ?_) rfl (by kernel_rfl) (by kernel_rfl) (by kernel_rfl) (fun _ _ _ h => h) (Or.inl ⟨by kernel_rfl, ?_⟩) (by assumption) ?_
  rotate_left
  · intro w hSw; (try dsimp only at hSw); go_simp; with_reducible rfl
  try simp only [Act.put, List.setIfInBounds_toArray, List.set_cons_succ]
  refine wpAnyH_take (i := 8) (v := ?_) rfl (by kernel_rfl) (by kernel_rfl) (by kernel_rfl) (fun _ _ _ h => h) (Or.inl ⟨by kernel_rfl, ?_⟩) (by assumption) ?_
  rotate_left
  · intro w hSw; (try dsimp only at hSw); have c := hSw.cell 0 0 rfl rfl; go_simp; with_reducible rfl
  try simp only [Act.put, List.setIfInBounds_toArray, List.set_cons_succ]
  refine wpAnyH_ready (rs := [1]) (by kernel_rfl) (by simp) ?_
  refine AllReadyH.cons rfl (fun K hK => ?_) AllReadyH.nil
  go_simp
  (with_reducible refine (HP _).out.mono ?_); rintro e w1 ⟨rfl, b1⟩
  refine hK.out _ _ (hHeld.below b1) (fun hHeld => ?_)
  clear hK K
  try simp only [Act.put, List.setIfInBounds_toArray, List.set_cons_succ]
  refine wpAnyH_ready (rs := [3]) (by kernel_rfl) (by simp) ?_
  refine AllReadyH.cons rfl (fun K hK => ?_) AllReadyH.nil
  go_simp
  (with_reducible refine (HQ _).out.mono ?_); rintro e w2 ⟨rfl, b2⟩
  refine hK.out _ _ (hHeld.below b2) (fun hHeld => ?_)
  clear hK K
  try simp only [Act.put, List.setIfInBounds_toArray, List.set_cons_succ]
  refine wpAnyH_ready (rs := [4]) (by kernel_rfl) (by simp) ?_
  refine AllReadyH.cons rfl (fun K hK => ?_) AllReadyH.nil
  go_simp
  (with_reducible refine (HC _).out.mono ?_); rintro e w3 ⟨rfl, b3⟩
  refine hK.out _ _ (hHeld.below b3) (fun hHeld => ?_)
  clear hK K
  try simp only [Act.put, List.setIfInBounds_toArray, List.set_cons_succ]
  refine wpAnyH_ready (rs := [9]) (by kernel_rfl) (by simp) ?_
  refine AllReadyH.cons rfl (fun K hK => ?_) AllReadyH.nil
  go_simp
  (with_reducible refine (HI _).out.mono ?_); rintro e w4 ⟨rfl, rfl⟩
  refine hK.out _ _ (hHeld) (fun hHeld => ?_)
  clear hK K
  try simp only [Act.put, List.setIfInBounds_toArray, List.set_cons_succ]
  refine wpAnyH_ready (rs := [10]) (by kernel_rfl) (by simp) ?_
  refine AllReadyH.cons rfl (fun K hK => ?_) AllReadyH.nil
  go_simp
  refine hK.out _ _ (hHeld.below ((Below.refl _ _).alloc (Nat.le_refl _) _)) (fun hHeld => ?_)
  clear hK K
  try simp only [Act.put, List.getElem_toArray, List.getElem_cons_succ, List.getElem_cons_zero, List.setIfInBounds_toArray, List.set_cons_succ]
  have HO := Lib.hid (or2_at w3 w3.heap.size rfl a b)
  refine wpAnyH_ready (rs := [11]) (by kernel_rfl) (by simp) ?_
  refine AllReadyH.cons rfl (fun K hK => ?_) AllReadyH.nil
  go_simp
  (with_reducible refine HO.out.mono ?_); rintro e w5 ⟨rfl, rfl⟩
  refine hK.out _ _ (hHeld) (fun hHeld => ?_)
  clear hK K
  try simp only [Act.put, List.getElem_toArray, List.getElem_cons_succ, List.getElem_cons_zero, List.setIfInBounds_toArray, List.set_cons_succ]
  refine wpAnyH_take (i := 12) (v := ?_) rfl (by kernel_rfl) (by kernel_rfl) (by kernel_rfl) (fun _ _ _ h => h) (Or.inl ⟨by kernel_rfl, ?_⟩) (by assumption) ?_
  rotate_left
  · intro w hSw; (try dsimp only at hSw); go_simp; with_reducible rfl
  try simp only [Act.put, List.getElem_toArray, List.getElem_cons_succ, List.getElem_cons_zero, List.setIfInBounds_toArray, List.set_cons_succ]
  refine wpAnyH_take (i := 13) (v := ?_) rfl (by kernel_rfl) (by kernel_rfl) (by kernel_rfl) (fun _ _ _ h => h) (Or.inl ⟨by kernel_rfl, ?_⟩) (by assumption) ?_
  rotate_left
  · intro w hSw; (try dsimp only at hSw); go_simp; with_reducible rfl
  try simp only [Act.put, List.getElem_toArray, List.getElem_cons_succ, List.getElem_cons_zero, List.setIfInBounds_toArray, List.set_cons_succ]
  refine wpAnyH_done (by kernel_rfl) ?_ _
  go_wp2
  go_ret
  exact ⟨ret_bool (by first | rfl | exact HR.out), hHeld.old⟩

end Go.Proofs.YtnmnihlhcokjpaaDoor

/- best: contract. -/
namespace Go.Proofs.YtnmnihlhcokjpaaDoor
set_option maxRecDepth 100000
open Go.ChangeShapes Go.WideShapes Go.ChangeAt Go.RowKit
set_option linter.unusedVariables false

set_option maxRecDepth 100000 in
set_option maxHeartbeats 1000000 in
theorem best_is (t : Th) (A : Option Addr) (n cap : Nat) (L : List Po) (hL : Hid (L.length = n)) (hf : n ≤ 200) (hb : Hid (∀ x ∈ L, PoB x)) (w : World) (hp : Hid (PoAt w A w.heap.size L)) :
    Calls Tryd.prog 64 #[.agg (lT t A n cap).toArray] w fun e w' => e = .returned (.int .i64 (toI (bst t.ow L n))) ∧ Below w.heap.size w w' := by
  obtain ⟨wb, hwb, S⟩ := hs_one w 31 (lT t A n cap)
  go_enter Tryd.func64, Tryd.ntmps64
  go_upto_region 1 with fail
  clear hwb
  obtain ⟨X, hX⟩ : ∃ X, w.heap.size = X := ⟨_, rfl⟩
  rw [hX] at S
  rw [hX]
  have HX := Lib.hid hX
  clear hX
  have c18 := S.cell 0 18 rfl rfl
  go_wp2
  clear c18
  go_loopw [3, 9] (fun f i wr => ∃ k : Nat, k ≤ n ∧ i = .int .i64 k ∧ f = .int .i64 (toI (bst t.ow L k)) ∧ Hs w [(X, 31, lT t A n cap)] wr) (fun f i _ => n - (intOf i).toNat)
  case atStart => exact ⟨0, Nat.zero_le _, rfl, rfl, S⟩
  case round =>
    obtain ⟨k, hk, rfl, rfl, S⟩ := hrel
    by_cases hkn : k < n
    · obtain ⟨x, hx⟩ := po_at hL.out hkn
      have hki : (k : Int) < (n : Int) := by omega
      have hkz : ¬ (n : Int) ≤ (k : Int) := by omega
      have HP := Lib.hid (hp.out.below S.old (Nat.le_refl _))
      obtain ⟨ad, hA⟩ := HP.out.some hx
      have HX := Lib.hid hx
      have hat := HP.out.at hx hA
      have HA := Lib.hid hA
      have hPx := Lib.hid (hb.out x (List.mem_of_getElem? hx))
      rw [hA]
      go_upto_region 5 with (first | (with_reducible refine wpList_load_at rfl 42 (.tmp 12) rfl (ad.add (k * 15)) (by kernel_rfl) _ _ hat Tryd.underlying42 rfl (by kernel_rfl) ?_) | (refine wpList_store_row rfl 42 _ _ rfl _ _ rfl rfl _ _ (heap_alloc_new _ _) (by kernel_rfl) (by kernel_rfl) (by kernel_rfl) ?_))
      rw [alloc_row]
      have S2 := S.al rfl 42 (lP x)
      obtain ⟨Z, hZ⟩ : ∃ Z, wr.heap.size = Z := ⟨_, rfl⟩
      rw [hZ] at S2 ⊢
      have HP2 := Lib.hid (HP.out.below ((Below.refl wr.heap.size wr).alloc (Nat.le_refl _) (.cells (lP x).toArray 42)) S.old.size)
      generalize wr.alloc (.cells (lP x).toArray 42) = w2 at S2 HP2 ⊢
      clear S HP hat hZ
      have hs2 := S2.old.size
      obtain ⟨m, hm⟩ : ∃ m, mayB x t.ow = m := ⟨_, rfl⟩
      have HM := fun q : LaterW w2 => Lib.hid (may_is x t.ow m (Lib.hid hm) q.w')
      have HMM := Lib.hid hm
      clear hm
      have c0 := fun q : LaterW w2 => (S2.below q.h).cell 1 0 rfl rfl
      cases m with
      | false =>
        refine region_later mixedL (by kernel_rfl) ?_
        (refine BigFrame.wpQuiet_want (by kernel_rfl) (fun K hK => ?_); refine quiet_load_row 42 _ rfl Z (by kernel_rfl) _ _ (0, 0) _ (S2.bkq 0 rfl) Tryd.underlying42 rfl (by kernel_rfl) ?_; refine hK _ ?_; clear hK; go_simp)
        go_big_quiet_step (fail)
        go_big_quiet_step (fail)
        go_big_quiet_step ((go_at_call 75; with_reducible exact Calls.later (HM _).out))
        repeat (go_big_quiet_step (fail))
        refine wpQuiet_nil ?_
        intro r
        have S3 := S2.below r.h
        generalize r.w' = w3 at S3 ⊢
        clear HM c0 S2
        go_wp2
        rw [← hA]
        go_roundw
        case rel => exact ⟨k + 1, by omega, by go_num, by rw [bst_no HX.out HMM.out], S3.tail⟩
        case measure => simp [intOf]; omega
      | true =>
        obtain ⟨bk, hbk⟩ : ∃ bk, bst t.ow L k = bk := ⟨_, rfl⟩
        rw [hbk]
        have HB := Lib.hid hbk
        clear hbk
        cases bk with
        | none =>
          have hj0 : toI none = -1 := rfl
          rw [hj0]
          clear hj0
          refine region_later mixedL (by kernel_rfl) ?_
          (refine BigFrame.wpQuiet_want (by kernel_rfl) (fun K hK => ?_); refine quiet_load_row 42 _ rfl Z (by kernel_rfl) _ _ (0, 0) _ (S2.bkq 0 rfl) Tryd.underlying42 rfl (by kernel_rfl) ?_; refine hK _ ?_; clear hK; go_simp)
          go_big_quiet_step (fail)
          go_big_quiet_step (fail)
          go_big_quiet_step ((go_at_call 75; with_reducible exact Calls.later (HM _).out))
          repeat (go_big_quiet_step (fail))
          refine wpQuiet_nil ?_
          intro r
          have S3 := S2.below r.h
          generalize r.w' = w3 at S3 ⊢
          clear HM c0 S2
          go_wp2
          rw [← hA]
          go_roundw
          case rel => exact ⟨k + 1, by omega, by go_num, by rw [bst_first HX.out HMM.out HB.out]; rfl, S3.tail⟩
          case measure => simp [intOf]; omega
        | some j =>
          have hj := bst_lt HB.out
          obtain ⟨y, hy⟩ := po_at (L := L) rfl hj.2
          have HY := Lib.hid hy
          have hPy := Lib.hid (hb.out y (List.mem_of_getElem? hy))
          obtain ⟨b, hbt⟩ : ∃ b, betterB x y = b := ⟨_, rfl⟩
          have HW := fun q : LaterW w2 => Lib.hid (leads_is x y hPx.out hPy.out b (Lib.hid hbt) q.w')
          have HBT := Lib.hid hbt
          have hj1 : ((toI (some j)) == -1) = false := by simp [toI] <;> omega
          have hj2 : toI (some j) = (j : Int) := rfl
          rw [hj2] at hj1 ⊢
          have c18 := fun q : LaterW w2 => (S2.below q.h).cell 1 18 rfl rfl
          rw [hA] at c18
          have hjn : j < n := by have := hL.out; omega
          have hj3 : (j : Int) < (n : Int) := by omega
          have hj4 : ¬ (n : Int) ≤ (j : Int) := by omega
          clear hbt hy hj2
          refine region_later mixedL (by kernel_rfl) ?_
          (refine BigFrame.wpQuiet_want (by kernel_rfl) (fun K hK => ?_); refine quiet_load_row 42 _ rfl Z (by kernel_rfl) _ _ (0, 0) _ (S2.bkq 0 rfl) Tryd.underlying42 rfl (by kernel_rfl) ?_; refine hK _ ?_; clear hK; go_simp)
          go_big_quiet_step (fail)
          go_big_quiet_step (fail)
          go_big_quiet_step ((go_at_call 75; with_reducible exact Calls.later (HM _).out))
          go_big_quiet_step (fail)
          go_big_quiet_step (fail)
          go_big_quiet_step (fail)
          go_big_quiet_step (fail)
          (refine BigFrame.wpQuiet_want (by kernel_rfl) (fun K hK => ?_); refine quiet_load_row 42 _ rfl Z (by kernel_rfl) _ _ (0, 0) _ (S2.bkq 0 rfl) Tryd.underlying42 rfl (by kernel_rfl) ?_; refine hK _ ?_; clear hK; go_simp)
          go_big_quiet_step (fail)
          go_big_quiet_step (fail)
          go_big_quiet_step (fail)
          go_big_quiet_step (fail)
          (refine BigFrame.wpQuiet_want (by kernel_rfl) (fun K hK => ?_); refine quiet_load_at 42 _ rfl (ad.add (j * 15)) (by kernel_rfl) _ _ (HP2.out.atq (by omega) HY.out HA.out) Tryd.underlying42 rfl (by kernel_rfl) ?_; refine hK _ ?_; clear hK; go_simp)
          go_big_quiet_step ((go_at_call 76; with_reducible exact Calls.later (HW _).out))
          repeat (go_big_quiet_step (fail))
          refine wpQuiet_nil ?_
          intro r
          have S3 := S2.below r.h
          generalize r.w' = w3 at S3 ⊢
          clear HM HW c0 c18 S2 HP2
          cases b with
          | false =>
            go_wp2
            rw [← hA]
            go_roundw
            case rel => exact ⟨k + 1, by omega, by go_num, by rw [bst_next HX.out HMM.out HB.out HY.out HBT.out]; rfl, S3.tail⟩
            case measure => simp [intOf]; omega
          | true =>
            go_wp2
            rw [← hA]
            go_roundw
            case rel => exact ⟨k + 1, by omega, by go_num, by rw [bst_next HX.out HMM.out HB.out HY.out HBT.out]; rfl, S3.tail⟩
            case measure => simp [intOf]; omega
    · have hkz : ¬ (k : Int) < (n : Int) := by omega
      have hke : k = n := by omega
      go_wp2
      go_ret
      exact ⟨rfl, S.old⟩

end Go.Proofs.YtnmnihlhcokjpaaDoor
