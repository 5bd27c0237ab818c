/- A telling in a block of its own; a row of two and of three numbers that cmp.Or reads. -/
import Derived.Test.YtkdbhioneoknjaaWireMem
import Derived.Test.YtkdbhioneoknjaaRankCmp
namespace Go.Proofs.Ytkdbhioneoknjaa
open Go.ChangeShapes Go.WideShapes Go.ChangeAt Go.RowKit
set_option linter.unusedVariables false

/-- A telling in a block of its own (its type is the program's or the document's). -/
def VX (T : TypeId) (w : World) (g : Nat) (x : Vec) : Prop := Bk w g T [.int .u64 x.r, .int .u32 x.c, .int .u64 x.b, .int .u16 x.p]

/-- What the block's cells are. -/
def VC (w : World) (g : Nat) (x : Vec) : Prop :=
  w.cell? ⟨g, 0, none⟩ = some (.int .u64 x.r) ∧ w.cell? ⟨g, 1, none⟩ = some (.int .u32 x.c) ∧ w.cell? ⟨g, 2, none⟩ = some (.int .u64 x.b) ∧ w.cell? ⟨g, 3, none⟩ = some (.int .u16 x.p)

theorem VX.new (T : TypeId) (w : World) (x : Vec) : VX T (w.alloc (.cells #[.int .u64 x.r, .int .u32 x.c, .int .u64 x.b, .int .u16 x.p] T)) w.heap.size x := heap_alloc_new w _
theorem VX.lt {T : TypeId} {w : World} {g : Nat} {x : Vec} (h : VX T w g x) : g < w.heap.size := Bk.lt h
theorem VX.below {T : TypeId} {w w' : World} {g B : Nat} {x : Vec} (h : VX T w g x) (hb : Below B w w') (hg : g < B) : VX T w' g x := Bk.below h hb hg
theorem VX.alloc {T : TypeId} {w : World} {g : Nat} {x : Vec} (h : VX T w g x) (o : Obj) : VX T (w.alloc o) g x := h.below ((Below.refl w.heap.size w).alloc (Nat.le_refl _) o) h.lt
theorem VX.drew {T : TypeId} {w : World} {g : Nat} {x : Vec} (h : VX T w g x) : VX T w.drew g x := h
theorem VX.cells {T : TypeId} {w : World} {g : Nat} {x : Vec} (h : VX T w g x) : VC w g x := ⟨Bk.cell h 0, Bk.cell h 1, Bk.cell h 2, Bk.cell h 3⟩
theorem VX.thaw {T : TypeId} {w : World} {g : Nat} {x : Vec} (h : VX T w g x) (i : Nat) : w.frozen? ⟨g, i, none⟩ = false := Bk.thaw h i
theorem VX.set {T : TypeId} {w : World} {g : Nat} {x : Vec} (h : VX T w g x) (k : Int) : VX T (w.setCell ⟨g, 1, none⟩ (.int .u32 k)) g ⟨x.r, k, x.b, x.p⟩ := Bk.set h 1 _

theorem VX.six {T U : TypeId} {w : World} {g k : Nat} {x y : Vec} (h : VX T w g x) (i : VX U w k y) :
    w.cell? ⟨g, 0, none⟩ = some (.int .u64 x.r) ∧ w.cell? ⟨g, 1, none⟩ = some (.int .u32 x.c) ∧ w.cell? ⟨g, 2, none⟩ = some (.int .u64 x.b) ∧ w.cell? ⟨k, 0, none⟩ = some (.int .u64 y.r) ∧ w.cell? ⟨k, 1, none⟩ = some (.int .u32 y.c) ∧ w.cell? ⟨k, 2, none⟩ = some (.int .u64 y.b) :=
  ⟨h.cells.1, h.cells.2.1, h.cells.2.2.1, i.cells.1, i.cells.2.1, i.cells.2.2.1⟩
theorem VX.eight {T U : TypeId} {w : World} {g k : Nat} {x y : Vec} (h : VX T w g x) (i : VX U w k y) :
    w.cell? ⟨g, 0, none⟩ = some (.int .u64 x.r) ∧ w.cell? ⟨g, 1, none⟩ = some (.int .u32 x.c) ∧ w.cell? ⟨g, 2, none⟩ = some (.int .u64 x.b) ∧ w.cell? ⟨g, 3, none⟩ = some (.int .u16 x.p) ∧ w.cell? ⟨k, 0, none⟩ = some (.int .u64 y.r) ∧ w.cell? ⟨k, 1, none⟩ = some (.int .u32 y.c) ∧ w.cell? ⟨k, 2, none⟩ = some (.int .u64 y.b) ∧ w.cell? ⟨k, 3, none⟩ = some (.int .u16 y.p) :=
  ⟨h.cells.1, h.cells.2.1, h.cells.2.2.1, h.cells.2.2.2, i.cells.1, i.cells.2.1, i.cells.2.2.1, i.cells.2.2.2⟩

/-- One that was boxed. -/
theorem boxes1 (T : TypeId) (w : World) (x : Vec) : ∃ w', w.alloc (.cells #[.int .u64 x.r, .int .u32 x.c, .int .u64 x.b, .int .u16 x.p] T) = w' ∧ VX T w' w.heap.size x ∧ Below w.heap.size w w' :=
  ⟨_, rfl, VX.new T w x, (Below.refl _ _).alloc (Nat.le_refl _) _⟩
/-- Two that were boxed one behind the other. -/
theorem boxes2 (T : TypeId) (w : World) (x y : Vec) : ∃ w', (w.alloc (.cells #[.int .u64 x.r, .int .u32 x.c, .int .u64 x.b, .int .u16 x.p] T)).alloc (.cells #[.int .u64 y.r, .int .u32 y.c, .int .u64 y.b, .int .u16 y.p] T) = w'
    ∧ VX T w' w.heap.size x ∧ VX T w' (w.heap.size + 1) y ∧ Below w.heap.size w w' := by
  refine ⟨_, rfl, (VX.new T w x).alloc _, ?_, ((Below.refl _ _).alloc (Nat.le_refl _) _).alloc (by simp) _⟩
  have := VX.new T (w.alloc (.cells #[.int .u64 x.r, .int .u32 x.c, .int .u64 x.b, .int .u16 x.p] T)) y
  simpa using this

/-- cmp.Or, called with what was just made. -/
theorem or2_at (W : World) (B : Nat) (hB : W.heap.size = B) (x y : Int) :
    Calls Try.prog 61 #[.slice (some ⟨B, 0, none⟩) 2 2] (W.alloc (.cells #[.int .i64 x, .int .i64 y] 3)) fun e w' => e = .returned (.int .i64 (orI x y)) ∧ (W.alloc (.cells #[.int .i64 x, .int .i64 y] 3)) = w' := by
  subst hB
  have h : Bk (W.alloc (.cells #[.int .i64 x, .int .i64 y] 3)) W.heap.size 3 [.int .i64 x, .int .i64 y] := heap_alloc_new W _
  exact or2_is _ x y _ (Bk.cell h 0) (Bk.cell h 1)
theorem or3_at (W : World) (B : Nat) (hB : W.heap.size = B) (x y z : Int) :
    Calls Try.prog 61 #[.slice (some ⟨B, 0, none⟩) 3 3] (W.alloc (.cells #[.int .i64 x, .int .i64 y, .int .i64 z] 3)).drew fun e w' => e = .returned (.int .i64 (orI x (orI y z))) ∧ (W.alloc (.cells #[.int .i64 x, .int .i64 y, .int .i64 z] 3)).drew = w' := by
  subst hB
  have h : Bk (W.alloc (.cells #[.int .i64 x, .int .i64 y, .int .i64 z] 3)) W.heap.size 3 [.int .i64 x, .int .i64 y, .int .i64 z] := heap_alloc_new W _
  exact or3_is _ x y z _ (Bk.cell h 0) (Bk.cell h 1) (Bk.cell h 2)

end Go.Proofs.Ytkdbhioneoknjaa
