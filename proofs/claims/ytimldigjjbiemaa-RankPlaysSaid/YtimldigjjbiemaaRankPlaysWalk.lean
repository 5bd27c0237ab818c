/- The law RankPlays, walked: it answers true, whatever the tellings, the own bridge and the cost are. -/
import Derived.Test.YtimldigjjbiemaaRankTakesWalk
namespace Go.Proofs.Ytimldigjjbiemaa
open Go.ChangeShapes Go.WideShapes Go.ChangeAt Go.RowKit
set_option linter.unusedVariables false

theorem H2.alloc {w w' : World} {X Y : Nat} {x y : Vec} (h : H2 w X Y x y w') (o : Obj) : H2 w X Y x y (w'.alloc o) :=
  h.below ((Below.refl w'.heap.size w').alloc (Nat.le_refl _) o)

/-- Four numbers stored into a block. -/
abbrev put4 (w : World) (g : Nat) (v : Vec) : World :=
  (((w.setCell ⟨g, 0, none⟩ (.int .u64 v.r)).setCell ⟨g, 1, none⟩ (.int .u32 v.c)).setCell ⟨g, 2, none⟩ (.int .u64 v.b)).setCell ⟨g, 3, none⟩ (.int .u16 v.p)
theorem VX.put4 {T : TypeId} {w : World} {g : Nat} {x : Vec} (h : VX T w g x) (v : Vec) : VX T (put4 w g v) g v :=
  Bk.set (Bk.set (Bk.set (Bk.set h 0 (.int .u64 v.r)) 1 (.int .u32 v.c)) 2 (.int .u64 v.b)) 3 (.int .u16 v.p)
theorem VX.far4 {T : TypeId} {w : World} {g k : Nat} {x : Vec} (h : VX T w g x) (hk : k ≠ g) (v : Vec) : VX T (Go.Proofs.Ytimldigjjbiemaa.put4 w k v) g x :=
  Bk.far (Bk.far (Bk.far (Bk.far h hk _) hk _) hk _) hk _
theorem below_put4 {B : Nat} {w w' : World} (h : Below B w w') {g : Nat} (hg : B ≤ g) (v : Vec) : Below B w (put4 w' g v) :=
  (((h.setCell (p := ⟨g, 0, none⟩) hg _).setCell (p := ⟨g, 1, none⟩) hg _).setCell (p := ⟨g, 2, none⟩) hg _).setCell (p := ⟨g, 3, none⟩) hg _
theorem H2.put4 {w w' : World} {X Y g : Nat} {x y : Vec} (h : H2 w X Y x y w') (hx : X < g) (hy : Y < g) (hw : w.heap.size ≤ g) (v : Vec) : H2 w X Y x y (put4 w' g v) :=
  ⟨h.1.far4 (by omega) v, h.2.1.far4 (by omega) v, below_put4 h.2.2 hw v⟩

/-- A new block beside the two; two new ones. -/
def S1 (w : World) (X Y : Nat) (x y : Vec) (g : Nat) (w' : World) : Prop :=
  H2 w X Y x y w' ∧ VX 32 w' g ⟨0, 0, 0, 0⟩ ∧ X < g ∧ Y < g ∧ w.heap.size ≤ g
def S2 (w : World) (X Y : Nat) (x y : Vec) (g k : Nat) (w' : World) : Prop :=
  S1 w X Y x y g w' ∧ VX 32 w' k ⟨0, 0, 0, 0⟩ ∧ g < k
theorem S1.below {w w' w'' : World} {X Y g : Nat} {x y : Vec} (h : S1 w X Y x y g w') (b : Below w'.heap.size w' w'') : S1 w X Y x y g w'' :=
  ⟨h.1.below b, h.2.1.below b h.2.1.lt, h.2.2⟩
theorem S2.below {w w' w'' : World} {X Y g k : Nat} {x y : Vec} (h : S2 w X Y x y g k w') (b : Below w'.heap.size w' w'') : S2 w X Y x y g k w'' :=
  ⟨h.1.below b, h.2.1.below b h.2.1.lt, h.2.2⟩
theorem S1.drew {w w' : World} {X Y g : Nat} {x y : Vec} (h : S1 w X Y x y g w') : S1 w X Y x y g w'.drew := ⟨h.1.drew, h.2⟩
theorem S2.drew {w w' : World} {X Y g k : Nat} {x y : Vec} (h : S2 w X Y x y g k w') : S2 w X Y x y g k w'.drew := ⟨h.1.drew, h.2⟩
/-- A new block of the document's. -/
abbrev newZ (w : World) : World := w.alloc (.cells #[.int .u64 0, .int .u32 0, .int .u64 0, .int .u16 0] 32)
theorem H2.al {w w' : World} {X Y : Nat} {x y : Vec} (h : H2 w X Y x y w') : S1 w X Y x y w'.heap.size (newZ w') :=
  ⟨h.alloc _, VX.new _ w' ⟨0, 0, 0, 0⟩, h.1.lt, h.2.1.lt, h.2.2.size⟩
theorem S1.al {w w' : World} {X Y g : Nat} {x y : Vec} (h : S1 w X Y x y g w') : S2 w X Y x y g w'.heap.size (newZ w') :=
  ⟨h.below ((Below.refl w'.heap.size w').alloc (Nat.le_refl _) _), VX.new _ w' ⟨0, 0, 0, 0⟩, h.2.1.lt⟩
theorem H2.al2 {w w' : World} {X Y : Nat} {x y : Vec} (h : H2 w X Y x y w') : S2 w X Y x y w'.heap.size (w'.heap.size + 1) (newZ (newZ w')) := by
  have := h.al.al
  simpa using this

/-- What the two hold. -/
abbrev C8 (w' : World) (X Y : Nat) (x y : Vec) : Prop := w'.cell? ⟨X, 0, none⟩ = some (.int .u64 x.r) ∧ w'.cell? ⟨X, 1, none⟩ = some (.int .u32 x.c) ∧ w'.cell? ⟨X, 2, none⟩ = some (.int .u64 x.b) ∧ w'.cell? ⟨X, 3, none⟩ = some (.int .u16 x.p) ∧ w'.cell? ⟨Y, 0, none⟩ = some (.int .u64 y.r) ∧ w'.cell? ⟨Y, 1, none⟩ = some (.int .u32 y.c) ∧ w'.cell? ⟨Y, 2, none⟩ = some (.int .u64 y.b) ∧ w'.cell? ⟨Y, 3, none⟩ = some (.int .u16 y.p)
/-- What a new block holds, and that it may be written. -/
abbrev Z8 (w : World) (g : Nat) : Prop :=
  w.cell? ⟨g, 0, none⟩ = some (.int .u64 0) ∧ w.cell? ⟨g, 1, none⟩ = some (.int .u32 0) ∧ w.cell? ⟨g, 2, none⟩ = some (.int .u64 0) ∧ w.cell? ⟨g, 3, none⟩ = some (.int .u16 0) ∧
  w.frozen? ⟨g, 0, none⟩ = false ∧ w.frozen? ⟨g, 1, none⟩ = false ∧ w.frozen? ⟨g, 2, none⟩ = false ∧ w.frozen? ⟨g, 3, none⟩ = false
theorem VX.z8 {w : World} {g : Nat} (h : VX 32 w g ⟨0, 0, 0, 0⟩) : Z8 w g :=
  ⟨h.cells.1, h.cells.2.1, h.cells.2.2.1, h.cells.2.2.2, h.thaw 0, h.thaw 1, h.thaw 2, h.thaw 3⟩

theorem S1.zs {w w' : World} {X Y g : Nat} {x y : Vec} (h : S1 w X Y x y g w') : w'.cell? ⟨g, 0, none⟩ = some (.int .u64 0) ∧ w'.cell? ⟨g, 1, none⟩ = some (.int .u32 0) ∧ w'.cell? ⟨g, 2, none⟩ = some (.int .u64 0) ∧ w'.cell? ⟨g, 3, none⟩ = some (.int .u16 0) ∧ w'.frozen? ⟨g, 0, none⟩ = false ∧ w'.frozen? ⟨g, 1, none⟩ = false ∧ w'.frozen? ⟨g, 2, none⟩ = false ∧ w'.frozen? ⟨g, 3, none⟩ = false := h.2.1.z8
theorem S2.zs {w w' : World} {X Y g k : Nat} {x y : Vec} (h : S2 w X Y x y g k w') : (w'.cell? ⟨g, 0, none⟩ = some (.int .u64 0) ∧ w'.cell? ⟨g, 1, none⟩ = some (.int .u32 0) ∧ w'.cell? ⟨g, 2, none⟩ = some (.int .u64 0) ∧ w'.cell? ⟨g, 3, none⟩ = some (.int .u16 0) ∧ w'.frozen? ⟨g, 0, none⟩ = false ∧ w'.frozen? ⟨g, 1, none⟩ = false ∧ w'.frozen? ⟨g, 2, none⟩ = false ∧ w'.frozen? ⟨g, 3, none⟩ = false) ∧ (w'.cell? ⟨k, 0, none⟩ = some (.int .u64 0) ∧ w'.cell? ⟨k, 1, none⟩ = some (.int .u32 0) ∧ w'.cell? ⟨k, 2, none⟩ = some (.int .u64 0) ∧ w'.cell? ⟨k, 3, none⟩ = some (.int .u16 0) ∧ w'.frozen? ⟨k, 0, none⟩ = false ∧ w'.frozen? ⟨k, 1, none⟩ = false ∧ w'.frozen? ⟨k, 2, none⟩ = false ∧ w'.frozen? ⟨k, 3, none⟩ = false) := ⟨h.1.2.1.z8, h.2.1.z8⟩
theorem S1.ls {w w' : World} {X Y g : Nat} {x y : Vec} (h : S1 w X Y x y g w') : g < w'.heap.size := h.2.1.lt
theorem S2.ls {w w' : World} {X Y g k : Nat} {x y : Vec} (h : S2 w X Y x y g k w') : ((g < w'.heap.size ∧ k < w'.heap.size) ∧ g < k) ∧ ¬ g = k ∧ ¬ k = g := ⟨⟨⟨h.1.2.1.lt, h.2.1.lt⟩, h.2.2⟩, by have := h.2.2; omega, by have := h.2.2; omega⟩
theorem H2.k0 {w w' : World} {X Y : Nat} {x y : Vec} (h : H2 w X Y x y w') : C8 w' X Y x y := h.cells
theorem H2.k1 {w w' : World} {X Y : Nat} {x y : Vec} (h : H2 w X Y x y w') (o : Obj) : C8 (w'.alloc o) X Y x y := (h.alloc o).cells
theorem H2.k2 {w w' : World} {X Y : Nat} {x y : Vec} (h : H2 w X Y x y w') (o o' : Obj) : C8 ((w'.alloc o).alloc o') X Y x y := ((h.alloc o).alloc o').cells
theorem S1.k0 {w w' : World} {X Y g : Nat} {x y : Vec} (h : S1 w X Y x y g w') : C8 w' X Y x y := h.1.k0
theorem S1.k1 {w w' : World} {X Y g : Nat} {x y : Vec} (h : S1 w X Y x y g w') (o : Obj) : C8 (w'.alloc o) X Y x y := h.1.k1 o
theorem S1.k2 {w w' : World} {X Y g : Nat} {x y : Vec} (h : S1 w X Y x y g w') (v : Vec) : C8 (put4 w' g v) X Y x y := (h.1.put4 h.2.2.1 h.2.2.2.1 h.2.2.2.2 v).k0
theorem S1.k3 {w w' : World} {X Y g : Nat} {x y : Vec} (h : S1 w X Y x y g w') (v : Vec) (o : Obj) : C8 ((put4 w' g v).alloc o) X Y x y := (h.1.put4 h.2.2.1 h.2.2.2.1 h.2.2.2.2 v).k1 o
theorem S2.k0 {w w' : World} {X Y g k : Nat} {x y : Vec} (h : S2 w X Y x y g k w') : C8 w' X Y x y := h.1.k0
theorem S2.k1 {w w' : World} {X Y g k : Nat} {x y : Vec} (h : S2 w X Y x y g k w') (v : Vec) : C8 (put4 w' g v) X Y x y := h.1.k2 v
theorem S2.pk {w w' : World} {X Y g k : Nat} {x y : Vec} (h : S2 w X Y x y g k w') (v : Vec) : H2 w X Y x y (put4 w' k v) :=
  h.1.1.put4 (by have := h.1.2.2.1; have := h.2.2; omega) (by have := h.1.2.2.2.1; have := h.2.2; omega) (by have := h.1.2.2.2.2; have := h.2.2; omega) v
theorem S2.k2 {w w' : World} {X Y g k : Nat} {x y : Vec} (h : S2 w X Y x y g k w') (v : Vec) : C8 (put4 w' k v) X Y x y := (h.pk v).k0
theorem S2.k3 {w w' : World} {X Y g k : Nat} {x y : Vec} (h : S2 w X Y x y g k w') (v u : Vec) : C8 (put4 (put4 w' k v) g u) X Y x y := ((h.pk v).put4 h.1.2.2.1 h.1.2.2.2.1 h.1.2.2.2.2 u).k0
theorem S2.k4 {w w' : World} {X Y g k : Nat} {x y : Vec} (h : S2 w X Y x y g k w') (v u : Vec) : C8 (put4 (put4 w' g v) k u) X Y x y :=
  ((h.1.1.put4 h.1.2.2.1 h.1.2.2.2.1 h.1.2.2.2.2 v).put4 (by have := h.1.2.2.1; have := h.2.2; omega) (by have := h.1.2.2.2.1; have := h.2.2; omega) (by have := h.1.2.2.2.2; have := h.2.2; omega) u).k0

/-- Two more beside the two: as the document has them. -/
def H4 (w : World) (X Y P Q : Nat) (x y : Vec) (w' : World) : Prop :=
  H2 w X Y x y w' ∧ VX 32 w' P x ∧ VX 32 w' Q y
theorem H4.below {w w' w'' : World} {X Y P Q : Nat} {x y : Vec} (h : H4 w X Y P Q x y w') (b : Below w'.heap.size w' w'') : H4 w X Y P Q x y w'' :=
  ⟨h.1.below b, h.2.1.below b h.2.1.lt, h.2.2.below b h.2.2.lt⟩
theorem H4.drew {w w' : World} {X Y P Q : Nat} {x y : Vec} (h : H4 w X Y P Q x y w') : H4 w X Y P Q x y w'.drew :=
  ⟨h.1.drew, h.2.1, h.2.2⟩

/-- What the law's last region reads. -/
def H6 (w : World) (X Y P Q V F : Nat) (x y : Vec) (t : Int) (w' : World) : Prop :=
  H4 w X Y P Q x y w' ∧ VX 28 w' V ⟨x.r, t, x.b, x.p⟩ ∧ VX 28 w' F ⟨x.r, t, x.b, x.p⟩
theorem H6.below {w w' w'' : World} {X Y P Q V F : Nat} {x y : Vec} {t : Int} (h : H6 w X Y P Q V F x y t w') (b : Below w'.heap.size w' w'') : H6 w X Y P Q V F x y t w'' :=
  ⟨h.1.below b, h.2.1.below b h.2.1.lt, h.2.2.below b h.2.2.lt⟩
theorem H6.drew {w w' : World} {X Y P Q V F : Nat} {x y : Vec} {t : Int} (h : H6 w X Y P Q V F x y t w') : H6 w X Y P Q V F x y t w'.drew :=
  ⟨h.1.drew, h.2.1, h.2.2⟩
theorem H6.cells {w w' : World} {X Y P Q V F : Nat} {x y : Vec} {t : Int} (h : H6 w X Y P Q V F x y t w') : w'.cell? ⟨X, 0, none⟩ = some (.int .u64 x.r) ∧ w'.cell? ⟨X, 1, none⟩ = some (.int .u32 x.c) ∧ w'.cell? ⟨X, 2, none⟩ = some (.int .u64 x.b) ∧ w'.cell? ⟨X, 3, none⟩ = some (.int .u16 x.p) ∧ w'.cell? ⟨Y, 0, none⟩ = some (.int .u64 y.r) ∧ w'.cell? ⟨Y, 1, none⟩ = some (.int .u32 y.c) ∧ w'.cell? ⟨Y, 2, none⟩ = some (.int .u64 y.b) ∧ w'.cell? ⟨Y, 3, none⟩ = some (.int .u16 y.p) ∧ w'.cell? ⟨V, 0, none⟩ = some (.int .u64 x.r) ∧ w'.cell? ⟨V, 1, none⟩ = some (.int .u32 t) ∧ w'.cell? ⟨V, 2, none⟩ = some (.int .u64 x.b) ∧ w'.cell? ⟨V, 3, none⟩ = some (.int .u16 x.p) ∧ w'.cell? ⟨F, 0, none⟩ = some (.int .u64 x.r) ∧ w'.cell? ⟨F, 1, none⟩ = some (.int .u32 t) ∧ w'.cell? ⟨F, 2, none⟩ = some (.int .u64 x.b) ∧ w'.cell? ⟨F, 3, none⟩ = some (.int .u16 x.p) ∧ w'.cell? ⟨P, 0, none⟩ = some (.int .u64 x.r) ∧ w'.cell? ⟨P, 1, none⟩ = some (.int .u32 x.c) ∧ w'.cell? ⟨P, 2, none⟩ = some (.int .u64 x.b) ∧ w'.cell? ⟨P, 3, none⟩ = some (.int .u16 x.p) ∧ w'.cell? ⟨Q, 0, none⟩ = some (.int .u64 y.r) ∧ w'.cell? ⟨Q, 1, none⟩ = some (.int .u32 y.c) ∧ w'.cell? ⟨Q, 2, none⟩ = some (.int .u64 y.b) ∧ w'.cell? ⟨Q, 3, none⟩ = some (.int .u16 y.p) :=
  ⟨h.1.1.1.cells.1, h.1.1.1.cells.2.1, h.1.1.1.cells.2.2.1, h.1.1.1.cells.2.2.2, h.1.1.2.1.cells.1, h.1.1.2.1.cells.2.1, h.1.1.2.1.cells.2.2.1, h.1.1.2.1.cells.2.2.2,
    h.2.1.cells.1, h.2.1.cells.2.1, h.2.1.cells.2.2.1, h.2.1.cells.2.2.2, h.2.2.cells.1, h.2.2.cells.2.1, h.2.2.cells.2.2.1, h.2.2.cells.2.2.2,
    h.1.2.1.cells.1, h.1.2.1.cells.2.1, h.1.2.1.cells.2.2.1, h.1.2.1.cells.2.2.2, h.1.2.2.cells.1, h.1.2.2.cells.2.1, h.1.2.2.cells.2.2.1, h.1.2.2.cells.2.2.2⟩
/-- A new block that holds a telling. -/
abbrev newV (w : World) (v : Vec) : World := w.alloc (.cells #[.int .u64 v.r, .int .u32 v.c, .int .u64 v.b, .int .u16 v.p] 32)
theorem newV_size (w : World) (v : Vec) : (newV w v).heap.size = w.heap.size + 1 := by simp
/-- The ends of the drawn orders. -/
theorem H2.e1 {w w' : World} {X Y : Nat} {x y : Vec} (h : H2 w X Y x y w') : H4 w X Y w'.heap.size (w'.heap.size + 1) x y (newV (newV w' x) y) :=
  ⟨(h.alloc _).alloc _, (VX.new _ w' x).alloc _, by have := VX.new 32 (newV w' x) y; rwa [newV_size] at this⟩
theorem H2.e2 {w w' : World} {X Y : Nat} {x y : Vec} (h : H2 w X Y x y w') : H4 w X Y (w'.heap.size + 1) w'.heap.size x y (newV (newV w' y) x) :=
  ⟨(h.alloc _).alloc _, by have := VX.new 32 (newV w' y) x; rwa [newV_size] at this, (VX.new _ w' y).alloc _⟩
theorem S1.e1 {w w' : World} {X Y g : Nat} {x y : Vec} (h : S1 w X Y x y g w') : H4 w X Y g w'.heap.size x y (newV (put4 w' g x) y) :=
  ⟨(h.1.put4 h.2.2.1 h.2.2.2.1 h.2.2.2.2 x).alloc _, (h.2.1.put4 x).alloc _, by have := VX.new 32 (put4 w' g x) y; simpa using this⟩
theorem S1.e2 {w w' : World} {X Y g : Nat} {x y : Vec} (h : S1 w X Y x y g w') : H4 w X Y w'.heap.size g x y (newV (put4 w' g y) x) :=
  ⟨(h.1.put4 h.2.2.1 h.2.2.2.1 h.2.2.2.2 y).alloc _, by have := VX.new 32 (put4 w' g y) x; simpa using this, (h.2.1.put4 y).alloc _⟩
theorem S2.e1 {w w' : World} {X Y g k : Nat} {x y : Vec} (h : S2 w X Y x y g k w') : H4 w X Y g k x y (put4 (put4 w' g x) k y) :=
  ⟨(h.1.1.put4 h.1.2.2.1 h.1.2.2.2.1 h.1.2.2.2.2 x).put4 (by have := h.1.2.2.1; have := h.2.2; omega) (by have := h.1.2.2.2.1; have := h.2.2; omega) (by have := h.1.2.2.2.2; have := h.2.2; omega) y,
    (h.1.2.1.put4 x).far4 (by have := h.2.2; omega) y, (h.2.1.far4 (by have := h.2.2; omega) x).put4 y⟩
theorem S2.e2 {w w' : World} {X Y g k : Nat} {x y : Vec} (h : S2 w X Y x y g k w') : H4 w X Y k g x y (put4 (put4 w' k x) g y) :=
  ⟨(h.pk x).put4 h.1.2.2.1 h.1.2.2.2.1 h.1.2.2.2.2 y, (h.2.1.put4 x).far4 (by have := h.2.2; omega) y, (h.1.2.1.far4 (by have := h.2.2; omega) x).put4 y⟩

set_option maxRecDepth 100000 in
set_option maxHeartbeats 1000000 in
theorem RankPlays_walk (x y : Vec) (o k : Int) (w : World) (vx : VB x) (vy : VB y) (wo : (Lit.int .u64 o).wf = true) (wk : (Lit.int .u32 k).wf = true) :
    Calls Try.prog 3 #[.agg #[.int .u64 x.r, .int .u32 x.c, .int .u64 x.b, .int .u16 x.p], .agg #[.int .u64 y.r, .int .u32 y.c, .int .u64 y.b, .int .u16 y.p], .int .u64 o, .int .u32 k] w fun e w' => e = .returned (.bool true) ∧ Below w.heap.size w w' := by
  obtain ⟨k0, k1⟩ := bounds_u32 wk
  have k2 : k < 4294967296 := by omega
  have HC := fun W => Lib.hid (cmp_v x y W)
  have HP := fun W => Lib.hid (plain_is x W)
  have HQ := fun W => Lib.hid (plain_is y W)
  have HV := fun W => Lib.hid (via_is x k vx k0 k2 W)
  have HF := fun W => Lib.hid (rfar_is x.c k vx.2.1.1 vx.2.1.2 k0 k2 W)
  have HG := fun W => Lib.hid (far_is x.c y.c vx.2.1.1 vx.2.1.2 vy.2.1.1 vy.2.1.2 W)
  have HH := fun W => Lib.hid (rfar_is x.c y.c vx.2.1.1 vx.2.1.2 vy.2.1.1 vy.2.1.2 W)
  obtain ⟨t, ht⟩ : ∃ t, farI x.c k = t := ⟨_, rfl⟩
  rw [ht] at HV HF
  obtain ⟨u, hu⟩ : ∃ u, farI x.c y.c = u := ⟨_, rfl⟩
  rw [hu] at HG HH
  clear ht hu k1 wk wo vx vy
  obtain ⟨s, hs⟩ : ∃ s, supB x y o = s := ⟨_, rfl⟩
  have HS := fun W => Lib.hid (sup_is x y o s (Lib.hid hs) W)
  have HR := fun W => Lib.hid (rsup_is x y o s (Lib.hid hs) W)
  clear hs
  have hw := want_is x y
  unfold wantI at hw
  obtain ⟨p, hp⟩ : ∃ p, lessB x y = p := ⟨_, rfl⟩
  obtain ⟨q, hq⟩ : ∃ q, lessB y x = q := ⟨_, rfl⟩
  have HL := fun W => Lib.hid (less_is x y p (Lib.hid hp) W)
  have HM := fun W => Lib.hid (less_is y x q (Lib.hid hq) W)
  rw [hp, hq] at hw
  clear hp hq
  obtain ⟨r, hr⟩ : ∃ r, decide (cmpV x y ≤ 0) = r := ⟨_, rfl⟩
  have HK := fun W => Lib.hid (keeps_is x y r hr W)
  obtain ⟨c, hc⟩ : ∃ c, cmpV x y = c := ⟨_, rfl⟩
  rw [hc] at HC hw hr
  clear hc
  have hw := Lib.hid hw
  have E1 := fun W => vec_eq x.r t x.b x.p x.r t x.b x.p true (by simp) W
  obtain ⟨wb, hwb, hx, hy, B⟩ := boxes2 28 w x y
  have hB : H2 w w.heap.size (w.heap.size + 1) x y wb := ⟨hx, hy, B⟩
  clear hx hy B
  go_enter Try.func3, Try.ntmps3
  go_wp2_with fail
  clear hwb
  (with_reducible refine (awake_rank _).mono ?_); rintro e w1 ⟨rfl, c1⟩
  have h1 := hB.below c1
  clear hB c1
  obtain ⟨X, hX⟩ : ∃ X, w.heap.size = X := ⟨_, rfl⟩
  obtain ⟨Y, hY⟩ : ∃ Y, w.heap.size + 1 = Y := ⟨_, rfl⟩
  rw [hY, hX] at h1
  rw [hY, hX]
  clear hX hY
  obtain ⟨x0, x1, x2, x3, y0, y1, y2, y3⟩ := h1.cells
  go_wp2_with fail
  (with_reducible refine (HC _).out.mono ?_); rintro e w2 ⟨rfl, b2⟩
  have h2 := h1.below b2
  clear h1 b2 x0 x1 x2 x3 y0 y1 y2 y3
  go_upto_region 4 with fail
  go_cut [10, 11] (fun p q wx => ∃ P Q, p = .pointer (some ⟨P, 0, none⟩) ∧ q = .pointer (some ⟨Q, 0, none⟩) ∧ H4 w X Y P Q x y wx)
  case first =>
    have K0 := Lib.hid h2.drew.k0
    have J1 := fun o => Lib.hid (h2.alloc o).drew.k0
    have J2 := fun o o' => Lib.hid ((h2.alloc o).alloc o').drew.k0
    go_region_held3 (fun w' => w'.cell? ⟨X, 0, none⟩ = some (.int .u64 x.r) ∧ w'.cell? ⟨X, 1, none⟩ = some (.int .u32 x.c) ∧ w'.cell? ⟨X, 2, none⟩ = some (.int .u64 x.b) ∧ w'.cell? ⟨X, 3, none⟩ = some (.int .u16 x.p) ∧ w'.cell? ⟨Y, 0, none⟩ = some (.int .u64 y.r) ∧ w'.cell? ⟨Y, 1, none⟩ = some (.int .u32 y.c) ∧ w'.cell? ⟨Y, 2, none⟩ = some (.int .u64 y.b) ∧ w'.cell? ⟨Y, 3, none⟩ = some (.int .u16 y.p)) (first | with_reducible exact K0.out | with_reducible exact (J1 _).out | with_reducible exact (J2 _ _).out | with_reducible exact K5.out | with_reducible exact (L5 _).out | with_reducible exact (M5 _ _).out | with_reducible exact K6.out | with_reducible exact (L6 _).out | with_reducible exact (M6 _).out | with_reducible exact (M6 _ _).out | with_reducible exact (N6 _ _).out | with_reducible exact (O6 _ _).out | assumption) (first
      | (go_at_call 10; (with_reducible refine (HP _).out.mono ?_); rintro e w5 ⟨rfl, b5⟩; (first | with_reducible have s5 := h2.drew.below b5 | with_reducible have s5 := h2.al.drew.below b5 | with_reducible have s5 := h2.al2.drew.below b5); have K5 := Lib.hid s5.k0; (try have L5 := fun o => Lib.hid (s5.k1 o)); (try have M5 := fun o o' => Lib.hid (s5.k2 o o')))
      | (go_at_call 10; (with_reducible refine (HQ _).out.mono ?_); rintro e w6 ⟨rfl, b6⟩; (first | with_reducible have s6 := s5.below b6 | with_reducible have s6 := s5.al.below b6 | with_reducible have s6 := s5.al2.below b6); have K6 := Lib.hid s6.k0; have L6 := fun o => Lib.hid (s6.k1 o); (first | have M6 := fun o o' => Lib.hid (s6.k2 o o') | have M6 := fun v => Lib.hid (s6.k2 v)); (try have N6 := fun v o => Lib.hid (s6.k3 v o)); (try have O6 := fun v o => Lib.hid (s6.k4 v o)); (first | (have m0 := s6.ls.1.1.1; have m1 := s6.ls.1.1.2; have m2 := s6.ls.1.2; have m3 := s6.ls.2.1; have m4 := s6.ls.2.2; have p0 := s6.zs.1.1; have p1 := s6.zs.1.2.1; have p2 := s6.zs.1.2.2.1; have p3 := s6.zs.1.2.2.2.1; have p4 := s6.zs.1.2.2.2.2.1; have p5 := s6.zs.1.2.2.2.2.2.1; have p6 := s6.zs.1.2.2.2.2.2.2.1; have p7 := s6.zs.1.2.2.2.2.2.2.2; have q0 := s6.zs.2.1; have q1 := s6.zs.2.2.1; have q2 := s6.zs.2.2.2.1; have q3 := s6.zs.2.2.2.2.1; have q4 := s6.zs.2.2.2.2.2.1; have q5 := s6.zs.2.2.2.2.2.2.1; have q6 := s6.zs.2.2.2.2.2.2.2.1; have q7 := s6.zs.2.2.2.2.2.2.2.2) | (have m0 := s6.ls; have p0 := s6.zs.1; have p1 := s6.zs.2.1; have p2 := s6.zs.2.2.1; have p3 := s6.zs.2.2.2.1; have p4 := s6.zs.2.2.2.2.1; have p5 := s6.zs.2.2.2.2.2.1; have p6 := s6.zs.2.2.2.2.2.2.1; have p7 := s6.zs.2.2.2.2.2.2.2) | skip)))
    all_goals go_wp2_with fail
    all_goals go_meet
    all_goals first | with_reducible exact ⟨_, _, rfl, rfl, s6.e1⟩ | with_reducible exact ⟨_, _, rfl, rfl, s6.e2⟩
  case rest =>
    obtain ⟨P, Q, rfl, rfl, h4⟩ := hcut
    clear h2
    obtain ⟨x0, x1, x2, x3⟩ := h4.2.1.cells
    obtain ⟨y0, y1, y2, y3⟩ := h4.2.2.cells
    go_wp2_with fail
    (with_reducible refine (HL _).out.mono ?_); rintro e w3 ⟨rfl, b3⟩
    have h5a := h4.below b3
    clear h4 b3 x0 x1 x2 x3 y0 y1 y2 y3
    go_upto_if 26 with fail
    go_cut [12] (fun v wx => v = .int .i64 (if p = true then -1 else 0) ∧ H4 w X Y P Q x y wx)
    case first =>
      cases p with
      | true =>
        go_wp2
        go_meet
        exact ⟨rfl, h5a⟩
      | false =>
        go_wp2
        go_meet
        exact ⟨rfl, h5a⟩
    case rest =>
      obtain ⟨rfl, h5⟩ := hcut
      clear h5a HL
      obtain ⟨n, hn⟩ : ∃ n : Int, (if p = true then -1 else 0) = n := ⟨_, rfl⟩
      have hw2 := hw.out
      rw [hn] at hw2
      have hw2 := Lib.hid hw2
      rw [hn]
      clear hn hw
      obtain ⟨x0, x1, x2, x3⟩ := h5.2.1.cells
      obtain ⟨y0, y1, y2, y3⟩ := h5.2.2.cells
      go_wp2_with fail
      (with_reducible refine (HM _).out.mono ?_); rintro e w3 ⟨rfl, b3⟩
      have h6a := h5.below b3
      clear h5 b3 x0 x1 x2 x3 y0 y1 y2 y3
      go_upto_if 29 with fail
      go_cut [12] (fun v wx => v = .int .i64 c ∧ H4 w X Y P Q x y wx)
      case first =>
        cases q with
        | true =>
          go_wp2
          go_meet
          exact ⟨by rw [← hw2.out]; rfl, h6a⟩
        | false =>
          go_wp2
          go_meet
          exact ⟨by rw [← hw2.out]; rfl, h6a⟩
      case rest =>
        obtain ⟨rfl, h6⟩ := hcut
        clear h6a HM hw2
        obtain ⟨x0, x1, x2, x3, y0, y1, y2, y3⟩ := h6.1.cells
        go_wp2_with fail
        clear x0 x1 x2 x3 y0 y1 y2 y3
        (with_reducible refine (HV _).out.mono ?_); rintro e w7 ⟨rfl, b7⟩
        have h7 := h6.below b7
        clear h6 b7
        obtain ⟨x0, x1, x2, x3, y0, y1, y2, y3⟩ := h7.1.cells
        have hxl := h7.1.1.lt
        have hyl := h7.1.2.1.lt
        obtain ⟨wd, hwd, hv, hf, Bd⟩ := boxes2 28 w7 ⟨x.r, t, x.b, x.p⟩ ⟨x.r, t, x.b, x.p⟩
        dsimp only at hwd
        have h8 := h7.below Bd
        go_wp2_with fail
        (with_reducible refine (HF _).out.mono ?_); rintro e w8 ⟨rfl, rfl⟩
        go_upto_region 13 with fail
        clear hwd x0 x1 x2 x3 y0 y1 y2 y3 hxl hyl h7 Bd
        obtain ⟨V, hV⟩ : ∃ V, w7.heap.size = V := ⟨_, rfl⟩
        rw [hV] at hv hf
        rw [hV]
        obtain ⟨F, hF⟩ : ∃ F, V + 1 = F := ⟨_, rfl⟩
        rw [hF] at hf
        rw [hF]
        clear hV hF
        have h9 : H6 w X Y P Q V F x y t wd := ⟨h8, hv, hf⟩
        clear h8 hv hf
        have K0 := Lib.hid h9.drew.cells
        go_region_held3 (fun w' => w'.cell? ⟨X, 0, none⟩ = some (.int .u64 x.r) ∧ w'.cell? ⟨X, 1, none⟩ = some (.int .u32 x.c) ∧ w'.cell? ⟨X, 2, none⟩ = some (.int .u64 x.b) ∧ w'.cell? ⟨X, 3, none⟩ = some (.int .u16 x.p) ∧ w'.cell? ⟨Y, 0, none⟩ = some (.int .u64 y.r) ∧ w'.cell? ⟨Y, 1, none⟩ = some (.int .u32 y.c) ∧ w'.cell? ⟨Y, 2, none⟩ = some (.int .u64 y.b) ∧ w'.cell? ⟨Y, 3, none⟩ = some (.int .u16 y.p) ∧ w'.cell? ⟨V, 0, none⟩ = some (.int .u64 x.r) ∧ w'.cell? ⟨V, 1, none⟩ = some (.int .u32 t) ∧ w'.cell? ⟨V, 2, none⟩ = some (.int .u64 x.b) ∧ w'.cell? ⟨V, 3, none⟩ = some (.int .u16 x.p) ∧ w'.cell? ⟨F, 0, none⟩ = some (.int .u64 x.r) ∧ w'.cell? ⟨F, 1, none⟩ = some (.int .u32 t) ∧ w'.cell? ⟨F, 2, none⟩ = some (.int .u64 x.b) ∧ w'.cell? ⟨F, 3, none⟩ = some (.int .u16 x.p) ∧ w'.cell? ⟨P, 0, none⟩ = some (.int .u64 x.r) ∧ w'.cell? ⟨P, 1, none⟩ = some (.int .u32 x.c) ∧ w'.cell? ⟨P, 2, none⟩ = some (.int .u64 x.b) ∧ w'.cell? ⟨P, 3, none⟩ = some (.int .u16 x.p) ∧ w'.cell? ⟨Q, 0, none⟩ = some (.int .u64 y.r) ∧ w'.cell? ⟨Q, 1, none⟩ = some (.int .u32 y.c) ∧ w'.cell? ⟨Q, 2, none⟩ = some (.int .u64 y.b) ∧ w'.cell? ⟨Q, 3, none⟩ = some (.int .u16 y.p)) (first | exact K0.out | exact K5.out | exact K6.out | assumption) (first
          | (go_at_call 14; (with_reducible refine (HK _).out.mono ?_); rintro e w5 ⟨rfl, b5⟩; have s5 := h9.drew.below b5; have K5 := Lib.hid s5.cells)
          | (go_at_call 15; (with_reducible refine (HG _).out.mono ?_); rintro e w6 ⟨rfl, rfl⟩)
          | (go_at_call 13; (with_reducible refine (HH _).out.mono ?_); rintro e w6 ⟨rfl, rfl⟩)
          | (go_at_call 16; (with_reducible refine (HS _).out.mono ?_); rintro e w6 ⟨rfl, b6⟩; have s6 := s5.below b6; have K6 := Lib.hid s6.cells)
          | (go_at_call 17; (with_reducible refine (HR _).out.mono ?_); rintro e w8 ⟨rfl, b8⟩; have s8 := s6.below b8; have K5 := Lib.hid s8.cells))
        all_goals go_wp2_with fail
        all_goals go_ret
        all_goals exact ⟨rfl, s8.1.1.2.2⟩

end Go.Proofs.Ytimldigjjbiemaa
