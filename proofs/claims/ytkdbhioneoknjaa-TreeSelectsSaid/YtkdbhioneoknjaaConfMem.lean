/- A configuration in a block of its own, and its ports in memory. -/
import Derived.Test.YtkdbhioneoknjaaWireMem
import Derived.Test.YtkdbhioneoknjaaIdsBase
import Derived.Lib.Hide
namespace Go.Proofs.Ytkdbhioneoknjaa
open Go.ChangeShapes Go.WideShapes Go.ChangeAt Go.RowKit
set_option linter.unusedVariables false

/-- A configuration: its numbers, and where its ports lie. -/
structure Cf where
  ad : Int
  pr : Int
  ma : Int
  he : Int
  de : Int
  ag : Int
  tb : Int
  A : Option Addr
  n : Nat
  cap : Nat

/-- A port's configuration. -/
structure PV where
  pr : Int
  co : Int
  on : Bool

/-- The numbers' bounds. -/
def CB (c : Cf) : Prop := (0 ≤ c.ad ∧ c.ad ≤ 18446744073709551615) ∧ (0 ≤ c.pr ∧ c.pr ≤ 65535) ∧ (-9223372036854775808 ≤ c.ma ∧ c.ma ≤ 9223372036854775807) ∧ (-9223372036854775808 ≤ c.he ∧ c.he ≤ 9223372036854775807) ∧
  (-9223372036854775808 ≤ c.de ∧ c.de ≤ 9223372036854775807) ∧ (-9223372036854775808 ≤ c.ag ∧ c.ag ≤ 9223372036854775807) ∧ (-9223372036854775808 ≤ c.tb ∧ c.tb ≤ 9223372036854775807) ∧ c.n ≤ 9223372036854775807
def PB (p : PV) : Prop := (0 ≤ p.pr ∧ p.pr ≤ 255) ∧ 0 ≤ p.co ∧ p.co ≤ 4294967295

/-- The slice at 'a' holds the ports L, in blocks below B. -/
def PortsIn (w : World) (a : Option Addr) (B : Nat) (L : List PV) : Prop :=
  ∀ k x, L[k]? = some x → ∃ ad, a = some ad ∧ ad.block < B ∧ w.cell? (ad.add (k * 3)) = some (.int .u8 x.pr) ∧ w.cell? (ad.add (k * 3 + 1)) = some (.int .u32 x.co) ∧ w.cell? (ad.add (k * 3 + 2)) = some (.bool x.on) ∧ PB x

theorem PortsIn.below {w w' : World} {a : Option Addr} {B B' : Nat} {L : List PV} (h : PortsIn w a B L) (hb : Below B' w w') (hB : B ≤ B') : PortsIn w' a B L := fun k x e => by
  obtain ⟨ad, h1, h2, h3, h4, h5, h6⟩ := h k x e
  have kp : ∀ j, w'.cell? (ad.add j) = w.cell? (ad.add j) := fun j => hb.cell (p := ad.add j) (by rw [add_block]; omega)
  exact ⟨ad, h1, h2, (kp _).trans h3, (kp _).trans h4, (kp _).trans h5, h6⟩
theorem PortsIn.wide {w : World} {a : Option Addr} {B B' : Nat} {L : List PV} (h : PortsIn w a B L) (hB : B ≤ B') : PortsIn w a B' L := fun k x e => by
  obtain ⟨ad, h1, h2, h3⟩ := h k x e
  exact ⟨ad, h1, by omega, h3⟩
theorem PortsIn.drew {w : World} {a : Option Addr} {B : Nat} {L : List PV} (h : PortsIn w a B L) : PortsIn w.drew a B L := h

/-- A configuration in a block of its own. -/
def CX (w : World) (g : Nat) (c : Cf) : Prop := Bk w g 44 [.int .u64 c.ad, .int .u16 c.pr, .int .i64 c.ma, .int .i64 c.he, .int .i64 c.de, .int .i64 c.ag, .int .i64 c.tb, .slice c.A c.n c.cap]
/-- What the block's cells are. -/
def CC (w : World) (g : Nat) (c : Cf) : Prop :=
  w.cell? ⟨g, 0, none⟩ = some (.int .u64 c.ad) ∧ w.cell? ⟨g, 1, none⟩ = some (.int .u16 c.pr) ∧ w.cell? ⟨g, 2, none⟩ = some (.int .i64 c.ma) ∧ w.cell? ⟨g, 3, none⟩ = some (.int .i64 c.he) ∧
  w.cell? ⟨g, 4, none⟩ = some (.int .i64 c.de) ∧ w.cell? ⟨g, 5, none⟩ = some (.int .i64 c.ag) ∧ w.cell? ⟨g, 6, none⟩ = some (.int .i64 c.tb) ∧ w.cell? ⟨g, 7, none⟩ = some (.slice c.A c.n c.cap)

theorem CX.new (w : World) (c : Cf) : CX (w.alloc (.cells #[.int .u64 c.ad, .int .u16 c.pr, .int .i64 c.ma, .int .i64 c.he, .int .i64 c.de, .int .i64 c.ag, .int .i64 c.tb, .slice c.A c.n c.cap] 44)) w.heap.size c := heap_alloc_new w _
theorem CX.lt {w : World} {g : Nat} {c : Cf} (h : CX w g c) : g < w.heap.size := Bk.lt h
theorem CX.below {w w' : World} {g B : Nat} {c : Cf} (h : CX w g c) (hb : Below B w w') (hg : g < B) : CX w' g c := Bk.below h hb hg
theorem CX.alloc {w : World} {g : Nat} {c : Cf} (h : CX w g c) (o : Obj) : CX (w.alloc o) g c := h.below ((Below.refl w.heap.size w).alloc (Nat.le_refl _) o) h.lt
theorem CX.drew {w : World} {g : Nat} {c : Cf} (h : CX w g c) : CX w.drew g c := h
theorem CX.cells {w : World} {g : Nat} {c : Cf} (h : CX w g c) : CC w g c := ⟨Bk.cell h 0, Bk.cell h 1, Bk.cell h 2, Bk.cell h 3, Bk.cell h 4, Bk.cell h 5, Bk.cell h 6, Bk.cell h 7⟩
theorem CX.thaw {w : World} {g : Nat} {c : Cf} (h : CX w g c) (i : Nat) : w.frozen? ⟨g, i, none⟩ = false := Bk.thaw h i

/-- One that was boxed. -/
theorem cf_box (w : World) (c : Cf) : ∃ w', w.alloc (.cells #[.int .u64 c.ad, .int .u16 c.pr, .int .i64 c.ma, .int .i64 c.he, .int .i64 c.de, .int .i64 c.ag, .int .i64 c.tb, .slice c.A c.n c.cap] 44) = w' ∧ CX w' w.heap.size c ∧ Below w.heap.size w w' :=
  ⟨_, rfl, CX.new w c, (Below.refl _ _).alloc (Nat.le_refl _) _⟩

/-- Two that were boxed one behind the other. -/
theorem cf_box2 (w : World) (c d : Cf) : ∃ w', (w.alloc (.cells #[.int .u64 c.ad, .int .u16 c.pr, .int .i64 c.ma, .int .i64 c.he, .int .i64 c.de, .int .i64 c.ag, .int .i64 c.tb, .slice c.A c.n c.cap] 44)).alloc (.cells #[.int .u64 d.ad, .int .u16 d.pr, .int .i64 d.ma, .int .i64 d.he, .int .i64 d.de, .int .i64 d.ag, .int .i64 d.tb, .slice d.A d.n d.cap] 44) = w' ∧ CX w' w.heap.size c ∧ CX w' (w.heap.size + 1) d ∧ Below w.heap.size w w' := by
  refine ⟨_, rfl, (CX.new w c).alloc _, ?_, ((Below.refl _ _).alloc (Nat.le_refl _) _).alloc (by simp) _⟩
  have := CX.new (w.alloc (.cells #[.int .u64 c.ad, .int .u16 c.pr, .int .i64 c.ma, .int .i64 c.he, .int .i64 c.de, .int .i64 c.ag, .int .i64 c.tb, .slice c.A c.n c.cap] 44)) d
  simpa using this
/-- Its address changed. -/
theorem CX.set0 {w : World} {g : Nat} {c : Cf} (h : CX w g c) (x : Int) : CX (w.setCell ⟨g, 0, none⟩ (.int .u64 x)) g ⟨x, c.pr, c.ma, c.he, c.de, c.ag, c.tb, c.A, c.n, c.cap⟩ := Bk.set h 0 _
theorem CX.far {w : World} {g : Nat} {c : Cf} (h : CX w g c) {p : Addr} (hp : p.block ≠ g) (u : Value) : CX (w.setCell p u) g c := Bk.far h hp u

/-- A port in a block of its own. -/
def PX (w : World) (g : Nat) (p : PV) : Prop := Bk w g 54 [.int .u8 p.pr, .int .u32 p.co, .bool p.on]
theorem PX.new (w : World) (p : PV) : PX (w.alloc (.cells #[.int .u8 p.pr, .int .u32 p.co, .bool p.on] 54)) w.heap.size p := heap_alloc_new w _
theorem PX.lt {w : World} {g : Nat} {p : PV} (h : PX w g p) : g < w.heap.size := Bk.lt h
theorem PX.below {w w' : World} {g B : Nat} {p : PV} (h : PX w g p) (hb : Below B w w') (hg : g < B) : PX w' g p := Bk.below h hb hg
theorem PX.alloc {w : World} {g : Nat} {p : PV} (h : PX w g p) (o : Obj) : PX (w.alloc o) g p := h.below ((Below.refl w.heap.size w).alloc (Nat.le_refl _) o) h.lt
theorem PX.drew {w : World} {g : Nat} {p : PV} (h : PX w g p) : PX w.drew g p := h
theorem PX.cells {w : World} {g : Nat} {p : PV} (h : PX w g p) : w.cell? ⟨g, 0, none⟩ = some (.int .u8 p.pr) ∧ w.cell? ⟨g, 1, none⟩ = some (.int .u32 p.co) ∧ w.cell? ⟨g, 2, none⟩ = some (.bool p.on) := ⟨Bk.cell h 0, Bk.cell h 1, Bk.cell h 2⟩
theorem PX.thaw {w : World} {g : Nat} {p : PV} (h : PX w g p) (i : Nat) : w.frozen? ⟨g, i, none⟩ = false := Bk.thaw h i

end Go.Proofs.Ytkdbhioneoknjaa
