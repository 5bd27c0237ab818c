/- A region that draws its order, whose operations only read, and whose callees leave all that is older as it lay (they may draw, and lay blocks of their own, and write there): walked once, in the order of the text. The how-to's theorem on quiet regions, at the class 'the worlds that agree with w below its end'. -/
import Derived.Test.YtbjcjeadnfckgaaDoorProg
import Derived.BigQuiet
import Derived.Below
namespace Go.Proofs.YtbjcjeadnfckgaaDoor
set_option maxRecDepth 100000
open Go.RowKit
set_option linter.unusedVariables false

/-- A world that agrees with w on all blocks that w has. -/
structure LaterW (w : World) where
  w' : World
  h : Below w.heap.size w w'

instance (w : World) : Inhabited (LaterW w) := ⟨⟨w, Below.refl _ _⟩⟩

theorem region_later {P : Program} {id : Nat} {Q : Exit → Act → World → Prop} {a : Act} {w : World} {l : List Oper} (hm : P.follows .mixedOrders = true) (hB : Region.lexB .any l.toArray = true)
    (h : wpQuiet P l.toArray (fun v => ∃ p : LaterW w, v = p.w') (fun a' => ∀ v, (∃ p : LaterW w, v = p.w') → Q .normal a' v) l a) : (Code.region id l.toArray true).wp P Q a w :=
  wp_region_quiet (C := fun v => ∃ p : LaterW w, v = p.w') hm hB ⟨⟨w.drew, (Below.refl _ _).drew⟩, rfl⟩ (by simpa using h)

/-- A callee's contract, met in a world of the class. -/
theorem Calls.later {P : Program} {f : FuncId} {args : Array Value} {w : World} {q : LaterW w} {v : Value}
    (h : Calls P f args q.w' fun e v' => e = .returned v ∧ Below q.w'.heap.size q.w' v') : Calls P f args q.w' fun e v' => e = .returned v ∧ ∃ p : LaterW w, v' = p.w' :=
  h.mono fun _ v' ⟨he, hb⟩ => ⟨he, ⟨v', q.h.trans (hb.mono q.h.size)⟩, rfl⟩
theorem Calls.later_same {P : Program} {f : FuncId} {args : Array Value} {w : World} {q : LaterW w} {v : Value}
    (h : Calls P f args q.w' fun e v' => e = .returned v ∧ q.w' = v') : Calls P f args q.w' fun e v' => e = .returned v ∧ ∃ p : LaterW w, v' = p.w' :=
  h.mono fun _ v' ⟨he, hb⟩ => ⟨he, q, hb.symm⟩

/-- A cell that w has reads the same in every world of the class. -/
theorem later_cell {w : World} {a : Addr} {v : Value} (hb : a.block < w.heap.size) (h : w.cell? a = some v) (q : LaterW w) : q.w'.cell? a = some v :=
  (q.h.cell hb).trans h

theorem mixedL : Tryd.prog.follows .mixedOrders = true := by kernel_rfl

end Go.Proofs.YtbjcjeadnfckgaaDoor
