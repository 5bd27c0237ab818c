/- A timer in a block of its own. -/
import Derived.Test.YtdpdgipbcimnlaaWireMem
namespace Go.Proofs.Ytdpdgipbcimnlaa
open Go.ChangeShapes Go.WideShapes Go.ChangeAt Go.RowKit
set_option linter.unusedVariables false

/-- A timer in a block of its own. -/
def TM (w : World) (g : Nat) (o : Bool) (v : Int) : Prop := Bk w g 25 [.bool o, .int .i64 v]

theorem TM.new (w : World) (o : Bool) (v : Int) : TM (w.alloc (.cells #[.bool o, .int .i64 v] 25)) w.heap.size o v := heap_alloc_new w _
theorem TM.lt {w : World} {g : Nat} {o : Bool} {v : Int} (h : TM w g o v) : g < w.heap.size := Bk.lt h
theorem TM.below {w w' : World} {g B : Nat} {o : Bool} {v : Int} (h : TM w g o v) (hb : Below B w w') (hg : g < B) : TM w' g o v := Bk.below h hb hg
theorem TM.alloc {w : World} {g : Nat} {o : Bool} {v : Int} (h : TM w g o v) (x : Obj) : TM (w.alloc x) g o v := h.below ((Below.refl w.heap.size w).alloc (Nat.le_refl _) x) h.lt
theorem TM.drew {w : World} {g : Nat} {o : Bool} {v : Int} (h : TM w g o v) : TM w.drew g o v := h
theorem TM.cells {w : World} {g : Nat} {o : Bool} {v : Int} (h : TM w g o v) :
    w.cell? ⟨g, 0, none⟩ = some (.bool o) ∧ w.cell? ⟨g, 1, none⟩ = some (.int .i64 v) ∧ w.frozen? ⟨g, 0, none⟩ = false ∧ w.frozen? ⟨g, 1, none⟩ = false :=
  ⟨Bk.cell h 0, Bk.cell h 1, Bk.thaw h 0, Bk.thaw h 1⟩
theorem TM.set {w : World} {g : Nat} {o : Bool} {v : Int} (h : TM w g o v) (o' : Bool) (v' : Int) :
    TM ((w.setCell ⟨g, 0, none⟩ (.bool o')).setCell ⟨g, 1, none⟩ (.int .i64 v')) g o' v' := (Bk.set (Bk.set h 0 (.bool o')) 1 (.int .i64 v'))

end Go.Proofs.Ytdpdgipbcimnlaa
