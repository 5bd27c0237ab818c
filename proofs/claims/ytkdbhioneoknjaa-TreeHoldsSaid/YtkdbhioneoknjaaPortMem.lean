/- A port, and what becomes of it: no program. -/
import Derived.Test.YtkdbhioneoknjaaHeld
import Derived.Test.YtkdbhioneoknjaaRankMath
namespace Go.Proofs.Ytkdbhioneoknjaa
set_option linter.unusedVariables false

/-- A port: its number, state and cost; what it holds; what it owes; its timers. -/
structure Po where
  id : Int
  st : Int
  co : Int
  hr : Int
  hc : Int
  hb : Int
  hp : Int
  ak : Bool
  pe : Bool
  ao : Bool
  av : Int
  yo : Bool
  yv : Int
  ho : Bool
  hv : Int

/-- What becomes of it. -/
def riseP (p : Po) : Po := if p.st = 1 then { p with st := 2, yo := true, yv := 0 } else p
def learnsB (s : Int) : Bool := decide (s = 3) || decide (s = 4)
def blockP (p : Po) : Po × Bool := if p.st = 0 ∨ p.st = 1 then (p, false) else ({ p with st := 1, yo := false, yv := 0 }, learnsB p.st)
def nextP (p : Po) : Po × Bool := if p.st = 2 then ({ p with st := 3, yo := true, yv := 0 }, false) else if p.st = 3 then ({ p with st := 4 }, true) else (p, false)

end Go.Proofs.Ytkdbhioneoknjaa
