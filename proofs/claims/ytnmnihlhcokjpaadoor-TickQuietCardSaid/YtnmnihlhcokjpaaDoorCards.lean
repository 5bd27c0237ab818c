/-
  DERIVED. GIVEN WITH THE SEED: THE CARDS: each row of YtnmnihlhcokjpaaDoorRows.lean that lists a variable, with what it lists TIED to the program's text (the seventh form; the later family's looks); each row that meets fmt, with fmt's text TOLD by the authors' own Lean function (tested against real Go, not proved from fmt's source: count such statements apart). THE CARD IS WHAT COUNTS. Prove the row's statement (the work); the ties are given (YtnmnihlhcokjpaaDoorTie.lean); close each card by the builder's one call (the guide's Derived/Test/ToyasCard.lean, 'card_holds'). Laid BY PROGRAM, IN A SANDBOX (cutbox-door.mjs). By AI agents, Wed Nov 11 2026. No macro, syntax, notation, axiom, sorry.
-/
import Derived.Test.YtnmnihlhcokjpaaDoorRows
import GoSem.ClaimSeven
namespace Go.Proofs.YtnmnihlhcokjpaaDoor
namespace Rows

/-- THE TIED CARD OF 'treelinelaw16.TickAges'. -/
def tickAgesCard : Claim7 := { stood := { row := tickAgesRow, standIns := [], harness := (true, "13ffb39d4d7e9012846ca55eebe7789e8a9d5bf93c71548a9256d235d36a05cb"), looks := false }, kinds := [], alts := [], laidByText := true, laidKinds := [.data], laidTests := true, laidLooks := .later }
def TickAgesCardSaid : Prop := Claim7.holds Tryd.pinned (.plain (OpenSpec.ofChange tickAgesSpec)) tickAgesCard

/-- THE TIED CARD OF 'treelinelaw16.TickRises'. -/
def tickRisesCard : Claim7 := { stood := { row := tickRisesRow, standIns := [], harness := (true, "13ffb39d4d7e9012846ca55eebe7789e8a9d5bf93c71548a9256d235d36a05cb"), looks := false }, kinds := [], alts := [], laidByText := true, laidKinds := [.data], laidTests := true, laidLooks := .later }
def TickRisesCardSaid : Prop := Claim7.holds Tryd.pinned (.plain (OpenSpec.ofChange tickRisesSpec)) tickRisesCard

/-- THE TIED CARD OF 'treelinelaw16.TickQuiet'. -/
def tickQuietCard : Claim7 := { stood := { row := tickQuietRow, standIns := [], harness := (true, "13ffb39d4d7e9012846ca55eebe7789e8a9d5bf93c71548a9256d235d36a05cb"), looks := false }, kinds := [], alts := [], laidByText := true, laidKinds := [.data], laidTests := true, laidLooks := .later }
def TickQuietCardSaid : Prop := Claim7.holds Tryd.pinned (.plain (OpenSpec.ofChange tickQuietSpec)) tickQuietCard

/-- THE TIED CARD OF 'treelinelaw16.TickHellos'. -/
def tickHellosCard : Claim7 := { stood := { row := tickHellosRow, standIns := [], harness := (true, "13ffb39d4d7e9012846ca55eebe7789e8a9d5bf93c71548a9256d235d36a05cb"), looks := false }, kinds := [], alts := [], laidByText := true, laidKinds := [.data], laidTests := true, laidLooks := .later }
def TickHellosCardSaid : Prop := Claim7.holds Tryd.pinned (.plain (OpenSpec.ofChange tickHellosSpec)) tickHellosCard

/-- THE SECOND FORM's CARD OF 'treelinelaw16.TickAges'. -/
def tickAgesUptoCard : Claim7 := { stood := { row := tickAgesUptoRow, standIns := [], harness := (true, "13ffb39d4d7e9012846ca55eebe7789e8a9d5bf93c71548a9256d235d36a05cb"), looks := false }, kinds := [], alts := [], laidByText := true, laidKinds := [.data], laidTests := true, laidLooks := .later }
def TickAgesUptoCardSaid : Prop := Claim7.holds Tryd.pinned (.plain (OpenSpec.upto tickAgesSpec)) tickAgesUptoCard

/-- THE SECOND FORM's CARD OF 'treelinelaw16.TickRises'. -/
def tickRisesUptoCard : Claim7 := { stood := { row := tickRisesUptoRow, standIns := [], harness := (true, "13ffb39d4d7e9012846ca55eebe7789e8a9d5bf93c71548a9256d235d36a05cb"), looks := false }, kinds := [], alts := [], laidByText := true, laidKinds := [.data], laidTests := true, laidLooks := .later }
def TickRisesUptoCardSaid : Prop := Claim7.holds Tryd.pinned (.plain (OpenSpec.upto tickRisesSpec)) tickRisesUptoCard

/-- THE SECOND FORM's CARD OF 'treelinelaw16.TickQuiet'. -/
def tickQuietUptoCard : Claim7 := { stood := { row := tickQuietUptoRow, standIns := [], harness := (true, "13ffb39d4d7e9012846ca55eebe7789e8a9d5bf93c71548a9256d235d36a05cb"), looks := false }, kinds := [], alts := [], laidByText := true, laidKinds := [.data], laidTests := true, laidLooks := .later }
def TickQuietUptoCardSaid : Prop := Claim7.holds Tryd.pinned (.plain (OpenSpec.upto tickQuietSpec)) tickQuietUptoCard

/-- THE SECOND FORM's CARD OF 'treelinelaw16.TickHellos'. -/
def tickHellosUptoCard : Claim7 := { stood := { row := tickHellosUptoRow, standIns := [], harness := (true, "13ffb39d4d7e9012846ca55eebe7789e8a9d5bf93c71548a9256d235d36a05cb"), looks := false }, kinds := [], alts := [], laidByText := true, laidKinds := [.data], laidTests := true, laidLooks := .later }
def TickHellosUptoCardSaid : Prop := Claim7.holds Tryd.pinned (.plain (OpenSpec.upto tickHellosSpec)) tickHellosUptoCard
end Rows
end Go.Proofs.YtnmnihlhcokjpaaDoor
