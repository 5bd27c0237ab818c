/-
  DERIVED. GIVEN WITH THE SEED: THE CARDS: each row of YtnmnihlhcokjpaaGreatDoorRows.lean that lists a variable, with what it lists TIED to the program's text (the seventh form; the later family's looks); each row that meets fmt, with fmt's text TOLD by the authors' own Lean function (tested against real Go, not proved from fmt's source: count such statements apart). THE CARD IS WHAT COUNTS. Prove the row's statement (the work); the ties are given (YtnmnihlhcokjpaaGreatDoorTie.lean); close each card by the builder's one call (the guide's Derived/Test/ToyasCard.lean, 'card_holds'). Laid BY PROGRAM, IN A SANDBOX (cutbox-door.mjs). By AI agents, Wed Nov 11 2026. No macro, syntax, notation, axiom, sorry.
-/
import Derived.Test.YtnmnihlhcokjpaaGreatDoorRows
import GoSem.ClaimSeven
namespace Go.Proofs.YtnmnihlhcokjpaaGreatDoor
namespace Rows

/-- THE TIED CARD OF 'treelinelaw16.TickPlays'. -/
def tickPlaysCard : Claim7 := { stood := { row := tickPlaysRow, standIns := [], harness := (true, "91e8d483fe234fe84f8d33607a3281c760a5a93db5b6c8dc3c85ab3876438fbe"), looks := false }, kinds := [], alts := [], laidByText := true, laidKinds := [.data], laidTests := true, laidLooks := .later }
def TickPlaysCardSaid : Prop := Claim7.holds Tryz.pinned (.plain (OpenSpec.ofChange tickPlaysSpec)) tickPlaysCard

/-- THE TIED CARD OF 'treelinelaw16.TickOnce'. -/
def tickOnceCard : Claim7 := { stood := { row := tickOnceRow, standIns := [], harness := (true, "91e8d483fe234fe84f8d33607a3281c760a5a93db5b6c8dc3c85ab3876438fbe"), looks := false }, kinds := [], alts := [], laidByText := true, laidKinds := [.data], laidTests := true, laidLooks := .later }
def TickOnceCardSaid : Prop := Claim7.holds Tryz.pinned (.plain (OpenSpec.ofChange tickOnceSpec)) tickOnceCard

/-- THE SECOND FORM's CARD OF 'treelinelaw16.TickPlays'. -/
def tickPlaysUptoCard : Claim7 := { stood := { row := tickPlaysUptoRow, standIns := [], harness := (true, "91e8d483fe234fe84f8d33607a3281c760a5a93db5b6c8dc3c85ab3876438fbe"), looks := false }, kinds := [], alts := [], laidByText := true, laidKinds := [.data], laidTests := true, laidLooks := .later }
def TickPlaysUptoCardSaid : Prop := Claim7.holds Tryz.pinned (.plain (OpenSpec.upto tickPlaysSpec)) tickPlaysUptoCard

/-- THE SECOND FORM's CARD OF 'treelinelaw16.TickOnce'. -/
def tickOnceUptoCard : Claim7 := { stood := { row := tickOnceUptoRow, standIns := [], harness := (true, "91e8d483fe234fe84f8d33607a3281c760a5a93db5b6c8dc3c85ab3876438fbe"), looks := false }, kinds := [], alts := [], laidByText := true, laidKinds := [.data], laidTests := true, laidLooks := .later }
def TickOnceUptoCardSaid : Prop := Claim7.holds Tryz.pinned (.plain (OpenSpec.upto tickOnceSpec)) tickOnceUptoCard
end Rows
end Go.Proofs.YtnmnihlhcokjpaaGreatDoor
