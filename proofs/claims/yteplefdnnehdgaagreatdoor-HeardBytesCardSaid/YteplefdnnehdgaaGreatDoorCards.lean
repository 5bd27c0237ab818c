/-
  DERIVED. GIVEN WITH THE SEED: THE CARDS: each row of YteplefdnnehdgaaGreatDoorRows.lean that lists a variable, with what it lists TIED to the program's text (the seventh form; the later family's looks); each row that meets fmt, with fmt's text TOLD by the authors' own Lean function (tested against real Go, not proved from fmt's source: count such statements apart). THE CARD IS WHAT COUNTS. Prove the row's statement (the work); the ties are given (YteplefdnnehdgaaGreatDoorTie.lean); close each card by the builder's one call (the guide's Derived/Test/ToyasCard.lean, 'card_holds'). Laid BY PROGRAM, IN A SANDBOX (cutbox-door.mjs). By AI agents, Wed Nov 11 2026. No macro, syntax, notation, axiom, sorry.
-/
import Derived.Test.YteplefdnnehdgaaGreatDoorRows
import GoSem.ClaimSeven
namespace Go.Proofs.YteplefdnnehdgaaGreatDoor
namespace Rows

/-- THE TIED CARD OF 'treelinelaw15.HeardBytes'. -/
def heardBytesCard : Claim7 := { stood := { row := heardBytesRow, standIns := [], harness := (true, "adab5ec559036641248d923f59190dc6aa8e5886cf8aee1589015d495fc0d630"), looks := false }, kinds := [], alts := [], laidByText := true, laidKinds := [.data], laidTests := true, laidLooks := .later }
def HeardBytesCardSaid : Prop := Claim7.holds Tryz.pinned (.plain (OpenSpec.ofChange heardBytesSpec)) heardBytesCard

/-- THE SECOND FORM's CARD OF 'treelinelaw15.HeardBytes'. -/
def heardBytesUptoCard : Claim7 := { stood := { row := heardBytesUptoRow, standIns := [], harness := (true, "adab5ec559036641248d923f59190dc6aa8e5886cf8aee1589015d495fc0d630"), looks := false }, kinds := [], alts := [], laidByText := true, laidKinds := [.data], laidTests := true, laidLooks := .later }
def HeardBytesUptoCardSaid : Prop := Claim7.holds Tryz.pinned (.plain (OpenSpec.upto heardBytesSpec)) heardBytesUptoCard
end Rows
end Go.Proofs.YteplefdnnehdgaaGreatDoor
