/-
  DERIVED. GIVEN WITH THE SEED: THE CARDS: each row of YtbjcjeadnfckgaaDoorRows.lean that lists a variable, with what it lists TIED to the program's text (the seventh form; the later family's looks); each row that meets fmt, with fmt's text TOLD by the authors' own Lean function (tested against real Go, not proved from fmt's source: count such statements apart). THE CARD IS WHAT COUNTS. Prove the row's statement (the work); the ties are given (YtbjcjeadnfckgaaDoorTie.lean); close each card by the builder's one call (the guide's Derived/Test/ToyasCard.lean, 'card_holds'). Laid BY PROGRAM, IN A SANDBOX (cutbox-door.mjs). By AI agents, Wed Nov 11 2026. No macro, syntax, notation, axiom, sorry.
-/
import Derived.Test.YtbjcjeadnfckgaaDoorRows
import GoSem.ClaimSeven
namespace Go.Proofs.YtbjcjeadnfckgaaDoor
namespace Rows

/-- THE TIED CARD OF 'treelinelaw18.RelayPlays'. -/
def relayPlaysCard : Claim7 := { stood := { row := relayPlaysRow, standIns := [], harness := (true, "0eb922b4783e0f349dc89710553ac56513f8303fdc7bccbcd376c25c3ba2c851"), looks := false }, kinds := [], alts := [], laidByText := true, laidKinds := [.data], laidTests := true, laidLooks := .later }
def RelayPlaysCardSaid : Prop := Claim7.holds Tryd.pinned (.plain (OpenSpec.ofChange relayPlaysSpec)) relayPlaysCard

/-- THE TIED CARD OF 'treelinelaw18.RelayNever'. -/
def relayNeverCard : Claim7 := { stood := { row := relayNeverRow, standIns := [], harness := (true, "0eb922b4783e0f349dc89710553ac56513f8303fdc7bccbcd376c25c3ba2c851"), looks := false }, kinds := [], alts := [], laidByText := true, laidKinds := [.data], laidTests := true, laidLooks := .later }
def RelayNeverCardSaid : Prop := Claim7.holds Tryd.pinned (.plain (OpenSpec.ofChange relayNeverSpec)) relayNeverCard

/-- THE TIED CARD OF 'treelinelaw18.RelayKnown'. -/
def relayKnownCard : Claim7 := { stood := { row := relayKnownRow, standIns := [], harness := (true, "0eb922b4783e0f349dc89710553ac56513f8303fdc7bccbcd376c25c3ba2c851"), looks := false }, kinds := [], alts := [], laidByText := true, laidKinds := [.data], laidTests := true, laidLooks := .later }
def RelayKnownCardSaid : Prop := Claim7.holds Tryd.pinned (.plain (OpenSpec.ofChange relayKnownSpec)) relayKnownCard

/-- THE TIED CARD OF 'treelinelaw18.RelayTurned'. -/
def relayTurnedCard : Claim7 := { stood := { row := relayTurnedRow, standIns := [], harness := (true, "0eb922b4783e0f349dc89710553ac56513f8303fdc7bccbcd376c25c3ba2c851"), looks := false }, kinds := [], alts := [], laidByText := true, laidKinds := [.data], laidTests := true, laidLooks := .later }
def RelayTurnedCardSaid : Prop := Claim7.holds Tryd.pinned (.plain (OpenSpec.ofChange relayTurnedSpec)) relayTurnedCard

/-- THE SECOND FORM's CARD OF 'treelinelaw18.RelayPlays'. -/
def relayPlaysUptoCard : Claim7 := { stood := { row := relayPlaysUptoRow, standIns := [], harness := (true, "0eb922b4783e0f349dc89710553ac56513f8303fdc7bccbcd376c25c3ba2c851"), looks := false }, kinds := [], alts := [], laidByText := true, laidKinds := [.data], laidTests := true, laidLooks := .later }
def RelayPlaysUptoCardSaid : Prop := Claim7.holds Tryd.pinned (.plain (OpenSpec.upto relayPlaysSpec)) relayPlaysUptoCard

/-- THE SECOND FORM's CARD OF 'treelinelaw18.RelayNever'. -/
def relayNeverUptoCard : Claim7 := { stood := { row := relayNeverUptoRow, standIns := [], harness := (true, "0eb922b4783e0f349dc89710553ac56513f8303fdc7bccbcd376c25c3ba2c851"), looks := false }, kinds := [], alts := [], laidByText := true, laidKinds := [.data], laidTests := true, laidLooks := .later }
def RelayNeverUptoCardSaid : Prop := Claim7.holds Tryd.pinned (.plain (OpenSpec.upto relayNeverSpec)) relayNeverUptoCard

/-- THE SECOND FORM's CARD OF 'treelinelaw18.RelayKnown'. -/
def relayKnownUptoCard : Claim7 := { stood := { row := relayKnownUptoRow, standIns := [], harness := (true, "0eb922b4783e0f349dc89710553ac56513f8303fdc7bccbcd376c25c3ba2c851"), looks := false }, kinds := [], alts := [], laidByText := true, laidKinds := [.data], laidTests := true, laidLooks := .later }
def RelayKnownUptoCardSaid : Prop := Claim7.holds Tryd.pinned (.plain (OpenSpec.upto relayKnownSpec)) relayKnownUptoCard

/-- THE SECOND FORM's CARD OF 'treelinelaw18.RelayTurned'. -/
def relayTurnedUptoCard : Claim7 := { stood := { row := relayTurnedUptoRow, standIns := [], harness := (true, "0eb922b4783e0f349dc89710553ac56513f8303fdc7bccbcd376c25c3ba2c851"), looks := false }, kinds := [], alts := [], laidByText := true, laidKinds := [.data], laidTests := true, laidLooks := .later }
def RelayTurnedUptoCardSaid : Prop := Claim7.holds Tryd.pinned (.plain (OpenSpec.upto relayTurnedSpec)) relayTurnedUptoCard
end Rows
end Go.Proofs.YtbjcjeadnfckgaaDoor
