/-
  DERIVED. GIVEN WITH THE SEED: THE CARDS: each row of YtcamakkicmapcaaDoorRows.lean that lists a variable, with what it lists TIED to the program's text (the seventh form; the later family's looks); each row that meets fmt, with fmt's text TOLD by the authors' own Lean function (tested against real Go, not proved from fmt's source: count such statements apart). THE CARD IS WHAT COUNTS. Prove the row's statement (the work); the ties are given (YtcamakkicmapcaaDoorTie.lean); close each card by the builder's one call (the guide's Derived/Test/ToyasCard.lean, 'card_holds'). Laid BY PROGRAM, IN A SANDBOX (cutbox-door.mjs). By AI agents, Wed Nov 11 2026. No macro, syntax, notation, axiom, sorry.
-/
import Derived.Test.YtcamakkicmapcaaDoorRows
import GoSem.ClaimSeven
namespace Go.Proofs.YtcamakkicmapcaaDoor
namespace Rows

/-- THE TIED CARD OF 'treelinelaw14.SendTells'. -/
def sendTellsCard : Claim7 := { stood := { row := sendTellsRow, standIns := [], harness := (true, "c563640d48d4c8ff441d27d23f188afa5ed31b2f1bac8046117244ecba454297"), looks := false }, kinds := [], alts := [], laidByText := true, laidKinds := [.data], laidTests := true, laidLooks := .later }
def SendTellsCardSaid : Prop := Claim7.holds Tryd.pinned (.plain (OpenSpec.ofChange sendTellsSpec)) sendTellsCard

/-- THE TIED CARD OF 'treelinelaw14.SendDetects'. -/
def sendDetectsCard : Claim7 := { stood := { row := sendDetectsRow, standIns := [], harness := (true, "c563640d48d4c8ff441d27d23f188afa5ed31b2f1bac8046117244ecba454297"), looks := false }, kinds := [], alts := [], laidByText := true, laidKinds := [.data], laidTests := true, laidLooks := .later }
def SendDetectsCardSaid : Prop := Claim7.holds Tryd.pinned (.plain (OpenSpec.ofChange sendDetectsSpec)) sendDetectsCard

/-- THE TIED CARD OF 'treelinelaw14.SendHolds'. -/
def sendHoldsCard : Claim7 := { stood := { row := sendHoldsRow, standIns := [], harness := (true, "c563640d48d4c8ff441d27d23f188afa5ed31b2f1bac8046117244ecba454297"), looks := false }, kinds := [], alts := [], laidByText := true, laidKinds := [.data], laidTests := true, laidLooks := .later }
def SendHoldsCardSaid : Prop := Claim7.holds Tryd.pinned (.plain (OpenSpec.ofChange sendHoldsSpec)) sendHoldsCard

/-- THE TIED CARD OF 'treelinelaw14.SendOlder'. -/
def sendOlderCard : Claim7 := { stood := { row := sendOlderRow, standIns := [], harness := (true, "c563640d48d4c8ff441d27d23f188afa5ed31b2f1bac8046117244ecba454297"), looks := false }, kinds := [], alts := [], laidByText := true, laidKinds := [.data], laidTests := true, laidLooks := .later }
def SendOlderCardSaid : Prop := Claim7.holds Tryd.pinned (.plain (OpenSpec.ofChange sendOlderSpec)) sendOlderCard

/-- THE TIED CARD OF 'treelinelaw14.SendOnce'. -/
def sendOnceCard : Claim7 := { stood := { row := sendOnceRow, standIns := [], harness := (true, "c563640d48d4c8ff441d27d23f188afa5ed31b2f1bac8046117244ecba454297"), looks := false }, kinds := [], alts := [], laidByText := true, laidKinds := [.data], laidTests := true, laidLooks := .later }
def SendOnceCardSaid : Prop := Claim7.holds Tryd.pinned (.plain (OpenSpec.ofChange sendOnceSpec)) sendOnceCard

/-- THE SECOND FORM's CARD OF 'treelinelaw14.SendTells'. -/
def sendTellsUptoCard : Claim7 := { stood := { row := sendTellsUptoRow, standIns := [], harness := (true, "c563640d48d4c8ff441d27d23f188afa5ed31b2f1bac8046117244ecba454297"), looks := false }, kinds := [], alts := [], laidByText := true, laidKinds := [.data], laidTests := true, laidLooks := .later }
def SendTellsUptoCardSaid : Prop := Claim7.holds Tryd.pinned (.plain (OpenSpec.upto sendTellsSpec)) sendTellsUptoCard

/-- THE SECOND FORM's CARD OF 'treelinelaw14.SendDetects'. -/
def sendDetectsUptoCard : Claim7 := { stood := { row := sendDetectsUptoRow, standIns := [], harness := (true, "c563640d48d4c8ff441d27d23f188afa5ed31b2f1bac8046117244ecba454297"), looks := false }, kinds := [], alts := [], laidByText := true, laidKinds := [.data], laidTests := true, laidLooks := .later }
def SendDetectsUptoCardSaid : Prop := Claim7.holds Tryd.pinned (.plain (OpenSpec.upto sendDetectsSpec)) sendDetectsUptoCard

/-- THE SECOND FORM's CARD OF 'treelinelaw14.SendHolds'. -/
def sendHoldsUptoCard : Claim7 := { stood := { row := sendHoldsUptoRow, standIns := [], harness := (true, "c563640d48d4c8ff441d27d23f188afa5ed31b2f1bac8046117244ecba454297"), looks := false }, kinds := [], alts := [], laidByText := true, laidKinds := [.data], laidTests := true, laidLooks := .later }
def SendHoldsUptoCardSaid : Prop := Claim7.holds Tryd.pinned (.plain (OpenSpec.upto sendHoldsSpec)) sendHoldsUptoCard

/-- THE SECOND FORM's CARD OF 'treelinelaw14.SendOlder'. -/
def sendOlderUptoCard : Claim7 := { stood := { row := sendOlderUptoRow, standIns := [], harness := (true, "c563640d48d4c8ff441d27d23f188afa5ed31b2f1bac8046117244ecba454297"), looks := false }, kinds := [], alts := [], laidByText := true, laidKinds := [.data], laidTests := true, laidLooks := .later }
def SendOlderUptoCardSaid : Prop := Claim7.holds Tryd.pinned (.plain (OpenSpec.upto sendOlderSpec)) sendOlderUptoCard

/-- THE SECOND FORM's CARD OF 'treelinelaw14.SendOnce'. -/
def sendOnceUptoCard : Claim7 := { stood := { row := sendOnceUptoRow, standIns := [], harness := (true, "c563640d48d4c8ff441d27d23f188afa5ed31b2f1bac8046117244ecba454297"), looks := false }, kinds := [], alts := [], laidByText := true, laidKinds := [.data], laidTests := true, laidLooks := .later }
def SendOnceUptoCardSaid : Prop := Claim7.holds Tryd.pinned (.plain (OpenSpec.upto sendOnceSpec)) sendOnceUptoCard
end Rows
end Go.Proofs.YtcamakkicmapcaaDoor
