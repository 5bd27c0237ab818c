/-
  DERIVED. GIVEN WITH THE SEED: THE CARDS: each row of YteplefdnnehdgaaDoorRows.lean that lists a variable, with what it lists TIED to the program's text (the seventh form; the later family's looks); each row that meets fmt, with fmt's text TOLD by the authors' own Lean function (tested against real Go, not proved from fmt's source: count such statements apart). THE CARD IS WHAT COUNTS. Prove the row's statement (the work); the ties are given (YteplefdnnehdgaaDoorTie.lean); close each card by the builder's one call (the guide's Derived/Test/ToyasCard.lean, 'card_holds'). Laid BY PROGRAM, IN A SANDBOX (cutbox-door.mjs). By AI agents, Wed Nov 11 2026. No macro, syntax, notation, axiom, sorry.
-/
import Derived.Test.YteplefdnnehdgaaDoorRows
import GoSem.ClaimSeven
namespace Go.Proofs.YteplefdnnehdgaaDoor
namespace Rows

/-- THE TIED CARD OF 'treelinelaw15.HeardBetter'. -/
def heardBetterCard : Claim7 := { stood := { row := heardBetterRow, standIns := [], harness := (true, "0f9d71a70ec853892bbb5c69e781a3a42c9e94bf3eace2610e1cb21099e41d65"), looks := false }, kinds := [], alts := [], laidByText := true, laidKinds := [.data], laidTests := true, laidLooks := .later }
def HeardBetterCardSaid : Prop := Claim7.holds Tryd.pinned (.plain (OpenSpec.ofChange heardBetterSpec)) heardBetterCard

/-- THE TIED CARD OF 'treelinelaw15.HeardReplies'. -/
def heardRepliesCard : Claim7 := { stood := { row := heardRepliesRow, standIns := [], harness := (true, "0f9d71a70ec853892bbb5c69e781a3a42c9e94bf3eace2610e1cb21099e41d65"), looks := false }, kinds := [], alts := [], laidByText := true, laidKinds := [.data], laidTests := true, laidLooks := .later }
def HeardRepliesCardSaid : Prop := Claim7.holds Tryd.pinned (.plain (OpenSpec.ofChange heardRepliesSpec)) heardRepliesCard

/-- THE TIED CARD OF 'treelinelaw15.HeardAcks'. -/
def heardAcksCard : Claim7 := { stood := { row := heardAcksRow, standIns := [], harness := (true, "0f9d71a70ec853892bbb5c69e781a3a42c9e94bf3eace2610e1cb21099e41d65"), looks := false }, kinds := [], alts := [], laidByText := true, laidKinds := [.data], laidTests := true, laidLooks := .later }
def HeardAcksCardSaid : Prop := Claim7.holds Tryd.pinned (.plain (OpenSpec.ofChange heardAcksSpec)) heardAcksCard

/-- THE TIED CARD OF 'treelinelaw15.HeardTwice'. -/
def heardTwiceCard : Claim7 := { stood := { row := heardTwiceRow, standIns := [], harness := (true, "0f9d71a70ec853892bbb5c69e781a3a42c9e94bf3eace2610e1cb21099e41d65"), looks := false }, kinds := [], alts := [], laidByText := true, laidKinds := [.data], laidTests := true, laidLooks := .later }
def HeardTwiceCardSaid : Prop := Claim7.holds Tryd.pinned (.plain (OpenSpec.ofChange heardTwiceSpec)) heardTwiceCard

/-- THE SECOND FORM's CARD OF 'treelinelaw15.HeardBetter'. -/
def heardBetterUptoCard : Claim7 := { stood := { row := heardBetterUptoRow, standIns := [], harness := (true, "0f9d71a70ec853892bbb5c69e781a3a42c9e94bf3eace2610e1cb21099e41d65"), looks := false }, kinds := [], alts := [], laidByText := true, laidKinds := [.data], laidTests := true, laidLooks := .later }
def HeardBetterUptoCardSaid : Prop := Claim7.holds Tryd.pinned (.plain (OpenSpec.upto heardBetterSpec)) heardBetterUptoCard

/-- THE SECOND FORM's CARD OF 'treelinelaw15.HeardReplies'. -/
def heardRepliesUptoCard : Claim7 := { stood := { row := heardRepliesUptoRow, standIns := [], harness := (true, "0f9d71a70ec853892bbb5c69e781a3a42c9e94bf3eace2610e1cb21099e41d65"), looks := false }, kinds := [], alts := [], laidByText := true, laidKinds := [.data], laidTests := true, laidLooks := .later }
def HeardRepliesUptoCardSaid : Prop := Claim7.holds Tryd.pinned (.plain (OpenSpec.upto heardRepliesSpec)) heardRepliesUptoCard

/-- THE SECOND FORM's CARD OF 'treelinelaw15.HeardAcks'. -/
def heardAcksUptoCard : Claim7 := { stood := { row := heardAcksUptoRow, standIns := [], harness := (true, "0f9d71a70ec853892bbb5c69e781a3a42c9e94bf3eace2610e1cb21099e41d65"), looks := false }, kinds := [], alts := [], laidByText := true, laidKinds := [.data], laidTests := true, laidLooks := .later }
def HeardAcksUptoCardSaid : Prop := Claim7.holds Tryd.pinned (.plain (OpenSpec.upto heardAcksSpec)) heardAcksUptoCard

/-- THE SECOND FORM's CARD OF 'treelinelaw15.HeardTwice'. -/
def heardTwiceUptoCard : Claim7 := { stood := { row := heardTwiceUptoRow, standIns := [], harness := (true, "0f9d71a70ec853892bbb5c69e781a3a42c9e94bf3eace2610e1cb21099e41d65"), looks := false }, kinds := [], alts := [], laidByText := true, laidKinds := [.data], laidTests := true, laidLooks := .later }
def HeardTwiceUptoCardSaid : Prop := Claim7.holds Tryd.pinned (.plain (OpenSpec.upto heardTwiceSpec)) heardTwiceUptoCard
end Rows
end Go.Proofs.YteplefdnnehdgaaDoor
