/-
  NARROWER THAN 'FOR EVERY INPUT', by the rows' own cells (each row's printed sentence says how): RelayPlays: laid · RelayNever: laid · RelayKnown: laid · RelayTurned: laid.
  DERIVED. THE GIVEN ROWS OF THIS SEAT. 4 by the template 'for every input the law returns true; each argument reads behind the call as it read before'; 0 by the template 'total and deterministic' (their statements: YtbjcjeadnfckgaaDoorTotals.lean).
  GIVEN WITH THE SEED: the statements are not yours to turn. If you find one false, say at which input.
  Laid BY PROGRAM, IN A SANDBOX (cutbox-rows.mjs): the forced cells as the released guide's own fill.sh prints them over the translation b94f6bceb6f609bc… (all of the seat's roots in one cut). By AI agents, Wed Nov 11 2026. No macro, syntax, notation, axiom, sorry.
-/
import Derived.Test.YtbjcjeadnfckgaaDoorChecked
import GoSem.Claim
import GoSem.ClaimJoined
import GoSem.ClaimMapViews
import Derived.JoinedTies
import Derived.KernelRfl
namespace Go.Proofs.YtbjcjeadnfckgaaDoor
/- THE CELL 'sum', in the pinned program and in every row, IS THE sha256 OF THE DUMP (.gsa) THAT YtbjcjeadnfckgaaDoorProg.lean LOADS. Nothing in Lean hashes anything: it is a label: what it is worth is what the hold of that sum in a sandbox is worth. -/
noncomputable def Tryd.pinned : Pinned := { name := "ytbjcjeadnfckgaadoor", sum := "b94f6bceb6f609bca9e122cb4af5fe2df5ea2d18226360f47c2a2e0bc391e719", checked := Tryd.checked }
namespace Rows
def none {H : Type} : Left H := { results := [], args := [] }

/- WHAT THE LISTED PACKAGE-LEVEL VARIABLES READ AS WHEN THE CALL BEGINS. Each datum BY PROGRAM (the guide's laid-datum.mjs) off the statement by which the dump's own 'gosem.cut.vars' lays the variable. In a bare row this is a premise. The card (YtbjcjeadnfckgaaDoorCards.lean) ties it to the program's text. -/
def laid_treeline_frame_bpduHead {H : Type} : DataW H := .agg [.lit (.int .u8 66), .lit (.int .u8 66), .lit (.int .u8 3)]

/-- 'treelinelaw18.RelayPlays': WHATEVER THE INPUT: true; the input reads as it did. -/
def relayPlaysSpec : ChangeSpec := { name := "relayPlays", fn := fun _ => fun
  | [d1, d2, d3, d4, d5] => { results := [.lit (.bool true)], args := [d1, d2, d3, d4, d5] }
  | _ => none }
def relayPlaysRow : OpenClaim := { program := "ytbjcjeadnfckgaadoor", sum := "b94f6bceb6f609bca9e122cb4af5fe2df5ea2d18226360f47c2a2e0bc391e719", func := "treeline/treelinelaw18.RelayPlays", spec := "relayPlays", unfollowed := true, recurses := true, named := ["treeline/frame.bpduHead"], apart := false, laid := [("treeline/frame.bpduHead", laid_treeline_frame_bpduHead)] }
def RelayPlaysSaid : Prop := relayPlaysRow.holds Tryd.pinned (OpenSpec.ofChange relayPlaysSpec)

/-- ITS FALSE NEIGHBOUR: 'it returns false'. Refute it at one input. -/
def relayPlaysWrong : ChangeSpec := { name := "relayPlays", fn := fun _ => fun
  | [d1, d2, d3, d4, d5] => { results := [.lit (.bool false)], args := [d1, d2, d3, d4, d5] }
  | _ => none }
def RelayPlaysWrongFalsely : Prop := relayPlaysRow.holds Tryd.pinned (OpenSpec.ofChange relayPlaysWrong)

/-- 'treelinelaw18.RelayNever': WHATEVER THE INPUT: true; the input reads as it did. -/
def relayNeverSpec : ChangeSpec := { name := "relayNever", fn := fun _ => fun
  | [d1, d2, d3, d4, d5] => { results := [.lit (.bool true)], args := [d1, d2, d3, d4, d5] }
  | _ => none }
def relayNeverRow : OpenClaim := { program := "ytbjcjeadnfckgaadoor", sum := "b94f6bceb6f609bca9e122cb4af5fe2df5ea2d18226360f47c2a2e0bc391e719", func := "treeline/treelinelaw18.RelayNever", spec := "relayNever", unfollowed := true, recurses := true, named := ["treeline/frame.bpduHead"], apart := false, laid := [("treeline/frame.bpduHead", laid_treeline_frame_bpduHead)] }
def RelayNeverSaid : Prop := relayNeverRow.holds Tryd.pinned (OpenSpec.ofChange relayNeverSpec)

/-- ITS FALSE NEIGHBOUR: 'it returns false'. Refute it at one input. -/
def relayNeverWrong : ChangeSpec := { name := "relayNever", fn := fun _ => fun
  | [d1, d2, d3, d4, d5] => { results := [.lit (.bool false)], args := [d1, d2, d3, d4, d5] }
  | _ => none }
def RelayNeverWrongFalsely : Prop := relayNeverRow.holds Tryd.pinned (OpenSpec.ofChange relayNeverWrong)

/-- 'treelinelaw18.RelayKnown': WHATEVER THE INPUT: true; the input reads as it did. -/
def relayKnownSpec : ChangeSpec := { name := "relayKnown", fn := fun _ => fun
  | [d1, d2, d3, d4] => { results := [.lit (.bool true)], args := [d1, d2, d3, d4] }
  | _ => none }
def relayKnownRow : OpenClaim := { program := "ytbjcjeadnfckgaadoor", sum := "b94f6bceb6f609bca9e122cb4af5fe2df5ea2d18226360f47c2a2e0bc391e719", func := "treeline/treelinelaw18.RelayKnown", spec := "relayKnown", unfollowed := true, recurses := true, named := ["treeline/frame.bpduHead"], apart := false, laid := [("treeline/frame.bpduHead", laid_treeline_frame_bpduHead)] }
def RelayKnownSaid : Prop := relayKnownRow.holds Tryd.pinned (OpenSpec.ofChange relayKnownSpec)

/-- ITS FALSE NEIGHBOUR: 'it returns false'. Refute it at one input. -/
def relayKnownWrong : ChangeSpec := { name := "relayKnown", fn := fun _ => fun
  | [d1, d2, d3, d4] => { results := [.lit (.bool false)], args := [d1, d2, d3, d4] }
  | _ => none }
def RelayKnownWrongFalsely : Prop := relayKnownRow.holds Tryd.pinned (OpenSpec.ofChange relayKnownWrong)

/-- 'treelinelaw18.RelayTurned': WHATEVER THE INPUT: true; the input reads as it did. -/
def relayTurnedSpec : ChangeSpec := { name := "relayTurned", fn := fun _ => fun
  | [d1, d2, d3, d4, d5, d6] => { results := [.lit (.bool true)], args := [d1, d2, d3, d4, d5, d6] }
  | _ => none }
def relayTurnedRow : OpenClaim := { program := "ytbjcjeadnfckgaadoor", sum := "b94f6bceb6f609bca9e122cb4af5fe2df5ea2d18226360f47c2a2e0bc391e719", func := "treeline/treelinelaw18.RelayTurned", spec := "relayTurned", unfollowed := true, recurses := true, named := ["treeline/frame.bpduHead"], apart := false, laid := [("treeline/frame.bpduHead", laid_treeline_frame_bpduHead)] }
def RelayTurnedSaid : Prop := relayTurnedRow.holds Tryd.pinned (OpenSpec.ofChange relayTurnedSpec)

/-- ITS FALSE NEIGHBOUR: 'it returns false'. Refute it at one input. -/
def relayTurnedWrong : ChangeSpec := { name := "relayTurned", fn := fun _ => fun
  | [d1, d2, d3, d4, d5, d6] => { results := [.lit (.bool false)], args := [d1, d2, d3, d4, d5, d6] }
  | _ => none }
def RelayTurnedWrongFalsely : Prop := relayTurnedRow.holds Tryd.pinned (OpenSpec.ofChange relayTurnedWrong)

/- THE SECOND FORM. 'bulk': how many values and letters a reading holds, each counted each time it is reached (what is shared counts as often as it is met; a slice's spare places count too). A statement '..UptoSaid' is the law's where the arguments, and the package variables that the reading takes, are together of bulk at most 1048576: NARROWER than '..Said'. Prove '..Said' where nothing that the law and all that it calls make is longer than what came in: it says more and counts as full. Else prove '..UptoSaid'. A law counts once. -/
mutual
def uptoBulk {H : Type} : DataW H → Nat
  | .lit (.string bytes) => bytes.length + 1
  | .lit _ => 1
  | .nil => 1
  | .ptr d => uptoBulk d + 1
  | .slice elems spare => uptoBulkAll elems + uptoBulkAll spare + 1
  | .agg parts => uptoBulkAll parts + 1
  | .iface _ d => uptoBulk d + 1
  | .map entries => uptoBulkEntries entries + 1
  | .held _ => 1
def uptoBulkAll {H : Type} : List (DataW H) → Nat
  | [] => 0
  | d :: r => uptoBulk d + uptoBulkAll r
def uptoBulkEntries {H : Type} : List (Lit × DataW H) → Nat
  | [] => 0
  | x :: r => uptoBulkEntry x + uptoBulkEntries r
def uptoBulkEntry {H : Type} : Lit × DataW H → Nat
  | (.string bytes, d) => bytes.length + uptoBulk d + 1
  | (_, d) => uptoBulk d + 1
 end
def uptoSmall : (H : Type) → List (DataW H) → Bool := fun _ ds => decide (uptoBulkAll ds ≤ 1048576)
def OpenSpec.upto (s : _root_.Go.ChangeSpec) : _root_.Go.OpenSpec := { _root_.Go.OpenSpec.ofChange s with cond := some uptoSmall }

/-- 'treelinelaw18.RelayPlays', WHERE WHAT IT READS IS OF BULK AT MOST 1048576: true; the input reads as it did. -/
def relayPlaysUptoRow : OpenClaim := { program := "ytbjcjeadnfckgaadoor", sum := "b94f6bceb6f609bca9e122cb4af5fe2df5ea2d18226360f47c2a2e0bc391e719", func := "treeline/treelinelaw18.RelayPlays", spec := "relayPlays", unfollowed := true, recurses := true, named := ["treeline/frame.bpduHead"], apart := false, laid := [("treeline/frame.bpduHead", laid_treeline_frame_bpduHead)], narrowed := true }
def RelayPlaysUptoSaid : Prop := relayPlaysUptoRow.holds Tryd.pinned (OpenSpec.upto relayPlaysSpec)

/-- 'treelinelaw18.RelayNever', WHERE WHAT IT READS IS OF BULK AT MOST 1048576: true; the input reads as it did. -/
def relayNeverUptoRow : OpenClaim := { program := "ytbjcjeadnfckgaadoor", sum := "b94f6bceb6f609bca9e122cb4af5fe2df5ea2d18226360f47c2a2e0bc391e719", func := "treeline/treelinelaw18.RelayNever", spec := "relayNever", unfollowed := true, recurses := true, named := ["treeline/frame.bpduHead"], apart := false, laid := [("treeline/frame.bpduHead", laid_treeline_frame_bpduHead)], narrowed := true }
def RelayNeverUptoSaid : Prop := relayNeverUptoRow.holds Tryd.pinned (OpenSpec.upto relayNeverSpec)

/-- 'treelinelaw18.RelayKnown', WHERE WHAT IT READS IS OF BULK AT MOST 1048576: true; the input reads as it did. -/
def relayKnownUptoRow : OpenClaim := { program := "ytbjcjeadnfckgaadoor", sum := "b94f6bceb6f609bca9e122cb4af5fe2df5ea2d18226360f47c2a2e0bc391e719", func := "treeline/treelinelaw18.RelayKnown", spec := "relayKnown", unfollowed := true, recurses := true, named := ["treeline/frame.bpduHead"], apart := false, laid := [("treeline/frame.bpduHead", laid_treeline_frame_bpduHead)], narrowed := true }
def RelayKnownUptoSaid : Prop := relayKnownUptoRow.holds Tryd.pinned (OpenSpec.upto relayKnownSpec)

/-- 'treelinelaw18.RelayTurned', WHERE WHAT IT READS IS OF BULK AT MOST 1048576: true; the input reads as it did. -/
def relayTurnedUptoRow : OpenClaim := { program := "ytbjcjeadnfckgaadoor", sum := "b94f6bceb6f609bca9e122cb4af5fe2df5ea2d18226360f47c2a2e0bc391e719", func := "treeline/treelinelaw18.RelayTurned", spec := "relayTurned", unfollowed := true, recurses := true, named := ["treeline/frame.bpduHead"], apart := false, laid := [("treeline/frame.bpduHead", laid_treeline_frame_bpduHead)], narrowed := true }
def RelayTurnedUptoSaid : Prop := relayTurnedUptoRow.holds Tryd.pinned (OpenSpec.upto relayTurnedSpec)

end Rows
end Go.Proofs.YtbjcjeadnfckgaaDoor
