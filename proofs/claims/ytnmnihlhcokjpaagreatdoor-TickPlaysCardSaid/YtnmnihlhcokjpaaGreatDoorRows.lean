/-
  NARROWER THAN 'FOR EVERY INPUT', by the rows' own cells (each row's printed sentence says how): TickPlays: laid · TickOnce: laid.
  DERIVED. THE GIVEN ROWS OF THIS SEAT. 2 by the template 'for every input the law returns true; each argument reads behind the call as it read before'; 0 by the template 'total and deterministic' (their statements: YtnmnihlhcokjpaaGreatDoorTotals.lean).
  GIVEN WITH THE SEED: the statements are not yours to turn. If you find one false, say at which input.
  Laid BY PROGRAM, IN A SANDBOX (cutbox-rows.mjs): the forced cells as the released guide's own fill.sh prints them over the translation 8fdd6cc03745ec19… (all of the seat's roots in one cut). By AI agents, Wed Nov 11 2026. No macro, syntax, notation, axiom, sorry.
-/
import Derived.Test.YtnmnihlhcokjpaaGreatDoorChecked
import GoSem.Claim
import GoSem.ClaimJoined
import GoSem.ClaimMapViews
import Derived.JoinedTies
import Derived.KernelRfl
namespace Go.Proofs.YtnmnihlhcokjpaaGreatDoor
/- THE CELL 'sum', in the pinned program and in every row, IS THE sha256 OF THE DUMP (.gsa) THAT YtnmnihlhcokjpaaGreatDoorProg.lean LOADS. Nothing in Lean hashes anything: it is a label: what it is worth is what the hold of that sum in a sandbox is worth. -/
noncomputable def Tryz.pinned : Pinned := { name := "ytnmnihlhcokjpaagreatdoor", sum := "8fdd6cc03745ec19530c7846afab7ebbccfeb4b814536c2012453b1a6ba979a4", checked := Tryz.checked }
namespace Rows
def none {H : Type} : Left H := { results := [], args := [] }

/- WHAT THE LISTED PACKAGE-LEVEL VARIABLES READ AS WHEN THE CALL BEGINS. Each datum BY PROGRAM (the guide's laid-datum.mjs) off the statement by which the dump's own 'gosem.cut.vars' lays the variable. In a bare row this is a premise. The card (YtnmnihlhcokjpaaGreatDoorCards.lean) ties it to the program's text. -/
def laid_treeline_frame_bpduHead {H : Type} : DataW H := .agg [.lit (.int .u8 66), .lit (.int .u8 66), .lit (.int .u8 3)]

/-- 'treelinelaw16.TickPlays': WHATEVER THE INPUT: true; the input reads as it did. -/
def tickPlaysSpec : ChangeSpec := { name := "tickPlays", fn := fun _ => fun
  | [d] => { results := [.lit (.bool true)], args := [d] }
  | _ => none }
def tickPlaysRow : OpenClaim := { program := "ytnmnihlhcokjpaagreatdoor", sum := "8fdd6cc03745ec19530c7846afab7ebbccfeb4b814536c2012453b1a6ba979a4", func := "treeline/treelinelaw16.TickPlays", spec := "tickPlays", unfollowed := true, recurses := true, named := ["treeline/frame.bpduHead"], apart := false, laid := [("treeline/frame.bpduHead", laid_treeline_frame_bpduHead)] }
def TickPlaysSaid : Prop := tickPlaysRow.holds Tryz.pinned (OpenSpec.ofChange tickPlaysSpec)

/-- ITS FALSE NEIGHBOUR: 'it returns false'. Refute it at one input. -/
def tickPlaysWrong : ChangeSpec := { name := "tickPlays", fn := fun _ => fun
  | [d] => { results := [.lit (.bool false)], args := [d] }
  | _ => none }
def TickPlaysWrongFalsely : Prop := tickPlaysRow.holds Tryz.pinned (OpenSpec.ofChange tickPlaysWrong)

/-- 'treelinelaw16.TickOnce': WHATEVER THE INPUT: true; the input reads as it did. -/
def tickOnceSpec : ChangeSpec := { name := "tickOnce", fn := fun _ => fun
  | [d1, d2] => { results := [.lit (.bool true)], args := [d1, d2] }
  | _ => none }
def tickOnceRow : OpenClaim := { program := "ytnmnihlhcokjpaagreatdoor", sum := "8fdd6cc03745ec19530c7846afab7ebbccfeb4b814536c2012453b1a6ba979a4", func := "treeline/treelinelaw16.TickOnce", spec := "tickOnce", unfollowed := true, recurses := true, named := ["treeline/frame.bpduHead"], apart := false, laid := [("treeline/frame.bpduHead", laid_treeline_frame_bpduHead)] }
def TickOnceSaid : Prop := tickOnceRow.holds Tryz.pinned (OpenSpec.ofChange tickOnceSpec)

/-- ITS FALSE NEIGHBOUR: 'it returns false'. Refute it at one input. -/
def tickOnceWrong : ChangeSpec := { name := "tickOnce", fn := fun _ => fun
  | [d1, d2] => { results := [.lit (.bool false)], args := [d1, d2] }
  | _ => none }
def TickOnceWrongFalsely : Prop := tickOnceRow.holds Tryz.pinned (OpenSpec.ofChange tickOnceWrong)

/- THE SECOND FORM. 'bulk': how many values and letters a reading holds, each counted each time it is reached (what is shared counts as often as it is met; a slice's spare places count too). A statement '..UptoSaid' is the law's where the arguments, and the package variables that the reading takes, are together of bulk at most 1048576: NARROWER than '..Said'. Prove '..Said' where nothing that the law and all that it calls make is longer than what came in: it says more and counts as full. Else prove '..UptoSaid'. A law counts once. -/
mutual
def uptoBulk {H : Type} : DataW H → Nat
  | .lit (.string bytes) => bytes.length + 1
  | .lit _ => 1
  | .nil => 1
  | .ptr d => uptoBulk d + 1
  | .slice elems spare => uptoBulkAll elems + uptoBulkAll spare + 1
  | .agg parts => uptoBulkAll parts + 1
  | .iface _ d => uptoBulk d + 1
  | .map entries => uptoBulkEntries entries + 1
  | .held _ => 1
def uptoBulkAll {H : Type} : List (DataW H) → Nat
  | [] => 0
  | d :: r => uptoBulk d + uptoBulkAll r
def uptoBulkEntries {H : Type} : List (Lit × DataW H) → Nat
  | [] => 0
  | x :: r => uptoBulkEntry x + uptoBulkEntries r
def uptoBulkEntry {H : Type} : Lit × DataW H → Nat
  | (.string bytes, d) => bytes.length + uptoBulk d + 1
  | (_, d) => uptoBulk d + 1
 end
def uptoSmall : (H : Type) → List (DataW H) → Bool := fun _ ds => decide (uptoBulkAll ds ≤ 1048576)
def OpenSpec.upto (s : _root_.Go.ChangeSpec) : _root_.Go.OpenSpec := { _root_.Go.OpenSpec.ofChange s with cond := some uptoSmall }

/-- 'treelinelaw16.TickPlays', WHERE WHAT IT READS IS OF BULK AT MOST 1048576: true; the input reads as it did. -/
def tickPlaysUptoRow : OpenClaim := { program := "ytnmnihlhcokjpaagreatdoor", sum := "8fdd6cc03745ec19530c7846afab7ebbccfeb4b814536c2012453b1a6ba979a4", func := "treeline/treelinelaw16.TickPlays", spec := "tickPlays", unfollowed := true, recurses := true, named := ["treeline/frame.bpduHead"], apart := false, laid := [("treeline/frame.bpduHead", laid_treeline_frame_bpduHead)], narrowed := true }
def TickPlaysUptoSaid : Prop := tickPlaysUptoRow.holds Tryz.pinned (OpenSpec.upto tickPlaysSpec)

/-- 'treelinelaw16.TickOnce', WHERE WHAT IT READS IS OF BULK AT MOST 1048576: true; the input reads as it did. -/
def tickOnceUptoRow : OpenClaim := { program := "ytnmnihlhcokjpaagreatdoor", sum := "8fdd6cc03745ec19530c7846afab7ebbccfeb4b814536c2012453b1a6ba979a4", func := "treeline/treelinelaw16.TickOnce", spec := "tickOnce", unfollowed := true, recurses := true, named := ["treeline/frame.bpduHead"], apart := false, laid := [("treeline/frame.bpduHead", laid_treeline_frame_bpduHead)], narrowed := true }
def TickOnceUptoSaid : Prop := tickOnceUptoRow.holds Tryz.pinned (OpenSpec.upto tickOnceSpec)

end Rows
end Go.Proofs.YtnmnihlhcokjpaaGreatDoor
