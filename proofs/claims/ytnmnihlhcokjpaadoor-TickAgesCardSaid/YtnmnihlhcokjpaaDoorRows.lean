/-
  NARROWER THAN 'FOR EVERY INPUT', by the rows' own cells (each row's printed sentence says how): TickAges: laid · TickRises: laid · TickQuiet: laid · TickHellos: laid.
  DERIVED. THE GIVEN ROWS OF THIS SEAT. 4 by the template 'for every input the law returns true; each argument reads behind the call as it read before'; 0 by the template 'total and deterministic' (their statements: YtnmnihlhcokjpaaDoorTotals.lean).
  GIVEN WITH THE SEED: the statements are not yours to turn. If you find one false, say at which input.
  Laid BY PROGRAM, IN A SANDBOX (cutbox-rows.mjs): the forced cells as the released guide's own fill.sh prints them over the translation fc4c7064b7ab8729… (all of the seat's roots in one cut). By AI agents, Wed Nov 11 2026. No macro, syntax, notation, axiom, sorry.
-/
import Derived.Test.YtnmnihlhcokjpaaDoorChecked
import GoSem.Claim
import GoSem.ClaimJoined
import GoSem.ClaimMapViews
import Derived.JoinedTies
import Derived.KernelRfl
namespace Go.Proofs.YtnmnihlhcokjpaaDoor
/- THE CELL 'sum', in the pinned program and in every row, IS THE sha256 OF THE DUMP (.gsa) THAT YtnmnihlhcokjpaaDoorProg.lean LOADS. Nothing in Lean hashes anything: it is a label: what it is worth is what the hold of that sum in a sandbox is worth. -/
noncomputable def Tryd.pinned : Pinned := { name := "ytnmnihlhcokjpaadoor", sum := "fc4c7064b7ab8729aa0ace9a25421555fa15d6803773cfec297b9392a9ac5e8b", checked := Tryd.checked }
namespace Rows
def none {H : Type} : Left H := { results := [], args := [] }

/- WHAT THE LISTED PACKAGE-LEVEL VARIABLES READ AS WHEN THE CALL BEGINS. Each datum BY PROGRAM (the guide's laid-datum.mjs) off the statement by which the dump's own 'gosem.cut.vars' lays the variable. In a bare row this is a premise. The card (YtnmnihlhcokjpaaDoorCards.lean) ties it to the program's text. -/
def laid_treeline_frame_bpduHead {H : Type} : DataW H := .agg [.lit (.int .u8 66), .lit (.int .u8 66), .lit (.int .u8 3)]

/-- 'treelinelaw16.TickAges': WHATEVER THE INPUT: true; the input reads as it did. -/
def tickAgesSpec : ChangeSpec := { name := "tickAges", fn := fun _ => fun
  | [d] => { results := [.lit (.bool true)], args := [d] }
  | _ => none }
def tickAgesRow : OpenClaim := { program := "ytnmnihlhcokjpaadoor", sum := "fc4c7064b7ab8729aa0ace9a25421555fa15d6803773cfec297b9392a9ac5e8b", func := "treeline/treelinelaw16.TickAges", spec := "tickAges", unfollowed := true, recurses := true, named := ["treeline/frame.bpduHead"], apart := false, laid := [("treeline/frame.bpduHead", laid_treeline_frame_bpduHead)] }
def TickAgesSaid : Prop := tickAgesRow.holds Tryd.pinned (OpenSpec.ofChange tickAgesSpec)

/-- ITS FALSE NEIGHBOUR: 'it returns false'. Refute it at one input. -/
def tickAgesWrong : ChangeSpec := { name := "tickAges", fn := fun _ => fun
  | [d] => { results := [.lit (.bool false)], args := [d] }
  | _ => none }
def TickAgesWrongFalsely : Prop := tickAgesRow.holds Tryd.pinned (OpenSpec.ofChange tickAgesWrong)

/-- 'treelinelaw16.TickRises': WHATEVER THE INPUT: true; the input reads as it did. -/
def tickRisesSpec : ChangeSpec := { name := "tickRises", fn := fun _ => fun
  | [d] => { results := [.lit (.bool true)], args := [d] }
  | _ => none }
def tickRisesRow : OpenClaim := { program := "ytnmnihlhcokjpaadoor", sum := "fc4c7064b7ab8729aa0ace9a25421555fa15d6803773cfec297b9392a9ac5e8b", func := "treeline/treelinelaw16.TickRises", spec := "tickRises", unfollowed := true, recurses := true, named := ["treeline/frame.bpduHead"], apart := false, laid := [("treeline/frame.bpduHead", laid_treeline_frame_bpduHead)] }
def TickRisesSaid : Prop := tickRisesRow.holds Tryd.pinned (OpenSpec.ofChange tickRisesSpec)

/-- ITS FALSE NEIGHBOUR: 'it returns false'. Refute it at one input. -/
def tickRisesWrong : ChangeSpec := { name := "tickRises", fn := fun _ => fun
  | [d] => { results := [.lit (.bool false)], args := [d] }
  | _ => none }
def TickRisesWrongFalsely : Prop := tickRisesRow.holds Tryd.pinned (OpenSpec.ofChange tickRisesWrong)

/-- 'treelinelaw16.TickQuiet': WHATEVER THE INPUT: true; the input reads as it did. -/
def tickQuietSpec : ChangeSpec := { name := "tickQuiet", fn := fun _ => fun
  | [d] => { results := [.lit (.bool true)], args := [d] }
  | _ => none }
def tickQuietRow : OpenClaim := { program := "ytnmnihlhcokjpaadoor", sum := "fc4c7064b7ab8729aa0ace9a25421555fa15d6803773cfec297b9392a9ac5e8b", func := "treeline/treelinelaw16.TickQuiet", spec := "tickQuiet", unfollowed := true, recurses := true, named := ["treeline/frame.bpduHead"], apart := false, laid := [("treeline/frame.bpduHead", laid_treeline_frame_bpduHead)] }
def TickQuietSaid : Prop := tickQuietRow.holds Tryd.pinned (OpenSpec.ofChange tickQuietSpec)

/-- ITS FALSE NEIGHBOUR: 'it returns false'. Refute it at one input. -/
def tickQuietWrong : ChangeSpec := { name := "tickQuiet", fn := fun _ => fun
  | [d] => { results := [.lit (.bool false)], args := [d] }
  | _ => none }
def TickQuietWrongFalsely : Prop := tickQuietRow.holds Tryd.pinned (OpenSpec.ofChange tickQuietWrong)

/-- 'treelinelaw16.TickHellos': WHATEVER THE INPUT: true; the input reads as it did. -/
def tickHellosSpec : ChangeSpec := { name := "tickHellos", fn := fun _ => fun
  | [d1, d2] => { results := [.lit (.bool true)], args := [d1, d2] }
  | _ => none }
def tickHellosRow : OpenClaim := { program := "ytnmnihlhcokjpaadoor", sum := "fc4c7064b7ab8729aa0ace9a25421555fa15d6803773cfec297b9392a9ac5e8b", func := "treeline/treelinelaw16.TickHellos", spec := "tickHellos", unfollowed := true, recurses := true, named := ["treeline/frame.bpduHead"], apart := false, laid := [("treeline/frame.bpduHead", laid_treeline_frame_bpduHead)] }
def TickHellosSaid : Prop := tickHellosRow.holds Tryd.pinned (OpenSpec.ofChange tickHellosSpec)

/-- ITS FALSE NEIGHBOUR: 'it returns false'. Refute it at one input. -/
def tickHellosWrong : ChangeSpec := { name := "tickHellos", fn := fun _ => fun
  | [d1, d2] => { results := [.lit (.bool false)], args := [d1, d2] }
  | _ => none }
def TickHellosWrongFalsely : Prop := tickHellosRow.holds Tryd.pinned (OpenSpec.ofChange tickHellosWrong)

/- THE SECOND FORM. 'bulk': how many values and letters a reading holds, each counted each time it is reached (what is shared counts as often as it is met; a slice's spare places count too). A statement '..UptoSaid' is the law's where the arguments, and the package variables that the reading takes, are together of bulk at most 1048576: NARROWER than '..Said'. Prove '..Said' where nothing that the law and all that it calls make is longer than what came in: it says more and counts as full. Else prove '..UptoSaid'. A law counts once. -/
mutual
def uptoBulk {H : Type} : DataW H → Nat
  | .lit (.string bytes) => bytes.length + 1
  | .lit _ => 1
  | .nil => 1
  | .ptr d => uptoBulk d + 1
  | .slice elems spare => uptoBulkAll elems + uptoBulkAll spare + 1
  | .agg parts => uptoBulkAll parts + 1
  | .iface _ d => uptoBulk d + 1
  | .map entries => uptoBulkEntries entries + 1
  | .held _ => 1
def uptoBulkAll {H : Type} : List (DataW H) → Nat
  | [] => 0
  | d :: r => uptoBulk d + uptoBulkAll r
def uptoBulkEntries {H : Type} : List (Lit × DataW H) → Nat
  | [] => 0
  | x :: r => uptoBulkEntry x + uptoBulkEntries r
def uptoBulkEntry {H : Type} : Lit × DataW H → Nat
  | (.string bytes, d) => bytes.length + uptoBulk d + 1
  | (_, d) => uptoBulk d + 1
 end
def uptoSmall : (H : Type) → List (DataW H) → Bool := fun _ ds => decide (uptoBulkAll ds ≤ 1048576)
def OpenSpec.upto (s : _root_.Go.ChangeSpec) : _root_.Go.OpenSpec := { _root_.Go.OpenSpec.ofChange s with cond := some uptoSmall }

/-- 'treelinelaw16.TickAges', WHERE WHAT IT READS IS OF BULK AT MOST 1048576: true; the input reads as it did. -/
def tickAgesUptoRow : OpenClaim := { program := "ytnmnihlhcokjpaadoor", sum := "fc4c7064b7ab8729aa0ace9a25421555fa15d6803773cfec297b9392a9ac5e8b", func := "treeline/treelinelaw16.TickAges", spec := "tickAges", unfollowed := true, recurses := true, named := ["treeline/frame.bpduHead"], apart := false, laid := [("treeline/frame.bpduHead", laid_treeline_frame_bpduHead)], narrowed := true }
def TickAgesUptoSaid : Prop := tickAgesUptoRow.holds Tryd.pinned (OpenSpec.upto tickAgesSpec)

/-- 'treelinelaw16.TickRises', WHERE WHAT IT READS IS OF BULK AT MOST 1048576: true; the input reads as it did. -/
def tickRisesUptoRow : OpenClaim := { program := "ytnmnihlhcokjpaadoor", sum := "fc4c7064b7ab8729aa0ace9a25421555fa15d6803773cfec297b9392a9ac5e8b", func := "treeline/treelinelaw16.TickRises", spec := "tickRises", unfollowed := true, recurses := true, named := ["treeline/frame.bpduHead"], apart := false, laid := [("treeline/frame.bpduHead", laid_treeline_frame_bpduHead)], narrowed := true }
def TickRisesUptoSaid : Prop := tickRisesUptoRow.holds Tryd.pinned (OpenSpec.upto tickRisesSpec)

/-- 'treelinelaw16.TickQuiet', WHERE WHAT IT READS IS OF BULK AT MOST 1048576: true; the input reads as it did. -/
def tickQuietUptoRow : OpenClaim := { program := "ytnmnihlhcokjpaadoor", sum := "fc4c7064b7ab8729aa0ace9a25421555fa15d6803773cfec297b9392a9ac5e8b", func := "treeline/treelinelaw16.TickQuiet", spec := "tickQuiet", unfollowed := true, recurses := true, named := ["treeline/frame.bpduHead"], apart := false, laid := [("treeline/frame.bpduHead", laid_treeline_frame_bpduHead)], narrowed := true }
def TickQuietUptoSaid : Prop := tickQuietUptoRow.holds Tryd.pinned (OpenSpec.upto tickQuietSpec)

/-- 'treelinelaw16.TickHellos', WHERE WHAT IT READS IS OF BULK AT MOST 1048576: true; the input reads as it did. -/
def tickHellosUptoRow : OpenClaim := { program := "ytnmnihlhcokjpaadoor", sum := "fc4c7064b7ab8729aa0ace9a25421555fa15d6803773cfec297b9392a9ac5e8b", func := "treeline/treelinelaw16.TickHellos", spec := "tickHellos", unfollowed := true, recurses := true, named := ["treeline/frame.bpduHead"], apart := false, laid := [("treeline/frame.bpduHead", laid_treeline_frame_bpduHead)], narrowed := true }
def TickHellosUptoSaid : Prop := tickHellosUptoRow.holds Tryd.pinned (OpenSpec.upto tickHellosSpec)

end Rows
end Go.Proofs.YtnmnihlhcokjpaaDoor
