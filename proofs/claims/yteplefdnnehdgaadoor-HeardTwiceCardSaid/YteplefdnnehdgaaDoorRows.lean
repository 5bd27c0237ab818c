/-
  NARROWER THAN 'FOR EVERY INPUT', by the rows' own cells (each row's printed sentence says how): HeardBetter: laid · HeardReplies: laid · HeardAcks: laid · HeardTwice: laid.
  DERIVED. THE GIVEN ROWS OF THIS SEAT. 4 by the template 'for every input the law returns true; each argument reads behind the call as it read before'; 0 by the template 'total and deterministic' (their statements: YteplefdnnehdgaaDoorTotals.lean).
  GIVEN WITH THE SEED: the statements are not yours to turn. If you find one false, say at which input.
  Laid BY PROGRAM, IN A SANDBOX (cutbox-rows.mjs): the forced cells as the released guide's own fill.sh prints them over the translation 0f1dec308ab6986d… (all of the seat's roots in one cut). By AI agents, Wed Nov 11 2026. No macro, syntax, notation, axiom, sorry.
-/
import Derived.Test.YteplefdnnehdgaaDoorChecked
import GoSem.Claim
import GoSem.ClaimJoined
import GoSem.ClaimMapViews
import Derived.JoinedTies
import Derived.KernelRfl
namespace Go.Proofs.YteplefdnnehdgaaDoor
/- THE CELL 'sum', in the pinned program and in every row, IS THE sha256 OF THE DUMP (.gsa) THAT YteplefdnnehdgaaDoorProg.lean LOADS. Nothing in Lean hashes anything: it is a label: what it is worth is what the hold of that sum in a sandbox is worth. -/
noncomputable def Tryd.pinned : Pinned := { name := "yteplefdnnehdgaadoor", sum := "0f1dec308ab6986d5dbb3dec884b5a6ab7188af6ace5fa5c83c90640e62e2d44", checked := Tryd.checked }
namespace Rows
def none {H : Type} : Left H := { results := [], args := [] }

/- WHAT THE LISTED PACKAGE-LEVEL VARIABLES READ AS WHEN THE CALL BEGINS. Each datum BY PROGRAM (the guide's laid-datum.mjs) off the statement by which the dump's own 'gosem.cut.vars' lays the variable. In a bare row this is a premise. The card (YteplefdnnehdgaaDoorCards.lean) ties it to the program's text. -/
def laid_treeline_frame_bpduHead {H : Type} : DataW H := .agg [.lit (.int .u8 66), .lit (.int .u8 66), .lit (.int .u8 3)]

/-- 'treelinelaw15.HeardBetter': WHATEVER THE INPUT: true; the input reads as it did. -/
def heardBetterSpec : ChangeSpec := { name := "heardBetter", fn := fun _ => fun
  | [d1, d2, d3] => { results := [.lit (.bool true)], args := [d1, d2, d3] }
  | _ => none }
def heardBetterRow : OpenClaim := { program := "yteplefdnnehdgaadoor", sum := "0f1dec308ab6986d5dbb3dec884b5a6ab7188af6ace5fa5c83c90640e62e2d44", func := "treeline/treelinelaw15.HeardBetter", spec := "heardBetter", unfollowed := true, recurses := true, named := ["treeline/frame.bpduHead"], apart := false, laid := [("treeline/frame.bpduHead", laid_treeline_frame_bpduHead)] }
def HeardBetterSaid : Prop := heardBetterRow.holds Tryd.pinned (OpenSpec.ofChange heardBetterSpec)

/-- ITS FALSE NEIGHBOUR: 'it returns false'. Refute it at one input. -/
def heardBetterWrong : ChangeSpec := { name := "heardBetter", fn := fun _ => fun
  | [d1, d2, d3] => { results := [.lit (.bool false)], args := [d1, d2, d3] }
  | _ => none }
def HeardBetterWrongFalsely : Prop := heardBetterRow.holds Tryd.pinned (OpenSpec.ofChange heardBetterWrong)

/-- 'treelinelaw15.HeardReplies': WHATEVER THE INPUT: true; the input reads as it did. -/
def heardRepliesSpec : ChangeSpec := { name := "heardReplies", fn := fun _ => fun
  | [d1, d2, d3] => { results := [.lit (.bool true)], args := [d1, d2, d3] }
  | _ => none }
def heardRepliesRow : OpenClaim := { program := "yteplefdnnehdgaadoor", sum := "0f1dec308ab6986d5dbb3dec884b5a6ab7188af6ace5fa5c83c90640e62e2d44", func := "treeline/treelinelaw15.HeardReplies", spec := "heardReplies", unfollowed := true, recurses := true, named := ["treeline/frame.bpduHead"], apart := false, laid := [("treeline/frame.bpduHead", laid_treeline_frame_bpduHead)] }
def HeardRepliesSaid : Prop := heardRepliesRow.holds Tryd.pinned (OpenSpec.ofChange heardRepliesSpec)

/-- ITS FALSE NEIGHBOUR: 'it returns false'. Refute it at one input. -/
def heardRepliesWrong : ChangeSpec := { name := "heardReplies", fn := fun _ => fun
  | [d1, d2, d3] => { results := [.lit (.bool false)], args := [d1, d2, d3] }
  | _ => none }
def HeardRepliesWrongFalsely : Prop := heardRepliesRow.holds Tryd.pinned (OpenSpec.ofChange heardRepliesWrong)

/-- 'treelinelaw15.HeardAcks': WHATEVER THE INPUT: true; the input reads as it did. -/
def heardAcksSpec : ChangeSpec := { name := "heardAcks", fn := fun _ => fun
  | [d1, d2] => { results := [.lit (.bool true)], args := [d1, d2] }
  | _ => none }
def heardAcksRow : OpenClaim := { program := "yteplefdnnehdgaadoor", sum := "0f1dec308ab6986d5dbb3dec884b5a6ab7188af6ace5fa5c83c90640e62e2d44", func := "treeline/treelinelaw15.HeardAcks", spec := "heardAcks", unfollowed := true, recurses := true, named := ["treeline/frame.bpduHead"], apart := false, laid := [("treeline/frame.bpduHead", laid_treeline_frame_bpduHead)] }
def HeardAcksSaid : Prop := heardAcksRow.holds Tryd.pinned (OpenSpec.ofChange heardAcksSpec)

/-- ITS FALSE NEIGHBOUR: 'it returns false'. Refute it at one input. -/
def heardAcksWrong : ChangeSpec := { name := "heardAcks", fn := fun _ => fun
  | [d1, d2] => { results := [.lit (.bool false)], args := [d1, d2] }
  | _ => none }
def HeardAcksWrongFalsely : Prop := heardAcksRow.holds Tryd.pinned (OpenSpec.ofChange heardAcksWrong)

/-- 'treelinelaw15.HeardTwice': WHATEVER THE INPUT: true; the input reads as it did. -/
def heardTwiceSpec : ChangeSpec := { name := "heardTwice", fn := fun _ => fun
  | [d1, d2, d3] => { results := [.lit (.bool true)], args := [d1, d2, d3] }
  | _ => none }
def heardTwiceRow : OpenClaim := { program := "yteplefdnnehdgaadoor", sum := "0f1dec308ab6986d5dbb3dec884b5a6ab7188af6ace5fa5c83c90640e62e2d44", func := "treeline/treelinelaw15.HeardTwice", spec := "heardTwice", unfollowed := true, recurses := true, named := ["treeline/frame.bpduHead"], apart := false, laid := [("treeline/frame.bpduHead", laid_treeline_frame_bpduHead)] }
def HeardTwiceSaid : Prop := heardTwiceRow.holds Tryd.pinned (OpenSpec.ofChange heardTwiceSpec)

/-- ITS FALSE NEIGHBOUR: 'it returns false'. Refute it at one input. -/
def heardTwiceWrong : ChangeSpec := { name := "heardTwice", fn := fun _ => fun
  | [d1, d2, d3] => { results := [.lit (.bool false)], args := [d1, d2, d3] }
  | _ => none }
def HeardTwiceWrongFalsely : Prop := heardTwiceRow.holds Tryd.pinned (OpenSpec.ofChange heardTwiceWrong)

/- THE SECOND FORM. 'bulk': how many values and letters a reading holds, each counted each time it is reached (what is shared counts as often as it is met; a slice's spare places count too). A statement '..UptoSaid' is the law's where the arguments, and the package variables that the reading takes, are together of bulk at most 1048576: NARROWER than '..Said'. Prove '..Said' where nothing that the law and all that it calls make is longer than what came in: it says more and counts as full. Else prove '..UptoSaid'. A law counts once. -/
mutual
def uptoBulk {H : Type} : DataW H → Nat
  | .lit (.string bytes) => bytes.length + 1
  | .lit _ => 1
  | .nil => 1
  | .ptr d => uptoBulk d + 1
  | .slice elems spare => uptoBulkAll elems + uptoBulkAll spare + 1
  | .agg parts => uptoBulkAll parts + 1
  | .iface _ d => uptoBulk d + 1
  | .map entries => uptoBulkEntries entries + 1
  | .held _ => 1
def uptoBulkAll {H : Type} : List (DataW H) → Nat
  | [] => 0
  | d :: r => uptoBulk d + uptoBulkAll r
def uptoBulkEntries {H : Type} : List (Lit × DataW H) → Nat
  | [] => 0
  | x :: r => uptoBulkEntry x + uptoBulkEntries r
def uptoBulkEntry {H : Type} : Lit × DataW H → Nat
  | (.string bytes, d) => bytes.length + uptoBulk d + 1
  | (_, d) => uptoBulk d + 1
 end
def uptoSmall : (H : Type) → List (DataW H) → Bool := fun _ ds => decide (uptoBulkAll ds ≤ 1048576)
def OpenSpec.upto (s : _root_.Go.ChangeSpec) : _root_.Go.OpenSpec := { _root_.Go.OpenSpec.ofChange s with cond := some uptoSmall }

/-- 'treelinelaw15.HeardBetter', WHERE WHAT IT READS IS OF BULK AT MOST 1048576: true; the input reads as it did. -/
def heardBetterUptoRow : OpenClaim := { program := "yteplefdnnehdgaadoor", sum := "0f1dec308ab6986d5dbb3dec884b5a6ab7188af6ace5fa5c83c90640e62e2d44", func := "treeline/treelinelaw15.HeardBetter", spec := "heardBetter", unfollowed := true, recurses := true, named := ["treeline/frame.bpduHead"], apart := false, laid := [("treeline/frame.bpduHead", laid_treeline_frame_bpduHead)], narrowed := true }
def HeardBetterUptoSaid : Prop := heardBetterUptoRow.holds Tryd.pinned (OpenSpec.upto heardBetterSpec)

/-- 'treelinelaw15.HeardReplies', WHERE WHAT IT READS IS OF BULK AT MOST 1048576: true; the input reads as it did. -/
def heardRepliesUptoRow : OpenClaim := { program := "yteplefdnnehdgaadoor", sum := "0f1dec308ab6986d5dbb3dec884b5a6ab7188af6ace5fa5c83c90640e62e2d44", func := "treeline/treelinelaw15.HeardReplies", spec := "heardReplies", unfollowed := true, recurses := true, named := ["treeline/frame.bpduHead"], apart := false, laid := [("treeline/frame.bpduHead", laid_treeline_frame_bpduHead)], narrowed := true }
def HeardRepliesUptoSaid : Prop := heardRepliesUptoRow.holds Tryd.pinned (OpenSpec.upto heardRepliesSpec)

/-- 'treelinelaw15.HeardAcks', WHERE WHAT IT READS IS OF BULK AT MOST 1048576: true; the input reads as it did. -/
def heardAcksUptoRow : OpenClaim := { program := "yteplefdnnehdgaadoor", sum := "0f1dec308ab6986d5dbb3dec884b5a6ab7188af6ace5fa5c83c90640e62e2d44", func := "treeline/treelinelaw15.HeardAcks", spec := "heardAcks", unfollowed := true, recurses := true, named := ["treeline/frame.bpduHead"], apart := false, laid := [("treeline/frame.bpduHead", laid_treeline_frame_bpduHead)], narrowed := true }
def HeardAcksUptoSaid : Prop := heardAcksUptoRow.holds Tryd.pinned (OpenSpec.upto heardAcksSpec)

/-- 'treelinelaw15.HeardTwice', WHERE WHAT IT READS IS OF BULK AT MOST 1048576: true; the input reads as it did. -/
def heardTwiceUptoRow : OpenClaim := { program := "yteplefdnnehdgaadoor", sum := "0f1dec308ab6986d5dbb3dec884b5a6ab7188af6ace5fa5c83c90640e62e2d44", func := "treeline/treelinelaw15.HeardTwice", spec := "heardTwice", unfollowed := true, recurses := true, named := ["treeline/frame.bpduHead"], apart := false, laid := [("treeline/frame.bpduHead", laid_treeline_frame_bpduHead)], narrowed := true }
def HeardTwiceUptoSaid : Prop := heardTwiceUptoRow.holds Tryd.pinned (OpenSpec.upto heardTwiceSpec)

end Rows
end Go.Proofs.YteplefdnnehdgaaDoor
