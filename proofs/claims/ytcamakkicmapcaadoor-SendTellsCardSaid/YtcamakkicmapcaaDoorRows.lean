/-
  NARROWER THAN 'FOR EVERY INPUT', by the rows' own cells (each row's printed sentence says how): SendTells: laid · SendDetects: laid · SendHolds: laid · SendOlder: laid · SendOnce: laid.
  DERIVED. THE GIVEN ROWS OF THIS SEAT. 5 by the template 'for every input the law returns true; each argument reads behind the call as it read before'; 0 by the template 'total and deterministic' (their statements: YtcamakkicmapcaaDoorTotals.lean).
  GIVEN WITH THE SEED: the statements are not yours to turn. If you find one false, say at which input.
  Laid BY PROGRAM, IN A SANDBOX (cutbox-rows.mjs): the forced cells as the released guide's own fill.sh prints them over the translation e0a696e23a6db01a… (all of the seat's roots in one cut). By AI agents, Wed Nov 11 2026. No macro, syntax, notation, axiom, sorry.
-/
import Derived.Test.YtcamakkicmapcaaDoorChecked
import GoSem.Claim
import GoSem.ClaimJoined
import GoSem.ClaimMapViews
import Derived.JoinedTies
import Derived.KernelRfl
namespace Go.Proofs.YtcamakkicmapcaaDoor
/- THE CELL 'sum', in the pinned program and in every row, IS THE sha256 OF THE DUMP (.gsa) THAT YtcamakkicmapcaaDoorProg.lean LOADS. Nothing in Lean hashes anything: it is a label: what it is worth is what the hold of that sum in a sandbox is worth. -/
noncomputable def Tryd.pinned : Pinned := { name := "ytcamakkicmapcaadoor", sum := "e0a696e23a6db01a9b951fe2cb7031b0d0bad9fb97f2fadad3e354a67dd5f2a0", checked := Tryd.checked }
namespace Rows
def none {H : Type} : Left H := { results := [], args := [] }

/- WHAT THE LISTED PACKAGE-LEVEL VARIABLES READ AS WHEN THE CALL BEGINS. Each datum BY PROGRAM (the guide's laid-datum.mjs) off the statement by which the dump's own 'gosem.cut.vars' lays the variable. In a bare row this is a premise. The card (YtcamakkicmapcaaDoorCards.lean) ties it to the program's text. -/
def laid_treeline_frame_bpduHead {H : Type} : DataW H := .agg [.lit (.int .u8 66), .lit (.int .u8 66), .lit (.int .u8 3)]

/-- 'treelinelaw14.SendTells': WHATEVER THE INPUT: true; the input reads as it did. -/
def sendTellsSpec : ChangeSpec := { name := "sendTells", fn := fun _ => fun
  | [d1, d2] => { results := [.lit (.bool true)], args := [d1, d2] }
  | _ => none }
def sendTellsRow : OpenClaim := { program := "ytcamakkicmapcaadoor", sum := "e0a696e23a6db01a9b951fe2cb7031b0d0bad9fb97f2fadad3e354a67dd5f2a0", func := "treeline/treelinelaw14.SendTells", spec := "sendTells", recurses := true, named := ["treeline/frame.bpduHead"], apart := false, laid := [("treeline/frame.bpduHead", laid_treeline_frame_bpduHead)] }
def SendTellsSaid : Prop := sendTellsRow.holds Tryd.pinned (OpenSpec.ofChange sendTellsSpec)

/-- ITS FALSE NEIGHBOUR: 'it returns false'. Refute it at one input. -/
def sendTellsWrong : ChangeSpec := { name := "sendTells", fn := fun _ => fun
  | [d1, d2] => { results := [.lit (.bool false)], args := [d1, d2] }
  | _ => none }
def SendTellsWrongFalsely : Prop := sendTellsRow.holds Tryd.pinned (OpenSpec.ofChange sendTellsWrong)

/-- 'treelinelaw14.SendDetects': WHATEVER THE INPUT: true; the input reads as it did. -/
def sendDetectsSpec : ChangeSpec := { name := "sendDetects", fn := fun _ => fun
  | [d] => { results := [.lit (.bool true)], args := [d] }
  | _ => none }
def sendDetectsRow : OpenClaim := { program := "ytcamakkicmapcaadoor", sum := "e0a696e23a6db01a9b951fe2cb7031b0d0bad9fb97f2fadad3e354a67dd5f2a0", func := "treeline/treelinelaw14.SendDetects", spec := "sendDetects", recurses := true, named := ["treeline/frame.bpduHead"], apart := false, laid := [("treeline/frame.bpduHead", laid_treeline_frame_bpduHead)] }
def SendDetectsSaid : Prop := sendDetectsRow.holds Tryd.pinned (OpenSpec.ofChange sendDetectsSpec)

/-- ITS FALSE NEIGHBOUR: 'it returns false'. Refute it at one input. -/
def sendDetectsWrong : ChangeSpec := { name := "sendDetects", fn := fun _ => fun
  | [d] => { results := [.lit (.bool false)], args := [d] }
  | _ => none }
def SendDetectsWrongFalsely : Prop := sendDetectsRow.holds Tryd.pinned (OpenSpec.ofChange sendDetectsWrong)

/-- 'treelinelaw14.SendHolds': WHATEVER THE INPUT: true; the input reads as it did. -/
def sendHoldsSpec : ChangeSpec := { name := "sendHolds", fn := fun _ => fun
  | [d1, d2] => { results := [.lit (.bool true)], args := [d1, d2] }
  | _ => none }
def sendHoldsRow : OpenClaim := { program := "ytcamakkicmapcaadoor", sum := "e0a696e23a6db01a9b951fe2cb7031b0d0bad9fb97f2fadad3e354a67dd5f2a0", func := "treeline/treelinelaw14.SendHolds", spec := "sendHolds", named := ["treeline/frame.bpduHead"], apart := false, laid := [("treeline/frame.bpduHead", laid_treeline_frame_bpduHead)] }
def SendHoldsSaid : Prop := sendHoldsRow.holds Tryd.pinned (OpenSpec.ofChange sendHoldsSpec)

/-- ITS FALSE NEIGHBOUR: 'it returns false'. Refute it at one input. -/
def sendHoldsWrong : ChangeSpec := { name := "sendHolds", fn := fun _ => fun
  | [d1, d2] => { results := [.lit (.bool false)], args := [d1, d2] }
  | _ => none }
def SendHoldsWrongFalsely : Prop := sendHoldsRow.holds Tryd.pinned (OpenSpec.ofChange sendHoldsWrong)

/-- 'treelinelaw14.SendOlder': WHATEVER THE INPUT: true; the input reads as it did. -/
def sendOlderSpec : ChangeSpec := { name := "sendOlder", fn := fun _ => fun
  | [d] => { results := [.lit (.bool true)], args := [d] }
  | _ => none }
def sendOlderRow : OpenClaim := { program := "ytcamakkicmapcaadoor", sum := "e0a696e23a6db01a9b951fe2cb7031b0d0bad9fb97f2fadad3e354a67dd5f2a0", func := "treeline/treelinelaw14.SendOlder", spec := "sendOlder", named := ["treeline/frame.bpduHead"], apart := false, laid := [("treeline/frame.bpduHead", laid_treeline_frame_bpduHead)] }
def SendOlderSaid : Prop := sendOlderRow.holds Tryd.pinned (OpenSpec.ofChange sendOlderSpec)

/-- ITS FALSE NEIGHBOUR: 'it returns false'. Refute it at one input. -/
def sendOlderWrong : ChangeSpec := { name := "sendOlder", fn := fun _ => fun
  | [d] => { results := [.lit (.bool false)], args := [d] }
  | _ => none }
def SendOlderWrongFalsely : Prop := sendOlderRow.holds Tryd.pinned (OpenSpec.ofChange sendOlderWrong)

/-- 'treelinelaw14.SendOnce': WHATEVER THE INPUT: true; the input reads as it did. -/
def sendOnceSpec : ChangeSpec := { name := "sendOnce", fn := fun _ => fun
  | [d] => { results := [.lit (.bool true)], args := [d] }
  | _ => none }
def sendOnceRow : OpenClaim := { program := "ytcamakkicmapcaadoor", sum := "e0a696e23a6db01a9b951fe2cb7031b0d0bad9fb97f2fadad3e354a67dd5f2a0", func := "treeline/treelinelaw14.SendOnce", spec := "sendOnce", named := ["treeline/frame.bpduHead"], apart := false, laid := [("treeline/frame.bpduHead", laid_treeline_frame_bpduHead)] }
def SendOnceSaid : Prop := sendOnceRow.holds Tryd.pinned (OpenSpec.ofChange sendOnceSpec)

/-- ITS FALSE NEIGHBOUR: 'it returns false'. Refute it at one input. -/
def sendOnceWrong : ChangeSpec := { name := "sendOnce", fn := fun _ => fun
  | [d] => { results := [.lit (.bool false)], args := [d] }
  | _ => none }
def SendOnceWrongFalsely : Prop := sendOnceRow.holds Tryd.pinned (OpenSpec.ofChange sendOnceWrong)

/- THE SECOND FORM. 'bulk': how many values and letters a reading holds, each counted each time it is reached (what is shared counts as often as it is met; a slice's spare places count too). A statement '..UptoSaid' is the law's where the arguments, and the package variables that the reading takes, are together of bulk at most 1048576: NARROWER than '..Said'. Prove '..Said' where nothing that the law and all that it calls make is longer than what came in: it says more and counts as full. Else prove '..UptoSaid'. A law counts once. -/
mutual
def uptoBulk {H : Type} : DataW H → Nat
  | .lit (.string bytes) => bytes.length + 1
  | .lit _ => 1
  | .nil => 1
  | .ptr d => uptoBulk d + 1
  | .slice elems spare => uptoBulkAll elems + uptoBulkAll spare + 1
  | .agg parts => uptoBulkAll parts + 1
  | .iface _ d => uptoBulk d + 1
  | .map entries => uptoBulkEntries entries + 1
  | .held _ => 1
def uptoBulkAll {H : Type} : List (DataW H) → Nat
  | [] => 0
  | d :: r => uptoBulk d + uptoBulkAll r
def uptoBulkEntries {H : Type} : List (Lit × DataW H) → Nat
  | [] => 0
  | x :: r => uptoBulkEntry x + uptoBulkEntries r
def uptoBulkEntry {H : Type} : Lit × DataW H → Nat
  | (.string bytes, d) => bytes.length + uptoBulk d + 1
  | (_, d) => uptoBulk d + 1
 end
def uptoSmall : (H : Type) → List (DataW H) → Bool := fun _ ds => decide (uptoBulkAll ds ≤ 1048576)
def OpenSpec.upto (s : _root_.Go.ChangeSpec) : _root_.Go.OpenSpec := { _root_.Go.OpenSpec.ofChange s with cond := some uptoSmall }

/-- 'treelinelaw14.SendTells', WHERE WHAT IT READS IS OF BULK AT MOST 1048576: true; the input reads as it did. -/
def sendTellsUptoRow : OpenClaim := { program := "ytcamakkicmapcaadoor", sum := "e0a696e23a6db01a9b951fe2cb7031b0d0bad9fb97f2fadad3e354a67dd5f2a0", func := "treeline/treelinelaw14.SendTells", spec := "sendTells", recurses := true, named := ["treeline/frame.bpduHead"], apart := false, laid := [("treeline/frame.bpduHead", laid_treeline_frame_bpduHead)], narrowed := true }
def SendTellsUptoSaid : Prop := sendTellsUptoRow.holds Tryd.pinned (OpenSpec.upto sendTellsSpec)

/-- 'treelinelaw14.SendDetects', WHERE WHAT IT READS IS OF BULK AT MOST 1048576: true; the input reads as it did. -/
def sendDetectsUptoRow : OpenClaim := { program := "ytcamakkicmapcaadoor", sum := "e0a696e23a6db01a9b951fe2cb7031b0d0bad9fb97f2fadad3e354a67dd5f2a0", func := "treeline/treelinelaw14.SendDetects", spec := "sendDetects", recurses := true, named := ["treeline/frame.bpduHead"], apart := false, laid := [("treeline/frame.bpduHead", laid_treeline_frame_bpduHead)], narrowed := true }
def SendDetectsUptoSaid : Prop := sendDetectsUptoRow.holds Tryd.pinned (OpenSpec.upto sendDetectsSpec)

/-- 'treelinelaw14.SendHolds', WHERE WHAT IT READS IS OF BULK AT MOST 1048576: true; the input reads as it did. -/
def sendHoldsUptoRow : OpenClaim := { program := "ytcamakkicmapcaadoor", sum := "e0a696e23a6db01a9b951fe2cb7031b0d0bad9fb97f2fadad3e354a67dd5f2a0", func := "treeline/treelinelaw14.SendHolds", spec := "sendHolds", named := ["treeline/frame.bpduHead"], apart := false, laid := [("treeline/frame.bpduHead", laid_treeline_frame_bpduHead)], narrowed := true }
def SendHoldsUptoSaid : Prop := sendHoldsUptoRow.holds Tryd.pinned (OpenSpec.upto sendHoldsSpec)

/-- 'treelinelaw14.SendOlder', WHERE WHAT IT READS IS OF BULK AT MOST 1048576: true; the input reads as it did. -/
def sendOlderUptoRow : OpenClaim := { program := "ytcamakkicmapcaadoor", sum := "e0a696e23a6db01a9b951fe2cb7031b0d0bad9fb97f2fadad3e354a67dd5f2a0", func := "treeline/treelinelaw14.SendOlder", spec := "sendOlder", named := ["treeline/frame.bpduHead"], apart := false, laid := [("treeline/frame.bpduHead", laid_treeline_frame_bpduHead)], narrowed := true }
def SendOlderUptoSaid : Prop := sendOlderUptoRow.holds Tryd.pinned (OpenSpec.upto sendOlderSpec)

/-- 'treelinelaw14.SendOnce', WHERE WHAT IT READS IS OF BULK AT MOST 1048576: true; the input reads as it did. -/
def sendOnceUptoRow : OpenClaim := { program := "ytcamakkicmapcaadoor", sum := "e0a696e23a6db01a9b951fe2cb7031b0d0bad9fb97f2fadad3e354a67dd5f2a0", func := "treeline/treelinelaw14.SendOnce", spec := "sendOnce", named := ["treeline/frame.bpduHead"], apart := false, laid := [("treeline/frame.bpduHead", laid_treeline_frame_bpduHead)], narrowed := true }
def SendOnceUptoSaid : Prop := sendOnceUptoRow.holds Tryd.pinned (OpenSpec.upto sendOnceSpec)

end Rows
end Go.Proofs.YtcamakkicmapcaaDoor
