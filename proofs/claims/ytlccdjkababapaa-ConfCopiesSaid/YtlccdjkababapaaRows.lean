/-
  No cell of these rows narrows 'for every input' (looked for: loops, veiled, ifaces, maps, wideKeys, modest, calm, conditions, laid).
  DERIVED. THE GIVEN ROWS OF THIS SEAT. 5 by the template 'for every input the law returns true; each argument reads behind the call as it read before'; 0 by the template 'total and deterministic' (their statements: YtlccdjkababapaaTotals.lean).
  GIVEN WITH THE SEED: the statements are not yours to turn. If you find one false, say at which input.
  Laid BY PROGRAM, IN A SANDBOX (cutbox-rows.mjs): the forced cells as the released guide's own fill.sh prints them over the translation 349abf31cd816743… (all of the seat's roots in one cut). By AI agents, Wed Nov 11 2026. No macro, syntax, notation, axiom, sorry.
-/
import Derived.Test.YtlccdjkababapaaChecked
import GoSem.Claim
import GoSem.ClaimJoined
import GoSem.ClaimMapViews
import Derived.JoinedTies
import Derived.KernelRfl
namespace Go.Proofs.Ytlccdjkababapaa
/- THE CELL 'sum', in the pinned program and in every row, IS THE sha256 OF THE DUMP (.gsa) THAT YtlccdjkababapaaProg.lean LOADS. Nothing in Lean hashes anything: it is a label: what it is worth is what the hold of that sum in a sandbox is worth. -/
noncomputable def Try.pinned : Pinned := { name := "ytlccdjkababapaa", sum := "349abf31cd8167430ee84564f9283c9cf6521bf075d1bc7154dc882a4e4ed7bd", checked := Try.checked }
namespace Rows
def none {H : Type} : Left H := { results := [], args := [] }

/-- 'treelinelaw11.ConfChecks': WHATEVER THE INPUT: true; the input reads as it did. -/
def confChecksSpec : ChangeSpec := { name := "confChecks", fn := fun _ => fun
  | [d1, d2, d3] => { results := [.lit (.bool true)], args := [d1, d2, d3] }
  | _ => none }
def confChecksRow : OpenClaim := { program := "ytlccdjkababapaa", sum := "349abf31cd8167430ee84564f9283c9cf6521bf075d1bc7154dc882a4e4ed7bd", func := "treeline/treelinelaw11.ConfChecks", spec := "confChecks", unfollowed := true, recurses := true, apart := false }
def ConfChecksSaid : Prop := confChecksRow.holds Try.pinned (OpenSpec.ofChange confChecksSpec)

/-- ITS FALSE NEIGHBOUR: 'it returns false'. Refute it at one input. -/
def confChecksWrong : ChangeSpec := { name := "confChecks", fn := fun _ => fun
  | [d1, d2, d3] => { results := [.lit (.bool false)], args := [d1, d2, d3] }
  | _ => none }
def ConfChecksWrongFalsely : Prop := confChecksRow.holds Try.pinned (OpenSpec.ofChange confChecksWrong)

/-- 'treelinelaw11.ConfPorts': WHATEVER THE INPUT: true; the input reads as it did. -/
def confPortsSpec : ChangeSpec := { name := "confPorts", fn := fun _ => fun
  | [d] => { results := [.lit (.bool true)], args := [d] }
  | _ => none }
def confPortsRow : OpenClaim := { program := "ytlccdjkababapaa", sum := "349abf31cd8167430ee84564f9283c9cf6521bf075d1bc7154dc882a4e4ed7bd", func := "treeline/treelinelaw11.ConfPorts", spec := "confPorts", apart := false }
def ConfPortsSaid : Prop := confPortsRow.holds Try.pinned (OpenSpec.ofChange confPortsSpec)

/-- ITS FALSE NEIGHBOUR: 'it returns false'. Refute it at one input. -/
def confPortsWrong : ChangeSpec := { name := "confPorts", fn := fun _ => fun
  | [d] => { results := [.lit (.bool false)], args := [d] }
  | _ => none }
def ConfPortsWrongFalsely : Prop := confPortsRow.holds Try.pinned (OpenSpec.ofChange confPortsWrong)

/-- 'treelinelaw11.ConfTimes': WHATEVER THE INPUT: true; the input reads as it did. -/
def confTimesSpec : ChangeSpec := { name := "confTimes", fn := fun _ => fun
  | [d] => { results := [.lit (.bool true)], args := [d] }
  | _ => none }
def confTimesRow : OpenClaim := { program := "ytlccdjkababapaa", sum := "349abf31cd8167430ee84564f9283c9cf6521bf075d1bc7154dc882a4e4ed7bd", func := "treeline/treelinelaw11.ConfTimes", spec := "confTimes", apart := false }
def ConfTimesSaid : Prop := confTimesRow.holds Try.pinned (OpenSpec.ofChange confTimesSpec)

/-- ITS FALSE NEIGHBOUR: 'it returns false'. Refute it at one input. -/
def confTimesWrong : ChangeSpec := { name := "confTimes", fn := fun _ => fun
  | [d] => { results := [.lit (.bool false)], args := [d] }
  | _ => none }
def ConfTimesWrongFalsely : Prop := confTimesRow.holds Try.pinned (OpenSpec.ofChange confTimesWrong)

/-- 'treelinelaw11.ConfCopies': WHATEVER THE INPUT: true; the input reads as it did. -/
def confCopiesSpec : ChangeSpec := { name := "confCopies", fn := fun _ => fun
  | [d] => { results := [.lit (.bool true)], args := [d] }
  | _ => none }
def confCopiesRow : OpenClaim := { program := "ytlccdjkababapaa", sum := "349abf31cd8167430ee84564f9283c9cf6521bf075d1bc7154dc882a4e4ed7bd", func := "treeline/treelinelaw11.ConfCopies", spec := "confCopies", unfollowed := true, recurses := true, apart := false }
def ConfCopiesSaid : Prop := confCopiesRow.holds Try.pinned (OpenSpec.ofChange confCopiesSpec)

/-- ITS FALSE NEIGHBOUR: 'it returns false'. Refute it at one input. -/
def confCopiesWrong : ChangeSpec := { name := "confCopies", fn := fun _ => fun
  | [d] => { results := [.lit (.bool false)], args := [d] }
  | _ => none }
def ConfCopiesWrongFalsely : Prop := confCopiesRow.holds Try.pinned (OpenSpec.ofChange confCopiesWrong)

/-- 'treelinelaw11.ConfBetter': WHATEVER THE INPUT: true; the input reads as it did. -/
def confBetterSpec : ChangeSpec := { name := "confBetter", fn := fun _ => fun
  | [d1, d2] => { results := [.lit (.bool true)], args := [d1, d2] }
  | _ => none }
def confBetterRow : OpenClaim := { program := "ytlccdjkababapaa", sum := "349abf31cd8167430ee84564f9283c9cf6521bf075d1bc7154dc882a4e4ed7bd", func := "treeline/treelinelaw11.ConfBetter", spec := "confBetter", apart := false }
def ConfBetterSaid : Prop := confBetterRow.holds Try.pinned (OpenSpec.ofChange confBetterSpec)

/-- ITS FALSE NEIGHBOUR: 'it returns false'. Refute it at one input. -/
def confBetterWrong : ChangeSpec := { name := "confBetter", fn := fun _ => fun
  | [d1, d2] => { results := [.lit (.bool false)], args := [d1, d2] }
  | _ => none }
def ConfBetterWrongFalsely : Prop := confBetterRow.holds Try.pinned (OpenSpec.ofChange confBetterWrong)

/- THE SECOND FORM. 'bulk': how many values and letters a reading holds, each counted each time it is reached (what is shared counts as often as it is met; a slice's spare places count too). A statement '..UptoSaid' is the law's where the arguments, and the package variables that the reading takes, are together of bulk at most 1048576: NARROWER than '..Said'. Prove '..Said' where nothing that the law and all that it calls make is longer than what came in: it says more and counts as full. Else prove '..UptoSaid'. A law counts once. -/
mutual
def uptoBulk {H : Type} : DataW H → Nat
  | .lit (.string bytes) => bytes.length + 1
  | .lit _ => 1
  | .nil => 1
  | .ptr d => uptoBulk d + 1
  | .slice elems spare => uptoBulkAll elems + uptoBulkAll spare + 1
  | .agg parts => uptoBulkAll parts + 1
  | .iface _ d => uptoBulk d + 1
  | .map entries => uptoBulkEntries entries + 1
  | .held _ => 1
def uptoBulkAll {H : Type} : List (DataW H) → Nat
  | [] => 0
  | d :: r => uptoBulk d + uptoBulkAll r
def uptoBulkEntries {H : Type} : List (Lit × DataW H) → Nat
  | [] => 0
  | x :: r => uptoBulkEntry x + uptoBulkEntries r
def uptoBulkEntry {H : Type} : Lit × DataW H → Nat
  | (.string bytes, d) => bytes.length + uptoBulk d + 1
  | (_, d) => uptoBulk d + 1
 end
def uptoSmall : (H : Type) → List (DataW H) → Bool := fun _ ds => decide (uptoBulkAll ds ≤ 1048576)
def OpenSpec.upto (s : _root_.Go.ChangeSpec) : _root_.Go.OpenSpec := { _root_.Go.OpenSpec.ofChange s with cond := some uptoSmall }

/-- 'treelinelaw11.ConfChecks', WHERE WHAT IT READS IS OF BULK AT MOST 1048576: true; the input reads as it did. -/
def confChecksUptoRow : OpenClaim := { program := "ytlccdjkababapaa", sum := "349abf31cd8167430ee84564f9283c9cf6521bf075d1bc7154dc882a4e4ed7bd", func := "treeline/treelinelaw11.ConfChecks", spec := "confChecks", unfollowed := true, recurses := true, apart := false, narrowed := true }
def ConfChecksUptoSaid : Prop := confChecksUptoRow.holds Try.pinned (OpenSpec.upto confChecksSpec)

/-- 'treelinelaw11.ConfPorts', WHERE WHAT IT READS IS OF BULK AT MOST 1048576: true; the input reads as it did. -/
def confPortsUptoRow : OpenClaim := { program := "ytlccdjkababapaa", sum := "349abf31cd8167430ee84564f9283c9cf6521bf075d1bc7154dc882a4e4ed7bd", func := "treeline/treelinelaw11.ConfPorts", spec := "confPorts", apart := false, narrowed := true }
def ConfPortsUptoSaid : Prop := confPortsUptoRow.holds Try.pinned (OpenSpec.upto confPortsSpec)

/-- 'treelinelaw11.ConfTimes', WHERE WHAT IT READS IS OF BULK AT MOST 1048576: true; the input reads as it did. -/
def confTimesUptoRow : OpenClaim := { program := "ytlccdjkababapaa", sum := "349abf31cd8167430ee84564f9283c9cf6521bf075d1bc7154dc882a4e4ed7bd", func := "treeline/treelinelaw11.ConfTimes", spec := "confTimes", apart := false, narrowed := true }
def ConfTimesUptoSaid : Prop := confTimesUptoRow.holds Try.pinned (OpenSpec.upto confTimesSpec)

/-- 'treelinelaw11.ConfCopies', WHERE WHAT IT READS IS OF BULK AT MOST 1048576: true; the input reads as it did. -/
def confCopiesUptoRow : OpenClaim := { program := "ytlccdjkababapaa", sum := "349abf31cd8167430ee84564f9283c9cf6521bf075d1bc7154dc882a4e4ed7bd", func := "treeline/treelinelaw11.ConfCopies", spec := "confCopies", unfollowed := true, recurses := true, apart := false, narrowed := true }
def ConfCopiesUptoSaid : Prop := confCopiesUptoRow.holds Try.pinned (OpenSpec.upto confCopiesSpec)

/-- 'treelinelaw11.ConfBetter', WHERE WHAT IT READS IS OF BULK AT MOST 1048576: true; the input reads as it did. -/
def confBetterUptoRow : OpenClaim := { program := "ytlccdjkababapaa", sum := "349abf31cd8167430ee84564f9283c9cf6521bf075d1bc7154dc882a4e4ed7bd", func := "treeline/treelinelaw11.ConfBetter", spec := "confBetter", apart := false, narrowed := true }
def ConfBetterUptoSaid : Prop := confBetterUptoRow.holds Try.pinned (OpenSpec.upto confBetterSpec)

end Rows
end Go.Proofs.Ytlccdjkababapaa
