/-
  No cell of these rows narrows 'for every input' (looked for: loops, veiled, ifaces, maps, wideKeys, modest, calm, conditions, laid).
  DERIVED. THE GIVEN ROWS OF THIS SEAT. 4 by the template 'for every input the law returns true; each argument reads behind the call as it read before'; 0 by the template 'total and deterministic' (their statements: YthpjonedpemhkaaTotals.lean).
  GIVEN WITH THE SEED: the statements are not yours to turn. If you find one false, say at which input.
  Laid BY PROGRAM, IN A SANDBOX (cutbox-rows.mjs): the forced cells as the released guide's own fill.sh prints them over the translation 47ccf2034f3e5e1e… (all of the seat's roots in one cut). By AI agents, Wed Nov 11 2026. No macro, syntax, notation, axiom, sorry.
-/
import Derived.Test.YthpjonedpemhkaaChecked
import GoSem.Claim
import GoSem.ClaimJoined
import GoSem.ClaimMapViews
import Derived.JoinedTies
import Derived.KernelRfl
namespace Go.Proofs.Ythpjonedpemhkaa
/- THE CELL 'sum', in the pinned program and in every row, IS THE sha256 OF THE DUMP (.gsa) THAT YthpjonedpemhkaaProg.lean LOADS. Nothing in Lean hashes anything: it is a label: what it is worth is what the hold of that sum in a sandbox is worth. -/
noncomputable def Try.pinned : Pinned := { name := "ythpjonedpemhkaa", sum := "47ccf2034f3e5e1ef95056011b2cb2e1db1838600e566f605c68a5362590ef69", checked := Try.checked }
namespace Rows
def none {H : Type} : Left H := { results := [], args := [] }

/-- 'treelinelaw06.HashPlays': WHATEVER THE INPUT: true; the input reads as it did. -/
def hashPlaysSpec : ChangeSpec := { name := "hashPlays", fn := fun _ => fun
  | [d1, d2, d3] => { results := [.lit (.bool true)], args := [d1, d2, d3] }
  | _ => none }
def hashPlaysRow : OpenClaim := { program := "ythpjonedpemhkaa", sum := "47ccf2034f3e5e1ef95056011b2cb2e1db1838600e566f605c68a5362590ef69", func := "treeline/treelinelaw06.HashPlays", spec := "hashPlays", apart := false }
def HashPlaysSaid : Prop := hashPlaysRow.holds Try.pinned (OpenSpec.ofChange hashPlaysSpec)

/-- ITS FALSE NEIGHBOUR: 'it returns false'. Refute it at one input. -/
def hashPlaysWrong : ChangeSpec := { name := "hashPlays", fn := fun _ => fun
  | [d1, d2, d3] => { results := [.lit (.bool false)], args := [d1, d2, d3] }
  | _ => none }
def HashPlaysWrongFalsely : Prop := hashPlaysRow.holds Try.pinned (OpenSpec.ofChange hashPlaysWrong)

/-- 'treelinelaw06.HashWays': WHATEVER THE INPUT: true; the input reads as it did. -/
def hashWaysSpec : ChangeSpec := { name := "hashWays", fn := fun _ => fun
  | [d1, d2, d3] => { results := [.lit (.bool true)], args := [d1, d2, d3] }
  | _ => none }
def hashWaysRow : OpenClaim := { program := "ythpjonedpemhkaa", sum := "47ccf2034f3e5e1ef95056011b2cb2e1db1838600e566f605c68a5362590ef69", func := "treeline/treelinelaw06.HashWays", spec := "hashWays", apart := false }
def HashWaysSaid : Prop := hashWaysRow.holds Try.pinned (OpenSpec.ofChange hashWaysSpec)

/-- ITS FALSE NEIGHBOUR: 'it returns false'. Refute it at one input. -/
def hashWaysWrong : ChangeSpec := { name := "hashWays", fn := fun _ => fun
  | [d1, d2, d3] => { results := [.lit (.bool false)], args := [d1, d2, d3] }
  | _ => none }
def HashWaysWrongFalsely : Prop := hashWaysRow.holds Try.pinned (OpenSpec.ofChange hashWaysWrong)

/-- 'treelinelaw06.HashRound': WHATEVER THE INPUT: true; the input reads as it did. -/
def hashRoundSpec : ChangeSpec := { name := "hashRound", fn := fun _ => fun
  | [d1, d2] => { results := [.lit (.bool true)], args := [d1, d2] }
  | _ => none }
def hashRoundRow : OpenClaim := { program := "ythpjonedpemhkaa", sum := "47ccf2034f3e5e1ef95056011b2cb2e1db1838600e566f605c68a5362590ef69", func := "treeline/treelinelaw06.HashRound", spec := "hashRound", apart := false }
def HashRoundSaid : Prop := hashRoundRow.holds Try.pinned (OpenSpec.ofChange hashRoundSpec)

/-- ITS FALSE NEIGHBOUR: 'it returns false'. Refute it at one input. -/
def hashRoundWrong : ChangeSpec := { name := "hashRound", fn := fun _ => fun
  | [d1, d2] => { results := [.lit (.bool false)], args := [d1, d2] }
  | _ => none }
def HashRoundWrongFalsely : Prop := hashRoundRow.holds Try.pinned (OpenSpec.ofChange hashRoundWrong)

/-- 'treelinelaw06.HashNext': WHATEVER THE INPUT: true; the input reads as it did. -/
def hashNextSpec : ChangeSpec := { name := "hashNext", fn := fun _ => fun
  | [d1, d2, d3] => { results := [.lit (.bool true)], args := [d1, d2, d3] }
  | _ => none }
def hashNextRow : OpenClaim := { program := "ythpjonedpemhkaa", sum := "47ccf2034f3e5e1ef95056011b2cb2e1db1838600e566f605c68a5362590ef69", func := "treeline/treelinelaw06.HashNext", spec := "hashNext", apart := false }
def HashNextSaid : Prop := hashNextRow.holds Try.pinned (OpenSpec.ofChange hashNextSpec)

/-- ITS FALSE NEIGHBOUR: 'it returns false'. Refute it at one input. -/
def hashNextWrong : ChangeSpec := { name := "hashNext", fn := fun _ => fun
  | [d1, d2, d3] => { results := [.lit (.bool false)], args := [d1, d2, d3] }
  | _ => none }
def HashNextWrongFalsely : Prop := hashNextRow.holds Try.pinned (OpenSpec.ofChange hashNextWrong)

/- THE SECOND FORM. 'bulk': how many values and letters a reading holds, each counted each time it is reached (what is shared counts as often as it is met; a slice's spare places count too). A statement '..UptoSaid' is the law's where the arguments, and the package variables that the reading takes, are together of bulk at most 1048576: NARROWER than '..Said'. Prove '..Said' where nothing that the law and all that it calls make is longer than what came in: it says more and counts as full. Else prove '..UptoSaid'. A law counts once. -/
mutual
def uptoBulk {H : Type} : DataW H → Nat
  | .lit (.string bytes) => bytes.length + 1
  | .lit _ => 1
  | .nil => 1
  | .ptr d => uptoBulk d + 1
  | .slice elems spare => uptoBulkAll elems + uptoBulkAll spare + 1
  | .agg parts => uptoBulkAll parts + 1
  | .iface _ d => uptoBulk d + 1
  | .map entries => uptoBulkEntries entries + 1
  | .held _ => 1
def uptoBulkAll {H : Type} : List (DataW H) → Nat
  | [] => 0
  | d :: r => uptoBulk d + uptoBulkAll r
def uptoBulkEntries {H : Type} : List (Lit × DataW H) → Nat
  | [] => 0
  | x :: r => uptoBulkEntry x + uptoBulkEntries r
def uptoBulkEntry {H : Type} : Lit × DataW H → Nat
  | (.string bytes, d) => bytes.length + uptoBulk d + 1
  | (_, d) => uptoBulk d + 1
 end
def uptoSmall : (H : Type) → List (DataW H) → Bool := fun _ ds => decide (uptoBulkAll ds ≤ 1048576)
def OpenSpec.upto (s : _root_.Go.ChangeSpec) : _root_.Go.OpenSpec := { _root_.Go.OpenSpec.ofChange s with cond := some uptoSmall }

/-- 'treelinelaw06.HashPlays', WHERE WHAT IT READS IS OF BULK AT MOST 1048576: true; the input reads as it did. -/
def hashPlaysUptoRow : OpenClaim := { program := "ythpjonedpemhkaa", sum := "47ccf2034f3e5e1ef95056011b2cb2e1db1838600e566f605c68a5362590ef69", func := "treeline/treelinelaw06.HashPlays", spec := "hashPlays", apart := false, narrowed := true }
def HashPlaysUptoSaid : Prop := hashPlaysUptoRow.holds Try.pinned (OpenSpec.upto hashPlaysSpec)

/-- 'treelinelaw06.HashWays', WHERE WHAT IT READS IS OF BULK AT MOST 1048576: true; the input reads as it did. -/
def hashWaysUptoRow : OpenClaim := { program := "ythpjonedpemhkaa", sum := "47ccf2034f3e5e1ef95056011b2cb2e1db1838600e566f605c68a5362590ef69", func := "treeline/treelinelaw06.HashWays", spec := "hashWays", apart := false, narrowed := true }
def HashWaysUptoSaid : Prop := hashWaysUptoRow.holds Try.pinned (OpenSpec.upto hashWaysSpec)

/-- 'treelinelaw06.HashRound', WHERE WHAT IT READS IS OF BULK AT MOST 1048576: true; the input reads as it did. -/
def hashRoundUptoRow : OpenClaim := { program := "ythpjonedpemhkaa", sum := "47ccf2034f3e5e1ef95056011b2cb2e1db1838600e566f605c68a5362590ef69", func := "treeline/treelinelaw06.HashRound", spec := "hashRound", apart := false, narrowed := true }
def HashRoundUptoSaid : Prop := hashRoundUptoRow.holds Try.pinned (OpenSpec.upto hashRoundSpec)

/-- 'treelinelaw06.HashNext', WHERE WHAT IT READS IS OF BULK AT MOST 1048576: true; the input reads as it did. -/
def hashNextUptoRow : OpenClaim := { program := "ythpjonedpemhkaa", sum := "47ccf2034f3e5e1ef95056011b2cb2e1db1838600e566f605c68a5362590ef69", func := "treeline/treelinelaw06.HashNext", spec := "hashNext", apart := false, narrowed := true }
def HashNextUptoSaid : Prop := hashNextUptoRow.holds Try.pinned (OpenSpec.upto hashNextSpec)

end Rows
end Go.Proofs.Ythpjonedpemhkaa
