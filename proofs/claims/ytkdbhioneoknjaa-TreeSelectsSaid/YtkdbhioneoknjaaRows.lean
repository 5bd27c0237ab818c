/-
  No cell of these rows narrows 'for every input' (looked for: loops, veiled, ifaces, maps, wideKeys, modest, calm, conditions, laid).
  DERIVED. THE GIVEN ROWS OF THIS SEAT. 5 by the template 'for every input the law returns true; each argument reads behind the call as it read before'; 0 by the template 'total and deterministic' (their statements: YtkdbhioneoknjaaTotals.lean).
  GIVEN WITH THE SEED: the statements are not yours to turn. If you find one false, say at which input.
  Laid BY PROGRAM, IN A SANDBOX (cutbox-rows.mjs): the forced cells as the released guide's own fill.sh prints them over the translation 5d287c605cca8d68… (all of the seat's roots in one cut). By AI agents, Wed Nov 11 2026. No macro, syntax, notation, axiom, sorry.
-/
import Derived.Test.YtkdbhioneoknjaaChecked
import GoSem.Claim
import GoSem.ClaimJoined
import GoSem.ClaimMapViews
import Derived.JoinedTies
import Derived.KernelRfl
namespace Go.Proofs.Ytkdbhioneoknjaa
/- THE CELL 'sum', in the pinned program and in every row, IS THE sha256 OF THE DUMP (.gsa) THAT YtkdbhioneoknjaaProg.lean LOADS. Nothing in Lean hashes anything: it is a label: what it is worth is what the hold of that sum in a sandbox is worth. -/
noncomputable def Try.pinned : Pinned := { name := "ytkdbhioneoknjaa", sum := "5d287c605cca8d689af8743fc017a5bf3784b9fbfd992579fabf867b4b4bd5fc", checked := Try.checked }
namespace Rows
def none {H : Type} : Left H := { results := [], args := [] }

/-- 'treelinelaw13.TreeSelects': WHATEVER THE INPUT: true; the input reads as it did. -/
def treeSelectsSpec : ChangeSpec := { name := "treeSelects", fn := fun _ => fun
  | [d] => { results := [.lit (.bool true)], args := [d] }
  | _ => none }
def treeSelectsRow : OpenClaim := { program := "ytkdbhioneoknjaa", sum := "5d287c605cca8d689af8743fc017a5bf3784b9fbfd992579fabf867b4b4bd5fc", func := "treeline/treelinelaw13.TreeSelects", spec := "treeSelects", apart := false }
def TreeSelectsSaid : Prop := treeSelectsRow.holds Try.pinned (OpenSpec.ofChange treeSelectsSpec)

/-- ITS FALSE NEIGHBOUR: 'it returns false'. Refute it at one input. -/
def treeSelectsWrong : ChangeSpec := { name := "treeSelects", fn := fun _ => fun
  | [d] => { results := [.lit (.bool false)], args := [d] }
  | _ => none }
def TreeSelectsWrongFalsely : Prop := treeSelectsRow.holds Try.pinned (OpenSpec.ofChange treeSelectsWrong)

/-- 'treelinelaw13.TreeBegins': WHATEVER THE INPUT: true; the input reads as it did. -/
def treeBeginsSpec : ChangeSpec := { name := "treeBegins", fn := fun _ => fun
  | [d] => { results := [.lit (.bool true)], args := [d] }
  | _ => none }
def treeBeginsRow : OpenClaim := { program := "ytkdbhioneoknjaa", sum := "5d287c605cca8d689af8743fc017a5bf3784b9fbfd992579fabf867b4b4bd5fc", func := "treeline/treelinelaw13.TreeBegins", spec := "treeBegins", apart := false }
def TreeBeginsSaid : Prop := treeBeginsRow.holds Try.pinned (OpenSpec.ofChange treeBeginsSpec)

/-- ITS FALSE NEIGHBOUR: 'it returns false'. Refute it at one input. -/
def treeBeginsWrong : ChangeSpec := { name := "treeBegins", fn := fun _ => fun
  | [d] => { results := [.lit (.bool false)], args := [d] }
  | _ => none }
def TreeBeginsWrongFalsely : Prop := treeBeginsRow.holds Try.pinned (OpenSpec.ofChange treeBeginsWrong)

/-- 'treelinelaw13.TreeHolds': WHATEVER THE INPUT: true; the input reads as it did. -/
def treeHoldsSpec : ChangeSpec := { name := "treeHolds", fn := fun _ => fun
  | [d] => { results := [.lit (.bool true)], args := [d] }
  | _ => none }
def treeHoldsRow : OpenClaim := { program := "ytkdbhioneoknjaa", sum := "5d287c605cca8d689af8743fc017a5bf3784b9fbfd992579fabf867b4b4bd5fc", func := "treeline/treelinelaw13.TreeHolds", spec := "treeHolds", apart := false }
def TreeHoldsSaid : Prop := treeHoldsRow.holds Try.pinned (OpenSpec.ofChange treeHoldsSpec)

/-- ITS FALSE NEIGHBOUR: 'it returns false'. Refute it at one input. -/
def treeHoldsWrong : ChangeSpec := { name := "treeHolds", fn := fun _ => fun
  | [d] => { results := [.lit (.bool false)], args := [d] }
  | _ => none }
def TreeHoldsWrongFalsely : Prop := treeHoldsRow.holds Try.pinned (OpenSpec.ofChange treeHoldsWrong)

/-- 'treelinelaw13.TreeBlocks': WHATEVER THE INPUT: true; the input reads as it did. -/
def treeBlocksSpec : ChangeSpec := { name := "treeBlocks", fn := fun _ => fun
  | [d] => { results := [.lit (.bool true)], args := [d] }
  | _ => none }
def treeBlocksRow : OpenClaim := { program := "ytkdbhioneoknjaa", sum := "5d287c605cca8d689af8743fc017a5bf3784b9fbfd992579fabf867b4b4bd5fc", func := "treeline/treelinelaw13.TreeBlocks", spec := "treeBlocks", apart := false }
def TreeBlocksSaid : Prop := treeBlocksRow.holds Try.pinned (OpenSpec.ofChange treeBlocksSpec)

/-- ITS FALSE NEIGHBOUR: 'it returns false'. Refute it at one input. -/
def treeBlocksWrong : ChangeSpec := { name := "treeBlocks", fn := fun _ => fun
  | [d] => { results := [.lit (.bool false)], args := [d] }
  | _ => none }
def TreeBlocksWrongFalsely : Prop := treeBlocksRow.holds Try.pinned (OpenSpec.ofChange treeBlocksWrong)

/-- 'treelinelaw13.TreeCopies': WHATEVER THE INPUT: true; the input reads as it did. -/
def treeCopiesSpec : ChangeSpec := { name := "treeCopies", fn := fun _ => fun
  | [d] => { results := [.lit (.bool true)], args := [d] }
  | _ => none }
def treeCopiesRow : OpenClaim := { program := "ytkdbhioneoknjaa", sum := "5d287c605cca8d689af8743fc017a5bf3784b9fbfd992579fabf867b4b4bd5fc", func := "treeline/treelinelaw13.TreeCopies", spec := "treeCopies", apart := false }
def TreeCopiesSaid : Prop := treeCopiesRow.holds Try.pinned (OpenSpec.ofChange treeCopiesSpec)

/-- ITS FALSE NEIGHBOUR: 'it returns false'. Refute it at one input. -/
def treeCopiesWrong : ChangeSpec := { name := "treeCopies", fn := fun _ => fun
  | [d] => { results := [.lit (.bool false)], args := [d] }
  | _ => none }
def TreeCopiesWrongFalsely : Prop := treeCopiesRow.holds Try.pinned (OpenSpec.ofChange treeCopiesWrong)

/- THE SECOND FORM. 'bulk': how many values and letters a reading holds, each counted each time it is reached (what is shared counts as often as it is met; a slice's spare places count too). A statement '..UptoSaid' is the law's where the arguments, and the package variables that the reading takes, are together of bulk at most 1048576: NARROWER than '..Said'. Prove '..Said' where nothing that the law and all that it calls make is longer than what came in: it says more and counts as full. Else prove '..UptoSaid'. A law counts once. -/
mutual
def uptoBulk {H : Type} : DataW H → Nat
  | .lit (.string bytes) => bytes.length + 1
  | .lit _ => 1
  | .nil => 1
  | .ptr d => uptoBulk d + 1
  | .slice elems spare => uptoBulkAll elems + uptoBulkAll spare + 1
  | .agg parts => uptoBulkAll parts + 1
  | .iface _ d => uptoBulk d + 1
  | .map entries => uptoBulkEntries entries + 1
  | .held _ => 1
def uptoBulkAll {H : Type} : List (DataW H) → Nat
  | [] => 0
  | d :: r => uptoBulk d + uptoBulkAll r
def uptoBulkEntries {H : Type} : List (Lit × DataW H) → Nat
  | [] => 0
  | x :: r => uptoBulkEntry x + uptoBulkEntries r
def uptoBulkEntry {H : Type} : Lit × DataW H → Nat
  | (.string bytes, d) => bytes.length + uptoBulk d + 1
  | (_, d) => uptoBulk d + 1
 end
def uptoSmall : (H : Type) → List (DataW H) → Bool := fun _ ds => decide (uptoBulkAll ds ≤ 1048576)
def OpenSpec.upto (s : _root_.Go.ChangeSpec) : _root_.Go.OpenSpec := { _root_.Go.OpenSpec.ofChange s with cond := some uptoSmall }

/-- 'treelinelaw13.TreeSelects', WHERE WHAT IT READS IS OF BULK AT MOST 1048576: true; the input reads as it did. -/
def treeSelectsUptoRow : OpenClaim := { program := "ytkdbhioneoknjaa", sum := "5d287c605cca8d689af8743fc017a5bf3784b9fbfd992579fabf867b4b4bd5fc", func := "treeline/treelinelaw13.TreeSelects", spec := "treeSelects", apart := false, narrowed := true }
def TreeSelectsUptoSaid : Prop := treeSelectsUptoRow.holds Try.pinned (OpenSpec.upto treeSelectsSpec)

/-- 'treelinelaw13.TreeBegins', WHERE WHAT IT READS IS OF BULK AT MOST 1048576: true; the input reads as it did. -/
def treeBeginsUptoRow : OpenClaim := { program := "ytkdbhioneoknjaa", sum := "5d287c605cca8d689af8743fc017a5bf3784b9fbfd992579fabf867b4b4bd5fc", func := "treeline/treelinelaw13.TreeBegins", spec := "treeBegins", apart := false, narrowed := true }
def TreeBeginsUptoSaid : Prop := treeBeginsUptoRow.holds Try.pinned (OpenSpec.upto treeBeginsSpec)

/-- 'treelinelaw13.TreeHolds', WHERE WHAT IT READS IS OF BULK AT MOST 1048576: true; the input reads as it did. -/
def treeHoldsUptoRow : OpenClaim := { program := "ytkdbhioneoknjaa", sum := "5d287c605cca8d689af8743fc017a5bf3784b9fbfd992579fabf867b4b4bd5fc", func := "treeline/treelinelaw13.TreeHolds", spec := "treeHolds", apart := false, narrowed := true }
def TreeHoldsUptoSaid : Prop := treeHoldsUptoRow.holds Try.pinned (OpenSpec.upto treeHoldsSpec)

/-- 'treelinelaw13.TreeBlocks', WHERE WHAT IT READS IS OF BULK AT MOST 1048576: true; the input reads as it did. -/
def treeBlocksUptoRow : OpenClaim := { program := "ytkdbhioneoknjaa", sum := "5d287c605cca8d689af8743fc017a5bf3784b9fbfd992579fabf867b4b4bd5fc", func := "treeline/treelinelaw13.TreeBlocks", spec := "treeBlocks", apart := false, narrowed := true }
def TreeBlocksUptoSaid : Prop := treeBlocksUptoRow.holds Try.pinned (OpenSpec.upto treeBlocksSpec)

/-- 'treelinelaw13.TreeCopies', WHERE WHAT IT READS IS OF BULK AT MOST 1048576: true; the input reads as it did. -/
def treeCopiesUptoRow : OpenClaim := { program := "ytkdbhioneoknjaa", sum := "5d287c605cca8d689af8743fc017a5bf3784b9fbfd992579fabf867b4b4bd5fc", func := "treeline/treelinelaw13.TreeCopies", spec := "treeCopies", apart := false, narrowed := true }
def TreeCopiesUptoSaid : Prop := treeCopiesUptoRow.holds Try.pinned (OpenSpec.upto treeCopiesSpec)

end Rows
end Go.Proofs.Ytkdbhioneoknjaa
