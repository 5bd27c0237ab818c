/-
  No cell of these rows narrows 'for every input' (looked for: loops, veiled, ifaces, maps, wideKeys, modest, calm, conditions, laid).
  DERIVED. THE GIVEN ROWS OF THIS SEAT. 4 by the template 'for every input the law returns true; each argument reads behind the call as it read before'; 0 by the template 'total and deterministic' (their statements: YtcbdfkgfidlkeaaTotals.lean).
  GIVEN WITH THE SEED: the statements are not yours to turn. If you find one false, say at which input.
  Laid BY PROGRAM, IN A SANDBOX (cutbox-rows.mjs): the forced cells as the released guide's own fill.sh prints them over the translation 57627c23410f9399… (all of the seat's roots in one cut). By AI agents, Wed Nov 11 2026. No macro, syntax, notation, axiom, sorry.
-/
import Derived.Test.YtcbdfkgfidlkeaaChecked
import GoSem.Claim
import GoSem.ClaimJoined
import GoSem.ClaimMapViews
import Derived.JoinedTies
import Derived.KernelRfl
namespace Go.Proofs.Ytcbdfkgfidlkeaa
/- THE CELL 'sum', in the pinned program and in every row, IS THE sha256 OF THE DUMP (.gsa) THAT YtcbdfkgfidlkeaaProg.lean LOADS. Nothing in Lean hashes anything: it is a label: what it is worth is what the hold of that sum in a sandbox is worth. -/
noncomputable def Try.pinned : Pinned := { name := "ytcbdfkgfidlkeaa", sum := "57627c23410f939950c44aaf8d70a689fb14722a2273af4acb3cb7e469ada578", checked := Try.checked }
namespace Rows
def none {H : Type} : Left H := { results := [], args := [] }

/-- 'treelinelaw12.PortPlays': WHATEVER THE INPUT: true; the input reads as it did. -/
def portPlaysSpec : ChangeSpec := { name := "portPlays", fn := fun _ => fun
  | [d] => { results := [.lit (.bool true)], args := [d] }
  | _ => none }
def portPlaysRow : OpenClaim := { program := "ytcbdfkgfidlkeaa", sum := "57627c23410f939950c44aaf8d70a689fb14722a2273af4acb3cb7e469ada578", func := "treeline/treelinelaw12.PortPlays", spec := "portPlays", apart := false }
def PortPlaysSaid : Prop := portPlaysRow.holds Try.pinned (OpenSpec.ofChange portPlaysSpec)

/-- ITS FALSE NEIGHBOUR: 'it returns false'. Refute it at one input. -/
def portPlaysWrong : ChangeSpec := { name := "portPlays", fn := fun _ => fun
  | [d] => { results := [.lit (.bool false)], args := [d] }
  | _ => none }
def PortPlaysWrongFalsely : Prop := portPlaysRow.holds Try.pinned (OpenSpec.ofChange portPlaysWrong)

/-- 'treelinelaw12.PortHolds': WHATEVER THE INPUT: true; the input reads as it did. -/
def portHoldsSpec : ChangeSpec := { name := "portHolds", fn := fun _ => fun
  | [d1, d2, d3, d4, d5, d6] => { results := [.lit (.bool true)], args := [d1, d2, d3, d4, d5, d6] }
  | _ => none }
def portHoldsRow : OpenClaim := { program := "ytcbdfkgfidlkeaa", sum := "57627c23410f939950c44aaf8d70a689fb14722a2273af4acb3cb7e469ada578", func := "treeline/treelinelaw12.PortHolds", spec := "portHolds", apart := false }
def PortHoldsSaid : Prop := portHoldsRow.holds Try.pinned (OpenSpec.ofChange portHoldsSpec)

/-- ITS FALSE NEIGHBOUR: 'it returns false'. Refute it at one input. -/
def portHoldsWrong : ChangeSpec := { name := "portHolds", fn := fun _ => fun
  | [d1, d2, d3, d4, d5, d6] => { results := [.lit (.bool false)], args := [d1, d2, d3, d4, d5, d6] }
  | _ => none }
def PortHoldsWrongFalsely : Prop := portHoldsRow.holds Try.pinned (OpenSpec.ofChange portHoldsWrong)

/-- 'treelinelaw12.PortRises': WHATEVER THE INPUT: true; the input reads as it did. -/
def portRisesSpec : ChangeSpec := { name := "portRises", fn := fun _ => fun
  | [d1, d2] => { results := [.lit (.bool true)], args := [d1, d2] }
  | _ => none }
def portRisesRow : OpenClaim := { program := "ytcbdfkgfidlkeaa", sum := "57627c23410f939950c44aaf8d70a689fb14722a2273af4acb3cb7e469ada578", func := "treeline/treelinelaw12.PortRises", spec := "portRises", apart := false }
def PortRisesSaid : Prop := portRisesRow.holds Try.pinned (OpenSpec.ofChange portRisesSpec)

/-- ITS FALSE NEIGHBOUR: 'it returns false'. Refute it at one input. -/
def portRisesWrong : ChangeSpec := { name := "portRises", fn := fun _ => fun
  | [d1, d2] => { results := [.lit (.bool false)], args := [d1, d2] }
  | _ => none }
def PortRisesWrongFalsely : Prop := portRisesRow.holds Try.pinned (OpenSpec.ofChange portRisesWrong)

/-- 'treelinelaw12.PortBlocks': WHATEVER THE INPUT: true; the input reads as it did. -/
def portBlocksSpec : ChangeSpec := { name := "portBlocks", fn := fun _ => fun
  | [d] => { results := [.lit (.bool true)], args := [d] }
  | _ => none }
def portBlocksRow : OpenClaim := { program := "ytcbdfkgfidlkeaa", sum := "57627c23410f939950c44aaf8d70a689fb14722a2273af4acb3cb7e469ada578", func := "treeline/treelinelaw12.PortBlocks", spec := "portBlocks", apart := false }
def PortBlocksSaid : Prop := portBlocksRow.holds Try.pinned (OpenSpec.ofChange portBlocksSpec)

/-- ITS FALSE NEIGHBOUR: 'it returns false'. Refute it at one input. -/
def portBlocksWrong : ChangeSpec := { name := "portBlocks", fn := fun _ => fun
  | [d] => { results := [.lit (.bool false)], args := [d] }
  | _ => none }
def PortBlocksWrongFalsely : Prop := portBlocksRow.holds Try.pinned (OpenSpec.ofChange portBlocksWrong)

/- THE SECOND FORM. 'bulk': how many values and letters a reading holds, each counted each time it is reached (what is shared counts as often as it is met; a slice's spare places count too). A statement '..UptoSaid' is the law's where the arguments, and the package variables that the reading takes, are together of bulk at most 1048576: NARROWER than '..Said'. Prove '..Said' where nothing that the law and all that it calls make is longer than what came in: it says more and counts as full. Else prove '..UptoSaid'. A law counts once. -/
mutual
def uptoBulk {H : Type} : DataW H → Nat
  | .lit (.string bytes) => bytes.length + 1
  | .lit _ => 1
  | .nil => 1
  | .ptr d => uptoBulk d + 1
  | .slice elems spare => uptoBulkAll elems + uptoBulkAll spare + 1
  | .agg parts => uptoBulkAll parts + 1
  | .iface _ d => uptoBulk d + 1
  | .map entries => uptoBulkEntries entries + 1
  | .held _ => 1
def uptoBulkAll {H : Type} : List (DataW H) → Nat
  | [] => 0
  | d :: r => uptoBulk d + uptoBulkAll r
def uptoBulkEntries {H : Type} : List (Lit × DataW H) → Nat
  | [] => 0
  | x :: r => uptoBulkEntry x + uptoBulkEntries r
def uptoBulkEntry {H : Type} : Lit × DataW H → Nat
  | (.string bytes, d) => bytes.length + uptoBulk d + 1
  | (_, d) => uptoBulk d + 1
 end
def uptoSmall : (H : Type) → List (DataW H) → Bool := fun _ ds => decide (uptoBulkAll ds ≤ 1048576)
def OpenSpec.upto (s : _root_.Go.ChangeSpec) : _root_.Go.OpenSpec := { _root_.Go.OpenSpec.ofChange s with cond := some uptoSmall }

/-- 'treelinelaw12.PortPlays', WHERE WHAT IT READS IS OF BULK AT MOST 1048576: true; the input reads as it did. -/
def portPlaysUptoRow : OpenClaim := { program := "ytcbdfkgfidlkeaa", sum := "57627c23410f939950c44aaf8d70a689fb14722a2273af4acb3cb7e469ada578", func := "treeline/treelinelaw12.PortPlays", spec := "portPlays", apart := false, narrowed := true }
def PortPlaysUptoSaid : Prop := portPlaysUptoRow.holds Try.pinned (OpenSpec.upto portPlaysSpec)

/-- 'treelinelaw12.PortHolds', WHERE WHAT IT READS IS OF BULK AT MOST 1048576: true; the input reads as it did. -/
def portHoldsUptoRow : OpenClaim := { program := "ytcbdfkgfidlkeaa", sum := "57627c23410f939950c44aaf8d70a689fb14722a2273af4acb3cb7e469ada578", func := "treeline/treelinelaw12.PortHolds", spec := "portHolds", apart := false, narrowed := true }
def PortHoldsUptoSaid : Prop := portHoldsUptoRow.holds Try.pinned (OpenSpec.upto portHoldsSpec)

/-- 'treelinelaw12.PortRises', WHERE WHAT IT READS IS OF BULK AT MOST 1048576: true; the input reads as it did. -/
def portRisesUptoRow : OpenClaim := { program := "ytcbdfkgfidlkeaa", sum := "57627c23410f939950c44aaf8d70a689fb14722a2273af4acb3cb7e469ada578", func := "treeline/treelinelaw12.PortRises", spec := "portRises", apart := false, narrowed := true }
def PortRisesUptoSaid : Prop := portRisesUptoRow.holds Try.pinned (OpenSpec.upto portRisesSpec)

/-- 'treelinelaw12.PortBlocks', WHERE WHAT IT READS IS OF BULK AT MOST 1048576: true; the input reads as it did. -/
def portBlocksUptoRow : OpenClaim := { program := "ytcbdfkgfidlkeaa", sum := "57627c23410f939950c44aaf8d70a689fb14722a2273af4acb3cb7e469ada578", func := "treeline/treelinelaw12.PortBlocks", spec := "portBlocks", apart := false, narrowed := true }
def PortBlocksUptoSaid : Prop := portBlocksUptoRow.holds Try.pinned (OpenSpec.upto portBlocksSpec)

end Rows
end Go.Proofs.Ytcbdfkgfidlkeaa
