/-
  No cell of these rows narrows 'for every input' (looked for: loops, veiled, ifaces, maps, wideKeys, modest, calm, conditions, laid).
  DERIVED. THE GIVEN ROWS OF THIS SEAT. 5 by the template 'for every input the law returns true; each argument reads behind the call as it read before'; 0 by the template 'total and deterministic' (their statements: YtokepfgknffdfaaTotals.lean).
  GIVEN WITH THE SEED: the statements are not yours to turn. If you find one false, say at which input.
  Laid BY PROGRAM, IN A SANDBOX (cutbox-rows.mjs): the forced cells as the released guide's own fill.sh prints them over the translation 7d3876d427f00298… (all of the seat's roots in one cut). By AI agents, Wed Nov 11 2026. No macro, syntax, notation, axiom, sorry.
-/
import Derived.Test.YtokepfgknffdfaaChecked
import GoSem.Claim
import GoSem.ClaimJoined
import GoSem.ClaimMapViews
import Derived.JoinedTies
import Derived.KernelRfl
namespace Go.Proofs.Ytokepfgknffdfaa
/- THE CELL 'sum', in the pinned program and in every row, IS THE sha256 OF THE DUMP (.gsa) THAT YtokepfgknffdfaaProg.lean LOADS. Nothing in Lean hashes anything: it is a label: what it is worth is what the hold of that sum in a sandbox is worth. -/
noncomputable def Try.pinned : Pinned := { name := "ytokepfgknffdfaa", sum := "7d3876d427f0029880621606d566fd9b514db87292bf881407cdbca379115916", checked := Try.checked }
namespace Rows
def none {H : Type} : Left H := { results := [], args := [] }

/-- 'treelinelaw08.FdbPlays': WHATEVER THE INPUT: true; the input reads as it did. -/
def fdbPlaysSpec : ChangeSpec := { name := "fdbPlays", fn := fun _ => fun
  | [d1, d2, d3] => { results := [.lit (.bool true)], args := [d1, d2, d3] }
  | _ => none }
def fdbPlaysRow : OpenClaim := { program := "ytokepfgknffdfaa", sum := "7d3876d427f0029880621606d566fd9b514db87292bf881407cdbca379115916", func := "treeline/treelinelaw08.FdbPlays", spec := "fdbPlays", unfollowed := true, recurses := true, apart := false }
def FdbPlaysSaid : Prop := fdbPlaysRow.holds Try.pinned (OpenSpec.ofChange fdbPlaysSpec)

/-- ITS FALSE NEIGHBOUR: 'it returns false'. Refute it at one input. -/
def fdbPlaysWrong : ChangeSpec := { name := "fdbPlays", fn := fun _ => fun
  | [d1, d2, d3] => { results := [.lit (.bool false)], args := [d1, d2, d3] }
  | _ => none }
def FdbPlaysWrongFalsely : Prop := fdbPlaysRow.holds Try.pinned (OpenSpec.ofChange fdbPlaysWrong)

/-- 'treelinelaw08.FdbFull': WHATEVER THE INPUT: true; the input reads as it did. -/
def fdbFullSpec : ChangeSpec := { name := "fdbFull", fn := fun _ => fun
  | [d1, d2, d3] => { results := [.lit (.bool true)], args := [d1, d2, d3] }
  | _ => none }
def fdbFullRow : OpenClaim := { program := "ytokepfgknffdfaa", sum := "7d3876d427f0029880621606d566fd9b514db87292bf881407cdbca379115916", func := "treeline/treelinelaw08.FdbFull", spec := "fdbFull", unfollowed := true, recurses := true, apart := false }
def FdbFullSaid : Prop := fdbFullRow.holds Try.pinned (OpenSpec.ofChange fdbFullSpec)

/-- ITS FALSE NEIGHBOUR: 'it returns false'. Refute it at one input. -/
def fdbFullWrong : ChangeSpec := { name := "fdbFull", fn := fun _ => fun
  | [d1, d2, d3] => { results := [.lit (.bool false)], args := [d1, d2, d3] }
  | _ => none }
def FdbFullWrongFalsely : Prop := fdbFullRow.holds Try.pinned (OpenSpec.ofChange fdbFullWrong)

/-- 'treelinelaw08.FdbAges': WHATEVER THE INPUT: true; the input reads as it did. -/
def fdbAgesSpec : ChangeSpec := { name := "fdbAges", fn := fun _ => fun
  | [d1, d2, d3, d4] => { results := [.lit (.bool true)], args := [d1, d2, d3, d4] }
  | _ => none }
def fdbAgesRow : OpenClaim := { program := "ytokepfgknffdfaa", sum := "7d3876d427f0029880621606d566fd9b514db87292bf881407cdbca379115916", func := "treeline/treelinelaw08.FdbAges", spec := "fdbAges", unfollowed := true, recurses := true, apart := false }
def FdbAgesSaid : Prop := fdbAgesRow.holds Try.pinned (OpenSpec.ofChange fdbAgesSpec)

/-- ITS FALSE NEIGHBOUR: 'it returns false'. Refute it at one input. -/
def fdbAgesWrong : ChangeSpec := { name := "fdbAges", fn := fun _ => fun
  | [d1, d2, d3, d4] => { results := [.lit (.bool false)], args := [d1, d2, d3, d4] }
  | _ => none }
def FdbAgesWrongFalsely : Prop := fdbAgesRow.holds Try.pinned (OpenSpec.ofChange fdbAgesWrong)

/-- 'treelinelaw08.FdbMoves': WHATEVER THE INPUT: true; the input reads as it did. -/
def fdbMovesSpec : ChangeSpec := { name := "fdbMoves", fn := fun _ => fun
  | [d1, d2, d3] => { results := [.lit (.bool true)], args := [d1, d2, d3] }
  | _ => none }
def fdbMovesRow : OpenClaim := { program := "ytokepfgknffdfaa", sum := "7d3876d427f0029880621606d566fd9b514db87292bf881407cdbca379115916", func := "treeline/treelinelaw08.FdbMoves", spec := "fdbMoves", unfollowed := true, recurses := true, apart := false }
def FdbMovesSaid : Prop := fdbMovesRow.holds Try.pinned (OpenSpec.ofChange fdbMovesSpec)

/-- ITS FALSE NEIGHBOUR: 'it returns false'. Refute it at one input. -/
def fdbMovesWrong : ChangeSpec := { name := "fdbMoves", fn := fun _ => fun
  | [d1, d2, d3] => { results := [.lit (.bool false)], args := [d1, d2, d3] }
  | _ => none }
def FdbMovesWrongFalsely : Prop := fdbMovesRow.holds Try.pinned (OpenSpec.ofChange fdbMovesWrong)

/-- 'treelinelaw08.FdbLess': WHATEVER THE INPUT: true; the input reads as it did. -/
def fdbLessSpec : ChangeSpec := { name := "fdbLess", fn := fun _ => fun
  | [d] => { results := [.lit (.bool true)], args := [d] }
  | _ => none }
def fdbLessRow : OpenClaim := { program := "ytokepfgknffdfaa", sum := "7d3876d427f0029880621606d566fd9b514db87292bf881407cdbca379115916", func := "treeline/treelinelaw08.FdbLess", spec := "fdbLess", unfollowed := true, recurses := true, apart := false }
def FdbLessSaid : Prop := fdbLessRow.holds Try.pinned (OpenSpec.ofChange fdbLessSpec)

/-- ITS FALSE NEIGHBOUR: 'it returns false'. Refute it at one input. -/
def fdbLessWrong : ChangeSpec := { name := "fdbLess", fn := fun _ => fun
  | [d] => { results := [.lit (.bool false)], args := [d] }
  | _ => none }
def FdbLessWrongFalsely : Prop := fdbLessRow.holds Try.pinned (OpenSpec.ofChange fdbLessWrong)

/- THE SECOND FORM. 'bulk': how many values and letters a reading holds, each counted each time it is reached (what is shared counts as often as it is met; a slice's spare places count too). A statement '..UptoSaid' is the law's where the arguments, and the package variables that the reading takes, are together of bulk at most 1048576: NARROWER than '..Said'. Prove '..Said' where nothing that the law and all that it calls make is longer than what came in: it says more and counts as full. Else prove '..UptoSaid'. A law counts once. -/
mutual
def uptoBulk {H : Type} : DataW H → Nat
  | .lit (.string bytes) => bytes.length + 1
  | .lit _ => 1
  | .nil => 1
  | .ptr d => uptoBulk d + 1
  | .slice elems spare => uptoBulkAll elems + uptoBulkAll spare + 1
  | .agg parts => uptoBulkAll parts + 1
  | .iface _ d => uptoBulk d + 1
  | .map entries => uptoBulkEntries entries + 1
  | .held _ => 1
def uptoBulkAll {H : Type} : List (DataW H) → Nat
  | [] => 0
  | d :: r => uptoBulk d + uptoBulkAll r
def uptoBulkEntries {H : Type} : List (Lit × DataW H) → Nat
  | [] => 0
  | x :: r => uptoBulkEntry x + uptoBulkEntries r
def uptoBulkEntry {H : Type} : Lit × DataW H → Nat
  | (.string bytes, d) => bytes.length + uptoBulk d + 1
  | (_, d) => uptoBulk d + 1
 end
def uptoSmall : (H : Type) → List (DataW H) → Bool := fun _ ds => decide (uptoBulkAll ds ≤ 1048576)
def OpenSpec.upto (s : _root_.Go.ChangeSpec) : _root_.Go.OpenSpec := { _root_.Go.OpenSpec.ofChange s with cond := some uptoSmall }

/-- 'treelinelaw08.FdbPlays', WHERE WHAT IT READS IS OF BULK AT MOST 1048576: true; the input reads as it did. -/
def fdbPlaysUptoRow : OpenClaim := { program := "ytokepfgknffdfaa", sum := "7d3876d427f0029880621606d566fd9b514db87292bf881407cdbca379115916", func := "treeline/treelinelaw08.FdbPlays", spec := "fdbPlays", unfollowed := true, recurses := true, apart := false, narrowed := true }
def FdbPlaysUptoSaid : Prop := fdbPlaysUptoRow.holds Try.pinned (OpenSpec.upto fdbPlaysSpec)

/-- 'treelinelaw08.FdbFull', WHERE WHAT IT READS IS OF BULK AT MOST 1048576: true; the input reads as it did. -/
def fdbFullUptoRow : OpenClaim := { program := "ytokepfgknffdfaa", sum := "7d3876d427f0029880621606d566fd9b514db87292bf881407cdbca379115916", func := "treeline/treelinelaw08.FdbFull", spec := "fdbFull", unfollowed := true, recurses := true, apart := false, narrowed := true }
def FdbFullUptoSaid : Prop := fdbFullUptoRow.holds Try.pinned (OpenSpec.upto fdbFullSpec)

/-- 'treelinelaw08.FdbAges', WHERE WHAT IT READS IS OF BULK AT MOST 1048576: true; the input reads as it did. -/
def fdbAgesUptoRow : OpenClaim := { program := "ytokepfgknffdfaa", sum := "7d3876d427f0029880621606d566fd9b514db87292bf881407cdbca379115916", func := "treeline/treelinelaw08.FdbAges", spec := "fdbAges", unfollowed := true, recurses := true, apart := false, narrowed := true }
def FdbAgesUptoSaid : Prop := fdbAgesUptoRow.holds Try.pinned (OpenSpec.upto fdbAgesSpec)

/-- 'treelinelaw08.FdbMoves', WHERE WHAT IT READS IS OF BULK AT MOST 1048576: true; the input reads as it did. -/
def fdbMovesUptoRow : OpenClaim := { program := "ytokepfgknffdfaa", sum := "7d3876d427f0029880621606d566fd9b514db87292bf881407cdbca379115916", func := "treeline/treelinelaw08.FdbMoves", spec := "fdbMoves", unfollowed := true, recurses := true, apart := false, narrowed := true }
def FdbMovesUptoSaid : Prop := fdbMovesUptoRow.holds Try.pinned (OpenSpec.upto fdbMovesSpec)

/-- 'treelinelaw08.FdbLess', WHERE WHAT IT READS IS OF BULK AT MOST 1048576: true; the input reads as it did. -/
def fdbLessUptoRow : OpenClaim := { program := "ytokepfgknffdfaa", sum := "7d3876d427f0029880621606d566fd9b514db87292bf881407cdbca379115916", func := "treeline/treelinelaw08.FdbLess", spec := "fdbLess", unfollowed := true, recurses := true, apart := false, narrowed := true }
def FdbLessUptoSaid : Prop := fdbLessUptoRow.holds Try.pinned (OpenSpec.upto fdbLessSpec)

end Rows
end Go.Proofs.Ytokepfgknffdfaa
