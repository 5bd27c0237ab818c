/-
  No cell of these rows narrows 'for every input' (looked for: loops, veiled, ifaces, maps, wideKeys, modest, calm, conditions, laid).
  DERIVED. THE GIVEN ROWS OF THIS SEAT. 5 by the template 'for every input the law returns true; each argument reads behind the call as it read before'; 0 by the template 'total and deterministic' (their statements: YtimldigjjbiemaaTotals.lean).
  GIVEN WITH THE SEED: the statements are not yours to turn. If you find one false, say at which input.
  Laid BY PROGRAM, IN A SANDBOX (cutbox-rows.mjs): the forced cells as the released guide's own fill.sh prints them over the translation f84abc281e7ab9b4… (all of the seat's roots in one cut). By AI agents, Wed Nov 11 2026. No macro, syntax, notation, axiom, sorry.
-/
import Derived.Test.YtimldigjjbiemaaChecked
import GoSem.Claim
import GoSem.ClaimJoined
import GoSem.ClaimMapViews
import Derived.JoinedTies
import Derived.KernelRfl
namespace Go.Proofs.Ytimldigjjbiemaa
/- THE CELL 'sum', in the pinned program and in every row, IS THE sha256 OF THE DUMP (.gsa) THAT YtimldigjjbiemaaProg.lean LOADS. Nothing in Lean hashes anything: it is a label: what it is worth is what the hold of that sum in a sandbox is worth. -/
noncomputable def Try.pinned : Pinned := { name := "ytimldigjjbiemaa", sum := "f84abc281e7ab9b49df2d2bcc49d800c99b073c2b4255cb6d6257a01c77705f3", checked := Try.checked }
namespace Rows
def none {H : Type} : Left H := { results := [], args := [] }

/-- 'treelinelaw10.RankPlays': WHATEVER THE INPUT: true; the input reads as it did. -/
def rankPlaysSpec : ChangeSpec := { name := "rankPlays", fn := fun _ => fun
  | [d1, d2, d3, d4] => { results := [.lit (.bool true)], args := [d1, d2, d3, d4] }
  | _ => none }
def rankPlaysRow : OpenClaim := { program := "ytimldigjjbiemaa", sum := "f84abc281e7ab9b49df2d2bcc49d800c99b073c2b4255cb6d6257a01c77705f3", func := "treeline/treelinelaw10.RankPlays", spec := "rankPlays", apart := false }
def RankPlaysSaid : Prop := rankPlaysRow.holds Try.pinned (OpenSpec.ofChange rankPlaysSpec)

/-- ITS FALSE NEIGHBOUR: 'it returns false'. Refute it at one input. -/
def rankPlaysWrong : ChangeSpec := { name := "rankPlays", fn := fun _ => fun
  | [d1, d2, d3, d4] => { results := [.lit (.bool false)], args := [d1, d2, d3, d4] }
  | _ => none }
def RankPlaysWrongFalsely : Prop := rankPlaysRow.holds Try.pinned (OpenSpec.ofChange rankPlaysWrong)

/-- 'treelinelaw10.RankOrder': WHATEVER THE INPUT: true; the input reads as it did. -/
def rankOrderSpec : ChangeSpec := { name := "rankOrder", fn := fun _ => fun
  | [d1, d2, d3, d4] => { results := [.lit (.bool true)], args := [d1, d2, d3, d4] }
  | _ => none }
def rankOrderRow : OpenClaim := { program := "ytimldigjjbiemaa", sum := "f84abc281e7ab9b49df2d2bcc49d800c99b073c2b4255cb6d6257a01c77705f3", func := "treeline/treelinelaw10.RankOrder", spec := "rankOrder", apart := false }
def RankOrderSaid : Prop := rankOrderRow.holds Try.pinned (OpenSpec.ofChange rankOrderSpec)

/-- ITS FALSE NEIGHBOUR: 'it returns false'. Refute it at one input. -/
def rankOrderWrong : ChangeSpec := { name := "rankOrder", fn := fun _ => fun
  | [d1, d2, d3, d4] => { results := [.lit (.bool false)], args := [d1, d2, d3, d4] }
  | _ => none }
def RankOrderWrongFalsely : Prop := rankOrderRow.holds Try.pinned (OpenSpec.ofChange rankOrderWrong)

/-- 'treelinelaw10.RankTakes': WHATEVER THE INPUT: true; the input reads as it did. -/
def rankTakesSpec : ChangeSpec := { name := "rankTakes", fn := fun _ => fun
  | [d1, d2, d3] => { results := [.lit (.bool true)], args := [d1, d2, d3] }
  | _ => none }
def rankTakesRow : OpenClaim := { program := "ytimldigjjbiemaa", sum := "f84abc281e7ab9b49df2d2bcc49d800c99b073c2b4255cb6d6257a01c77705f3", func := "treeline/treelinelaw10.RankTakes", spec := "rankTakes", apart := false }
def RankTakesSaid : Prop := rankTakesRow.holds Try.pinned (OpenSpec.ofChange rankTakesSpec)

/-- ITS FALSE NEIGHBOUR: 'it returns false'. Refute it at one input. -/
def rankTakesWrong : ChangeSpec := { name := "rankTakes", fn := fun _ => fun
  | [d1, d2, d3] => { results := [.lit (.bool false)], args := [d1, d2, d3] }
  | _ => none }
def RankTakesWrongFalsely : Prop := rankTakesRow.holds Try.pinned (OpenSpec.ofChange rankTakesWrong)

/-- 'treelinelaw10.RankTells': WHATEVER THE INPUT: true; the input reads as it did. -/
def rankTellsSpec : ChangeSpec := { name := "rankTells", fn := fun _ => fun
  | [d] => { results := [.lit (.bool true)], args := [d] }
  | _ => none }
def rankTellsRow : OpenClaim := { program := "ytimldigjjbiemaa", sum := "f84abc281e7ab9b49df2d2bcc49d800c99b073c2b4255cb6d6257a01c77705f3", func := "treeline/treelinelaw10.RankTells", spec := "rankTells", apart := false }
def RankTellsSaid : Prop := rankTellsRow.holds Try.pinned (OpenSpec.ofChange rankTellsSpec)

/-- ITS FALSE NEIGHBOUR: 'it returns false'. Refute it at one input. -/
def rankTellsWrong : ChangeSpec := { name := "rankTells", fn := fun _ => fun
  | [d] => { results := [.lit (.bool false)], args := [d] }
  | _ => none }
def RankTellsWrongFalsely : Prop := rankTellsRow.holds Try.pinned (OpenSpec.ofChange rankTellsWrong)

/-- 'treelinelaw10.RankVia': WHATEVER THE INPUT: true; the input reads as it did. -/
def rankViaSpec : ChangeSpec := { name := "rankVia", fn := fun _ => fun
  | [d1, d2, d3] => { results := [.lit (.bool true)], args := [d1, d2, d3] }
  | _ => none }
def rankViaRow : OpenClaim := { program := "ytimldigjjbiemaa", sum := "f84abc281e7ab9b49df2d2bcc49d800c99b073c2b4255cb6d6257a01c77705f3", func := "treeline/treelinelaw10.RankVia", spec := "rankVia", apart := false }
def RankViaSaid : Prop := rankViaRow.holds Try.pinned (OpenSpec.ofChange rankViaSpec)

/-- ITS FALSE NEIGHBOUR: 'it returns false'. Refute it at one input. -/
def rankViaWrong : ChangeSpec := { name := "rankVia", fn := fun _ => fun
  | [d1, d2, d3] => { results := [.lit (.bool false)], args := [d1, d2, d3] }
  | _ => none }
def RankViaWrongFalsely : Prop := rankViaRow.holds Try.pinned (OpenSpec.ofChange rankViaWrong)

/- THE SECOND FORM. 'bulk': how many values and letters a reading holds, each counted each time it is reached (what is shared counts as often as it is met; a slice's spare places count too). A statement '..UptoSaid' is the law's where the arguments, and the package variables that the reading takes, are together of bulk at most 1048576: NARROWER than '..Said'. Prove '..Said' where nothing that the law and all that it calls make is longer than what came in: it says more and counts as full. Else prove '..UptoSaid'. A law counts once. -/
mutual
def uptoBulk {H : Type} : DataW H → Nat
  | .lit (.string bytes) => bytes.length + 1
  | .lit _ => 1
  | .nil => 1
  | .ptr d => uptoBulk d + 1
  | .slice elems spare => uptoBulkAll elems + uptoBulkAll spare + 1
  | .agg parts => uptoBulkAll parts + 1
  | .iface _ d => uptoBulk d + 1
  | .map entries => uptoBulkEntries entries + 1
  | .held _ => 1
def uptoBulkAll {H : Type} : List (DataW H) → Nat
  | [] => 0
  | d :: r => uptoBulk d + uptoBulkAll r
def uptoBulkEntries {H : Type} : List (Lit × DataW H) → Nat
  | [] => 0
  | x :: r => uptoBulkEntry x + uptoBulkEntries r
def uptoBulkEntry {H : Type} : Lit × DataW H → Nat
  | (.string bytes, d) => bytes.length + uptoBulk d + 1
  | (_, d) => uptoBulk d + 1
 end
def uptoSmall : (H : Type) → List (DataW H) → Bool := fun _ ds => decide (uptoBulkAll ds ≤ 1048576)
def OpenSpec.upto (s : _root_.Go.ChangeSpec) : _root_.Go.OpenSpec := { _root_.Go.OpenSpec.ofChange s with cond := some uptoSmall }

/-- 'treelinelaw10.RankPlays', WHERE WHAT IT READS IS OF BULK AT MOST 1048576: true; the input reads as it did. -/
def rankPlaysUptoRow : OpenClaim := { program := "ytimldigjjbiemaa", sum := "f84abc281e7ab9b49df2d2bcc49d800c99b073c2b4255cb6d6257a01c77705f3", func := "treeline/treelinelaw10.RankPlays", spec := "rankPlays", apart := false, narrowed := true }
def RankPlaysUptoSaid : Prop := rankPlaysUptoRow.holds Try.pinned (OpenSpec.upto rankPlaysSpec)

/-- 'treelinelaw10.RankOrder', WHERE WHAT IT READS IS OF BULK AT MOST 1048576: true; the input reads as it did. -/
def rankOrderUptoRow : OpenClaim := { program := "ytimldigjjbiemaa", sum := "f84abc281e7ab9b49df2d2bcc49d800c99b073c2b4255cb6d6257a01c77705f3", func := "treeline/treelinelaw10.RankOrder", spec := "rankOrder", apart := false, narrowed := true }
def RankOrderUptoSaid : Prop := rankOrderUptoRow.holds Try.pinned (OpenSpec.upto rankOrderSpec)

/-- 'treelinelaw10.RankTakes', WHERE WHAT IT READS IS OF BULK AT MOST 1048576: true; the input reads as it did. -/
def rankTakesUptoRow : OpenClaim := { program := "ytimldigjjbiemaa", sum := "f84abc281e7ab9b49df2d2bcc49d800c99b073c2b4255cb6d6257a01c77705f3", func := "treeline/treelinelaw10.RankTakes", spec := "rankTakes", apart := false, narrowed := true }
def RankTakesUptoSaid : Prop := rankTakesUptoRow.holds Try.pinned (OpenSpec.upto rankTakesSpec)

/-- 'treelinelaw10.RankTells', WHERE WHAT IT READS IS OF BULK AT MOST 1048576: true; the input reads as it did. -/
def rankTellsUptoRow : OpenClaim := { program := "ytimldigjjbiemaa", sum := "f84abc281e7ab9b49df2d2bcc49d800c99b073c2b4255cb6d6257a01c77705f3", func := "treeline/treelinelaw10.RankTells", spec := "rankTells", apart := false, narrowed := true }
def RankTellsUptoSaid : Prop := rankTellsUptoRow.holds Try.pinned (OpenSpec.upto rankTellsSpec)

/-- 'treelinelaw10.RankVia', WHERE WHAT IT READS IS OF BULK AT MOST 1048576: true; the input reads as it did. -/
def rankViaUptoRow : OpenClaim := { program := "ytimldigjjbiemaa", sum := "f84abc281e7ab9b49df2d2bcc49d800c99b073c2b4255cb6d6257a01c77705f3", func := "treeline/treelinelaw10.RankVia", spec := "rankVia", apart := false, narrowed := true }
def RankViaUptoSaid : Prop := rankViaUptoRow.holds Try.pinned (OpenSpec.upto rankViaSpec)

end Rows
end Go.Proofs.Ytimldigjjbiemaa
