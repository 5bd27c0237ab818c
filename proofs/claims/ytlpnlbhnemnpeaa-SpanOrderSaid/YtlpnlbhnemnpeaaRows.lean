/-
  No cell of these rows narrows 'for every input' (looked for: loops, veiled, ifaces, maps, wideKeys, modest, calm, conditions, laid).
  DERIVED. THE GIVEN ROWS OF THIS SEAT. 5 by the template 'for every input the law returns true; each argument reads behind the call as it read before'; 0 by the template 'total and deterministic' (their statements: YtlpnlbhnemnpeaaTotals.lean).
  GIVEN WITH THE SEED: the statements are not yours to turn. If you find one false, say at which input.
  Laid BY PROGRAM, IN A SANDBOX (cutbox-rows.mjs): the forced cells as the released guide's own fill.sh prints them over the translation ca28dd31fc39c26f… (all of the seat's roots in one cut). By AI agents, Wed Nov 11 2026. No macro, syntax, notation, axiom, sorry.
-/
import Derived.Test.YtlpnlbhnemnpeaaChecked
import GoSem.Claim
import GoSem.ClaimJoined
import GoSem.ClaimMapViews
import Derived.JoinedTies
import Derived.KernelRfl
namespace Go.Proofs.Ytlpnlbhnemnpeaa
/- THE CELL 'sum', in the pinned program and in every row, IS THE sha256 OF THE DUMP (.gsa) THAT YtlpnlbhnemnpeaaProg.lean LOADS. Nothing in Lean hashes anything: it is a label: what it is worth is what the hold of that sum in a sandbox is worth. -/
noncomputable def Try.pinned : Pinned := { name := "ytlpnlbhnemnpeaa", sum := "ca28dd31fc39c26f7e216ffea8a3b47536b0e0eba6ac1a3ff596d8a63b280711", checked := Try.checked }
namespace Rows
def none {H : Type} : Left H := { results := [], args := [] }

/-- 'treelinelaw02.SpanPlays': WHATEVER THE INPUT: true; the input reads as it did. -/
def spanPlaysSpec : ChangeSpec := { name := "spanPlays", fn := fun _ => fun
  | [d1, d2] => { results := [.lit (.bool true)], args := [d1, d2] }
  | _ => none }
def spanPlaysRow : OpenClaim := { program := "ytlpnlbhnemnpeaa", sum := "ca28dd31fc39c26f7e216ffea8a3b47536b0e0eba6ac1a3ff596d8a63b280711", func := "treeline/treelinelaw02.SpanPlays", spec := "spanPlays", apart := false }
def SpanPlaysSaid : Prop := spanPlaysRow.holds Try.pinned (OpenSpec.ofChange spanPlaysSpec)

/-- ITS FALSE NEIGHBOUR: 'it returns false'. Refute it at one input. -/
def spanPlaysWrong : ChangeSpec := { name := "spanPlays", fn := fun _ => fun
  | [d1, d2] => { results := [.lit (.bool false)], args := [d1, d2] }
  | _ => none }
def SpanPlaysWrongFalsely : Prop := spanPlaysRow.holds Try.pinned (OpenSpec.ofChange spanPlaysWrong)

/-- 'treelinelaw02.SpanBetween': WHATEVER THE INPUT: true; the input reads as it did. -/
def spanBetweenSpec : ChangeSpec := { name := "spanBetween", fn := fun _ => fun
  | [d] => { results := [.lit (.bool true)], args := [d] }
  | _ => none }
def spanBetweenRow : OpenClaim := { program := "ytlpnlbhnemnpeaa", sum := "ca28dd31fc39c26f7e216ffea8a3b47536b0e0eba6ac1a3ff596d8a63b280711", func := "treeline/treelinelaw02.SpanBetween", spec := "spanBetween", apart := false }
def SpanBetweenSaid : Prop := spanBetweenRow.holds Try.pinned (OpenSpec.ofChange spanBetweenSpec)

/-- ITS FALSE NEIGHBOUR: 'it returns false'. Refute it at one input. -/
def spanBetweenWrong : ChangeSpec := { name := "spanBetween", fn := fun _ => fun
  | [d] => { results := [.lit (.bool false)], args := [d] }
  | _ => none }
def SpanBetweenWrongFalsely : Prop := spanBetweenRow.holds Try.pinned (OpenSpec.ofChange spanBetweenWrong)

/-- 'treelinelaw02.SpanOlder': WHATEVER THE INPUT: true; the input reads as it did. -/
def spanOlderSpec : ChangeSpec := { name := "spanOlder", fn := fun _ => fun
  | [d1, d2] => { results := [.lit (.bool true)], args := [d1, d2] }
  | _ => none }
def spanOlderRow : OpenClaim := { program := "ytlpnlbhnemnpeaa", sum := "ca28dd31fc39c26f7e216ffea8a3b47536b0e0eba6ac1a3ff596d8a63b280711", func := "treeline/treelinelaw02.SpanOlder", spec := "spanOlder", apart := false }
def SpanOlderSaid : Prop := spanOlderRow.holds Try.pinned (OpenSpec.ofChange spanOlderSpec)

/-- ITS FALSE NEIGHBOUR: 'it returns false'. Refute it at one input. -/
def spanOlderWrong : ChangeSpec := { name := "spanOlder", fn := fun _ => fun
  | [d1, d2] => { results := [.lit (.bool false)], args := [d1, d2] }
  | _ => none }
def SpanOlderWrongFalsely : Prop := spanOlderRow.holds Try.pinned (OpenSpec.ofChange spanOlderWrong)

/-- 'treelinelaw02.SpanSeconds': WHATEVER THE INPUT: true; the input reads as it did. -/
def spanSecondsSpec : ChangeSpec := { name := "spanSeconds", fn := fun _ => fun
  | [d] => { results := [.lit (.bool true)], args := [d] }
  | _ => none }
def spanSecondsRow : OpenClaim := { program := "ytlpnlbhnemnpeaa", sum := "ca28dd31fc39c26f7e216ffea8a3b47536b0e0eba6ac1a3ff596d8a63b280711", func := "treeline/treelinelaw02.SpanSeconds", spec := "spanSeconds", apart := false }
def SpanSecondsSaid : Prop := spanSecondsRow.holds Try.pinned (OpenSpec.ofChange spanSecondsSpec)

/-- ITS FALSE NEIGHBOUR: 'it returns false'. Refute it at one input. -/
def spanSecondsWrong : ChangeSpec := { name := "spanSeconds", fn := fun _ => fun
  | [d] => { results := [.lit (.bool false)], args := [d] }
  | _ => none }
def SpanSecondsWrongFalsely : Prop := spanSecondsRow.holds Try.pinned (OpenSpec.ofChange spanSecondsWrong)

/-- 'treelinelaw02.SpanOrder': WHATEVER THE INPUT: true; the input reads as it did. -/
def spanOrderSpec : ChangeSpec := { name := "spanOrder", fn := fun _ => fun
  | [d1, d2] => { results := [.lit (.bool true)], args := [d1, d2] }
  | _ => none }
def spanOrderRow : OpenClaim := { program := "ytlpnlbhnemnpeaa", sum := "ca28dd31fc39c26f7e216ffea8a3b47536b0e0eba6ac1a3ff596d8a63b280711", func := "treeline/treelinelaw02.SpanOrder", spec := "spanOrder", apart := false }
def SpanOrderSaid : Prop := spanOrderRow.holds Try.pinned (OpenSpec.ofChange spanOrderSpec)

/-- ITS FALSE NEIGHBOUR: 'it returns false'. Refute it at one input. -/
def spanOrderWrong : ChangeSpec := { name := "spanOrder", fn := fun _ => fun
  | [d1, d2] => { results := [.lit (.bool false)], args := [d1, d2] }
  | _ => none }
def SpanOrderWrongFalsely : Prop := spanOrderRow.holds Try.pinned (OpenSpec.ofChange spanOrderWrong)

/- THE SECOND FORM. 'bulk': how many values and letters a reading holds, each counted each time it is reached (what is shared counts as often as it is met; a slice's spare places count too). A statement '..UptoSaid' is the law's where the arguments, and the package variables that the reading takes, are together of bulk at most 1048576: NARROWER than '..Said'. Prove '..Said' where nothing that the law and all that it calls make is longer than what came in: it says more and counts as full. Else prove '..UptoSaid'. A law counts once. -/
mutual
def uptoBulk {H : Type} : DataW H → Nat
  | .lit (.string bytes) => bytes.length + 1
  | .lit _ => 1
  | .nil => 1
  | .ptr d => uptoBulk d + 1
  | .slice elems spare => uptoBulkAll elems + uptoBulkAll spare + 1
  | .agg parts => uptoBulkAll parts + 1
  | .iface _ d => uptoBulk d + 1
  | .map entries => uptoBulkEntries entries + 1
  | .held _ => 1
def uptoBulkAll {H : Type} : List (DataW H) → Nat
  | [] => 0
  | d :: r => uptoBulk d + uptoBulkAll r
def uptoBulkEntries {H : Type} : List (Lit × DataW H) → Nat
  | [] => 0
  | x :: r => uptoBulkEntry x + uptoBulkEntries r
def uptoBulkEntry {H : Type} : Lit × DataW H → Nat
  | (.string bytes, d) => bytes.length + uptoBulk d + 1
  | (_, d) => uptoBulk d + 1
 end
def uptoSmall : (H : Type) → List (DataW H) → Bool := fun _ ds => decide (uptoBulkAll ds ≤ 1048576)
def OpenSpec.upto (s : _root_.Go.ChangeSpec) : _root_.Go.OpenSpec := { _root_.Go.OpenSpec.ofChange s with cond := some uptoSmall }

/-- 'treelinelaw02.SpanPlays', WHERE WHAT IT READS IS OF BULK AT MOST 1048576: true; the input reads as it did. -/
def spanPlaysUptoRow : OpenClaim := { program := "ytlpnlbhnemnpeaa", sum := "ca28dd31fc39c26f7e216ffea8a3b47536b0e0eba6ac1a3ff596d8a63b280711", func := "treeline/treelinelaw02.SpanPlays", spec := "spanPlays", apart := false, narrowed := true }
def SpanPlaysUptoSaid : Prop := spanPlaysUptoRow.holds Try.pinned (OpenSpec.upto spanPlaysSpec)

/-- 'treelinelaw02.SpanBetween', WHERE WHAT IT READS IS OF BULK AT MOST 1048576: true; the input reads as it did. -/
def spanBetweenUptoRow : OpenClaim := { program := "ytlpnlbhnemnpeaa", sum := "ca28dd31fc39c26f7e216ffea8a3b47536b0e0eba6ac1a3ff596d8a63b280711", func := "treeline/treelinelaw02.SpanBetween", spec := "spanBetween", apart := false, narrowed := true }
def SpanBetweenUptoSaid : Prop := spanBetweenUptoRow.holds Try.pinned (OpenSpec.upto spanBetweenSpec)

/-- 'treelinelaw02.SpanOlder', WHERE WHAT IT READS IS OF BULK AT MOST 1048576: true; the input reads as it did. -/
def spanOlderUptoRow : OpenClaim := { program := "ytlpnlbhnemnpeaa", sum := "ca28dd31fc39c26f7e216ffea8a3b47536b0e0eba6ac1a3ff596d8a63b280711", func := "treeline/treelinelaw02.SpanOlder", spec := "spanOlder", apart := false, narrowed := true }
def SpanOlderUptoSaid : Prop := spanOlderUptoRow.holds Try.pinned (OpenSpec.upto spanOlderSpec)

/-- 'treelinelaw02.SpanSeconds', WHERE WHAT IT READS IS OF BULK AT MOST 1048576: true; the input reads as it did. -/
def spanSecondsUptoRow : OpenClaim := { program := "ytlpnlbhnemnpeaa", sum := "ca28dd31fc39c26f7e216ffea8a3b47536b0e0eba6ac1a3ff596d8a63b280711", func := "treeline/treelinelaw02.SpanSeconds", spec := "spanSeconds", apart := false, narrowed := true }
def SpanSecondsUptoSaid : Prop := spanSecondsUptoRow.holds Try.pinned (OpenSpec.upto spanSecondsSpec)

/-- 'treelinelaw02.SpanOrder', WHERE WHAT IT READS IS OF BULK AT MOST 1048576: true; the input reads as it did. -/
def spanOrderUptoRow : OpenClaim := { program := "ytlpnlbhnemnpeaa", sum := "ca28dd31fc39c26f7e216ffea8a3b47536b0e0eba6ac1a3ff596d8a63b280711", func := "treeline/treelinelaw02.SpanOrder", spec := "spanOrder", apart := false, narrowed := true }
def SpanOrderUptoSaid : Prop := spanOrderUptoRow.holds Try.pinned (OpenSpec.upto spanOrderSpec)

end Rows
end Go.Proofs.Ytlpnlbhnemnpeaa
