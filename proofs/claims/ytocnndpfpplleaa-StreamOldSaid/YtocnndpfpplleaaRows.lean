/-
  No cell of these rows narrows 'for every input' (looked for: loops, veiled, ifaces, maps, wideKeys, modest, calm, conditions, laid).
  DERIVED. THE GIVEN ROWS OF THIS SEAT. 5 by the template 'for every input the law returns true; each argument reads behind the call as it read before'; 0 by the template 'total and deterministic' (their statements: YtocnndpfpplleaaTotals.lean).
  GIVEN WITH THE SEED: the statements are not yours to turn. If you find one false, say at which input.
  Laid BY PROGRAM, IN A SANDBOX (cutbox-rows.mjs): the forced cells as the released guide's own fill.sh prints them over the translation 51789e23275d13a5… (all of the seat's roots in one cut). By AI agents, Wed Nov 11 2026. No macro, syntax, notation, axiom, sorry.
-/
import Derived.Test.YtocnndpfpplleaaChecked
import GoSem.Claim
import GoSem.ClaimJoined
import GoSem.ClaimMapViews
import Derived.JoinedTies
import Derived.KernelRfl
namespace Go.Proofs.Ytocnndpfpplleaa
/- THE CELL 'sum', in the pinned program and in every row, IS THE sha256 OF THE DUMP (.gsa) THAT YtocnndpfpplleaaProg.lean LOADS. Nothing in Lean hashes anything: it is a label: what it is worth is what the hold of that sum in a sandbox is worth. -/
noncomputable def Try.pinned : Pinned := { name := "ytocnndpfpplleaa", sum := "51789e23275d13a535eb37de08060cf462b83b3332b83e56f6c9e5efd0bc8a35", checked := Try.checked }
namespace Rows
def none {H : Type} : Left H := { results := [], args := [] }

/-- 'wealdlaw06.StreamTells': WHATEVER THE INPUT: true; the input reads as it did. -/
def streamTellsSpec : ChangeSpec := { name := "streamTells", fn := fun _ => fun
  | [d1, d2, d3] => { results := [.lit (.bool true)], args := [d1, d2, d3] }
  | _ => none }
def streamTellsRow : OpenClaim := { program := "ytocnndpfpplleaa", sum := "51789e23275d13a535eb37de08060cf462b83b3332b83e56f6c9e5efd0bc8a35", func := "weald/wealdlaw06.StreamTells", spec := "streamTells", apart := false }
def StreamTellsSaid : Prop := streamTellsRow.holds Try.pinned (OpenSpec.ofChange streamTellsSpec)

/-- ITS FALSE NEIGHBOUR: 'it returns false'. Refute it at one input. -/
def streamTellsWrong : ChangeSpec := { name := "streamTells", fn := fun _ => fun
  | [d1, d2, d3] => { results := [.lit (.bool false)], args := [d1, d2, d3] }
  | _ => none }
def StreamTellsWrongFalsely : Prop := streamTellsRow.holds Try.pinned (OpenSpec.ofChange streamTellsWrong)

/-- 'wealdlaw06.StreamStays': WHATEVER THE INPUT: true; the input reads as it did. -/
def streamStaysSpec : ChangeSpec := { name := "streamStays", fn := fun _ => fun
  | [d1, d2, d3] => { results := [.lit (.bool true)], args := [d1, d2, d3] }
  | _ => none }
def streamStaysRow : OpenClaim := { program := "ytocnndpfpplleaa", sum := "51789e23275d13a535eb37de08060cf462b83b3332b83e56f6c9e5efd0bc8a35", func := "weald/wealdlaw06.StreamStays", spec := "streamStays", apart := false }
def StreamStaysSaid : Prop := streamStaysRow.holds Try.pinned (OpenSpec.ofChange streamStaysSpec)

/-- ITS FALSE NEIGHBOUR: 'it returns false'. Refute it at one input. -/
def streamStaysWrong : ChangeSpec := { name := "streamStays", fn := fun _ => fun
  | [d1, d2, d3] => { results := [.lit (.bool false)], args := [d1, d2, d3] }
  | _ => none }
def StreamStaysWrongFalsely : Prop := streamStaysRow.holds Try.pinned (OpenSpec.ofChange streamStaysWrong)

/-- 'wealdlaw06.StreamOld': WHATEVER THE INPUT: true; the input reads as it did. -/
def streamOldSpec : ChangeSpec := { name := "streamOld", fn := fun _ => fun
  | [d1, d2, d3] => { results := [.lit (.bool true)], args := [d1, d2, d3] }
  | _ => none }
def streamOldRow : OpenClaim := { program := "ytocnndpfpplleaa", sum := "51789e23275d13a535eb37de08060cf462b83b3332b83e56f6c9e5efd0bc8a35", func := "weald/wealdlaw06.StreamOld", spec := "streamOld", apart := false }
def StreamOldSaid : Prop := streamOldRow.holds Try.pinned (OpenSpec.ofChange streamOldSpec)

/-- ITS FALSE NEIGHBOUR: 'it returns false'. Refute it at one input. -/
def streamOldWrong : ChangeSpec := { name := "streamOld", fn := fun _ => fun
  | [d1, d2, d3] => { results := [.lit (.bool false)], args := [d1, d2, d3] }
  | _ => none }
def StreamOldWrongFalsely : Prop := streamOldRow.holds Try.pinned (OpenSpec.ofChange streamOldWrong)

/-- 'wealdlaw06.StreamTwice': WHATEVER THE INPUT: true; the input reads as it did. -/
def streamTwiceSpec : ChangeSpec := { name := "streamTwice", fn := fun _ => fun
  | [d1, d2, d3] => { results := [.lit (.bool true)], args := [d1, d2, d3] }
  | _ => none }
def streamTwiceRow : OpenClaim := { program := "ytocnndpfpplleaa", sum := "51789e23275d13a535eb37de08060cf462b83b3332b83e56f6c9e5efd0bc8a35", func := "weald/wealdlaw06.StreamTwice", spec := "streamTwice", apart := false }
def StreamTwiceSaid : Prop := streamTwiceRow.holds Try.pinned (OpenSpec.ofChange streamTwiceSpec)

/-- ITS FALSE NEIGHBOUR: 'it returns false'. Refute it at one input. -/
def streamTwiceWrong : ChangeSpec := { name := "streamTwice", fn := fun _ => fun
  | [d1, d2, d3] => { results := [.lit (.bool false)], args := [d1, d2, d3] }
  | _ => none }
def StreamTwiceWrongFalsely : Prop := streamTwiceRow.holds Try.pinned (OpenSpec.ofChange streamTwiceWrong)

/-- 'wealdlaw06.StreamParts': WHATEVER THE INPUT: true; the input reads as it did. -/
def streamPartsSpec : ChangeSpec := { name := "streamParts", fn := fun _ => fun
  | [d1, d2, d3] => { results := [.lit (.bool true)], args := [d1, d2, d3] }
  | _ => none }
def streamPartsRow : OpenClaim := { program := "ytocnndpfpplleaa", sum := "51789e23275d13a535eb37de08060cf462b83b3332b83e56f6c9e5efd0bc8a35", func := "weald/wealdlaw06.StreamParts", spec := "streamParts", apart := false }
def StreamPartsSaid : Prop := streamPartsRow.holds Try.pinned (OpenSpec.ofChange streamPartsSpec)

/-- ITS FALSE NEIGHBOUR: 'it returns false'. Refute it at one input. -/
def streamPartsWrong : ChangeSpec := { name := "streamParts", fn := fun _ => fun
  | [d1, d2, d3] => { results := [.lit (.bool false)], args := [d1, d2, d3] }
  | _ => none }
def StreamPartsWrongFalsely : Prop := streamPartsRow.holds Try.pinned (OpenSpec.ofChange streamPartsWrong)

/- THE SECOND FORM. 'bulk': how many values and letters a reading holds, each counted each time it is reached (what is shared counts as often as it is met; a slice's spare places count too). A statement '..UptoSaid' is the law's where the arguments, and the package variables that the reading takes, are together of bulk at most 1048576: NARROWER than '..Said'. Prove '..Said' where nothing that the law and all that it calls make is longer than what came in: it says more and counts as full. Else prove '..UptoSaid'. A law counts once. -/
mutual
def uptoBulk {H : Type} : DataW H → Nat
  | .lit (.string bytes) => bytes.length + 1
  | .lit _ => 1
  | .nil => 1
  | .ptr d => uptoBulk d + 1
  | .slice elems spare => uptoBulkAll elems + uptoBulkAll spare + 1
  | .agg parts => uptoBulkAll parts + 1
  | .iface _ d => uptoBulk d + 1
  | .map entries => uptoBulkEntries entries + 1
  | .held _ => 1
def uptoBulkAll {H : Type} : List (DataW H) → Nat
  | [] => 0
  | d :: r => uptoBulk d + uptoBulkAll r
def uptoBulkEntries {H : Type} : List (Lit × DataW H) → Nat
  | [] => 0
  | x :: r => uptoBulkEntry x + uptoBulkEntries r
def uptoBulkEntry {H : Type} : Lit × DataW H → Nat
  | (.string bytes, d) => bytes.length + uptoBulk d + 1
  | (_, d) => uptoBulk d + 1
 end
def uptoSmall : (H : Type) → List (DataW H) → Bool := fun _ ds => decide (uptoBulkAll ds ≤ 1048576)
def OpenSpec.upto (s : _root_.Go.ChangeSpec) : _root_.Go.OpenSpec := { _root_.Go.OpenSpec.ofChange s with cond := some uptoSmall }

/-- 'wealdlaw06.StreamTells', WHERE WHAT IT READS IS OF BULK AT MOST 1048576: true; the input reads as it did. -/
def streamTellsUptoRow : OpenClaim := { program := "ytocnndpfpplleaa", sum := "51789e23275d13a535eb37de08060cf462b83b3332b83e56f6c9e5efd0bc8a35", func := "weald/wealdlaw06.StreamTells", spec := "streamTells", apart := false, narrowed := true }
def StreamTellsUptoSaid : Prop := streamTellsUptoRow.holds Try.pinned (OpenSpec.upto streamTellsSpec)

/-- 'wealdlaw06.StreamStays', WHERE WHAT IT READS IS OF BULK AT MOST 1048576: true; the input reads as it did. -/
def streamStaysUptoRow : OpenClaim := { program := "ytocnndpfpplleaa", sum := "51789e23275d13a535eb37de08060cf462b83b3332b83e56f6c9e5efd0bc8a35", func := "weald/wealdlaw06.StreamStays", spec := "streamStays", apart := false, narrowed := true }
def StreamStaysUptoSaid : Prop := streamStaysUptoRow.holds Try.pinned (OpenSpec.upto streamStaysSpec)

/-- 'wealdlaw06.StreamOld', WHERE WHAT IT READS IS OF BULK AT MOST 1048576: true; the input reads as it did. -/
def streamOldUptoRow : OpenClaim := { program := "ytocnndpfpplleaa", sum := "51789e23275d13a535eb37de08060cf462b83b3332b83e56f6c9e5efd0bc8a35", func := "weald/wealdlaw06.StreamOld", spec := "streamOld", apart := false, narrowed := true }
def StreamOldUptoSaid : Prop := streamOldUptoRow.holds Try.pinned (OpenSpec.upto streamOldSpec)

/-- 'wealdlaw06.StreamTwice', WHERE WHAT IT READS IS OF BULK AT MOST 1048576: true; the input reads as it did. -/
def streamTwiceUptoRow : OpenClaim := { program := "ytocnndpfpplleaa", sum := "51789e23275d13a535eb37de08060cf462b83b3332b83e56f6c9e5efd0bc8a35", func := "weald/wealdlaw06.StreamTwice", spec := "streamTwice", apart := false, narrowed := true }
def StreamTwiceUptoSaid : Prop := streamTwiceUptoRow.holds Try.pinned (OpenSpec.upto streamTwiceSpec)

/-- 'wealdlaw06.StreamParts', WHERE WHAT IT READS IS OF BULK AT MOST 1048576: true; the input reads as it did. -/
def streamPartsUptoRow : OpenClaim := { program := "ytocnndpfpplleaa", sum := "51789e23275d13a535eb37de08060cf462b83b3332b83e56f6c9e5efd0bc8a35", func := "weald/wealdlaw06.StreamParts", spec := "streamParts", apart := false, narrowed := true }
def StreamPartsUptoSaid : Prop := streamPartsUptoRow.holds Try.pinned (OpenSpec.upto streamPartsSpec)

end Rows
end Go.Proofs.Ytocnndpfpplleaa
