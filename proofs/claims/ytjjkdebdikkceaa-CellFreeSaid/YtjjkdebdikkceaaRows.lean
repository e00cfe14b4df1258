/-
  No cell of these rows narrows 'for every input' (looked for: loops, veiled, ifaces, maps, wideKeys, modest, calm, conditions, laid).
  DERIVED. THE GIVEN ROWS OF THIS SEAT. 5 by the template 'for every input the law returns true; each argument reads behind the call as it read before'; 0 by the template 'total and deterministic' (their statements: YtjjkdebdikkceaaTotals.lean).
  GIVEN WITH THE SEED: the statements are not yours to turn. If you find one false, say at which input.
  Laid BY PROGRAM, IN A SANDBOX (cutbox-rows.mjs): the forced cells as the released guide's own fill.sh prints them over the translation f4ab2647d432637b… (all of the seat's roots in one cut). By AI agents, Wed Nov 11 2026. No macro, syntax, notation, axiom, sorry.
-/
import Derived.Test.YtjjkdebdikkceaaChecked
import GoSem.Claim
import GoSem.ClaimJoined
import GoSem.ClaimMapViews
import Derived.JoinedTies
import Derived.KernelRfl
namespace Go.Proofs.Ytjjkdebdikkceaa
/- THE CELL 'sum', in the pinned program and in every row, IS THE sha256 OF THE DUMP (.gsa) THAT YtjjkdebdikkceaaProg.lean LOADS. Nothing in Lean hashes anything: it is a label: what it is worth is what the hold of that sum in a sandbox is worth. -/
noncomputable def Try.pinned : Pinned := { name := "ytjjkdebdikkceaa", sum := "f4ab2647d432637b1a1821db357c34489ea7a22196c0bba387c202a4f83b92a8", checked := Try.checked }
namespace Rows
def none {H : Type} : Left H := { results := [], args := [] }

/-- 'wealdlaw09.CellTells': WHATEVER THE INPUT: true; the input reads as it did. -/
def cellTellsSpec : ChangeSpec := { name := "cellTells", fn := fun _ => fun
  | [d] => { results := [.lit (.bool true)], args := [d] }
  | _ => none }
def cellTellsRow : OpenClaim := { program := "ytjjkdebdikkceaa", sum := "f4ab2647d432637b1a1821db357c34489ea7a22196c0bba387c202a4f83b92a8", func := "weald/wealdlaw09.CellTells", spec := "cellTells", apart := false }
def CellTellsSaid : Prop := cellTellsRow.holds Try.pinned (OpenSpec.ofChange cellTellsSpec)

/-- ITS FALSE NEIGHBOUR: 'it returns false'. Refute it at one input. -/
def cellTellsWrong : ChangeSpec := { name := "cellTells", fn := fun _ => fun
  | [d] => { results := [.lit (.bool false)], args := [d] }
  | _ => none }
def CellTellsWrongFalsely : Prop := cellTellsRow.holds Try.pinned (OpenSpec.ofChange cellTellsWrong)

/-- 'wealdlaw09.CellApart': WHATEVER THE INPUT: true; the input reads as it did. -/
def cellApartSpec : ChangeSpec := { name := "cellApart", fn := fun _ => fun
  | [d] => { results := [.lit (.bool true)], args := [d] }
  | _ => none }
def cellApartRow : OpenClaim := { program := "ytjjkdebdikkceaa", sum := "f4ab2647d432637b1a1821db357c34489ea7a22196c0bba387c202a4f83b92a8", func := "weald/wealdlaw09.CellApart", spec := "cellApart", apart := false }
def CellApartSaid : Prop := cellApartRow.holds Try.pinned (OpenSpec.ofChange cellApartSpec)

/-- ITS FALSE NEIGHBOUR: 'it returns false'. Refute it at one input. -/
def cellApartWrong : ChangeSpec := { name := "cellApart", fn := fun _ => fun
  | [d] => { results := [.lit (.bool false)], args := [d] }
  | _ => none }
def CellApartWrongFalsely : Prop := cellApartRow.holds Try.pinned (OpenSpec.ofChange cellApartWrong)

/-- 'wealdlaw09.CellFree': WHATEVER THE INPUT: true; the input reads as it did. -/
def cellFreeSpec : ChangeSpec := { name := "cellFree", fn := fun _ => fun
  | [d1, d2] => { results := [.lit (.bool true)], args := [d1, d2] }
  | _ => none }
def cellFreeRow : OpenClaim := { program := "ytjjkdebdikkceaa", sum := "f4ab2647d432637b1a1821db357c34489ea7a22196c0bba387c202a4f83b92a8", func := "weald/wealdlaw09.CellFree", spec := "cellFree", apart := false }
def CellFreeSaid : Prop := cellFreeRow.holds Try.pinned (OpenSpec.ofChange cellFreeSpec)

/-- ITS FALSE NEIGHBOUR: 'it returns false'. Refute it at one input. -/
def cellFreeWrong : ChangeSpec := { name := "cellFree", fn := fun _ => fun
  | [d1, d2] => { results := [.lit (.bool false)], args := [d1, d2] }
  | _ => none }
def CellFreeWrongFalsely : Prop := cellFreeRow.holds Try.pinned (OpenSpec.ofChange cellFreeWrong)

/-- 'wealdlaw09.CellMore': WHATEVER THE INPUT: true; the input reads as it did. -/
def cellMoreSpec : ChangeSpec := { name := "cellMore", fn := fun _ => fun
  | [d] => { results := [.lit (.bool true)], args := [d] }
  | _ => none }
def cellMoreRow : OpenClaim := { program := "ytjjkdebdikkceaa", sum := "f4ab2647d432637b1a1821db357c34489ea7a22196c0bba387c202a4f83b92a8", func := "weald/wealdlaw09.CellMore", spec := "cellMore", apart := false }
def CellMoreSaid : Prop := cellMoreRow.holds Try.pinned (OpenSpec.ofChange cellMoreSpec)

/-- ITS FALSE NEIGHBOUR: 'it returns false'. Refute it at one input. -/
def cellMoreWrong : ChangeSpec := { name := "cellMore", fn := fun _ => fun
  | [d] => { results := [.lit (.bool false)], args := [d] }
  | _ => none }
def CellMoreWrongFalsely : Prop := cellMoreRow.holds Try.pinned (OpenSpec.ofChange cellMoreWrong)

/-- 'wealdlaw09.CellNexts': WHATEVER THE INPUT: true; the input reads as it did. -/
def cellNextsSpec : ChangeSpec := { name := "cellNexts", fn := fun _ => fun
  | [d] => { results := [.lit (.bool true)], args := [d] }
  | _ => none }
def cellNextsRow : OpenClaim := { program := "ytjjkdebdikkceaa", sum := "f4ab2647d432637b1a1821db357c34489ea7a22196c0bba387c202a4f83b92a8", func := "weald/wealdlaw09.CellNexts", spec := "cellNexts", apart := false }
def CellNextsSaid : Prop := cellNextsRow.holds Try.pinned (OpenSpec.ofChange cellNextsSpec)

/-- ITS FALSE NEIGHBOUR: 'it returns false'. Refute it at one input. -/
def cellNextsWrong : ChangeSpec := { name := "cellNexts", fn := fun _ => fun
  | [d] => { results := [.lit (.bool false)], args := [d] }
  | _ => none }
def CellNextsWrongFalsely : Prop := cellNextsRow.holds Try.pinned (OpenSpec.ofChange cellNextsWrong)

/- THE SECOND FORM. 'bulk': how many values and letters a reading holds, each counted each time it is reached (what is shared counts as often as it is met; a slice's spare places count too). A statement '..UptoSaid' is the law's where the arguments, and the package variables that the reading takes, are together of bulk at most 1048576: NARROWER than '..Said'. Prove '..Said' where nothing that the law and all that it calls make is longer than what came in: it says more and counts as full. Else prove '..UptoSaid'. A law counts once. -/
mutual
def uptoBulk {H : Type} : DataW H → Nat
  | .lit (.string bytes) => bytes.length + 1
  | .lit _ => 1
  | .nil => 1
  | .ptr d => uptoBulk d + 1
  | .slice elems spare => uptoBulkAll elems + uptoBulkAll spare + 1
  | .agg parts => uptoBulkAll parts + 1
  | .iface _ d => uptoBulk d + 1
  | .map entries => uptoBulkEntries entries + 1
  | .held _ => 1
def uptoBulkAll {H : Type} : List (DataW H) → Nat
  | [] => 0
  | d :: r => uptoBulk d + uptoBulkAll r
def uptoBulkEntries {H : Type} : List (Lit × DataW H) → Nat
  | [] => 0
  | x :: r => uptoBulkEntry x + uptoBulkEntries r
def uptoBulkEntry {H : Type} : Lit × DataW H → Nat
  | (.string bytes, d) => bytes.length + uptoBulk d + 1
  | (_, d) => uptoBulk d + 1
 end
def uptoSmall : (H : Type) → List (DataW H) → Bool := fun _ ds => decide (uptoBulkAll ds ≤ 1048576)
def OpenSpec.upto (s : _root_.Go.ChangeSpec) : _root_.Go.OpenSpec := { _root_.Go.OpenSpec.ofChange s with cond := some uptoSmall }

/-- 'wealdlaw09.CellTells', WHERE WHAT IT READS IS OF BULK AT MOST 1048576: true; the input reads as it did. -/
def cellTellsUptoRow : OpenClaim := { program := "ytjjkdebdikkceaa", sum := "f4ab2647d432637b1a1821db357c34489ea7a22196c0bba387c202a4f83b92a8", func := "weald/wealdlaw09.CellTells", spec := "cellTells", apart := false, narrowed := true }
def CellTellsUptoSaid : Prop := cellTellsUptoRow.holds Try.pinned (OpenSpec.upto cellTellsSpec)

/-- 'wealdlaw09.CellApart', WHERE WHAT IT READS IS OF BULK AT MOST 1048576: true; the input reads as it did. -/
def cellApartUptoRow : OpenClaim := { program := "ytjjkdebdikkceaa", sum := "f4ab2647d432637b1a1821db357c34489ea7a22196c0bba387c202a4f83b92a8", func := "weald/wealdlaw09.CellApart", spec := "cellApart", apart := false, narrowed := true }
def CellApartUptoSaid : Prop := cellApartUptoRow.holds Try.pinned (OpenSpec.upto cellApartSpec)

/-- 'wealdlaw09.CellFree', WHERE WHAT IT READS IS OF BULK AT MOST 1048576: true; the input reads as it did. -/
def cellFreeUptoRow : OpenClaim := { program := "ytjjkdebdikkceaa", sum := "f4ab2647d432637b1a1821db357c34489ea7a22196c0bba387c202a4f83b92a8", func := "weald/wealdlaw09.CellFree", spec := "cellFree", apart := false, narrowed := true }
def CellFreeUptoSaid : Prop := cellFreeUptoRow.holds Try.pinned (OpenSpec.upto cellFreeSpec)

/-- 'wealdlaw09.CellMore', WHERE WHAT IT READS IS OF BULK AT MOST 1048576: true; the input reads as it did. -/
def cellMoreUptoRow : OpenClaim := { program := "ytjjkdebdikkceaa", sum := "f4ab2647d432637b1a1821db357c34489ea7a22196c0bba387c202a4f83b92a8", func := "weald/wealdlaw09.CellMore", spec := "cellMore", apart := false, narrowed := true }
def CellMoreUptoSaid : Prop := cellMoreUptoRow.holds Try.pinned (OpenSpec.upto cellMoreSpec)

/-- 'wealdlaw09.CellNexts', WHERE WHAT IT READS IS OF BULK AT MOST 1048576: true; the input reads as it did. -/
def cellNextsUptoRow : OpenClaim := { program := "ytjjkdebdikkceaa", sum := "f4ab2647d432637b1a1821db357c34489ea7a22196c0bba387c202a4f83b92a8", func := "weald/wealdlaw09.CellNexts", spec := "cellNexts", apart := false, narrowed := true }
def CellNextsUptoSaid : Prop := cellNextsUptoRow.holds Try.pinned (OpenSpec.upto cellNextsSpec)

end Rows
end Go.Proofs.Ytjjkdebdikkceaa
