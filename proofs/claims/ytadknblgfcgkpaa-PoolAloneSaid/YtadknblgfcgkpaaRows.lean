/-
  No cell of these rows narrows 'for every input' (looked for: loops, veiled, ifaces, maps, wideKeys, modest, calm, conditions, laid).
  DERIVED. THE GIVEN ROWS OF THIS SEAT. 5 by the template 'for every input the law returns true; each argument reads behind the call as it read before'; 0 by the template 'total and deterministic' (their statements: YtadknblgfcgkpaaTotals.lean).
  GIVEN WITH THE SEED: the statements are not yours to turn. If you find one false, say at which input.
  Laid BY PROGRAM, IN A SANDBOX (cutbox-rows.mjs): the forced cells as the released guide's own fill.sh prints them over the translation 036daeb7ed5f045d… (all of the seat's roots in one cut). By AI agents, Wed Nov 11 2026. No macro, syntax, notation, axiom, sorry.
-/
import Derived.Test.YtadknblgfcgkpaaChecked
import GoSem.Claim
import GoSem.ClaimJoined
import GoSem.ClaimMapViews
import Derived.JoinedTies
import Derived.KernelRfl
namespace Go.Proofs.Ytadknblgfcgkpaa
/- THE CELL 'sum', in the pinned program and in every row, IS THE sha256 OF THE DUMP (.gsa) THAT YtadknblgfcgkpaaProg.lean LOADS. Nothing in Lean hashes anything: it is a label: what it is worth is what the hold of that sum in a sandbox is worth. -/
noncomputable def Try.pinned : Pinned := { name := "ytadknblgfcgkpaa", sum := "036daeb7ed5f045d9d8033d4930471978cb14673f1fb78f9fac8fee69b2adeb3", checked := Try.checked }
namespace Rows
def none {H : Type} : Left H := { results := [], args := [] }

/-- 'wealdlaw12.PoolNext': WHATEVER THE INPUT: true; the input reads as it did. -/
def poolNextSpec : ChangeSpec := { name := "poolNext", fn := fun _ => fun
  | [d] => { results := [.lit (.bool true)], args := [d] }
  | _ => none }
def poolNextRow : OpenClaim := { program := "ytadknblgfcgkpaa", sum := "036daeb7ed5f045d9d8033d4930471978cb14673f1fb78f9fac8fee69b2adeb3", func := "weald/wealdlaw12.PoolNext", spec := "poolNext", unfollowed := true, recurses := true, apart := false }
def PoolNextSaid : Prop := poolNextRow.holds Try.pinned (OpenSpec.ofChange poolNextSpec)

/-- ITS FALSE NEIGHBOUR: 'it returns false'. Refute it at one input. -/
def poolNextWrong : ChangeSpec := { name := "poolNext", fn := fun _ => fun
  | [d] => { results := [.lit (.bool false)], args := [d] }
  | _ => none }
def PoolNextWrongFalsely : Prop := poolNextRow.holds Try.pinned (OpenSpec.ofChange poolNextWrong)

/-- 'wealdlaw12.PoolAlone': WHATEVER THE INPUT: true; the input reads as it did. -/
def poolAloneSpec : ChangeSpec := { name := "poolAlone", fn := fun _ => fun
  | [d1, d2] => { results := [.lit (.bool true)], args := [d1, d2] }
  | _ => none }
def poolAloneRow : OpenClaim := { program := "ytadknblgfcgkpaa", sum := "036daeb7ed5f045d9d8033d4930471978cb14673f1fb78f9fac8fee69b2adeb3", func := "weald/wealdlaw12.PoolAlone", spec := "poolAlone", unfollowed := true, recurses := true, apart := false }
def PoolAloneSaid : Prop := poolAloneRow.holds Try.pinned (OpenSpec.ofChange poolAloneSpec)

/-- ITS FALSE NEIGHBOUR: 'it returns false'. Refute it at one input. -/
def poolAloneWrong : ChangeSpec := { name := "poolAlone", fn := fun _ => fun
  | [d1, d2] => { results := [.lit (.bool false)], args := [d1, d2] }
  | _ => none }
def PoolAloneWrongFalsely : Prop := poolAloneRow.holds Try.pinned (OpenSpec.ofChange poolAloneWrong)

/-- 'wealdlaw12.PoolTag': WHATEVER THE INPUT: true; the input reads as it did. -/
def poolTagSpec : ChangeSpec := { name := "poolTag", fn := fun _ => fun
  | [d1, d2] => { results := [.lit (.bool true)], args := [d1, d2] }
  | _ => none }
def poolTagRow : OpenClaim := { program := "ytadknblgfcgkpaa", sum := "036daeb7ed5f045d9d8033d4930471978cb14673f1fb78f9fac8fee69b2adeb3", func := "weald/wealdlaw12.PoolTag", spec := "poolTag", unfollowed := true, recurses := true, apart := false }
def PoolTagSaid : Prop := poolTagRow.holds Try.pinned (OpenSpec.ofChange poolTagSpec)

/-- ITS FALSE NEIGHBOUR: 'it returns false'. Refute it at one input. -/
def poolTagWrong : ChangeSpec := { name := "poolTag", fn := fun _ => fun
  | [d1, d2] => { results := [.lit (.bool false)], args := [d1, d2] }
  | _ => none }
def PoolTagWrongFalsely : Prop := poolTagRow.holds Try.pinned (OpenSpec.ofChange poolTagWrong)

/-- 'wealdlaw12.PoolBack': WHATEVER THE INPUT: true; the input reads as it did. -/
def poolBackSpec : ChangeSpec := { name := "poolBack", fn := fun _ => fun
  | [d1, d2] => { results := [.lit (.bool true)], args := [d1, d2] }
  | _ => none }
def poolBackRow : OpenClaim := { program := "ytadknblgfcgkpaa", sum := "036daeb7ed5f045d9d8033d4930471978cb14673f1fb78f9fac8fee69b2adeb3", func := "weald/wealdlaw12.PoolBack", spec := "poolBack", unfollowed := true, recurses := true, apart := false }
def PoolBackSaid : Prop := poolBackRow.holds Try.pinned (OpenSpec.ofChange poolBackSpec)

/-- ITS FALSE NEIGHBOUR: 'it returns false'. Refute it at one input. -/
def poolBackWrong : ChangeSpec := { name := "poolBack", fn := fun _ => fun
  | [d1, d2] => { results := [.lit (.bool false)], args := [d1, d2] }
  | _ => none }
def PoolBackWrongFalsely : Prop := poolBackRow.holds Try.pinned (OpenSpec.ofChange poolBackWrong)

/-- 'wealdlaw12.PoolDirect': WHATEVER THE INPUT: true; the input reads as it did. -/
def poolDirectSpec : ChangeSpec := { name := "poolDirect", fn := fun _ => fun
  | [d1, d2] => { results := [.lit (.bool true)], args := [d1, d2] }
  | _ => none }
def poolDirectRow : OpenClaim := { program := "ytadknblgfcgkpaa", sum := "036daeb7ed5f045d9d8033d4930471978cb14673f1fb78f9fac8fee69b2adeb3", func := "weald/wealdlaw12.PoolDirect", spec := "poolDirect", unfollowed := true, recurses := true, apart := false }
def PoolDirectSaid : Prop := poolDirectRow.holds Try.pinned (OpenSpec.ofChange poolDirectSpec)

/-- ITS FALSE NEIGHBOUR: 'it returns false'. Refute it at one input. -/
def poolDirectWrong : ChangeSpec := { name := "poolDirect", fn := fun _ => fun
  | [d1, d2] => { results := [.lit (.bool false)], args := [d1, d2] }
  | _ => none }
def PoolDirectWrongFalsely : Prop := poolDirectRow.holds Try.pinned (OpenSpec.ofChange poolDirectWrong)

/- THE SECOND FORM. 'bulk': how many values and letters a reading holds, each counted each time it is reached (what is shared counts as often as it is met; a slice's spare places count too). A statement '..UptoSaid' is the law's where the arguments, and the package variables that the reading takes, are together of bulk at most 1048576: NARROWER than '..Said'. Prove '..Said' where nothing that the law and all that it calls make is longer than what came in: it says more and counts as full. Else prove '..UptoSaid'. A law counts once. -/
mutual
def uptoBulk {H : Type} : DataW H → Nat
  | .lit (.string bytes) => bytes.length + 1
  | .lit _ => 1
  | .nil => 1
  | .ptr d => uptoBulk d + 1
  | .slice elems spare => uptoBulkAll elems + uptoBulkAll spare + 1
  | .agg parts => uptoBulkAll parts + 1
  | .iface _ d => uptoBulk d + 1
  | .map entries => uptoBulkEntries entries + 1
  | .held _ => 1
def uptoBulkAll {H : Type} : List (DataW H) → Nat
  | [] => 0
  | d :: r => uptoBulk d + uptoBulkAll r
def uptoBulkEntries {H : Type} : List (Lit × DataW H) → Nat
  | [] => 0
  | x :: r => uptoBulkEntry x + uptoBulkEntries r
def uptoBulkEntry {H : Type} : Lit × DataW H → Nat
  | (.string bytes, d) => bytes.length + uptoBulk d + 1
  | (_, d) => uptoBulk d + 1
 end
def uptoSmall : (H : Type) → List (DataW H) → Bool := fun _ ds => decide (uptoBulkAll ds ≤ 1048576)
def OpenSpec.upto (s : _root_.Go.ChangeSpec) : _root_.Go.OpenSpec := { _root_.Go.OpenSpec.ofChange s with cond := some uptoSmall }

/-- 'wealdlaw12.PoolNext', WHERE WHAT IT READS IS OF BULK AT MOST 1048576: true; the input reads as it did. -/
def poolNextUptoRow : OpenClaim := { program := "ytadknblgfcgkpaa", sum := "036daeb7ed5f045d9d8033d4930471978cb14673f1fb78f9fac8fee69b2adeb3", func := "weald/wealdlaw12.PoolNext", spec := "poolNext", unfollowed := true, recurses := true, apart := false, narrowed := true }
def PoolNextUptoSaid : Prop := poolNextUptoRow.holds Try.pinned (OpenSpec.upto poolNextSpec)

/-- 'wealdlaw12.PoolAlone', WHERE WHAT IT READS IS OF BULK AT MOST 1048576: true; the input reads as it did. -/
def poolAloneUptoRow : OpenClaim := { program := "ytadknblgfcgkpaa", sum := "036daeb7ed5f045d9d8033d4930471978cb14673f1fb78f9fac8fee69b2adeb3", func := "weald/wealdlaw12.PoolAlone", spec := "poolAlone", unfollowed := true, recurses := true, apart := false, narrowed := true }
def PoolAloneUptoSaid : Prop := poolAloneUptoRow.holds Try.pinned (OpenSpec.upto poolAloneSpec)

/-- 'wealdlaw12.PoolTag', WHERE WHAT IT READS IS OF BULK AT MOST 1048576: true; the input reads as it did. -/
def poolTagUptoRow : OpenClaim := { program := "ytadknblgfcgkpaa", sum := "036daeb7ed5f045d9d8033d4930471978cb14673f1fb78f9fac8fee69b2adeb3", func := "weald/wealdlaw12.PoolTag", spec := "poolTag", unfollowed := true, recurses := true, apart := false, narrowed := true }
def PoolTagUptoSaid : Prop := poolTagUptoRow.holds Try.pinned (OpenSpec.upto poolTagSpec)

/-- 'wealdlaw12.PoolBack', WHERE WHAT IT READS IS OF BULK AT MOST 1048576: true; the input reads as it did. -/
def poolBackUptoRow : OpenClaim := { program := "ytadknblgfcgkpaa", sum := "036daeb7ed5f045d9d8033d4930471978cb14673f1fb78f9fac8fee69b2adeb3", func := "weald/wealdlaw12.PoolBack", spec := "poolBack", unfollowed := true, recurses := true, apart := false, narrowed := true }
def PoolBackUptoSaid : Prop := poolBackUptoRow.holds Try.pinned (OpenSpec.upto poolBackSpec)

/-- 'wealdlaw12.PoolDirect', WHERE WHAT IT READS IS OF BULK AT MOST 1048576: true; the input reads as it did. -/
def poolDirectUptoRow : OpenClaim := { program := "ytadknblgfcgkpaa", sum := "036daeb7ed5f045d9d8033d4930471978cb14673f1fb78f9fac8fee69b2adeb3", func := "weald/wealdlaw12.PoolDirect", spec := "poolDirect", unfollowed := true, recurses := true, apart := false, narrowed := true }
def PoolDirectUptoSaid : Prop := poolDirectUptoRow.holds Try.pinned (OpenSpec.upto poolDirectSpec)

end Rows
end Go.Proofs.Ytadknblgfcgkpaa
