/-
  No cell of these rows narrows 'for every input' (looked for: loops, veiled, ifaces, maps, wideKeys, modest, calm, conditions, laid).
  DERIVED. THE GIVEN ROWS OF THIS SEAT. 6 by the template 'for every input the law returns true; each argument reads behind the call as it read before'; 0 by the template 'total and deterministic' (their statements: YthcifknnppohfaaTotals.lean).
  GIVEN WITH THE SEED: the statements are not yours to turn. If you find one false, say at which input.
  Laid BY PROGRAM, IN A SANDBOX (cutbox-rows.mjs): the forced cells as the released guide's own fill.sh prints them over the translation 070618ca0ecdbb74… (all of the seat's roots in one cut). By AI agents, Wed Nov 11 2026. No macro, syntax, notation, axiom, sorry.
-/
import Derived.Test.YthcifknnppohfaaChecked
import GoSem.Claim
import GoSem.ClaimJoined
import GoSem.ClaimMapViews
import Derived.JoinedTies
import Derived.KernelRfl
namespace Go.Proofs.Ythcifknnppohfaa
/- THE CELL 'sum', in the pinned program and in every row, IS THE sha256 OF THE DUMP (.gsa) THAT YthcifknnppohfaaProg.lean LOADS. Nothing in Lean hashes anything: it is a label: what it is worth is what the hold of that sum in a sandbox is worth. -/
noncomputable def Try.pinned : Pinned := { name := "ythcifknnppohfaa", sum := "070618ca0ecdbb7450ccb844cddcb6a955e24acc8902fb46e4cf0a215275cad6", checked := Try.checked }
namespace Rows
def none {H : Type} : Left H := { results := [], args := [] }

/-- 'wealdlaw13.EpochNext': WHATEVER THE INPUT: true; the input reads as it did. -/
def epochNextSpec : ChangeSpec := { name := "epochNext", fn := fun _ => fun
  | [d] => { results := [.lit (.bool true)], args := [d] }
  | _ => none }
def epochNextRow : OpenClaim := { program := "ythcifknnppohfaa", sum := "070618ca0ecdbb7450ccb844cddcb6a955e24acc8902fb46e4cf0a215275cad6", func := "weald/wealdlaw13.EpochNext", spec := "epochNext", unfollowed := true, recurses := true, apart := false }
def EpochNextSaid : Prop := epochNextRow.holds Try.pinned (OpenSpec.ofChange epochNextSpec)

/-- ITS FALSE NEIGHBOUR: 'it returns false'. Refute it at one input. -/
def epochNextWrong : ChangeSpec := { name := "epochNext", fn := fun _ => fun
  | [d] => { results := [.lit (.bool false)], args := [d] }
  | _ => none }
def EpochNextWrongFalsely : Prop := epochNextRow.holds Try.pinned (OpenSpec.ofChange epochNextWrong)

/-- 'wealdlaw13.EpochAlone': WHATEVER THE INPUT: true; the input reads as it did. -/
def epochAloneSpec : ChangeSpec := { name := "epochAlone", fn := fun _ => fun
  | [d1, d2] => { results := [.lit (.bool true)], args := [d1, d2] }
  | _ => none }
def epochAloneRow : OpenClaim := { program := "ythcifknnppohfaa", sum := "070618ca0ecdbb7450ccb844cddcb6a955e24acc8902fb46e4cf0a215275cad6", func := "weald/wealdlaw13.EpochAlone", spec := "epochAlone", unfollowed := true, recurses := true, apart := false }
def EpochAloneSaid : Prop := epochAloneRow.holds Try.pinned (OpenSpec.ofChange epochAloneSpec)

/-- ITS FALSE NEIGHBOUR: 'it returns false'. Refute it at one input. -/
def epochAloneWrong : ChangeSpec := { name := "epochAlone", fn := fun _ => fun
  | [d1, d2] => { results := [.lit (.bool false)], args := [d1, d2] }
  | _ => none }
def EpochAloneWrongFalsely : Prop := epochAloneRow.holds Try.pinned (OpenSpec.ofChange epochAloneWrong)

/-- 'wealdlaw13.EpochSafe': WHATEVER THE INPUT: true; the input reads as it did. -/
def epochSafeSpec : ChangeSpec := { name := "epochSafe", fn := fun _ => fun
  | [d1, d2, d3] => { results := [.lit (.bool true)], args := [d1, d2, d3] }
  | _ => none }
def epochSafeRow : OpenClaim := { program := "ythcifknnppohfaa", sum := "070618ca0ecdbb7450ccb844cddcb6a955e24acc8902fb46e4cf0a215275cad6", func := "weald/wealdlaw13.EpochSafe", spec := "epochSafe", unfollowed := true, recurses := true, apart := false }
def EpochSafeSaid : Prop := epochSafeRow.holds Try.pinned (OpenSpec.ofChange epochSafeSpec)

/-- ITS FALSE NEIGHBOUR: 'it returns false'. Refute it at one input. -/
def epochSafeWrong : ChangeSpec := { name := "epochSafe", fn := fun _ => fun
  | [d1, d2, d3] => { results := [.lit (.bool false)], args := [d1, d2, d3] }
  | _ => none }
def EpochSafeWrongFalsely : Prop := epochSafeRow.holds Try.pinned (OpenSpec.ofChange epochSafeWrong)

/-- 'wealdlaw13.EpochHeld': WHATEVER THE INPUT: true; the input reads as it did. -/
def epochHeldSpec : ChangeSpec := { name := "epochHeld", fn := fun _ => fun
  | [d1, d2] => { results := [.lit (.bool true)], args := [d1, d2] }
  | _ => none }
def epochHeldRow : OpenClaim := { program := "ythcifknnppohfaa", sum := "070618ca0ecdbb7450ccb844cddcb6a955e24acc8902fb46e4cf0a215275cad6", func := "weald/wealdlaw13.EpochHeld", spec := "epochHeld", unfollowed := true, recurses := true, apart := false }
def EpochHeldSaid : Prop := epochHeldRow.holds Try.pinned (OpenSpec.ofChange epochHeldSpec)

/-- ITS FALSE NEIGHBOUR: 'it returns false'. Refute it at one input. -/
def epochHeldWrong : ChangeSpec := { name := "epochHeld", fn := fun _ => fun
  | [d1, d2] => { results := [.lit (.bool false)], args := [d1, d2] }
  | _ => none }
def EpochHeldWrongFalsely : Prop := epochHeldRow.holds Try.pinned (OpenSpec.ofChange epochHeldWrong)

/-- 'wealdlaw13.EpochBack': WHATEVER THE INPUT: true; the input reads as it did. -/
def epochBackSpec : ChangeSpec := { name := "epochBack", fn := fun _ => fun
  | [d1, d2] => { results := [.lit (.bool true)], args := [d1, d2] }
  | _ => none }
def epochBackRow : OpenClaim := { program := "ythcifknnppohfaa", sum := "070618ca0ecdbb7450ccb844cddcb6a955e24acc8902fb46e4cf0a215275cad6", func := "weald/wealdlaw13.EpochBack", spec := "epochBack", unfollowed := true, recurses := true, apart := false }
def EpochBackSaid : Prop := epochBackRow.holds Try.pinned (OpenSpec.ofChange epochBackSpec)

/-- ITS FALSE NEIGHBOUR: 'it returns false'. Refute it at one input. -/
def epochBackWrong : ChangeSpec := { name := "epochBack", fn := fun _ => fun
  | [d1, d2] => { results := [.lit (.bool false)], args := [d1, d2] }
  | _ => none }
def EpochBackWrongFalsely : Prop := epochBackRow.holds Try.pinned (OpenSpec.ofChange epochBackWrong)

/-- 'wealdlaw13.EpochDirect': WHATEVER THE INPUT: true; the input reads as it did. -/
def epochDirectSpec : ChangeSpec := { name := "epochDirect", fn := fun _ => fun
  | [d1, d2] => { results := [.lit (.bool true)], args := [d1, d2] }
  | _ => none }
def epochDirectRow : OpenClaim := { program := "ythcifknnppohfaa", sum := "070618ca0ecdbb7450ccb844cddcb6a955e24acc8902fb46e4cf0a215275cad6", func := "weald/wealdlaw13.EpochDirect", spec := "epochDirect", unfollowed := true, recurses := true, apart := false }
def EpochDirectSaid : Prop := epochDirectRow.holds Try.pinned (OpenSpec.ofChange epochDirectSpec)

/-- ITS FALSE NEIGHBOUR: 'it returns false'. Refute it at one input. -/
def epochDirectWrong : ChangeSpec := { name := "epochDirect", fn := fun _ => fun
  | [d1, d2] => { results := [.lit (.bool false)], args := [d1, d2] }
  | _ => none }
def EpochDirectWrongFalsely : Prop := epochDirectRow.holds Try.pinned (OpenSpec.ofChange epochDirectWrong)

/- THE SECOND FORM. 'bulk': how many values and letters a reading holds, each counted each time it is reached (what is shared counts as often as it is met; a slice's spare places count too). A statement '..UptoSaid' is the law's where the arguments, and the package variables that the reading takes, are together of bulk at most 1048576: NARROWER than '..Said'. Prove '..Said' where nothing that the law and all that it calls make is longer than what came in: it says more and counts as full. Else prove '..UptoSaid'. A law counts once. -/
mutual
def uptoBulk {H : Type} : DataW H → Nat
  | .lit (.string bytes) => bytes.length + 1
  | .lit _ => 1
  | .nil => 1
  | .ptr d => uptoBulk d + 1
  | .slice elems spare => uptoBulkAll elems + uptoBulkAll spare + 1
  | .agg parts => uptoBulkAll parts + 1
  | .iface _ d => uptoBulk d + 1
  | .map entries => uptoBulkEntries entries + 1
  | .held _ => 1
def uptoBulkAll {H : Type} : List (DataW H) → Nat
  | [] => 0
  | d :: r => uptoBulk d + uptoBulkAll r
def uptoBulkEntries {H : Type} : List (Lit × DataW H) → Nat
  | [] => 0
  | x :: r => uptoBulkEntry x + uptoBulkEntries r
def uptoBulkEntry {H : Type} : Lit × DataW H → Nat
  | (.string bytes, d) => bytes.length + uptoBulk d + 1
  | (_, d) => uptoBulk d + 1
 end
def uptoSmall : (H : Type) → List (DataW H) → Bool := fun _ ds => decide (uptoBulkAll ds ≤ 1048576)
def OpenSpec.upto (s : _root_.Go.ChangeSpec) : _root_.Go.OpenSpec := { _root_.Go.OpenSpec.ofChange s with cond := some uptoSmall }

/-- 'wealdlaw13.EpochNext', WHERE WHAT IT READS IS OF BULK AT MOST 1048576: true; the input reads as it did. -/
def epochNextUptoRow : OpenClaim := { program := "ythcifknnppohfaa", sum := "070618ca0ecdbb7450ccb844cddcb6a955e24acc8902fb46e4cf0a215275cad6", func := "weald/wealdlaw13.EpochNext", spec := "epochNext", unfollowed := true, recurses := true, apart := false, narrowed := true }
def EpochNextUptoSaid : Prop := epochNextUptoRow.holds Try.pinned (OpenSpec.upto epochNextSpec)

/-- 'wealdlaw13.EpochAlone', WHERE WHAT IT READS IS OF BULK AT MOST 1048576: true; the input reads as it did. -/
def epochAloneUptoRow : OpenClaim := { program := "ythcifknnppohfaa", sum := "070618ca0ecdbb7450ccb844cddcb6a955e24acc8902fb46e4cf0a215275cad6", func := "weald/wealdlaw13.EpochAlone", spec := "epochAlone", unfollowed := true, recurses := true, apart := false, narrowed := true }
def EpochAloneUptoSaid : Prop := epochAloneUptoRow.holds Try.pinned (OpenSpec.upto epochAloneSpec)

/-- 'wealdlaw13.EpochSafe', WHERE WHAT IT READS IS OF BULK AT MOST 1048576: true; the input reads as it did. -/
def epochSafeUptoRow : OpenClaim := { program := "ythcifknnppohfaa", sum := "070618ca0ecdbb7450ccb844cddcb6a955e24acc8902fb46e4cf0a215275cad6", func := "weald/wealdlaw13.EpochSafe", spec := "epochSafe", unfollowed := true, recurses := true, apart := false, narrowed := true }
def EpochSafeUptoSaid : Prop := epochSafeUptoRow.holds Try.pinned (OpenSpec.upto epochSafeSpec)

/-- 'wealdlaw13.EpochHeld', WHERE WHAT IT READS IS OF BULK AT MOST 1048576: true; the input reads as it did. -/
def epochHeldUptoRow : OpenClaim := { program := "ythcifknnppohfaa", sum := "070618ca0ecdbb7450ccb844cddcb6a955e24acc8902fb46e4cf0a215275cad6", func := "weald/wealdlaw13.EpochHeld", spec := "epochHeld", unfollowed := true, recurses := true, apart := false, narrowed := true }
def EpochHeldUptoSaid : Prop := epochHeldUptoRow.holds Try.pinned (OpenSpec.upto epochHeldSpec)

/-- 'wealdlaw13.EpochBack', WHERE WHAT IT READS IS OF BULK AT MOST 1048576: true; the input reads as it did. -/
def epochBackUptoRow : OpenClaim := { program := "ythcifknnppohfaa", sum := "070618ca0ecdbb7450ccb844cddcb6a955e24acc8902fb46e4cf0a215275cad6", func := "weald/wealdlaw13.EpochBack", spec := "epochBack", unfollowed := true, recurses := true, apart := false, narrowed := true }
def EpochBackUptoSaid : Prop := epochBackUptoRow.holds Try.pinned (OpenSpec.upto epochBackSpec)

/-- 'wealdlaw13.EpochDirect', WHERE WHAT IT READS IS OF BULK AT MOST 1048576: true; the input reads as it did. -/
def epochDirectUptoRow : OpenClaim := { program := "ythcifknnppohfaa", sum := "070618ca0ecdbb7450ccb844cddcb6a955e24acc8902fb46e4cf0a215275cad6", func := "weald/wealdlaw13.EpochDirect", spec := "epochDirect", unfollowed := true, recurses := true, apart := false, narrowed := true }
def EpochDirectUptoSaid : Prop := epochDirectUptoRow.holds Try.pinned (OpenSpec.upto epochDirectSpec)

end Rows
end Go.Proofs.Ythcifknnppohfaa
