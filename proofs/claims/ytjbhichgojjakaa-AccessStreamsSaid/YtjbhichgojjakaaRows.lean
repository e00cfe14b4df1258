/-
  No cell of these rows narrows 'for every input' (looked for: loops, veiled, ifaces, maps, wideKeys, modest, calm, conditions, laid).
  DERIVED. THE GIVEN ROWS OF THIS SEAT. 5 by the template 'for every input the law returns true; each argument reads behind the call as it read before'; 0 by the template 'total and deterministic' (their statements: YtjbhichgojjakaaTotals.lean).
  GIVEN WITH THE SEED: the statements are not yours to turn. If you find one false, say at which input.
  Laid BY PROGRAM, IN A SANDBOX (cutbox-rows.mjs): the forced cells as the released guide's own fill.sh prints them over the translation 0b76d7f7b6fe37d2… (all of the seat's roots in one cut). By AI agents, Wed Nov 11 2026. No macro, syntax, notation, axiom, sorry.
-/
import Derived.Test.YtjbhichgojjakaaChecked
import GoSem.Claim
import GoSem.ClaimJoined
import GoSem.ClaimMapViews
import Derived.JoinedTies
import Derived.KernelRfl
namespace Go.Proofs.Ytjbhichgojjakaa
/- THE CELL 'sum', in the pinned program and in every row, IS THE sha256 OF THE DUMP (.gsa) THAT YtjbhichgojjakaaProg.lean LOADS. Nothing in Lean hashes anything: it is a label: what it is worth is what the hold of that sum in a sandbox is worth. -/
noncomputable def Try.pinned : Pinned := { name := "ytjbhichgojjakaa", sum := "0b76d7f7b6fe37d211184f1d284a816931ee5112eedc2af1fe75c71269443025", checked := Try.checked }
namespace Rows
def none {H : Type} : Left H := { results := [], args := [] }

/-- 'wealdlaw10.AccessStreams': WHATEVER THE INPUT: true; the input reads as it did. -/
def accessStreamsSpec : ChangeSpec := { name := "accessStreams", fn := fun _ => fun
  | [d1, d2, d3] => { results := [.lit (.bool true)], args := [d1, d2, d3] }
  | _ => none }
def accessStreamsRow : OpenClaim := { program := "ytjbhichgojjakaa", sum := "0b76d7f7b6fe37d211184f1d284a816931ee5112eedc2af1fe75c71269443025", func := "weald/wealdlaw10.AccessStreams", spec := "accessStreams", unfollowed := true, recurses := true, apart := false }
def AccessStreamsSaid : Prop := accessStreamsRow.holds Try.pinned (OpenSpec.ofChange accessStreamsSpec)

/-- ITS FALSE NEIGHBOUR: 'it returns false'. Refute it at one input. -/
def accessStreamsWrong : ChangeSpec := { name := "accessStreams", fn := fun _ => fun
  | [d1, d2, d3] => { results := [.lit (.bool false)], args := [d1, d2, d3] }
  | _ => none }
def AccessStreamsWrongFalsely : Prop := accessStreamsRow.holds Try.pinned (OpenSpec.ofChange accessStreamsWrong)

/-- 'wealdlaw11.PlayTells': WHATEVER THE INPUT: true; the input reads as it did. -/
def playTellsSpec : ChangeSpec := { name := "playTells", fn := fun _ => fun
  | [d1, d2] => { results := [.lit (.bool true)], args := [d1, d2] }
  | _ => none }
def playTellsRow : OpenClaim := { program := "ytjbhichgojjakaa", sum := "0b76d7f7b6fe37d211184f1d284a816931ee5112eedc2af1fe75c71269443025", func := "weald/wealdlaw11.PlayTells", spec := "playTells", unfollowed := true, recurses := true, apart := false }
def PlayTellsSaid : Prop := playTellsRow.holds Try.pinned (OpenSpec.ofChange playTellsSpec)

/-- ITS FALSE NEIGHBOUR: 'it returns false'. Refute it at one input. -/
def playTellsWrong : ChangeSpec := { name := "playTells", fn := fun _ => fun
  | [d1, d2] => { results := [.lit (.bool false)], args := [d1, d2] }
  | _ => none }
def PlayTellsWrongFalsely : Prop := playTellsRow.holds Try.pinned (OpenSpec.ofChange playTellsWrong)

/-- 'wealdlaw11.PlaySteps': WHATEVER THE INPUT: true; the input reads as it did. -/
def playStepsSpec : ChangeSpec := { name := "playSteps", fn := fun _ => fun
  | [d] => { results := [.lit (.bool true)], args := [d] }
  | _ => none }
def playStepsRow : OpenClaim := { program := "ytjbhichgojjakaa", sum := "0b76d7f7b6fe37d211184f1d284a816931ee5112eedc2af1fe75c71269443025", func := "weald/wealdlaw11.PlaySteps", spec := "playSteps", unfollowed := true, recurses := true, apart := false }
def PlayStepsSaid : Prop := playStepsRow.holds Try.pinned (OpenSpec.ofChange playStepsSpec)

/-- ITS FALSE NEIGHBOUR: 'it returns false'. Refute it at one input. -/
def playStepsWrong : ChangeSpec := { name := "playSteps", fn := fun _ => fun
  | [d] => { results := [.lit (.bool false)], args := [d] }
  | _ => none }
def PlayStepsWrongFalsely : Prop := playStepsRow.holds Try.pinned (OpenSpec.ofChange playStepsWrong)

/-- 'wealdlaw11.PlayParts': WHATEVER THE INPUT: true; the input reads as it did. -/
def playPartsSpec : ChangeSpec := { name := "playParts", fn := fun _ => fun
  | [d1, d2, d3] => { results := [.lit (.bool true)], args := [d1, d2, d3] }
  | _ => none }
def playPartsRow : OpenClaim := { program := "ytjbhichgojjakaa", sum := "0b76d7f7b6fe37d211184f1d284a816931ee5112eedc2af1fe75c71269443025", func := "weald/wealdlaw11.PlayParts", spec := "playParts", unfollowed := true, recurses := true, apart := false }
def PlayPartsSaid : Prop := playPartsRow.holds Try.pinned (OpenSpec.ofChange playPartsSpec)

/-- ITS FALSE NEIGHBOUR: 'it returns false'. Refute it at one input. -/
def playPartsWrong : ChangeSpec := { name := "playParts", fn := fun _ => fun
  | [d1, d2, d3] => { results := [.lit (.bool false)], args := [d1, d2, d3] }
  | _ => none }
def PlayPartsWrongFalsely : Prop := playPartsRow.holds Try.pinned (OpenSpec.ofChange playPartsWrong)

/-- 'wealdlaw11.PlayDirect': WHATEVER THE INPUT: true; the input reads as it did. -/
def playDirectSpec : ChangeSpec := { name := "playDirect", fn := fun _ => fun
  | [d1, d2] => { results := [.lit (.bool true)], args := [d1, d2] }
  | _ => none }
def playDirectRow : OpenClaim := { program := "ytjbhichgojjakaa", sum := "0b76d7f7b6fe37d211184f1d284a816931ee5112eedc2af1fe75c71269443025", func := "weald/wealdlaw11.PlayDirect", spec := "playDirect", unfollowed := true, recurses := true, apart := false }
def PlayDirectSaid : Prop := playDirectRow.holds Try.pinned (OpenSpec.ofChange playDirectSpec)

/-- ITS FALSE NEIGHBOUR: 'it returns false'. Refute it at one input. -/
def playDirectWrong : ChangeSpec := { name := "playDirect", fn := fun _ => fun
  | [d1, d2] => { results := [.lit (.bool false)], args := [d1, d2] }
  | _ => none }
def PlayDirectWrongFalsely : Prop := playDirectRow.holds Try.pinned (OpenSpec.ofChange playDirectWrong)

/- THE SECOND FORM. 'bulk': how many values and letters a reading holds, each counted each time it is reached (what is shared counts as often as it is met; a slice's spare places count too). A statement '..UptoSaid' is the law's where the arguments, and the package variables that the reading takes, are together of bulk at most 1048576: NARROWER than '..Said'. Prove '..Said' where nothing that the law and all that it calls make is longer than what came in: it says more and counts as full. Else prove '..UptoSaid'. A law counts once. -/
mutual
def uptoBulk {H : Type} : DataW H → Nat
  | .lit (.string bytes) => bytes.length + 1
  | .lit _ => 1
  | .nil => 1
  | .ptr d => uptoBulk d + 1
  | .slice elems spare => uptoBulkAll elems + uptoBulkAll spare + 1
  | .agg parts => uptoBulkAll parts + 1
  | .iface _ d => uptoBulk d + 1
  | .map entries => uptoBulkEntries entries + 1
  | .held _ => 1
def uptoBulkAll {H : Type} : List (DataW H) → Nat
  | [] => 0
  | d :: r => uptoBulk d + uptoBulkAll r
def uptoBulkEntries {H : Type} : List (Lit × DataW H) → Nat
  | [] => 0
  | x :: r => uptoBulkEntry x + uptoBulkEntries r
def uptoBulkEntry {H : Type} : Lit × DataW H → Nat
  | (.string bytes, d) => bytes.length + uptoBulk d + 1
  | (_, d) => uptoBulk d + 1
 end
def uptoSmall : (H : Type) → List (DataW H) → Bool := fun _ ds => decide (uptoBulkAll ds ≤ 1048576)
def OpenSpec.upto (s : _root_.Go.ChangeSpec) : _root_.Go.OpenSpec := { _root_.Go.OpenSpec.ofChange s with cond := some uptoSmall }

/-- 'wealdlaw10.AccessStreams', WHERE WHAT IT READS IS OF BULK AT MOST 1048576: true; the input reads as it did. -/
def accessStreamsUptoRow : OpenClaim := { program := "ytjbhichgojjakaa", sum := "0b76d7f7b6fe37d211184f1d284a816931ee5112eedc2af1fe75c71269443025", func := "weald/wealdlaw10.AccessStreams", spec := "accessStreams", unfollowed := true, recurses := true, apart := false, narrowed := true }
def AccessStreamsUptoSaid : Prop := accessStreamsUptoRow.holds Try.pinned (OpenSpec.upto accessStreamsSpec)

/-- 'wealdlaw11.PlayTells', WHERE WHAT IT READS IS OF BULK AT MOST 1048576: true; the input reads as it did. -/
def playTellsUptoRow : OpenClaim := { program := "ytjbhichgojjakaa", sum := "0b76d7f7b6fe37d211184f1d284a816931ee5112eedc2af1fe75c71269443025", func := "weald/wealdlaw11.PlayTells", spec := "playTells", unfollowed := true, recurses := true, apart := false, narrowed := true }
def PlayTellsUptoSaid : Prop := playTellsUptoRow.holds Try.pinned (OpenSpec.upto playTellsSpec)

/-- 'wealdlaw11.PlaySteps', WHERE WHAT IT READS IS OF BULK AT MOST 1048576: true; the input reads as it did. -/
def playStepsUptoRow : OpenClaim := { program := "ytjbhichgojjakaa", sum := "0b76d7f7b6fe37d211184f1d284a816931ee5112eedc2af1fe75c71269443025", func := "weald/wealdlaw11.PlaySteps", spec := "playSteps", unfollowed := true, recurses := true, apart := false, narrowed := true }
def PlayStepsUptoSaid : Prop := playStepsUptoRow.holds Try.pinned (OpenSpec.upto playStepsSpec)

/-- 'wealdlaw11.PlayParts', WHERE WHAT IT READS IS OF BULK AT MOST 1048576: true; the input reads as it did. -/
def playPartsUptoRow : OpenClaim := { program := "ytjbhichgojjakaa", sum := "0b76d7f7b6fe37d211184f1d284a816931ee5112eedc2af1fe75c71269443025", func := "weald/wealdlaw11.PlayParts", spec := "playParts", unfollowed := true, recurses := true, apart := false, narrowed := true }
def PlayPartsUptoSaid : Prop := playPartsUptoRow.holds Try.pinned (OpenSpec.upto playPartsSpec)

/-- 'wealdlaw11.PlayDirect', WHERE WHAT IT READS IS OF BULK AT MOST 1048576: true; the input reads as it did. -/
def playDirectUptoRow : OpenClaim := { program := "ytjbhichgojjakaa", sum := "0b76d7f7b6fe37d211184f1d284a816931ee5112eedc2af1fe75c71269443025", func := "weald/wealdlaw11.PlayDirect", spec := "playDirect", unfollowed := true, recurses := true, apart := false, narrowed := true }
def PlayDirectUptoSaid : Prop := playDirectUptoRow.holds Try.pinned (OpenSpec.upto playDirectSpec)

end Rows
end Go.Proofs.Ytjbhichgojjakaa
