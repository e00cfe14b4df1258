/-
  NARROWER THAN 'FOR EVERY INPUT', by the rows' own cells (each row's printed sentence says how): SaveBehind: laid · SaveHelped: laid · SaveTwice: laid · SaveDirect: laid.
  DERIVED. THE GIVEN ROWS OF THIS SEAT. 4 by the template 'for every input the law returns true; each argument reads behind the call as it read before'; 0 by the template 'total and deterministic' (their statements: YtdbomlclkhkinaaDoorTotals.lean).
  GIVEN WITH THE SEED: the statements are not yours to turn. If you find one false, say at which input.
  Laid BY PROGRAM, IN A SANDBOX (cutbox-rows.mjs): the forced cells as the released guide's own fill.sh prints them over the translation 824aa3f6c0d83c93… (all of the seat's roots in one cut). By AI agents, Wed Nov 11 2026. No macro, syntax, notation, axiom, sorry.
-/
import Derived.Test.YtdbomlclkhkinaaDoorChecked
import GoSem.Claim
import GoSem.ClaimJoined
import GoSem.ClaimMapViews
import Derived.JoinedTies
import Derived.KernelRfl
namespace Go.Proofs.YtdbomlclkhkinaaDoor
/- THE CELL 'sum', in the pinned program and in every row, IS THE sha256 OF THE DUMP (.gsa) THAT YtdbomlclkhkinaaDoorProg.lean LOADS. Nothing in Lean hashes anything: it is a label: what it is worth is what the hold of that sum in a sandbox is worth. -/
noncomputable def Tryd.pinned : Pinned := { name := "ytdbomlclkhkinaadoor", sum := "824aa3f6c0d83c93934333cf29695fd151b4b7480d613f91d268db27dc4be270", checked := Tryd.checked }
namespace Rows
def none {H : Type} : Left H := { results := [], args := [] }

/- WHAT THE LISTED PACKAGE-LEVEL VARIABLES READ AS WHEN THE CALL BEGINS. Each datum BY PROGRAM (the guide's laid-datum.mjs) off the statement by which the dump's own 'gosem.cut.vars' lays the variable. In a bare row this is a premise. The card (YtdbomlclkhkinaaDoorCards.lean) ties it to the program's text. -/
def laid_weald_crc_half {H : Type} : DataW H := .agg [.lit (.int .u32 0), .lit (.int .u32 498536548), .lit (.int .u32 997073096), .lit (.int .u32 651767980), .lit (.int .u32 1994146192), .lit (.int .u32 1802195444), .lit (.int .u32 1303535960), .lit (.int .u32 1342533948), .lit (.int .u32 3988292384), .lit (.int .u32 4027552580), .lit (.int .u32 3604390888), .lit (.int .u32 3412177804), .lit (.int .u32 2607071920), .lit (.int .u32 2262029012), .lit (.int .u32 2685067896), .lit (.int .u32 3183342108)]

/-- 'wealdlaw14.SaveBehind': WHATEVER THE INPUT: true; the input reads as it did. -/
def saveBehindSpec : ChangeSpec := { name := "saveBehind", fn := fun _ => fun
  | [d1, d2, d3] => { results := [.lit (.bool true)], args := [d1, d2, d3] }
  | _ => none }
def saveBehindRow : OpenClaim := { program := "ytdbomlclkhkinaadoor", sum := "824aa3f6c0d83c93934333cf29695fd151b4b7480d613f91d268db27dc4be270", func := "weald/wealdlaw14.SaveBehind", spec := "saveBehind", unfollowed := true, recurses := true, named := ["weald/crc.half"], apart := false, laid := [("weald/crc.half", laid_weald_crc_half)] }
def SaveBehindSaid : Prop := saveBehindRow.holds Tryd.pinned (OpenSpec.ofChange saveBehindSpec)

/-- ITS FALSE NEIGHBOUR: 'it returns false'. Refute it at one input. -/
def saveBehindWrong : ChangeSpec := { name := "saveBehind", fn := fun _ => fun
  | [d1, d2, d3] => { results := [.lit (.bool false)], args := [d1, d2, d3] }
  | _ => none }
def SaveBehindWrongFalsely : Prop := saveBehindRow.holds Tryd.pinned (OpenSpec.ofChange saveBehindWrong)

/-- 'wealdlaw14.SaveHelped': WHATEVER THE INPUT: true; the input reads as it did. -/
def saveHelpedSpec : ChangeSpec := { name := "saveHelped", fn := fun _ => fun
  | [d1, d2] => { results := [.lit (.bool true)], args := [d1, d2] }
  | _ => none }
def saveHelpedRow : OpenClaim := { program := "ytdbomlclkhkinaadoor", sum := "824aa3f6c0d83c93934333cf29695fd151b4b7480d613f91d268db27dc4be270", func := "weald/wealdlaw14.SaveHelped", spec := "saveHelped", unfollowed := true, recurses := true, named := ["weald/crc.half"], apart := false, laid := [("weald/crc.half", laid_weald_crc_half)] }
def SaveHelpedSaid : Prop := saveHelpedRow.holds Tryd.pinned (OpenSpec.ofChange saveHelpedSpec)

/-- ITS FALSE NEIGHBOUR: 'it returns false'. Refute it at one input. -/
def saveHelpedWrong : ChangeSpec := { name := "saveHelped", fn := fun _ => fun
  | [d1, d2] => { results := [.lit (.bool false)], args := [d1, d2] }
  | _ => none }
def SaveHelpedWrongFalsely : Prop := saveHelpedRow.holds Tryd.pinned (OpenSpec.ofChange saveHelpedWrong)

/-- 'wealdlaw14.SaveTwice': WHATEVER THE INPUT: true; the input reads as it did. -/
def saveTwiceSpec : ChangeSpec := { name := "saveTwice", fn := fun _ => fun
  | [d1, d2] => { results := [.lit (.bool true)], args := [d1, d2] }
  | _ => none }
def saveTwiceRow : OpenClaim := { program := "ytdbomlclkhkinaadoor", sum := "824aa3f6c0d83c93934333cf29695fd151b4b7480d613f91d268db27dc4be270", func := "weald/wealdlaw14.SaveTwice", spec := "saveTwice", unfollowed := true, recurses := true, named := ["weald/crc.half"], apart := false, laid := [("weald/crc.half", laid_weald_crc_half)] }
def SaveTwiceSaid : Prop := saveTwiceRow.holds Tryd.pinned (OpenSpec.ofChange saveTwiceSpec)

/-- ITS FALSE NEIGHBOUR: 'it returns false'. Refute it at one input. -/
def saveTwiceWrong : ChangeSpec := { name := "saveTwice", fn := fun _ => fun
  | [d1, d2] => { results := [.lit (.bool false)], args := [d1, d2] }
  | _ => none }
def SaveTwiceWrongFalsely : Prop := saveTwiceRow.holds Tryd.pinned (OpenSpec.ofChange saveTwiceWrong)

/-- 'wealdlaw14.SaveDirect': WHATEVER THE INPUT: true; the input reads as it did. -/
def saveDirectSpec : ChangeSpec := { name := "saveDirect", fn := fun _ => fun
  | [d1, d2, d3] => { results := [.lit (.bool true)], args := [d1, d2, d3] }
  | _ => none }
def saveDirectRow : OpenClaim := { program := "ytdbomlclkhkinaadoor", sum := "824aa3f6c0d83c93934333cf29695fd151b4b7480d613f91d268db27dc4be270", func := "weald/wealdlaw14.SaveDirect", spec := "saveDirect", unfollowed := true, recurses := true, named := ["weald/crc.half"], apart := false, laid := [("weald/crc.half", laid_weald_crc_half)] }
def SaveDirectSaid : Prop := saveDirectRow.holds Tryd.pinned (OpenSpec.ofChange saveDirectSpec)

/-- ITS FALSE NEIGHBOUR: 'it returns false'. Refute it at one input. -/
def saveDirectWrong : ChangeSpec := { name := "saveDirect", fn := fun _ => fun
  | [d1, d2, d3] => { results := [.lit (.bool false)], args := [d1, d2, d3] }
  | _ => none }
def SaveDirectWrongFalsely : Prop := saveDirectRow.holds Tryd.pinned (OpenSpec.ofChange saveDirectWrong)

/- THE SECOND FORM. 'bulk': how many values and letters a reading holds, each counted each time it is reached (what is shared counts as often as it is met; a slice's spare places count too). A statement '..UptoSaid' is the law's where the arguments, and the package variables that the reading takes, are together of bulk at most 1048576: NARROWER than '..Said'. Prove '..Said' where nothing that the law and all that it calls make is longer than what came in: it says more and counts as full. Else prove '..UptoSaid'. A law counts once. -/
mutual
def uptoBulk {H : Type} : DataW H → Nat
  | .lit (.string bytes) => bytes.length + 1
  | .lit _ => 1
  | .nil => 1
  | .ptr d => uptoBulk d + 1
  | .slice elems spare => uptoBulkAll elems + uptoBulkAll spare + 1
  | .agg parts => uptoBulkAll parts + 1
  | .iface _ d => uptoBulk d + 1
  | .map entries => uptoBulkEntries entries + 1
  | .held _ => 1
def uptoBulkAll {H : Type} : List (DataW H) → Nat
  | [] => 0
  | d :: r => uptoBulk d + uptoBulkAll r
def uptoBulkEntries {H : Type} : List (Lit × DataW H) → Nat
  | [] => 0
  | x :: r => uptoBulkEntry x + uptoBulkEntries r
def uptoBulkEntry {H : Type} : Lit × DataW H → Nat
  | (.string bytes, d) => bytes.length + uptoBulk d + 1
  | (_, d) => uptoBulk d + 1
 end
def uptoSmall : (H : Type) → List (DataW H) → Bool := fun _ ds => decide (uptoBulkAll ds ≤ 1048576)
def OpenSpec.upto (s : _root_.Go.ChangeSpec) : _root_.Go.OpenSpec := { _root_.Go.OpenSpec.ofChange s with cond := some uptoSmall }

/-- 'wealdlaw14.SaveBehind', WHERE WHAT IT READS IS OF BULK AT MOST 1048576: true; the input reads as it did. -/
def saveBehindUptoRow : OpenClaim := { program := "ytdbomlclkhkinaadoor", sum := "824aa3f6c0d83c93934333cf29695fd151b4b7480d613f91d268db27dc4be270", func := "weald/wealdlaw14.SaveBehind", spec := "saveBehind", unfollowed := true, recurses := true, named := ["weald/crc.half"], apart := false, laid := [("weald/crc.half", laid_weald_crc_half)], narrowed := true }
def SaveBehindUptoSaid : Prop := saveBehindUptoRow.holds Tryd.pinned (OpenSpec.upto saveBehindSpec)

/-- 'wealdlaw14.SaveHelped', WHERE WHAT IT READS IS OF BULK AT MOST 1048576: true; the input reads as it did. -/
def saveHelpedUptoRow : OpenClaim := { program := "ytdbomlclkhkinaadoor", sum := "824aa3f6c0d83c93934333cf29695fd151b4b7480d613f91d268db27dc4be270", func := "weald/wealdlaw14.SaveHelped", spec := "saveHelped", unfollowed := true, recurses := true, named := ["weald/crc.half"], apart := false, laid := [("weald/crc.half", laid_weald_crc_half)], narrowed := true }
def SaveHelpedUptoSaid : Prop := saveHelpedUptoRow.holds Tryd.pinned (OpenSpec.upto saveHelpedSpec)

/-- 'wealdlaw14.SaveTwice', WHERE WHAT IT READS IS OF BULK AT MOST 1048576: true; the input reads as it did. -/
def saveTwiceUptoRow : OpenClaim := { program := "ytdbomlclkhkinaadoor", sum := "824aa3f6c0d83c93934333cf29695fd151b4b7480d613f91d268db27dc4be270", func := "weald/wealdlaw14.SaveTwice", spec := "saveTwice", unfollowed := true, recurses := true, named := ["weald/crc.half"], apart := false, laid := [("weald/crc.half", laid_weald_crc_half)], narrowed := true }
def SaveTwiceUptoSaid : Prop := saveTwiceUptoRow.holds Tryd.pinned (OpenSpec.upto saveTwiceSpec)

/-- 'wealdlaw14.SaveDirect', WHERE WHAT IT READS IS OF BULK AT MOST 1048576: true; the input reads as it did. -/
def saveDirectUptoRow : OpenClaim := { program := "ytdbomlclkhkinaadoor", sum := "824aa3f6c0d83c93934333cf29695fd151b4b7480d613f91d268db27dc4be270", func := "weald/wealdlaw14.SaveDirect", spec := "saveDirect", unfollowed := true, recurses := true, named := ["weald/crc.half"], apart := false, laid := [("weald/crc.half", laid_weald_crc_half)], narrowed := true }
def SaveDirectUptoSaid : Prop := saveDirectUptoRow.holds Tryd.pinned (OpenSpec.upto saveDirectSpec)

end Rows
end Go.Proofs.YtdbomlclkhkinaaDoor
