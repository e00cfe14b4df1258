/-
  What a law of layer 5 over frames stands on: the condition of its row (the table lies as the program's text lays it).
-/
import Derived.Test.YtioheffdolnciaaDoorFrmSplit
import Derived.Test.YtioheffdolnciaaDoorEntRows
import Derived.Test.YtioheffdolnciaaDoorEntEq
namespace Go.Proofs.YtioheffdolnciaaDoor
open Go.ChangeShapes Go.WideShapes Go.ChangeAt Go.RowKit
set_option linter.unusedVariables false

/-- The condition of the rows: the table lies as the program's text lays it. -/
abbrev laidHalf : List (String × DataW Unit) := [("weald/crc.half", Rows.laid_weald_crc_half)]
theorem door_met (os : Os) (args : Array Value) : laidMetH Tryd.prog laidHalf ((World.doorLaid Tryd.prog 400 os).forCall (fun _ _ => 0) ⟨#[], args, []⟩).memory :=
  laidMetH_of_parts3 (fuel := 8) (laidMet_of_run' 8 (by kernel_rfl) (by kernel_rfl)) (by kernel_rfl) (by kernel_rfl)
theorem own : ownKnob Tryd.prog.godebug = none := by kernel_rfl
/-- Behind j entries: they may be, their frames have been laid, what lay has stayed. -/
def FrRel (w1 wr : World) (es : List Ent) (sv : Value) (j : Nat) : Prop :=
  (∀ e ∈ es.take j, e.may) ∧ Own wr w1.heap.size sv (usedN (rowsE (es.take j))) (framesN (rowsE (es.take j))) ∧ Below w1.heap.size w1 wr
theorem FrRel.step {w1 wr w' : World} {es : List Ent} {sv v' : Value} {j : Nat} {e : Ent} (h : FrRel w1 wr es sv j) (he : es[j]? = some e) (hm : e.may)
    (hO : Own w' w1.heap.size v' (usedN (rowsE (es.take j)) + (e.bytes.length + 6)) (framesN (rowsE (es.take j)) ++ frameN e.bytes)) (hB : Below w1.heap.size w1 w') : FrRel w1 w' es v' (j + 1) := by
  refine ⟨fun f hf => ?_, ?_, hB⟩
  · rw [List.take_add_one, he] at hf
    rcases List.mem_append.1 hf with h' | h'
    · exact h.1 f h'
    · simp at h'; subst h'; exact hm
  · rw [rows_take he, used_snoc, frames_snoc, show usedN (rowsE (es.take j)) + (6 + e.bytes.length) = usedN (rowsE (es.take j)) + (e.bytes.length + 6) by omega]
    exact hO
end Go.Proofs.YtioheffdolnciaaDoor
