/-
  The contracts of package cell (layer 9): mayBe, Pin, Field, size, behind, Next, Right; word.Top of no tag; and of the document's own: Pin, Field, Next, Right.
-/
import Derived.Test.YthcifknnppohfaaWds
namespace Go.Proofs.Ythcifknnppohfaa
open Go.ChangeShapes Go.WideShapes Go.ChangeAt Go.RowKit
set_option linter.unusedVariables false
set_option maxRecDepth 100000

theorem ret_boolc {a b : Bool} (h : a = b) : Ending.returned (.bool a) = .returned (.bool b) := by rw [h]
theorem ret_i64c {a b : Int} (h : a = b) : Ending.returned (.int .i64 a) = .returned (.int .i64 b) := by rw [h]
theorem ret_u64c {a b : Int} (h : a = b) : Ending.returned (.int .u64 a) = .returned (.int .u64 b) := by rw [h]

/-- May a memory be for so many threads and records? -/
def mayB (t c : Int) : Bool := decide (1 ≤ t ∧ t ≤ 64 ∧ 0 ≤ c ∧ c ≤ 65536)
/-- Places, and sizes. -/
def pinN (i : Nat) : Nat := 8 + i
def fieldN (t r f : Nat) : Nat := 8 + t + 8 * (r - 1) + f
def nextN (t r : Nat) : Nat := if r = 0 then 0 else fieldN t r 0
def sizeN (t c : Nat) : Nat := 8 + t + 8 * c
def behindN (r c : Nat) : Nat := if r = c then 0 else r + 1
theorem mayB_yes {t c : Nat} (h1 : 1 ≤ t) (h2 : t ≤ 64) (h3 : c ≤ 65536) : mayB (t : Int) (c : Int) = true := by unfold mayB; rw [decide_eq_true_iff]; omega
theorem mayB_iff {t c : Int} (h : mayB t c = true) : ∃ n k : Nat, t = (n : Int) ∧ c = (k : Int) ∧ 1 ≤ n ∧ n ≤ 64 ∧ k ≤ 65536 := by
  unfold mayB at h
  rw [decide_eq_true_iff] at h
  exact ⟨t.toNat, c.toNat, by omega, by omega, by omega, by omega, by omega⟩

theorem pin_at (i : Nat) (h : i < 1000000) (w : World) : Calls Try.prog 47 #[.int .i64 (i : Int)] w fun e w' => e = .returned (.int .i64 (pinN i : Nat)) ∧ w = w' := by
  go_enter Try.func47, Try.ntmps47
  go_wp2_with fail
  go_ret
  exact ⟨ret_i64c (by unfold pinN; omega), rfl⟩
theorem field_any (t r f : Nat) (ht : t < 1000000) (h1 : 1 ≤ r) (hr : r < 2000000) (hf : f < 1000000) (w : World) :
    Calls Try.prog 81 #[.int .i64 (t : Int), .int .i64 (r : Int), .int .i64 (f : Int)] w fun e w' => e = .returned (.int .i64 (fieldN t r f : Nat)) ∧ w = w' := by
  have hp : (pinN t : Int) = 8 + (t : Int) := by unfold pinN; omega
  go_enter Try.func81, Try.ntmps81
  go_wp2_with (go_at_call 47; (with_reducible refine (pin_at t ht _).mono ?_); rintro e w' ⟨rfl, rfl⟩)
  go_ret
  exact ⟨ret_i64c (by unfold fieldN; omega), rfl⟩
theorem topZero_at (r : Nat) (hr : r < 1000000) (w : World) :
    Calls Try.prog 101 #[.int .i64 (r : Int), .int .u64 0] w fun e w' => e = .returned (.int .u64 (r : Int)) ∧ w = w' := by
  go_enter Try.func101, Try.ntmps101
  go_wp2_with fail
  go_ret
  exact ⟨ret_u64c (by omega), rfl⟩

theorem kept_bool {w w2 : World} {p b : Bool} (E : Hid (p = b)) (h : Below w.heap.size w w2) : Kept w (.bool p) (.returned (.bool b)) w2 := ⟨ret_boolc E.out.symm, h⟩
/-- Is a memory right? -/
def rightM (t c : Int) (n : Nat) : Bool := mayB t c && decide ((n : Int) = 8 + t + 8 * c)
theorem refPin_at (i : Nat) (h : i < 1000000) (w : World) : Calls Try.prog 63 #[.int .i64 (i : Int)] w fun e w' => e = .returned (.int .i64 (pinN i : Nat)) ∧ w = w' := by
  go_enter Try.func63, Try.ntmps63
  go_wp2_with fail
  go_ret
  exact ⟨ret_i64c (by unfold pinN; omega), rfl⟩
theorem refField_any (t r f : Nat) (ht : t < 1000000) (h1 : 1 ≤ r) (hr : r < 2000000) (hf : f < 1000000) (w : World) :
    Calls Try.prog 43 #[.int .i64 (t : Int), .int .i64 (r : Int), .int .i64 (f : Int)] w fun e w' => e = .returned (.int .i64 (fieldN t r f : Nat)) ∧ w = w' := by
  go_enter Try.func43, Try.ntmps43
  go_wp2_with fail
  go_ret
  exact ⟨ret_i64c (by unfold fieldN; omega), rfl⟩
end Go.Proofs.Ythcifknnppohfaa
