/-
  The contracts of layer 1 (keys) once more, each for every argument: what a function returns is told by a Lean function that the walks leave closed.
-/
import Derived.Test.YtbmhbahmnmoajaaShown
namespace Go.Proofs.Ytbmhbahmnmoajaa
open Go.ChangeShapes Go.WideShapes Go.ChangeAt Go.RowKit
set_option linter.unusedVariables false

/-- May it be a vertex? -/
def vB (u : Int) : Bool := decide (0 ≤ u ∧ u < 1073741824)
/-- Is it a key? -/
def kB (k : Int) : Bool := decide (k / 2147483648 < 1073741824 ∧ k % 2147483648 ≤ 1073741824)
/-- A vertex's key, and its code. -/
def vK (u : Int) : Int := if 0 ≤ u ∧ u < 1073741824 then u * 2147483648 else 0
def vE (u : Int) : Int := if 0 ≤ u ∧ u < 1073741824 then 0 else 4
/-- An edge's key, and its code. -/
def eK (u v : Int) : Int := if (0 ≤ u ∧ u < 1073741824) ∧ (0 ≤ v ∧ v < 1073741824) then u * 2147483648 + (v + 1) else 0
def eE (u v : Int) : Int := if (0 ≤ u ∧ u < 1073741824) ∧ (0 ≤ v ∧ v < 1073741824) then 0 else 4

theorem vB_yes {u : Int} (h0 : 0 ≤ u) (h1 : u < 1073741824) : vB u = true := by unfold vB; simp; omega
theorem vB_no {u : Int} (h : ¬ (0 ≤ u ∧ u < 1073741824)) : vB u = false := by unfold vB; simp; omega
theorem vB_of {u : Int} (h : vB u = true) : 0 ≤ u ∧ u < 1073741824 := by unfold vB at h; simpa using h
theorem kB_yes {k : Int} (h0 : k / 2147483648 < 1073741824) (h1 : k % 2147483648 ≤ 1073741824) : kB k = true := by unfold kB; simp; omega
theorem kB_no {k : Int} (h : ¬ (k / 2147483648 < 1073741824 ∧ k % 2147483648 ≤ 1073741824)) : kB k = false := by unfold kB; simp; omega
theorem kB_of {k : Int} (h : kB k = true) : k / 2147483648 < 1073741824 ∧ k % 2147483648 ≤ 1073741824 := by unfold kB at h; simpa using h
theorem vK_yes {u : Int} (h0 : 0 ≤ u) (h1 : u < 1073741824) : vK u = u * 2147483648 := by unfold vK; rw [if_pos ⟨h0, h1⟩]
theorem vK_no {u : Int} (h : ¬ (0 ≤ u ∧ u < 1073741824)) : vK u = 0 := by unfold vK; rw [if_neg h]
theorem vE_yes {u : Int} (h0 : 0 ≤ u) (h1 : u < 1073741824) : vE u = 0 := by unfold vE; rw [if_pos ⟨h0, h1⟩]
theorem vE_no {u : Int} (h : ¬ (0 ≤ u ∧ u < 1073741824)) : vE u = 4 := by unfold vE; rw [if_neg h]
theorem eK_yes {u v : Int} (h0 : 0 ≤ u) (h1 : u < 1073741824) (h2 : 0 ≤ v) (h3 : v < 1073741824) : eK u v = u * 2147483648 + (v + 1) := by unfold eK; rw [if_pos ⟨⟨h0, h1⟩, h2, h3⟩]
theorem eK_no {u v : Int} (h : ¬ ((0 ≤ u ∧ u < 1073741824) ∧ (0 ≤ v ∧ v < 1073741824))) : eK u v = 0 := by unfold eK; rw [if_neg h]
theorem eE_yes {u v : Int} (h0 : 0 ≤ u) (h1 : u < 1073741824) (h2 : 0 ≤ v) (h3 : v < 1073741824) : eE u v = 0 := by unfold eE; rw [if_pos ⟨⟨h0, h1⟩, h2, h3⟩]
theorem eE_no {u v : Int} (h : ¬ ((0 ≤ u ∧ u < 1073741824) ∧ (0 ≤ v ∧ v < 1073741824))) : eE u v = 4 := by unfold eE; rw [if_neg h]
theorem vE_bd (u : Int) : 0 ≤ vE u ∧ vE u ≤ 4 := by unfold vE; split <;> omega
theorem eE_bd (u v : Int) : 0 ≤ eE u v ∧ eE u v ≤ 4 := by unfold eE; split <;> omega
theorem vK_bd (u : Int) : 0 ≤ vK u ∧ vK u < 2305843009213693952 := by unfold vK; split <;> omega
theorem eK_bd (u v : Int) : 0 ≤ eK u v ∧ eK u v < 2305843009213693952 := by unfold eK; split <;> omega

theorem is_any (u : Int) (w : World) : Calls Try.prog 18 #[.int .i64 u] w fun e w' => e = .returned (.bool (vB u)) ∧ w = w' := by
  by_cases h : isV u
  · rw [vB_yes h.1 h.2]; exact is_yes u w h
  · rw [vB_no h]; exact is_no u w h
theorem vertex_any (u : Int) (w : World) : Calls Try.prog 10 #[.int .i64 u] w fun e w' => e = .returned (.tuple #[.int .u64 (vK u), .int .i64 (vE u)]) ∧ w = w' := by
  by_cases h : isV u
  · rw [vK_yes h.1 h.2, vE_yes h.1 h.2]; exact vertex_yes u w h
  · rw [vK_no h, vE_no h]; exact vertex_no u w h
theorem refVertex_any (u : Int) (w : World) : Calls Try.prog 11 #[.int .i64 u] w fun e w' => e = .returned (.tuple #[.int .u64 (vK u), .int .i64 (vE u)]) ∧ w = w' := by
  by_cases h : isV u
  · rw [vK_yes h.1 h.2, vE_yes h.1 h.2]; exact refVertex_yes u w h
  · rw [vK_no h, vE_no h]; exact refVertex_no u w h
theorem edge_any (u v : Int) (w : World) : Calls Try.prog 12 #[.int .i64 u, .int .i64 v] w fun e w' => e = .returned (.tuple #[.int .u64 (eK u v), .int .i64 (eE u v)]) ∧ w = w' := by
  by_cases h : isV u ∧ isV v
  · rw [eK_yes h.1.1 h.1.2 h.2.1 h.2.2, eE_yes h.1.1 h.1.2 h.2.1 h.2.2]; exact edge_yes u v w h.1 h.2
  · rw [eK_no h, eE_no h]; exact edge_no u v w h
theorem refEdge_any (u v : Int) (w : World) : Calls Try.prog 13 #[.int .i64 u, .int .i64 v] w fun e w' => e = .returned (.tuple #[.int .u64 (eK u v), .int .i64 (eE u v)]) ∧ w = w' := by
  by_cases h : isV u ∧ isV v
  · rw [eK_yes h.1.1 h.1.2 h.2.1 h.2.2, eE_yes h.1.1 h.1.2 h.2.1 h.2.2]; exact refEdge_yes u v w h.1 h.2
  · rw [eK_no h, eE_no h]; exact refEdge_no u v w h
theorem right_any (k : Int) (w : World) (h0 : 0 ≤ k) (h1 : k < 18446744073709551616) : Calls Try.prog 15 #[.int .u64 k] w fun e w' => e = .returned (.bool (kB k)) ∧ w = w' := by
  by_cases h : isK k
  · rw [kB_yes h.1 h.2]; exact right_yes k w h0 h1 h
  · rw [kB_no h]; exact right_no k w h0 h1 h
theorem refRight_any (k : Int) (w : World) (h0 : 0 ≤ k) (h1 : k < 18446744073709551616) : Calls Try.prog 14 #[.int .u64 k] w fun e w' => e = .returned (.bool (kB k)) ∧ w = w' := by
  by_cases h : isK k
  · rw [kB_yes h.1 h.2]; exact refRight_yes k w h0 h1 h
  · rw [kB_no h]; exact refRight_no k w h0 h1 h
end Go.Proofs.Ytbmhbahmnmoajaa
