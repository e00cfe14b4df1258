/-
  Plain facts on the keys of layer 1: what the walks of the laws lay ahead of them.
-/
import Derived.Test.YtbmhbahmnmoajaaVals
namespace Go.Proofs.Ytbmhbahmnmoajaa
open Go.ChangeShapes Go.WideShapes Go.ChangeAt Go.RowKit
set_option linter.unusedVariables false
theorem vK_div {u : Int} (h0 : 0 ≤ u) (h1 : u < 1073741824) : vK u / 2147483648 = u := by rw [vK_yes h0 h1]; omega
theorem vK_mod {u : Int} (h0 : 0 ≤ u) (h1 : u < 1073741824) : vK u % 2147483648 = 0 := by rw [vK_yes h0 h1]; omega
theorem vK_key {u : Int} (h0 : 0 ≤ u) (h1 : u < 1073741824) : kB (vK u) = true := by apply kB_yes <;> rw [vK_yes h0 h1] <;> omega
theorem eK_div {u v : Int} (h0 : 0 ≤ u) (h1 : u < 1073741824) (h2 : 0 ≤ v) (h3 : v < 1073741824) : eK u v / 2147483648 = u := by rw [eK_yes h0 h1 h2 h3]; omega
theorem eK_mod {u v : Int} (h0 : 0 ≤ u) (h1 : u < 1073741824) (h2 : 0 ≤ v) (h3 : v < 1073741824) : eK u v % 2147483648 = v + 1 := by rw [eK_yes h0 h1 h2 h3]; omega
theorem eK_key {u v : Int} (h0 : 0 ≤ u) (h1 : u < 1073741824) (h2 : 0 ≤ v) (h3 : v < 1073741824) : kB (eK u v) = true := by apply kB_yes <;> rw [eK_yes h0 h1 h2 h3] <;> omega
theorem vK_back {k : Int} (h0 : 0 ≤ k) (h : kB k = true) (hy : k % 2147483648 < 1) : vK (k / 2147483648) = k ∧ vE (k / 2147483648) = 0 := by
  obtain ⟨h2, h3⟩ := kB_of h
  rw [vK_yes (by omega) (by omega), vE_yes (by omega) (by omega)]; omega
theorem eK_back {k : Int} (h0 : 0 ≤ k) (h : kB k = true) (hy : 1 ≤ k % 2147483648) : eK (k / 2147483648) (k % 2147483648 - 1) = k ∧ eE (k / 2147483648) (k % 2147483648 - 1) = 0 := by
  obtain ⟨h2, h3⟩ := kB_of h
  rw [eK_yes (by omega) (by omega) (by omega) (by omega), eE_yes (by omega) (by omega) (by omega) (by omega)]; omega
end Go.Proofs.Ytbmhbahmnmoajaa
