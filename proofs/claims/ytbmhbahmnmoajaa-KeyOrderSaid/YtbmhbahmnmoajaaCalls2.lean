/-
  The contracts of the functions of layer 1 (keys), second part: keys of edges, which numbers are keys, what keys are of, and the document's examples.
-/
import Derived.Test.YtbmhbahmnmoajaaCalls
namespace Go.Proofs.Ytbmhbahmnmoajaa
open Go.ChangeShapes Go.WideShapes Go.ChangeAt Go.RowKit
set_option linter.unusedVariables false
theorem edge_yes (u v : Int) (w : World) (h : isV u) (h' : isV v) :
    Calls Try.prog 12 #[.int .i64 u, .int .i64 v] w fun e w' => e = .returned (.tuple #[.int .u64 (u * 2147483648 + (v + 1)), .int .i64 0]) ∧ w = w' := by
  have g := h
  have g' := h'
  obtain ⟨h0, h1⟩ := g
  obtain ⟨h2, h3⟩ := g'
  go_enter Try.func12, Try.ntmps12
  go_wp2_with fail
  refine (isV_yes u _ h).mono ?_
  rintro e w' ⟨rfl, rfl⟩
  go_wp2_with fail
  refine (isV_yes v _ h').mono ?_
  rintro e w' ⟨rfl, rfl⟩
  go_wp2_with fail
  go_ret2
  exact ⟨rfl, rfl⟩

theorem edge_no (u v : Int) (w : World) (h : ¬ (isV u ∧ isV v)) :
    Calls Try.prog 12 #[.int .i64 u, .int .i64 v] w fun e w' => e = .returned (.tuple #[.int .u64 0, .int .i64 4]) ∧ w = w' := by
  by_cases hu : isV u
  · have hv : ¬ isV v := fun hv => h ⟨hu, hv⟩
    have H := Lib.hid hu
    have H' := Lib.hid hv
    clear h hu hv
    go_enter Try.func12, Try.ntmps12
    go_wp2_with fail
    refine (isV_yes u _ H.out).mono ?_
    rintro e w' ⟨rfl, rfl⟩
    go_wp2_with fail
    refine (isV_no v _ H'.out).mono ?_
    rintro e w' ⟨rfl, rfl⟩
    go_wp2_with fail
    go_ret2
    exact ⟨rfl, rfl⟩
  · have H := Lib.hid hu
    clear h hu
    go_enter Try.func12, Try.ntmps12
    go_wp2_with fail
    refine (isV_no u _ H.out).mono ?_
    rintro e w' ⟨rfl, rfl⟩
    go_wp2_with fail
    go_ret2
    exact ⟨rfl, rfl⟩

theorem refEdge_yes (u v : Int) (w : World) (h : isV u) (h' : isV v) :
    Calls Try.prog 13 #[.int .i64 u, .int .i64 v] w fun e w' => e = .returned (.tuple #[.int .u64 (u * 2147483648 + (v + 1)), .int .i64 0]) ∧ w = w' := by
  obtain ⟨h0, h1⟩ := h
  obtain ⟨h2, h3⟩ := h'
  have a0 : decide (u < 0) = false := by simp; omega
  have a1 : decide (u > 1073741823) = false := by simp; omega
  have a2 : decide (v < 0) = false := by simp; omega
  have a3 : decide (v > 1073741823) = false := by simp; omega
  have e : u * 2147483648 + v + 1 = u * 2147483648 + (v + 1) := by omega
  have E := Lib.hid e
  clear e
  go_enter Try.func13, Try.ntmps13
  go_wp2
  go_ret2
  exact ⟨by rw [← E.out]; rfl, rfl⟩

theorem refEdge_no (u v : Int) (w : World) (h : ¬ (isV u ∧ isV v)) :
    Calls Try.prog 13 #[.int .i64 u, .int .i64 v] w fun e w' => e = .returned (.tuple #[.int .u64 0, .int .i64 4]) ∧ w = w' := by
  unfold isV at h
  by_cases h0 : u < 0
  · clear h
    go_enter Try.func13, Try.ntmps13
    go_wp2
    go_ret2
    exact ⟨rfl, rfl⟩
  · have h0' : 0 ≤ u := by omega
    by_cases h1 : 1073741824 ≤ u
    · have a1 : decide (u > 1073741823) = true := by simp; omega
      clear h h0
      go_enter Try.func13, Try.ntmps13
      go_wp2
      go_ret2
      exact ⟨rfl, rfl⟩
    · have h1' : u < 1073741824 := by omega
      have a1 : decide (u > 1073741823) = false := by simp; omega
      by_cases h2 : v < 0
      · clear h h0 h1
        go_enter Try.func13, Try.ntmps13
        go_wp2
        go_ret2
        exact ⟨rfl, rfl⟩
      · have h2' : 0 ≤ v := by omega
        have h3 : 1073741824 ≤ v := by omega
        have a3 : decide (v > 1073741823) = true := by simp; omega
        clear h h0 h1 h2
        go_enter Try.func13, Try.ntmps13
        go_wp2
        go_ret2
        exact ⟨rfl, rfl⟩

theorem right_yes (k : Int) (w : World) (h0 : 0 ≤ k) (h1 : k < 18446744073709551616) (h : isK k) :
    Calls Try.prog 15 #[.int .u64 k] w fun e w' => e = .returned (.bool true) ∧ w = w' := by
  obtain ⟨h2, h3⟩ := h
  have a0 : decide (k / 2147483648 < 1073741824) = true := by simp; omega
  have a1 : decide (k % 2147483648 ≤ 1073741824) = true := by simp; omega
  go_enter Try.func15, Try.ntmps15
  go_wp2_with fail
  refine (halves_any _ _ h0 h1).mono ?_
  rintro e w' ⟨rfl, rfl⟩
  go_wp2_with fail
  go_ret
  exact ⟨rfl, rfl⟩

theorem right_no (k : Int) (w : World) (h0 : 0 ≤ k) (h1 : k < 18446744073709551616) (h : ¬ isK k) :
    Calls Try.prog 15 #[.int .u64 k] w fun e w' => e = .returned (.bool false) ∧ w = w' := by
  unfold isK at h
  by_cases h2 : k / 2147483648 < 1073741824
  · have h3 : 1073741824 < k % 2147483648 := by omega
    have a0 : decide (k / 2147483648 < 1073741824) = true := by simp; omega
    have a1 : decide (k % 2147483648 ≤ 1073741824) = false := by simp; omega
    clear h
    go_enter Try.func15, Try.ntmps15
    go_wp2_with fail
    refine (halves_any _ _ h0 h1).mono ?_
    rintro e w' ⟨rfl, rfl⟩
    go_wp2_with fail
    go_ret
    exact ⟨rfl, rfl⟩
  · have h3 : 1073741824 ≤ k / 2147483648 := by omega
    have a0 : decide (k / 2147483648 < 1073741824) = false := by simp; omega
    clear h h2
    go_enter Try.func15, Try.ntmps15
    go_wp2_with fail
    refine (halves_any _ _ h0 h1).mono ?_
    rintro e w' ⟨rfl, rfl⟩
    go_wp2_with fail
    go_ret
    exact ⟨rfl, rfl⟩

theorem refRight_yes (k : Int) (w : World) (h0 : 0 ≤ k) (h1 : k < 18446744073709551616) (h : isK k) :
    Calls Try.prog 14 #[.int .u64 k] w fun e w' => e = .returned (.bool true) ∧ w = w' := by
  obtain ⟨h2, h3⟩ := h
  have a0 : decide (k / 2147483648 ≤ 1073741823) = true := by simp; omega
  have a1 : decide (k % 2147483648 ≤ 1073741824) = true := by simp; omega
  go_enter Try.func14, Try.ntmps14
  go_wp2
  go_ret
  exact ⟨rfl, rfl⟩

theorem refRight_no (k : Int) (w : World) (h0 : 0 ≤ k) (h1 : k < 18446744073709551616) (h : ¬ isK k) :
    Calls Try.prog 14 #[.int .u64 k] w fun e w' => e = .returned (.bool false) ∧ w = w' := by
  unfold isK at h
  by_cases h2 : k / 2147483648 < 1073741824
  · have h3 : 1073741824 < k % 2147483648 := by omega
    have a0 : decide (k / 2147483648 ≤ 1073741823) = true := by simp; omega
    have a1 : decide (k % 2147483648 ≤ 1073741824) = false := by simp; omega
    clear h
    go_enter Try.func14, Try.ntmps14
    go_wp2
    go_ret
    exact ⟨rfl, rfl⟩
  · have h3 : 1073741824 ≤ k / 2147483648 := by omega
    have a0 : decide (k / 2147483648 ≤ 1073741823) = false := by simp; omega
    clear h h2
    go_enter Try.func14, Try.ntmps14
    go_wp2
    go_ret
    exact ⟨rfl, rfl⟩

theorem split_any (k : Int) (w : World) (h0 : 0 ≤ k) (h1 : k < 18446744073709551616) :
    Calls Try.prog 16 #[.int .u64 k] w fun e w' => e = .returned (.tuple #[.int .i64 (k / 2147483648), .int .i64 (k % 2147483648 - 1)]) ∧ w = w' := by
  go_enter Try.func16, Try.ntmps16
  go_wp2_with fail
  refine (halves_any _ _ h0 h1).mono ?_
  rintro e w' ⟨rfl, rfl⟩
  go_wp2_with fail
  go_ret2
  exact ⟨rfl, rfl⟩

theorem refSplit_any (k : Int) (w : World) (h0 : 0 ≤ k) (h1 : k < 18446744073709551616) :
    Calls Try.prog 17 #[.int .u64 k] w fun e w' => e = .returned (.tuple #[.int .i64 (k / 2147483648), .int .i64 (k % 2147483648 - 1)]) ∧ w = w' := by
  go_enter Try.func17, Try.ntmps17
  go_wp2
  go_ret2
  exact ⟨rfl, rfl⟩
end Go.Proofs.Ytbmhbahmnmoajaa
