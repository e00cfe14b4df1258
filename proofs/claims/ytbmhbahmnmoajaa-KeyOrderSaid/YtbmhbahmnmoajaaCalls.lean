/-
  The contracts of the functions of layer 1 (keys), one for each function that the six statements call: what each one returns, and that it leaves the world as it was.
-/
import Derived.Test.YtbmhbahmnmoajaaRows
import Derived.WalkKit
import Derived.ProofKit
import Derived.OpenShut
import Derived.Lib.Hide
import Derived.Laws.BitsAllLaws
import Derived.BigQuiet
import Derived.Deep.QuietTactic
import Derived.Outline
namespace Go.Proofs.Ytbmhbahmnmoajaa
open Go.ChangeShapes Go.WideShapes Go.ChangeAt Go.RowKit
set_option linter.unusedVariables false

theorem mask31 (k : Int) (h0 : 0 ≤ k) (h1 : k < 18446744073709551616) : bits .and .u64 k 2147483647 = k % 2147483648 := by
  rw [u64_and k 2147483647 h0 h1 (by omega) (by omega)]
  have h := Nat.and_two_pow_sub_one_eq_mod k.toNat 31
  have e : (2147483647 : Int).toNat = 2 ^ 31 - 1 := by decide
  rw [e, h]
  omega

/-- Is a number a vertex? -/
def isV (u : Int) : Prop := 0 ≤ u ∧ u < 1073741824
/-- Is a number a key? -/
def isK (k : Int) : Prop := k / 2147483648 < 1073741824 ∧ k % 2147483648 ≤ 1073741824

theorem isV_yes (u : Int) (w : World) (h : isV u) :
    Calls Try.prog 19 #[.int .i64 u] w fun e w' => e = .returned (.bool true) ∧ w = w' := by
  obtain ⟨h0, h1⟩ := h
  have e0 : decide (u ≥ 0) = true := by simpa using h0
  have e1 : decide (u < 1073741824) = true := by simpa using h1
  go_enter Try.func19, Try.ntmps19
  go_wp2
  go_ret
  exact ⟨rfl, rfl⟩

theorem isV_no (u : Int) (w : World) (h : ¬ isV u) :
    Calls Try.prog 19 #[.int .i64 u] w fun e w' => e = .returned (.bool false) ∧ w = w' := by
  unfold isV at h
  by_cases h0 : u < 0
  · clear h
    go_enter Try.func19, Try.ntmps19
    go_wp2
    go_ret
    exact ⟨rfl, rfl⟩
  · have h2 : 0 ≤ u := by omega
    have h1 : 1073741824 ≤ u := by omega
    have e1 : decide (u < 1073741824) = false := by simpa using h1
    clear h h0
    go_enter Try.func19, Try.ntmps19
    go_wp2
    go_ret
    exact ⟨rfl, rfl⟩

theorem is_yes (u : Int) (w : World) (h : isV u) :
    Calls Try.prog 18 #[.int .i64 u] w fun e w' => e = .returned (.bool true) ∧ w = w' := by
  obtain ⟨h0, h1⟩ := h
  have e0 : decide (u ≥ 0) = true := by simpa using h0
  have e1 : decide (u ≤ 1073741823) = true := by simp; omega
  go_enter Try.func18, Try.ntmps18
  go_wp2
  go_ret
  exact ⟨rfl, rfl⟩

theorem is_no (u : Int) (w : World) (h : ¬ isV u) :
    Calls Try.prog 18 #[.int .i64 u] w fun e w' => e = .returned (.bool false) ∧ w = w' := by
  unfold isV at h
  by_cases h0 : u < 0
  · clear h
    go_enter Try.func18, Try.ntmps18
    go_wp2
    go_ret
    exact ⟨rfl, rfl⟩
  · have h2 : 0 ≤ u := by omega
    have h1 : 1073741824 ≤ u := by omega
    have e1 : decide (u ≤ 1073741823) = false := by simp; omega
    clear h h0
    go_enter Try.func18, Try.ntmps18
    go_wp2
    go_ret
    exact ⟨rfl, rfl⟩

theorem halves_any (k : Int) (w : World) (h0 : 0 ≤ k) (h1 : k < 18446744073709551616) :
    Calls Try.prog 20 #[.int .u64 k] w fun e w' => e = .returned (.tuple #[.int .u64 (k / 2147483648), .int .u64 (k % 2147483648)]) ∧ w = w' := by
  have hm := mask31 k h0 h1
  go_enter Try.func20, Try.ntmps20
  go_wp2
  go_ret2
  exact ⟨rfl, rfl⟩

theorem vertex_yes (u : Int) (w : World) (h : isV u) :
    Calls Try.prog 10 #[.int .i64 u] w fun e w' => e = .returned (.tuple #[.int .u64 (u * 2147483648), .int .i64 0]) ∧ w = w' := by
  have h' := h
  obtain ⟨h0, h1⟩ := h'
  go_enter Try.func10, Try.ntmps10
  go_wp2_with (go_at_call 19; refine (isV_yes _ _ h).mono ?_; rintro e w' ⟨rfl, rfl⟩)
  go_ret2
  exact ⟨rfl, rfl⟩

theorem vertex_no (u : Int) (w : World) (h : ¬ isV u) :
    Calls Try.prog 10 #[.int .i64 u] w fun e w' => e = .returned (.tuple #[.int .u64 0, .int .i64 4]) ∧ w = w' := by
  have H := Lib.hid h
  clear h
  go_enter Try.func10, Try.ntmps10
  go_wp2_with (go_at_call 19; refine (isV_no _ _ H.out).mono ?_; rintro e w' ⟨rfl, rfl⟩)
  go_ret2
  exact ⟨rfl, rfl⟩

theorem refVertex_yes (u : Int) (w : World) (h : isV u) :
    Calls Try.prog 11 #[.int .i64 u] w fun e w' => e = .returned (.tuple #[.int .u64 (u * 2147483648), .int .i64 0]) ∧ w = w' := by
  obtain ⟨h0, h1⟩ := h
  have e0 : decide (u < 0) = false := by simp; omega
  have e1 : decide (u > 1073741823) = false := by simp; omega
  go_enter Try.func11, Try.ntmps11
  go_wp2
  go_ret2
  exact ⟨rfl, rfl⟩

theorem refVertex_no (u : Int) (w : World) (h : ¬ isV u) :
    Calls Try.prog 11 #[.int .i64 u] w fun e w' => e = .returned (.tuple #[.int .u64 0, .int .i64 4]) ∧ w = w' := by
  unfold isV at h
  by_cases h0 : u < 0
  · clear h
    go_enter Try.func11, Try.ntmps11
    go_wp2
    go_ret2
    exact ⟨rfl, rfl⟩
  · have h2 : 0 ≤ u := by omega
    have h1 : 1073741824 ≤ u := by omega
    clear h h0
    go_enter Try.func11, Try.ntmps11
    go_wp2
    go_ret2
    exact ⟨rfl, rfl⟩

end Go.Proofs.Ytbmhbahmnmoajaa
