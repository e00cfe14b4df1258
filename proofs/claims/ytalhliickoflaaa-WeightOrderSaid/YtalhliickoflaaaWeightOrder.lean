/-
  WeightOrder: for every three numbers of 64 bits, the order goes on from one to the next, of two that differ just one is ahead, and the greatest one of the three is one of them that none is ahead of. No condition.
-/
import Derived.Test.YtalhliickoflaaaRows
import Derived.WalkKit
import Derived.ProofKit
import Derived.OpenShut
import Derived.Test.YtalhliickoflaaaShown
namespace Go.Proofs.Ytalhliickoflaaa.weightOrder
open Go.ChangeShapes Go.WideShapes Go.ChangeAt Go.RowKit
set_option linter.unusedVariables false      -- a walk need not use every 'w<i>' (that an integer argument fits its kind)

theorem own : ownKnob Try.prog.godebug = none := by kernel_rfl

theorem greI3 (a b c : Int) : plI a ≤ plI (greI [a, b, c]) ∧ plI b ≤ plI (greI [a, b, c]) ∧ plI c ≤ plI (greI [a, b, c]) ∧ (greI [a, b, c] = a ∨ greI [a, b, c] = b ∨ greI [a, b, c] = c) := by
  show plI a ≤ plI (if lessB (if lessB a b then b else a) c then c else (if lessB a b then b else a)) ∧ plI b ≤ plI (if lessB (if lessB a b then b else a) c then c else (if lessB a b then b else a)) ∧ plI c ≤ plI (if lessB (if lessB a b then b else a) c then c else (if lessB a b then b else a)) ∧ ((if lessB (if lessB a b then b else a) c then c else (if lessB a b then b else a)) = a ∨ (if lessB (if lessB a b then b else a) c then c else (if lessB a b then b else a)) = b ∨ (if lessB (if lessB a b then b else a) c then c else (if lessB a b then b else a)) = c)
  by_cases h1 : plI a < plI b
  · have e1 : lessB a b = true := by unfold lessB; rw [decide_eq_true_eq]; exact h1
    simp only [e1, if_true]
    by_cases h2 : plI b < plI c
    · have e2 : lessB b c = true := by unfold lessB; rw [decide_eq_true_eq]; exact h2
      simp only [e2, if_true]
      exact ⟨by omega, by omega, by omega, by simp⟩
    · have e2 : lessB b c = false := by unfold lessB; rw [decide_eq_false_iff_not]; exact h2
      simp only [e2, Bool.false_eq_true, if_false]
      exact ⟨by omega, by omega, by omega, by simp⟩
  · have e1 : lessB a b = false := by unfold lessB; rw [decide_eq_false_iff_not]; exact h1
    simp only [e1, Bool.false_eq_true, if_false]
    by_cases h2 : plI a < plI c
    · have e2 : lessB a c = true := by unfold lessB; rw [decide_eq_true_eq]; exact h2
      simp only [e2, if_true]
      exact ⟨by omega, by omega, by omega, by simp⟩
    · have e2 : lessB a c = false := by unfold lessB; rw [decide_eq_false_iff_not]; exact h2
      simp only [e2, Bool.false_eq_true, if_false]
      exact ⟨by omega, by omega, by omega, by simp⟩
set_option maxRecDepth 100000 in
theorem walkA1 (a b c : Int) (a0 : 0 ≤ a) (a1 : a < 18446744073709551616) (b0 : 0 ≤ b) (b1 : b < 18446744073709551616) (c0 : 0 ≤ c) (c1 : c < 18446744073709551616) (g : Int) (g0 : 0 ≤ g) (g1 : g < 18446744073709551616) (x1 : lessB a b = true) (x2 : lessB b a = false) (x3 : lessB b c = true) (x4 : lessB a c = true) (q1 : (g == a) = true) (y1 : lessB g a = false) (y2 : lessB g b = false) (y3 : lessB g c = false) (G : Hid (greI [a, b, c] = g)) (w : World) :
    Calls Try.prog 7 #[.int .u64 a, .int .u64 b, .int .u64 c] w fun e w' => e = .returned (.bool true) ∧ Grown w w' := by
  go_enter Try.func7, Try.ntmps7
  go_wp2_with (first | (go_at_call 11; refine (shown_any _).mono ?_; rintro e w1 ⟨rfl, hg⟩) | (go_at_call 16; refine (less_any _ _ _ (by omega) (by omega) (by omega) (by omega)).mono ?_; rintro e w' ⟨rfl, rfl⟩) | (go_at_call 12; refine (greatest3 w1.heap.size a b c g _ a0 a1 b0 b1 c0 c1 (by simp) (by simp) (by simp) G.out).mono ?_; rintro e w' ⟨rfl, rfl⟩))
  go_ret
  exact ⟨rfl, hg.alloc _ _⟩
set_option maxRecDepth 100000 in
theorem walkA2 (a b c : Int) (a0 : 0 ≤ a) (a1 : a < 18446744073709551616) (b0 : 0 ≤ b) (b1 : b < 18446744073709551616) (c0 : 0 ≤ c) (c1 : c < 18446744073709551616) (g : Int) (g0 : 0 ≤ g) (g1 : g < 18446744073709551616) (x1 : lessB a b = true) (x2 : lessB b a = false) (x3 : lessB b c = true) (x4 : lessB a c = true) (q1 : (g == a) = false) (q2 : (g == b) = true) (y1 : lessB g a = false) (y2 : lessB g b = false) (y3 : lessB g c = false) (G : Hid (greI [a, b, c] = g)) (w : World) :
    Calls Try.prog 7 #[.int .u64 a, .int .u64 b, .int .u64 c] w fun e w' => e = .returned (.bool true) ∧ Grown w w' := by
  go_enter Try.func7, Try.ntmps7
  go_wp2_with (first | (go_at_call 11; refine (shown_any _).mono ?_; rintro e w1 ⟨rfl, hg⟩) | (go_at_call 16; refine (less_any _ _ _ (by omega) (by omega) (by omega) (by omega)).mono ?_; rintro e w' ⟨rfl, rfl⟩) | (go_at_call 12; refine (greatest3 w1.heap.size a b c g _ a0 a1 b0 b1 c0 c1 (by simp) (by simp) (by simp) G.out).mono ?_; rintro e w' ⟨rfl, rfl⟩))
  go_ret
  exact ⟨rfl, hg.alloc _ _⟩
set_option maxRecDepth 100000 in
theorem walkA3 (a b c : Int) (a0 : 0 ≤ a) (a1 : a < 18446744073709551616) (b0 : 0 ≤ b) (b1 : b < 18446744073709551616) (c0 : 0 ≤ c) (c1 : c < 18446744073709551616) (g : Int) (g0 : 0 ≤ g) (g1 : g < 18446744073709551616) (x1 : lessB a b = true) (x2 : lessB b a = false) (x3 : lessB b c = true) (x4 : lessB a c = true) (q1 : (g == a) = false) (q2 : (g == b) = false) (q3 : (g == c) = true) (y1 : lessB g a = false) (y2 : lessB g b = false) (y3 : lessB g c = false) (G : Hid (greI [a, b, c] = g)) (w : World) :
    Calls Try.prog 7 #[.int .u64 a, .int .u64 b, .int .u64 c] w fun e w' => e = .returned (.bool true) ∧ Grown w w' := by
  go_enter Try.func7, Try.ntmps7
  go_wp2_with (first | (go_at_call 11; refine (shown_any _).mono ?_; rintro e w1 ⟨rfl, hg⟩) | (go_at_call 16; refine (less_any _ _ _ (by omega) (by omega) (by omega) (by omega)).mono ?_; rintro e w' ⟨rfl, rfl⟩) | (go_at_call 12; refine (greatest3 w1.heap.size a b c g _ a0 a1 b0 b1 c0 c1 (by simp) (by simp) (by simp) G.out).mono ?_; rintro e w' ⟨rfl, rfl⟩))
  go_ret
  exact ⟨rfl, hg.alloc _ _⟩
set_option maxRecDepth 100000 in
theorem walkB1 (a b c : Int) (a0 : 0 ≤ a) (a1 : a < 18446744073709551616) (b0 : 0 ≤ b) (b1 : b < 18446744073709551616) (c0 : 0 ≤ c) (c1 : c < 18446744073709551616) (g : Int) (g0 : 0 ≤ g) (g1 : g < 18446744073709551616) (x1 : lessB a b = true) (x2 : lessB b a = false) (x3 : lessB b c = false) (q1 : (g == a) = true) (y1 : lessB g a = false) (y2 : lessB g b = false) (y3 : lessB g c = false) (G : Hid (greI [a, b, c] = g)) (w : World) :
    Calls Try.prog 7 #[.int .u64 a, .int .u64 b, .int .u64 c] w fun e w' => e = .returned (.bool true) ∧ Grown w w' := by
  go_enter Try.func7, Try.ntmps7
  go_wp2_with (first | (go_at_call 11; refine (shown_any _).mono ?_; rintro e w1 ⟨rfl, hg⟩) | (go_at_call 16; refine (less_any _ _ _ (by omega) (by omega) (by omega) (by omega)).mono ?_; rintro e w' ⟨rfl, rfl⟩) | (go_at_call 12; refine (greatest3 w1.heap.size a b c g _ a0 a1 b0 b1 c0 c1 (by simp) (by simp) (by simp) G.out).mono ?_; rintro e w' ⟨rfl, rfl⟩))
  go_ret
  exact ⟨rfl, hg.alloc _ _⟩
set_option maxRecDepth 100000 in
theorem walkB2 (a b c : Int) (a0 : 0 ≤ a) (a1 : a < 18446744073709551616) (b0 : 0 ≤ b) (b1 : b < 18446744073709551616) (c0 : 0 ≤ c) (c1 : c < 18446744073709551616) (g : Int) (g0 : 0 ≤ g) (g1 : g < 18446744073709551616) (x1 : lessB a b = true) (x2 : lessB b a = false) (x3 : lessB b c = false) (q1 : (g == a) = false) (q2 : (g == b) = true) (y1 : lessB g a = false) (y2 : lessB g b = false) (y3 : lessB g c = false) (G : Hid (greI [a, b, c] = g)) (w : World) :
    Calls Try.prog 7 #[.int .u64 a, .int .u64 b, .int .u64 c] w fun e w' => e = .returned (.bool true) ∧ Grown w w' := by
  go_enter Try.func7, Try.ntmps7
  go_wp2_with (first | (go_at_call 11; refine (shown_any _).mono ?_; rintro e w1 ⟨rfl, hg⟩) | (go_at_call 16; refine (less_any _ _ _ (by omega) (by omega) (by omega) (by omega)).mono ?_; rintro e w' ⟨rfl, rfl⟩) | (go_at_call 12; refine (greatest3 w1.heap.size a b c g _ a0 a1 b0 b1 c0 c1 (by simp) (by simp) (by simp) G.out).mono ?_; rintro e w' ⟨rfl, rfl⟩))
  go_ret
  exact ⟨rfl, hg.alloc _ _⟩
set_option maxRecDepth 100000 in
theorem walkB3 (a b c : Int) (a0 : 0 ≤ a) (a1 : a < 18446744073709551616) (b0 : 0 ≤ b) (b1 : b < 18446744073709551616) (c0 : 0 ≤ c) (c1 : c < 18446744073709551616) (g : Int) (g0 : 0 ≤ g) (g1 : g < 18446744073709551616) (x1 : lessB a b = true) (x2 : lessB b a = false) (x3 : lessB b c = false) (q1 : (g == a) = false) (q2 : (g == b) = false) (q3 : (g == c) = true) (y1 : lessB g a = false) (y2 : lessB g b = false) (y3 : lessB g c = false) (G : Hid (greI [a, b, c] = g)) (w : World) :
    Calls Try.prog 7 #[.int .u64 a, .int .u64 b, .int .u64 c] w fun e w' => e = .returned (.bool true) ∧ Grown w w' := by
  go_enter Try.func7, Try.ntmps7
  go_wp2_with (first | (go_at_call 11; refine (shown_any _).mono ?_; rintro e w1 ⟨rfl, hg⟩) | (go_at_call 16; refine (less_any _ _ _ (by omega) (by omega) (by omega) (by omega)).mono ?_; rintro e w' ⟨rfl, rfl⟩) | (go_at_call 12; refine (greatest3 w1.heap.size a b c g _ a0 a1 b0 b1 c0 c1 (by simp) (by simp) (by simp) G.out).mono ?_; rintro e w' ⟨rfl, rfl⟩))
  go_ret
  exact ⟨rfl, hg.alloc _ _⟩
set_option maxRecDepth 100000 in
theorem walkC1 (a b c : Int) (a0 : 0 ≤ a) (a1 : a < 18446744073709551616) (b0 : 0 ≤ b) (b1 : b < 18446744073709551616) (c0 : 0 ≤ c) (c1 : c < 18446744073709551616) (g : Int) (g0 : 0 ≤ g) (g1 : g < 18446744073709551616) (x1 : lessB a b = false) (x2 : lessB b a = true) (q1 : (g == a) = true) (y1 : lessB g a = false) (y2 : lessB g b = false) (y3 : lessB g c = false) (G : Hid (greI [a, b, c] = g)) (w : World) :
    Calls Try.prog 7 #[.int .u64 a, .int .u64 b, .int .u64 c] w fun e w' => e = .returned (.bool true) ∧ Grown w w' := by
  go_enter Try.func7, Try.ntmps7
  go_wp2_with (first | (go_at_call 11; refine (shown_any _).mono ?_; rintro e w1 ⟨rfl, hg⟩) | (go_at_call 16; refine (less_any _ _ _ (by omega) (by omega) (by omega) (by omega)).mono ?_; rintro e w' ⟨rfl, rfl⟩) | (go_at_call 12; refine (greatest3 w1.heap.size a b c g _ a0 a1 b0 b1 c0 c1 (by simp) (by simp) (by simp) G.out).mono ?_; rintro e w' ⟨rfl, rfl⟩))
  go_ret
  exact ⟨rfl, hg.alloc _ _⟩
set_option maxRecDepth 100000 in
theorem walkC2 (a b c : Int) (a0 : 0 ≤ a) (a1 : a < 18446744073709551616) (b0 : 0 ≤ b) (b1 : b < 18446744073709551616) (c0 : 0 ≤ c) (c1 : c < 18446744073709551616) (g : Int) (g0 : 0 ≤ g) (g1 : g < 18446744073709551616) (x1 : lessB a b = false) (x2 : lessB b a = true) (q1 : (g == a) = false) (q2 : (g == b) = true) (y1 : lessB g a = false) (y2 : lessB g b = false) (y3 : lessB g c = false) (G : Hid (greI [a, b, c] = g)) (w : World) :
    Calls Try.prog 7 #[.int .u64 a, .int .u64 b, .int .u64 c] w fun e w' => e = .returned (.bool true) ∧ Grown w w' := by
  go_enter Try.func7, Try.ntmps7
  go_wp2_with (first | (go_at_call 11; refine (shown_any _).mono ?_; rintro e w1 ⟨rfl, hg⟩) | (go_at_call 16; refine (less_any _ _ _ (by omega) (by omega) (by omega) (by omega)).mono ?_; rintro e w' ⟨rfl, rfl⟩) | (go_at_call 12; refine (greatest3 w1.heap.size a b c g _ a0 a1 b0 b1 c0 c1 (by simp) (by simp) (by simp) G.out).mono ?_; rintro e w' ⟨rfl, rfl⟩))
  go_ret
  exact ⟨rfl, hg.alloc _ _⟩
set_option maxRecDepth 100000 in
theorem walkC3 (a b c : Int) (a0 : 0 ≤ a) (a1 : a < 18446744073709551616) (b0 : 0 ≤ b) (b1 : b < 18446744073709551616) (c0 : 0 ≤ c) (c1 : c < 18446744073709551616) (g : Int) (g0 : 0 ≤ g) (g1 : g < 18446744073709551616) (x1 : lessB a b = false) (x2 : lessB b a = true) (q1 : (g == a) = false) (q2 : (g == b) = false) (q3 : (g == c) = true) (y1 : lessB g a = false) (y2 : lessB g b = false) (y3 : lessB g c = false) (G : Hid (greI [a, b, c] = g)) (w : World) :
    Calls Try.prog 7 #[.int .u64 a, .int .u64 b, .int .u64 c] w fun e w' => e = .returned (.bool true) ∧ Grown w w' := by
  go_enter Try.func7, Try.ntmps7
  go_wp2_with (first | (go_at_call 11; refine (shown_any _).mono ?_; rintro e w1 ⟨rfl, hg⟩) | (go_at_call 16; refine (less_any _ _ _ (by omega) (by omega) (by omega) (by omega)).mono ?_; rintro e w' ⟨rfl, rfl⟩) | (go_at_call 12; refine (greatest3 w1.heap.size a b c g _ a0 a1 b0 b1 c0 c1 (by simp) (by simp) (by simp) G.out).mono ?_; rintro e w' ⟨rfl, rfl⟩))
  go_ret
  exact ⟨rfl, hg.alloc _ _⟩
set_option maxRecDepth 100000 in
theorem walkD1 (a b c : Int) (a0 : 0 ≤ a) (a1 : a < 18446744073709551616) (b0 : 0 ≤ b) (b1 : b < 18446744073709551616) (c0 : 0 ≤ c) (c1 : c < 18446744073709551616) (g : Int) (g0 : 0 ≤ g) (g1 : g < 18446744073709551616) (x1 : lessB a b = false) (x2 : lessB b a = false) (x3 : (a != b) = false) (q1 : (g == a) = true) (y1 : lessB g a = false) (y2 : lessB g b = false) (y3 : lessB g c = false) (G : Hid (greI [a, b, c] = g)) (w : World) :
    Calls Try.prog 7 #[.int .u64 a, .int .u64 b, .int .u64 c] w fun e w' => e = .returned (.bool true) ∧ Grown w w' := by
  go_enter Try.func7, Try.ntmps7
  go_wp2_with (first | (go_at_call 11; refine (shown_any _).mono ?_; rintro e w1 ⟨rfl, hg⟩) | (go_at_call 16; refine (less_any _ _ _ (by omega) (by omega) (by omega) (by omega)).mono ?_; rintro e w' ⟨rfl, rfl⟩) | (go_at_call 12; refine (greatest3 w1.heap.size a b c g _ a0 a1 b0 b1 c0 c1 (by simp) (by simp) (by simp) G.out).mono ?_; rintro e w' ⟨rfl, rfl⟩))
  go_ret
  exact ⟨rfl, hg.alloc _ _⟩
set_option maxRecDepth 100000 in
theorem walkD2 (a b c : Int) (a0 : 0 ≤ a) (a1 : a < 18446744073709551616) (b0 : 0 ≤ b) (b1 : b < 18446744073709551616) (c0 : 0 ≤ c) (c1 : c < 18446744073709551616) (g : Int) (g0 : 0 ≤ g) (g1 : g < 18446744073709551616) (x1 : lessB a b = false) (x2 : lessB b a = false) (x3 : (a != b) = false) (q1 : (g == a) = false) (q2 : (g == b) = true) (y1 : lessB g a = false) (y2 : lessB g b = false) (y3 : lessB g c = false) (G : Hid (greI [a, b, c] = g)) (w : World) :
    Calls Try.prog 7 #[.int .u64 a, .int .u64 b, .int .u64 c] w fun e w' => e = .returned (.bool true) ∧ Grown w w' := by
  go_enter Try.func7, Try.ntmps7
  go_wp2_with (first | (go_at_call 11; refine (shown_any _).mono ?_; rintro e w1 ⟨rfl, hg⟩) | (go_at_call 16; refine (less_any _ _ _ (by omega) (by omega) (by omega) (by omega)).mono ?_; rintro e w' ⟨rfl, rfl⟩) | (go_at_call 12; refine (greatest3 w1.heap.size a b c g _ a0 a1 b0 b1 c0 c1 (by simp) (by simp) (by simp) G.out).mono ?_; rintro e w' ⟨rfl, rfl⟩))
  go_ret
  exact ⟨rfl, hg.alloc _ _⟩
set_option maxRecDepth 100000 in
theorem walkD3 (a b c : Int) (a0 : 0 ≤ a) (a1 : a < 18446744073709551616) (b0 : 0 ≤ b) (b1 : b < 18446744073709551616) (c0 : 0 ≤ c) (c1 : c < 18446744073709551616) (g : Int) (g0 : 0 ≤ g) (g1 : g < 18446744073709551616) (x1 : lessB a b = false) (x2 : lessB b a = false) (x3 : (a != b) = false) (q1 : (g == a) = false) (q2 : (g == b) = false) (q3 : (g == c) = true) (y1 : lessB g a = false) (y2 : lessB g b = false) (y3 : lessB g c = false) (G : Hid (greI [a, b, c] = g)) (w : World) :
    Calls Try.prog 7 #[.int .u64 a, .int .u64 b, .int .u64 c] w fun e w' => e = .returned (.bool true) ∧ Grown w w' := by
  go_enter Try.func7, Try.ntmps7
  go_wp2_with (first | (go_at_call 11; refine (shown_any _).mono ?_; rintro e w1 ⟨rfl, hg⟩) | (go_at_call 16; refine (less_any _ _ _ (by omega) (by omega) (by omega) (by omega)).mono ?_; rintro e w' ⟨rfl, rfl⟩) | (go_at_call 12; refine (greatest3 w1.heap.size a b c g _ a0 a1 b0 b1 c0 c1 (by simp) (by simp) (by simp) G.out).mono ?_; rintro e w' ⟨rfl, rfl⟩))
  go_ret
  exact ⟨rfl, hg.alloc _ _⟩
theorem walkA (a b c : Int) (a0 : 0 ≤ a) (a1 : a < 18446744073709551616) (b0 : 0 ≤ b) (b1 : b < 18446744073709551616) (c0 : 0 ≤ c) (c1 : c < 18446744073709551616) (x1 : lessB a b = true) (x2 : lessB b a = false) (x3 : lessB b c = true) (x4 : lessB a c = true) (w : World) :
    Calls Try.prog 7 #[.int .u64 a, .int .u64 b, .int .u64 c] w fun e w' => e = .returned (.bool true) ∧ Grown w w' := by
  obtain ⟨p1, p2, p3, p4⟩ := greI3 a b c
  obtain ⟨g, hgd⟩ : ∃ g, greI [a, b, c] = g := ⟨_, rfl⟩
  have G := Lib.hid hgd
  rw [hgd] at p1 p2 p3 p4
  clear hgd
  have y1 : lessB g a = false := by unfold lessB; rw [decide_eq_false_iff_not]; omega
  have y2 : lessB g b = false := by unfold lessB; rw [decide_eq_false_iff_not]; omega
  have y3 : lessB g c = false := by unfold lessB; rw [decide_eq_false_iff_not]; omega
  by_cases q1 : g = a
  · exact walkA1 a b c a0 a1 b0 b1 c0 c1 g (by omega) (by omega) x1 x2 x3 x4 (by rw [beq_iff_eq]; exact q1) y1 y2 y3 G w
  · by_cases q2 : g = b
    · exact walkA2 a b c a0 a1 b0 b1 c0 c1 g (by omega) (by omega) x1 x2 x3 x4 (by rw [beq_eq_false_iff_ne]; exact q1) (by rw [beq_iff_eq]; exact q2) y1 y2 y3 G w
    · exact walkA3 a b c a0 a1 b0 b1 c0 c1 g (by omega) (by omega) x1 x2 x3 x4 (by rw [beq_eq_false_iff_ne]; exact q1) (by rw [beq_eq_false_iff_ne]; exact q2) (by rw [beq_iff_eq]; omega) y1 y2 y3 G w
theorem walkB (a b c : Int) (a0 : 0 ≤ a) (a1 : a < 18446744073709551616) (b0 : 0 ≤ b) (b1 : b < 18446744073709551616) (c0 : 0 ≤ c) (c1 : c < 18446744073709551616) (x1 : lessB a b = true) (x2 : lessB b a = false) (x3 : lessB b c = false) (w : World) :
    Calls Try.prog 7 #[.int .u64 a, .int .u64 b, .int .u64 c] w fun e w' => e = .returned (.bool true) ∧ Grown w w' := by
  obtain ⟨p1, p2, p3, p4⟩ := greI3 a b c
  obtain ⟨g, hgd⟩ : ∃ g, greI [a, b, c] = g := ⟨_, rfl⟩
  have G := Lib.hid hgd
  rw [hgd] at p1 p2 p3 p4
  clear hgd
  have y1 : lessB g a = false := by unfold lessB; rw [decide_eq_false_iff_not]; omega
  have y2 : lessB g b = false := by unfold lessB; rw [decide_eq_false_iff_not]; omega
  have y3 : lessB g c = false := by unfold lessB; rw [decide_eq_false_iff_not]; omega
  by_cases q1 : g = a
  · exact walkB1 a b c a0 a1 b0 b1 c0 c1 g (by omega) (by omega) x1 x2 x3 (by rw [beq_iff_eq]; exact q1) y1 y2 y3 G w
  · by_cases q2 : g = b
    · exact walkB2 a b c a0 a1 b0 b1 c0 c1 g (by omega) (by omega) x1 x2 x3 (by rw [beq_eq_false_iff_ne]; exact q1) (by rw [beq_iff_eq]; exact q2) y1 y2 y3 G w
    · exact walkB3 a b c a0 a1 b0 b1 c0 c1 g (by omega) (by omega) x1 x2 x3 (by rw [beq_eq_false_iff_ne]; exact q1) (by rw [beq_eq_false_iff_ne]; exact q2) (by rw [beq_iff_eq]; omega) y1 y2 y3 G w
theorem walkC (a b c : Int) (a0 : 0 ≤ a) (a1 : a < 18446744073709551616) (b0 : 0 ≤ b) (b1 : b < 18446744073709551616) (c0 : 0 ≤ c) (c1 : c < 18446744073709551616) (x1 : lessB a b = false) (x2 : lessB b a = true) (w : World) :
    Calls Try.prog 7 #[.int .u64 a, .int .u64 b, .int .u64 c] w fun e w' => e = .returned (.bool true) ∧ Grown w w' := by
  obtain ⟨p1, p2, p3, p4⟩ := greI3 a b c
  obtain ⟨g, hgd⟩ : ∃ g, greI [a, b, c] = g := ⟨_, rfl⟩
  have G := Lib.hid hgd
  rw [hgd] at p1 p2 p3 p4
  clear hgd
  have y1 : lessB g a = false := by unfold lessB; rw [decide_eq_false_iff_not]; omega
  have y2 : lessB g b = false := by unfold lessB; rw [decide_eq_false_iff_not]; omega
  have y3 : lessB g c = false := by unfold lessB; rw [decide_eq_false_iff_not]; omega
  by_cases q1 : g = a
  · exact walkC1 a b c a0 a1 b0 b1 c0 c1 g (by omega) (by omega) x1 x2 (by rw [beq_iff_eq]; exact q1) y1 y2 y3 G w
  · by_cases q2 : g = b
    · exact walkC2 a b c a0 a1 b0 b1 c0 c1 g (by omega) (by omega) x1 x2 (by rw [beq_eq_false_iff_ne]; exact q1) (by rw [beq_iff_eq]; exact q2) y1 y2 y3 G w
    · exact walkC3 a b c a0 a1 b0 b1 c0 c1 g (by omega) (by omega) x1 x2 (by rw [beq_eq_false_iff_ne]; exact q1) (by rw [beq_eq_false_iff_ne]; exact q2) (by rw [beq_iff_eq]; omega) y1 y2 y3 G w
theorem walkD (a b c : Int) (a0 : 0 ≤ a) (a1 : a < 18446744073709551616) (b0 : 0 ≤ b) (b1 : b < 18446744073709551616) (c0 : 0 ≤ c) (c1 : c < 18446744073709551616) (x1 : lessB a b = false) (x2 : lessB b a = false) (x3 : (a != b) = false) (w : World) :
    Calls Try.prog 7 #[.int .u64 a, .int .u64 b, .int .u64 c] w fun e w' => e = .returned (.bool true) ∧ Grown w w' := by
  obtain ⟨p1, p2, p3, p4⟩ := greI3 a b c
  obtain ⟨g, hgd⟩ : ∃ g, greI [a, b, c] = g := ⟨_, rfl⟩
  have G := Lib.hid hgd
  rw [hgd] at p1 p2 p3 p4
  clear hgd
  have y1 : lessB g a = false := by unfold lessB; rw [decide_eq_false_iff_not]; omega
  have y2 : lessB g b = false := by unfold lessB; rw [decide_eq_false_iff_not]; omega
  have y3 : lessB g c = false := by unfold lessB; rw [decide_eq_false_iff_not]; omega
  by_cases q1 : g = a
  · exact walkD1 a b c a0 a1 b0 b1 c0 c1 g (by omega) (by omega) x1 x2 x3 (by rw [beq_iff_eq]; exact q1) y1 y2 y3 G w
  · by_cases q2 : g = b
    · exact walkD2 a b c a0 a1 b0 b1 c0 c1 g (by omega) (by omega) x1 x2 x3 (by rw [beq_eq_false_iff_ne]; exact q1) (by rw [beq_iff_eq]; exact q2) y1 y2 y3 G w
    · exact walkD3 a b c a0 a1 b0 b1 c0 c1 g (by omega) (by omega) x1 x2 x3 (by rw [beq_eq_false_iff_ne]; exact q1) (by rw [beq_eq_false_iff_ne]; exact q2) (by rw [beq_iff_eq]; omega) y1 y2 y3 G w
theorem lB_yes {a b : Int} (h : plI a < plI b) : lessB a b = true := by unfold lessB; rw [decide_eq_true_eq]; exact h
theorem lB_no {a b : Int} (h : ¬ plI a < plI b) : lessB a b = false := by unfold lessB; rw [decide_eq_false_iff_not]; exact h
theorem walk0 (a b c : Int) (a0 : 0 ≤ a) (a1 : a < 18446744073709551616) (b0 : 0 ≤ b) (b1 : b < 18446744073709551616) (c0 : 0 ≤ c) (c1 : c < 18446744073709551616) (w : World) :
    Calls Try.prog 7 #[.int .u64 a, .int .u64 b, .int .u64 c] w fun e w' => e = .returned (.bool true) ∧ Grown w w' := by
  by_cases h1 : plI a < plI b
  · by_cases h2 : plI b < plI c
    · exact walkA a b c a0 a1 b0 b1 c0 c1 (lB_yes h1) (lB_no (by omega)) (lB_yes h2) (lB_yes (by omega)) w
    · exact walkB a b c a0 a1 b0 b1 c0 c1 (lB_yes h1) (lB_no (by omega)) (lB_no h2) w
  · by_cases h2 : plI b < plI a
    · exact walkC a b c a0 a1 b0 b1 c0 c1 (lB_no h1) (lB_yes h2) w
    · exact walkD a b c a0 a1 b0 b1 c0 c1 (lB_no h1) (lB_no h2) (by rw [bne_eq_false_iff_eq]; exact plI_inj a0 a1 b0 b1 (by omega)) w

/-! ### STEP 1: THE WALK: the Go text returns true. 'Grown w w'': the world has at most new blocks (Derived/RowKit3.lean). Part the cases AHEAD of 'go_enter' where a test parts the walk; take each callee by a contract of your own. -/
theorem walk (a0 : Int) (a1 : Int) (a2 : Int) (w0 : (Lit.int .u64 a0).wf = true) (w1 : (Lit.int .u64 a1).wf = true) (w2 : (Lit.int .u64 a2).wf = true) (w : World) :
    Calls Try.prog 7 #[.int .u64 a0, .int .u64 a1, .int .u64 a2] w fun e w' => e = .returned (.bool true) ∧ Grown w w' := by
  have hmin : IntKind.u64.min = 0 := rfl
  have hmax : IntKind.u64.max = 18446744073709551615 := rfl
  have k0 := w0
  have k1 := w1
  have k2 := w2
  simp only [Lit.wf, Bool.and_eq_true, decide_eq_true_eq, hmin, hmax] at k0 k1 k2
  exact walk0 a0 a1 a2 (by omega) (by omega) (by omega) (by omega) (by omega) (by omega) w


/-! ### THE ROW's STEP: WRITTEN OUT: LEAVE IT -/
set_option maxRecDepth 100000 in
theorem lifted (os : Os) (started : os.Started) (H : Type) (enc : TypeId × Value → H) :
    ReturnsInHanded {} Try.checked os 7 .any (Rows.weightOrderSpec.pre6 enc Try.prog Try.f7 Rows.weightOrderRow.domain false) (Rows.weightOrderSpec.post enc Try.prog Try.f7 false true false false) := by
  refine returnsInHanded_of_change (C := Try.checked) own started (by kernel_rfl) Try.func7
    (ChangeSpec.witness6 (enc := enc) (C := Try.checked) false ⟨#[], #[.int .u64 0, .int .u64 0, .int .u64 0], []⟩ 8 (by kernel_rfl) (by kernel_rfl) (by kernel_rfl) (by kernel_rfl)) ?_
  intro W base args ds gs before hval0 hW hcnd _
  have hval : ∀ (j : Nat) t v, Try.f7.params[j]? = some t → args[j]? = some v → Value.okWide Try.prog W .any base t v := hval0
  have hW' := hW
  obtain ⟨p, q, hA0, hV, rfl, hfz, hnd⟩ := hW
  have hA : DataW.TrodAll enc Try.prog W 0 (fun _ => true) true Try.f7.params.toList args.toList ds p := hA0
  rw [Try.params7] at hA hval
  obtain ⟨v0, vs0, d0, ds0, p0, q0, hargs, rfl, rfl, h0, r0⟩ := trodAll_cons hA
  obtain ⟨v1, vs1, d1, ds1, p1, q1, rfl, rfl, rfl, h1, r1⟩ := trodAll_cons r0
  obtain ⟨v2, vs2, d2, ds2, p2, q2, rfl, rfl, rfl, h2, r2⟩ := trodAll_cons r1
  obtain ⟨rfl, rfl, rfl⟩ := trodAll_nil r2
  obtain rfl : args = #[v0, v1, v2] := by cases args; simp_all
  obtain ⟨rfl, rfl⟩ := trodVars_none hV
  obtain ⟨a0, rfl, rfl, rfl, w0⟩ := open_int Try.underlying22 (hval 0 22 v0 rfl rfl) h0
  obtain ⟨a1, rfl, rfl, rfl, w1⟩ := open_int Try.underlying22 (hval 1 22 v1 rfl rfl) h1
  obtain ⟨a2, rfl, rfl, rfl, w2⟩ := open_int Try.underlying22 (hval 2 22 v2 rfl rfl) h2
  clear hA0 hval0
  simp only [List.append_nil] at hW'
  refine (walk a0 a1 a2 w0 w1 w2 W).mono fun e W' ⟨he, hg⟩ => ?_
  subst he
  exact ⟨_, rfl, post_of_same (pa := []) (pv := []) hW' (fun _ _ _ => (trodAll_cons_mk (shut_bool Try.underlying4 _) trodAll_mk0)) (fun sp _ => (trodAll_cons_mk (shut_int Try.underlying22 w0) (trodAll_cons_mk (shut_int Try.underlying22 w1) (trodAll_cons_mk (shut_int Try.underlying22 w2) trodAll_mk0)))) (fun _ _ => rfl) rfl
    (hg.frame _) hg.2.1 (ok_one (by kernel_rfl) rfl (okWide_bool_mk Try.underlying4 _))⟩

theorem over : Rows.weightOrderRow.holds Try.pinned (OpenSpec.ofChange Rows.weightOrderSpec) :=
  OpenClaim.holds_of_wide 7 Try.f7 rfl rfl rfl rfl rfl rfl rfl ⟨rfl, rfl, rfl, rfl, rfl⟩ rfl rfl rfl rfl rfl (by kernel_rfl) Try.func7 (by kernel_rfl)
    (of_decide_eq_true (by kernel_rfl)) (by unfold Func.isWrapper; first | (rw [if_pos (by decide +kernel)]; kernel_rfl) | (rw [if_neg (by decide +kernel)]; exact ⟨rfl, rfl⟩))
    (fun os started H enc _ => lifted os started H enc)

/-- ████ THE STATEMENT ████ -/
theorem proved : Rows.WeightOrderSaid :=
  over
#print axioms proved
end Go.Proofs.Ytalhliickoflaaa.weightOrder
