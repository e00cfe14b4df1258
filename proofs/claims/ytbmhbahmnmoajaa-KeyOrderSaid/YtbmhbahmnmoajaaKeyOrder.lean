/-
  KeyOrder: for every four integers, the key of a vertex is ahead of those of its edges, these rise with their other ends, and all of them are ahead of those of a greater vertex. No condition.
-/
import Derived.Test.YtbmhbahmnmoajaaRows
import Derived.WalkKit
import Derived.ProofKit
import Derived.OpenShut
import Derived.ChangeSame
import Derived.JoinedOf
import Derived.JoinedAt
import Derived.RowKit3
import Derived.Lib.SmallJoins
import Derived.Test.YtbmhbahmnmoajaaFacts
namespace Go.Proofs.Ytbmhbahmnmoajaa.keyOrder
open Go.ChangeShapes Go.WideShapes Go.ChangeAt Go.RowKit Go.Joins
set_option linter.unusedVariables false
theorem own : ownKnob Try.prog.godebug = none := by kernel_rfl
theorem cells : Try.prog.cellsOf 37 = 4 := by kernel_rfl
theorem walkN0 (u v y x : Int) (a : ¬ (0 ≤ u ∧ u < 1073741824)) (w : World) :
    Calls Try.prog 5 #[.agg #[.int .i64 u, .int .i64 v, .int .i64 y, .int .i64 x]] w fun e w' => e = .returned (.bool true) ∧ Grown w w' := by
  have b1 := vB_no a
  clear a
  go_enter Try.func5, Try.ntmps5
  go_wp2_with (first | (go_at_call 9; refine (shown_any _).mono ?_; rintro e w' ⟨rfl, rfl⟩) | (go_at_call 10; refine (vertex_any _ _).mono ?_; rintro e w' ⟨rfl, rfl⟩) | (go_at_call 12; refine (edge_any _ _ _).mono ?_; rintro e w' ⟨rfl, rfl⟩) | (go_at_call 18; refine (is_any _ _).mono ?_; rintro e w' ⟨rfl, rfl⟩) | (go_at_call 15; refine (right_any _ _ (by omega) (by omega)).mono ?_; rintro e w' ⟨rfl, rfl⟩) | (go_at_call 14; refine (refRight_any _ _ (by omega) (by omega)).mono ?_; rintro e w' ⟨rfl, rfl⟩) | (go_at_call 16; refine (split_any _ _ (by omega) (by omega)).mono ?_; rintro e w' ⟨rfl, rfl⟩))
  go_ret
  exact ⟨rfl, by repeat (first | exact Grown.refl _ | apply Grown.drew | apply Grown.alloc)⟩
theorem walkN1 (u v y x : Int) (a0 : 0 ≤ u) (a1 : u < 1073741824) (a : ¬ (0 ≤ v ∧ v < 1073741824)) (w : World) :
    Calls Try.prog 5 #[.agg #[.int .i64 u, .int .i64 v, .int .i64 y, .int .i64 x]] w fun e w' => e = .returned (.bool true) ∧ Grown w w' := by
  have b0 := vB_yes a0 a1
  have b1 := vB_no a
  clear a
  go_enter Try.func5, Try.ntmps5
  go_wp2_with (first | (go_at_call 9; refine (shown_any _).mono ?_; rintro e w' ⟨rfl, rfl⟩) | (go_at_call 10; refine (vertex_any _ _).mono ?_; rintro e w' ⟨rfl, rfl⟩) | (go_at_call 12; refine (edge_any _ _ _).mono ?_; rintro e w' ⟨rfl, rfl⟩) | (go_at_call 18; refine (is_any _ _).mono ?_; rintro e w' ⟨rfl, rfl⟩) | (go_at_call 15; refine (right_any _ _ (by omega) (by omega)).mono ?_; rintro e w' ⟨rfl, rfl⟩) | (go_at_call 14; refine (refRight_any _ _ (by omega) (by omega)).mono ?_; rintro e w' ⟨rfl, rfl⟩) | (go_at_call 16; refine (split_any _ _ (by omega) (by omega)).mono ?_; rintro e w' ⟨rfl, rfl⟩))
  go_ret
  exact ⟨rfl, by repeat (first | exact Grown.refl _ | apply Grown.drew | apply Grown.alloc)⟩
theorem walkN2 (u v y x : Int) (a0 : 0 ≤ u) (a1 : u < 1073741824) (a2 : 0 ≤ v) (a3 : v < 1073741824) (a : ¬ (0 ≤ y ∧ y < 1073741824)) (w : World) :
    Calls Try.prog 5 #[.agg #[.int .i64 u, .int .i64 v, .int .i64 y, .int .i64 x]] w fun e w' => e = .returned (.bool true) ∧ Grown w w' := by
  have b0 := vB_yes a0 a1
  have b2 := vB_yes a2 a3
  have b1 := vB_no a
  clear a
  go_enter Try.func5, Try.ntmps5
  go_wp2_with (first | (go_at_call 9; refine (shown_any _).mono ?_; rintro e w' ⟨rfl, rfl⟩) | (go_at_call 10; refine (vertex_any _ _).mono ?_; rintro e w' ⟨rfl, rfl⟩) | (go_at_call 12; refine (edge_any _ _ _).mono ?_; rintro e w' ⟨rfl, rfl⟩) | (go_at_call 18; refine (is_any _ _).mono ?_; rintro e w' ⟨rfl, rfl⟩) | (go_at_call 15; refine (right_any _ _ (by omega) (by omega)).mono ?_; rintro e w' ⟨rfl, rfl⟩) | (go_at_call 14; refine (refRight_any _ _ (by omega) (by omega)).mono ?_; rintro e w' ⟨rfl, rfl⟩) | (go_at_call 16; refine (split_any _ _ (by omega) (by omega)).mono ?_; rintro e w' ⟨rfl, rfl⟩))
  go_ret
  exact ⟨rfl, by repeat (first | exact Grown.refl _ | apply Grown.drew | apply Grown.alloc)⟩
theorem walkN3 (u v y x : Int) (a0 : 0 ≤ u) (a1 : u < 1073741824) (a2 : 0 ≤ v) (a3 : v < 1073741824) (a4 : 0 ≤ y) (a5 : y < 1073741824) (a : ¬ (0 ≤ x ∧ x < 1073741824)) (w : World) :
    Calls Try.prog 5 #[.agg #[.int .i64 u, .int .i64 v, .int .i64 y, .int .i64 x]] w fun e w' => e = .returned (.bool true) ∧ Grown w w' := by
  have b0 := vB_yes a0 a1
  have b2 := vB_yes a2 a3
  have b3 := vB_yes a4 a5
  have b1 := vB_no a
  clear a
  go_enter Try.func5, Try.ntmps5
  go_wp2_with (first | (go_at_call 9; refine (shown_any _).mono ?_; rintro e w' ⟨rfl, rfl⟩) | (go_at_call 10; refine (vertex_any _ _).mono ?_; rintro e w' ⟨rfl, rfl⟩) | (go_at_call 12; refine (edge_any _ _ _).mono ?_; rintro e w' ⟨rfl, rfl⟩) | (go_at_call 18; refine (is_any _ _).mono ?_; rintro e w' ⟨rfl, rfl⟩) | (go_at_call 15; refine (right_any _ _ (by omega) (by omega)).mono ?_; rintro e w' ⟨rfl, rfl⟩) | (go_at_call 14; refine (refRight_any _ _ (by omega) (by omega)).mono ?_; rintro e w' ⟨rfl, rfl⟩) | (go_at_call 16; refine (split_any _ _ (by omega) (by omega)).mono ?_; rintro e w' ⟨rfl, rfl⟩))
  go_ret
  exact ⟨rfl, by repeat (first | exact Grown.refl _ | apply Grown.drew | apply Grown.alloc)⟩
set_option maxRecDepth 100000 in
theorem walkYLL (u v y x : Int) (a0 : 0 ≤ u) (a1 : u < 1073741824) (a2 : 0 ≤ v) (a3 : v < 1073741824) (a4 : 0 ≤ y) (a5 : y < 1073741824) (a6 : 0 ≤ x) (a7 : x < 1073741824) (p : v < y) (q : u < x) (w : World) :
    Calls Try.prog 5 #[.agg #[.int .i64 u, .int .i64 v, .int .i64 y, .int .i64 x]] w fun e w' => e = .returned (.bool true) ∧ Grown w w' := by
  have b0 := vB_yes a0 a1
  have b1 := vB_yes a2 a3
  have b2 := vB_yes a4 a5
  have b3 := vB_yes a6 a7
  have r1 : vK u < eK u v := by rw [eK_yes a0 a1 a2 a3, vK_yes a0 a1]; omega
  have p1 : eK u v < eK u y := by rw [eK_yes a0 a1 a2 a3, eK_yes a0 a1 a4 a5]; omega
  have p2 : (eK u v == eK u y) = false := by rw [beq_eq_false_iff_ne]; omega
  have p3 : (v == y) = false := by rw [beq_eq_false_iff_ne]; omega
  have q1 : eK u v < vK x := by rw [eK_yes a0 a1 a2 a3, vK_yes a6 a7]; omega
  have q2 : eK u v < eK x y := by rw [eK_yes a0 a1 a2 a3, eK_yes a6 a7 a4 a5]; omega
  have q3 : (u != x) = true := by rw [bne_iff_ne]; omega
  go_enter Try.func5, Try.ntmps5
  simp only [List.append_eq, List.cons_append, List.nil_append]
  go_wp2_with (first | (go_at_call 9; refine (shown_any _).mono ?_; rintro e w' ⟨rfl, rfl⟩) | (go_at_call 10; refine (vertex_any _ _).mono ?_; rintro e w' ⟨rfl, rfl⟩) | (go_at_call 12; refine (edge_any _ _ _).mono ?_; rintro e w' ⟨rfl, rfl⟩) | (go_at_call 18; refine (is_any _ _).mono ?_; rintro e w' ⟨rfl, rfl⟩) | (go_at_call 15; refine (right_any _ _ (by omega) (by omega)).mono ?_; rintro e w' ⟨rfl, rfl⟩) | (go_at_call 14; refine (refRight_any _ _ (by omega) (by omega)).mono ?_; rintro e w' ⟨rfl, rfl⟩) | (go_at_call 16; refine (split_any _ _ (by omega) (by omega)).mono ?_; rintro e w' ⟨rfl, rfl⟩))
  go_ret
  exact ⟨rfl, by repeat (first | exact Grown.refl _ | apply Grown.drew | apply Grown.alloc)⟩
set_option maxRecDepth 100000 in
theorem walkYLG (u v y x : Int) (a0 : 0 ≤ u) (a1 : u < 1073741824) (a2 : 0 ≤ v) (a3 : v < 1073741824) (a4 : 0 ≤ y) (a5 : y < 1073741824) (a6 : 0 ≤ x) (a7 : x < 1073741824) (p : v < y) (q : x < u) (w : World) :
    Calls Try.prog 5 #[.agg #[.int .i64 u, .int .i64 v, .int .i64 y, .int .i64 x]] w fun e w' => e = .returned (.bool true) ∧ Grown w w' := by
  have b0 := vB_yes a0 a1
  have b1 := vB_yes a2 a3
  have b2 := vB_yes a4 a5
  have b3 := vB_yes a6 a7
  have r1 : vK u < eK u v := by rw [eK_yes a0 a1 a2 a3, vK_yes a0 a1]; omega
  have p1 : eK u v < eK u y := by rw [eK_yes a0 a1 a2 a3, eK_yes a0 a1 a4 a5]; omega
  have p2 : (eK u v == eK u y) = false := by rw [beq_eq_false_iff_ne]; omega
  have p3 : (v == y) = false := by rw [beq_eq_false_iff_ne]; omega
  have q1 : vK x < vK u := by rw [vK_yes a0 a1, vK_yes a6 a7]; omega
  have q2 : eK x y < vK u := by rw [eK_yes a6 a7 a4 a5, vK_yes a0 a1]; omega
  have q3 : (u != x) = true := by rw [bne_iff_ne]; omega
  go_enter Try.func5, Try.ntmps5
  simp only [List.append_eq, List.cons_append, List.nil_append]
  go_wp2_with (first | (go_at_call 9; refine (shown_any _).mono ?_; rintro e w' ⟨rfl, rfl⟩) | (go_at_call 10; refine (vertex_any _ _).mono ?_; rintro e w' ⟨rfl, rfl⟩) | (go_at_call 12; refine (edge_any _ _ _).mono ?_; rintro e w' ⟨rfl, rfl⟩) | (go_at_call 18; refine (is_any _ _).mono ?_; rintro e w' ⟨rfl, rfl⟩) | (go_at_call 15; refine (right_any _ _ (by omega) (by omega)).mono ?_; rintro e w' ⟨rfl, rfl⟩) | (go_at_call 14; refine (refRight_any _ _ (by omega) (by omega)).mono ?_; rintro e w' ⟨rfl, rfl⟩) | (go_at_call 16; refine (split_any _ _ (by omega) (by omega)).mono ?_; rintro e w' ⟨rfl, rfl⟩))
  go_ret
  exact ⟨rfl, by repeat (first | exact Grown.refl _ | apply Grown.drew | apply Grown.alloc)⟩
set_option maxRecDepth 100000 in
theorem walkYLE (u v y : Int) (a0 : 0 ≤ u) (a1 : u < 1073741824) (a2 : 0 ≤ v) (a3 : v < 1073741824) (a4 : 0 ≤ y) (a5 : y < 1073741824) (p : v < y)  (w : World) :
    Calls Try.prog 5 #[.agg #[.int .i64 u, .int .i64 v, .int .i64 y, .int .i64 u]] w fun e w' => e = .returned (.bool true) ∧ Grown w w' := by
  have b0 := vB_yes a0 a1
  have b1 := vB_yes a2 a3
  have b2 := vB_yes a4 a5
  have r1 : vK u < eK u v := by rw [eK_yes a0 a1 a2 a3, vK_yes a0 a1]; omega
  have p1 : eK u v < eK u y := by rw [eK_yes a0 a1 a2 a3, eK_yes a0 a1 a4 a5]; omega
  have p2 : (eK u v == eK u y) = false := by rw [beq_eq_false_iff_ne]; omega
  have p3 : (v == y) = false := by rw [beq_eq_false_iff_ne]; omega
  go_enter Try.func5, Try.ntmps5
  simp only [List.append_eq, List.cons_append, List.nil_append]
  go_wp2_with (first | (go_at_call 9; refine (shown_any _).mono ?_; rintro e w' ⟨rfl, rfl⟩) | (go_at_call 10; refine (vertex_any _ _).mono ?_; rintro e w' ⟨rfl, rfl⟩) | (go_at_call 12; refine (edge_any _ _ _).mono ?_; rintro e w' ⟨rfl, rfl⟩) | (go_at_call 18; refine (is_any _ _).mono ?_; rintro e w' ⟨rfl, rfl⟩) | (go_at_call 15; refine (right_any _ _ (by omega) (by omega)).mono ?_; rintro e w' ⟨rfl, rfl⟩) | (go_at_call 14; refine (refRight_any _ _ (by omega) (by omega)).mono ?_; rintro e w' ⟨rfl, rfl⟩) | (go_at_call 16; refine (split_any _ _ (by omega) (by omega)).mono ?_; rintro e w' ⟨rfl, rfl⟩))
  go_ret
  exact ⟨rfl, by repeat (first | exact Grown.refl _ | apply Grown.drew | apply Grown.alloc)⟩
set_option maxRecDepth 100000 in
theorem walkYGL (u v y x : Int) (a0 : 0 ≤ u) (a1 : u < 1073741824) (a2 : 0 ≤ v) (a3 : v < 1073741824) (a4 : 0 ≤ y) (a5 : y < 1073741824) (a6 : 0 ≤ x) (a7 : x < 1073741824) (p : y < v) (q : u < x) (w : World) :
    Calls Try.prog 5 #[.agg #[.int .i64 u, .int .i64 v, .int .i64 y, .int .i64 x]] w fun e w' => e = .returned (.bool true) ∧ Grown w w' := by
  have b0 := vB_yes a0 a1
  have b1 := vB_yes a2 a3
  have b2 := vB_yes a4 a5
  have b3 := vB_yes a6 a7
  have r1 : vK u < eK u v := by rw [eK_yes a0 a1 a2 a3, vK_yes a0 a1]; omega
  have p1 : eK u y < eK u v := by rw [eK_yes a0 a1 a2 a3, eK_yes a0 a1 a4 a5]; omega
  have p2 : (eK u v == eK u y) = false := by rw [beq_eq_false_iff_ne]; omega
  have p3 : (v == y) = false := by rw [beq_eq_false_iff_ne]; omega
  have q1 : eK u v < vK x := by rw [eK_yes a0 a1 a2 a3, vK_yes a6 a7]; omega
  have q2 : eK u v < eK x y := by rw [eK_yes a0 a1 a2 a3, eK_yes a6 a7 a4 a5]; omega
  have q3 : (u != x) = true := by rw [bne_iff_ne]; omega
  go_enter Try.func5, Try.ntmps5
  simp only [List.append_eq, List.cons_append, List.nil_append]
  go_wp2_with (first | (go_at_call 9; refine (shown_any _).mono ?_; rintro e w' ⟨rfl, rfl⟩) | (go_at_call 10; refine (vertex_any _ _).mono ?_; rintro e w' ⟨rfl, rfl⟩) | (go_at_call 12; refine (edge_any _ _ _).mono ?_; rintro e w' ⟨rfl, rfl⟩) | (go_at_call 18; refine (is_any _ _).mono ?_; rintro e w' ⟨rfl, rfl⟩) | (go_at_call 15; refine (right_any _ _ (by omega) (by omega)).mono ?_; rintro e w' ⟨rfl, rfl⟩) | (go_at_call 14; refine (refRight_any _ _ (by omega) (by omega)).mono ?_; rintro e w' ⟨rfl, rfl⟩) | (go_at_call 16; refine (split_any _ _ (by omega) (by omega)).mono ?_; rintro e w' ⟨rfl, rfl⟩))
  go_ret
  exact ⟨rfl, by repeat (first | exact Grown.refl _ | apply Grown.drew | apply Grown.alloc)⟩
set_option maxRecDepth 100000 in
theorem walkYGG (u v y x : Int) (a0 : 0 ≤ u) (a1 : u < 1073741824) (a2 : 0 ≤ v) (a3 : v < 1073741824) (a4 : 0 ≤ y) (a5 : y < 1073741824) (a6 : 0 ≤ x) (a7 : x < 1073741824) (p : y < v) (q : x < u) (w : World) :
    Calls Try.prog 5 #[.agg #[.int .i64 u, .int .i64 v, .int .i64 y, .int .i64 x]] w fun e w' => e = .returned (.bool true) ∧ Grown w w' := by
  have b0 := vB_yes a0 a1
  have b1 := vB_yes a2 a3
  have b2 := vB_yes a4 a5
  have b3 := vB_yes a6 a7
  have r1 : vK u < eK u v := by rw [eK_yes a0 a1 a2 a3, vK_yes a0 a1]; omega
  have p1 : eK u y < eK u v := by rw [eK_yes a0 a1 a2 a3, eK_yes a0 a1 a4 a5]; omega
  have p2 : (eK u v == eK u y) = false := by rw [beq_eq_false_iff_ne]; omega
  have p3 : (v == y) = false := by rw [beq_eq_false_iff_ne]; omega
  have q1 : vK x < vK u := by rw [vK_yes a0 a1, vK_yes a6 a7]; omega
  have q2 : eK x y < vK u := by rw [eK_yes a6 a7 a4 a5, vK_yes a0 a1]; omega
  have q3 : (u != x) = true := by rw [bne_iff_ne]; omega
  go_enter Try.func5, Try.ntmps5
  simp only [List.append_eq, List.cons_append, List.nil_append]
  go_wp2_with (first | (go_at_call 9; refine (shown_any _).mono ?_; rintro e w' ⟨rfl, rfl⟩) | (go_at_call 10; refine (vertex_any _ _).mono ?_; rintro e w' ⟨rfl, rfl⟩) | (go_at_call 12; refine (edge_any _ _ _).mono ?_; rintro e w' ⟨rfl, rfl⟩) | (go_at_call 18; refine (is_any _ _).mono ?_; rintro e w' ⟨rfl, rfl⟩) | (go_at_call 15; refine (right_any _ _ (by omega) (by omega)).mono ?_; rintro e w' ⟨rfl, rfl⟩) | (go_at_call 14; refine (refRight_any _ _ (by omega) (by omega)).mono ?_; rintro e w' ⟨rfl, rfl⟩) | (go_at_call 16; refine (split_any _ _ (by omega) (by omega)).mono ?_; rintro e w' ⟨rfl, rfl⟩))
  go_ret
  exact ⟨rfl, by repeat (first | exact Grown.refl _ | apply Grown.drew | apply Grown.alloc)⟩
set_option maxRecDepth 100000 in
theorem walkYGE (u v y : Int) (a0 : 0 ≤ u) (a1 : u < 1073741824) (a2 : 0 ≤ v) (a3 : v < 1073741824) (a4 : 0 ≤ y) (a5 : y < 1073741824) (p : y < v)  (w : World) :
    Calls Try.prog 5 #[.agg #[.int .i64 u, .int .i64 v, .int .i64 y, .int .i64 u]] w fun e w' => e = .returned (.bool true) ∧ Grown w w' := by
  have b0 := vB_yes a0 a1
  have b1 := vB_yes a2 a3
  have b2 := vB_yes a4 a5
  have r1 : vK u < eK u v := by rw [eK_yes a0 a1 a2 a3, vK_yes a0 a1]; omega
  have p1 : eK u y < eK u v := by rw [eK_yes a0 a1 a2 a3, eK_yes a0 a1 a4 a5]; omega
  have p2 : (eK u v == eK u y) = false := by rw [beq_eq_false_iff_ne]; omega
  have p3 : (v == y) = false := by rw [beq_eq_false_iff_ne]; omega
  go_enter Try.func5, Try.ntmps5
  simp only [List.append_eq, List.cons_append, List.nil_append]
  go_wp2_with (first | (go_at_call 9; refine (shown_any _).mono ?_; rintro e w' ⟨rfl, rfl⟩) | (go_at_call 10; refine (vertex_any _ _).mono ?_; rintro e w' ⟨rfl, rfl⟩) | (go_at_call 12; refine (edge_any _ _ _).mono ?_; rintro e w' ⟨rfl, rfl⟩) | (go_at_call 18; refine (is_any _ _).mono ?_; rintro e w' ⟨rfl, rfl⟩) | (go_at_call 15; refine (right_any _ _ (by omega) (by omega)).mono ?_; rintro e w' ⟨rfl, rfl⟩) | (go_at_call 14; refine (refRight_any _ _ (by omega) (by omega)).mono ?_; rintro e w' ⟨rfl, rfl⟩) | (go_at_call 16; refine (split_any _ _ (by omega) (by omega)).mono ?_; rintro e w' ⟨rfl, rfl⟩))
  go_ret
  exact ⟨rfl, by repeat (first | exact Grown.refl _ | apply Grown.drew | apply Grown.alloc)⟩
set_option maxRecDepth 100000 in
theorem walkYEL (u v x : Int) (a0 : 0 ≤ u) (a1 : u < 1073741824) (a2 : 0 ≤ v) (a3 : v < 1073741824) (a6 : 0 ≤ x) (a7 : x < 1073741824)  (q : u < x) (w : World) :
    Calls Try.prog 5 #[.agg #[.int .i64 u, .int .i64 v, .int .i64 v, .int .i64 x]] w fun e w' => e = .returned (.bool true) ∧ Grown w w' := by
  have b0 := vB_yes a0 a1
  have b1 := vB_yes a2 a3
  have b3 := vB_yes a6 a7
  have r1 : vK u < eK u v := by rw [eK_yes a0 a1 a2 a3, vK_yes a0 a1]; omega
  have q1 : eK u v < vK x := by rw [eK_yes a0 a1 a2 a3, vK_yes a6 a7]; omega
  have q2 : eK u v < eK x v := by rw [eK_yes a0 a1 a2 a3, eK_yes a6 a7 a2 a3]; omega
  have q3 : (u != x) = true := by rw [bne_iff_ne]; omega
  go_enter Try.func5, Try.ntmps5
  simp only [List.append_eq, List.cons_append, List.nil_append]
  go_wp2_with (first | (go_at_call 9; refine (shown_any _).mono ?_; rintro e w' ⟨rfl, rfl⟩) | (go_at_call 10; refine (vertex_any _ _).mono ?_; rintro e w' ⟨rfl, rfl⟩) | (go_at_call 12; refine (edge_any _ _ _).mono ?_; rintro e w' ⟨rfl, rfl⟩) | (go_at_call 18; refine (is_any _ _).mono ?_; rintro e w' ⟨rfl, rfl⟩) | (go_at_call 15; refine (right_any _ _ (by omega) (by omega)).mono ?_; rintro e w' ⟨rfl, rfl⟩) | (go_at_call 14; refine (refRight_any _ _ (by omega) (by omega)).mono ?_; rintro e w' ⟨rfl, rfl⟩) | (go_at_call 16; refine (split_any _ _ (by omega) (by omega)).mono ?_; rintro e w' ⟨rfl, rfl⟩))
  go_ret
  exact ⟨rfl, by repeat (first | exact Grown.refl _ | apply Grown.drew | apply Grown.alloc)⟩
set_option maxRecDepth 100000 in
theorem walkYEG (u v x : Int) (a0 : 0 ≤ u) (a1 : u < 1073741824) (a2 : 0 ≤ v) (a3 : v < 1073741824) (a6 : 0 ≤ x) (a7 : x < 1073741824)  (q : x < u) (w : World) :
    Calls Try.prog 5 #[.agg #[.int .i64 u, .int .i64 v, .int .i64 v, .int .i64 x]] w fun e w' => e = .returned (.bool true) ∧ Grown w w' := by
  have b0 := vB_yes a0 a1
  have b1 := vB_yes a2 a3
  have b3 := vB_yes a6 a7
  have r1 : vK u < eK u v := by rw [eK_yes a0 a1 a2 a3, vK_yes a0 a1]; omega
  have q1 : vK x < vK u := by rw [vK_yes a0 a1, vK_yes a6 a7]; omega
  have q2 : eK x v < vK u := by rw [eK_yes a6 a7 a2 a3, vK_yes a0 a1]; omega
  have q3 : (u != x) = true := by rw [bne_iff_ne]; omega
  go_enter Try.func5, Try.ntmps5
  simp only [List.append_eq, List.cons_append, List.nil_append]
  go_wp2_with (first | (go_at_call 9; refine (shown_any _).mono ?_; rintro e w' ⟨rfl, rfl⟩) | (go_at_call 10; refine (vertex_any _ _).mono ?_; rintro e w' ⟨rfl, rfl⟩) | (go_at_call 12; refine (edge_any _ _ _).mono ?_; rintro e w' ⟨rfl, rfl⟩) | (go_at_call 18; refine (is_any _ _).mono ?_; rintro e w' ⟨rfl, rfl⟩) | (go_at_call 15; refine (right_any _ _ (by omega) (by omega)).mono ?_; rintro e w' ⟨rfl, rfl⟩) | (go_at_call 14; refine (refRight_any _ _ (by omega) (by omega)).mono ?_; rintro e w' ⟨rfl, rfl⟩) | (go_at_call 16; refine (split_any _ _ (by omega) (by omega)).mono ?_; rintro e w' ⟨rfl, rfl⟩))
  go_ret
  exact ⟨rfl, by repeat (first | exact Grown.refl _ | apply Grown.drew | apply Grown.alloc)⟩
set_option maxRecDepth 100000 in
theorem walkYEE (u v : Int) (a0 : 0 ≤ u) (a1 : u < 1073741824) (a2 : 0 ≤ v) (a3 : v < 1073741824)   (w : World) :
    Calls Try.prog 5 #[.agg #[.int .i64 u, .int .i64 v, .int .i64 v, .int .i64 u]] w fun e w' => e = .returned (.bool true) ∧ Grown w w' := by
  have b0 := vB_yes a0 a1
  have b1 := vB_yes a2 a3
  have r1 : vK u < eK u v := by rw [eK_yes a0 a1 a2 a3, vK_yes a0 a1]; omega
  go_enter Try.func5, Try.ntmps5
  simp only [List.append_eq, List.cons_append, List.nil_append]
  go_wp2_with (first | (go_at_call 9; refine (shown_any _).mono ?_; rintro e w' ⟨rfl, rfl⟩) | (go_at_call 10; refine (vertex_any _ _).mono ?_; rintro e w' ⟨rfl, rfl⟩) | (go_at_call 12; refine (edge_any _ _ _).mono ?_; rintro e w' ⟨rfl, rfl⟩) | (go_at_call 18; refine (is_any _ _).mono ?_; rintro e w' ⟨rfl, rfl⟩) | (go_at_call 15; refine (right_any _ _ (by omega) (by omega)).mono ?_; rintro e w' ⟨rfl, rfl⟩) | (go_at_call 14; refine (refRight_any _ _ (by omega) (by omega)).mono ?_; rintro e w' ⟨rfl, rfl⟩) | (go_at_call 16; refine (split_any _ _ (by omega) (by omega)).mono ?_; rintro e w' ⟨rfl, rfl⟩))
  go_ret
  exact ⟨rfl, by repeat (first | exact Grown.refl _ | apply Grown.drew | apply Grown.alloc)⟩
theorem walkY (u v y x : Int) (a0 : 0 ≤ u) (a1 : u < 1073741824) (a2 : 0 ≤ v) (a3 : v < 1073741824) (a4 : 0 ≤ y) (a5 : y < 1073741824) (a6 : 0 ≤ x) (a7 : x < 1073741824) (w : World) :
    Calls Try.prog 5 #[.agg #[.int .i64 u, .int .i64 v, .int .i64 y, .int .i64 x]] w fun e w' => e = .returned (.bool true) ∧ Grown w w' := by
  rcases Int.lt_trichotomy v y with p | p | p <;> rcases Int.lt_trichotomy u x with q | q | q
  · exact walkYLL u v y x a0 a1 a2 a3 a4 a5 a6 a7 p q w
  · subst q; exact walkYLE u v y a0 a1 a2 a3 a4 a5 p w
  · exact walkYLG u v y x a0 a1 a2 a3 a4 a5 a6 a7 p q w
  · subst p; exact walkYEL u v x a0 a1 a2 a3 a6 a7 q w
  · subst p; subst q; exact walkYEE u v a0 a1 a2 a3 w
  · subst p; exact walkYEG u v x a0 a1 a2 a3 a6 a7 q w
  · exact walkYGL u v y x a0 a1 a2 a3 a4 a5 a6 a7 p q w
  · subst q; exact walkYGE u v y a0 a1 a2 a3 a4 a5 p w
  · exact walkYGG u v y x a0 a1 a2 a3 a4 a5 a6 a7 p q w
theorem walk (u v y x : Int) (w : World) :
    Calls Try.prog 5 #[.agg #[.int .i64 u, .int .i64 v, .int .i64 y, .int .i64 x]] w fun e w' => e = .returned (.bool true) ∧ Grown w w' := by
  by_cases hu : 0 ≤ u ∧ u < 1073741824
  · by_cases hv : 0 ≤ v ∧ v < 1073741824
    · by_cases hy : 0 ≤ y ∧ y < 1073741824
      · by_cases hx : 0 ≤ x ∧ x < 1073741824
        · exact walkY u v y x hu.1 hu.2 hv.1 hv.2 hy.1 hy.2 hx.1 hx.2 w
        · exact walkN3 u v y x hu.1 hu.2 hv.1 hv.2 hy.1 hy.2 hx w
      · exact walkN2 u v y x hu.1 hu.2 hv.1 hv.2 hy w
    · exact walkN1 u v y x hu.1 hu.2 hv w
  · exact walkN0 u v y x hu w

set_option maxRecDepth 100000 in
theorem lifted (os : Os) (started : os.Started) (H : Type) (enc : TypeId × Value → H) :
    ReturnsInHanded {} Try.checked os 5 .any (Rows.keyOrderSpec.pre6 enc Try.prog Try.f5 Rows.keyOrderRow.domain false) (Rows.keyOrderSpec.post enc Try.prog Try.f5 false true false false) := by
  refine returnsInHanded_of_change (C := Try.checked) own started (by kernel_rfl) Try.func5
    (ChangeSpec.witness6 (enc := enc) (C := Try.checked) false ⟨#[], #[.agg #[.int .i64 0, .int .i64 0, .int .i64 0, .int .i64 0]], []⟩ 8 (by kernel_rfl) (by kernel_rfl) (by kernel_rfl) (by kernel_rfl)) ?_
  intro W base args ds gs before hval0 hW _ _
  have hval : ∀ (j : Nat) t v, Try.f5.params[j]? = some t → args[j]? = some v → Value.okWide Try.prog W .any base t v := hval0
  have hW' := hW
  obtain ⟨p, q, hA0, hV, rfl, _, _⟩ := hW
  have hA : DataW.TrodAll enc Try.prog W 0 (fun _ => true) true Try.f5.params.toList args.toList ds p := hA0
  rw [Try.params5] at hA hval
  obtain ⟨v0, d0, rfl, rfl, h0⟩ := trodAll_one hA
  obtain ⟨rfl, rfl⟩ := trodVars_none hV
  obtain ⟨c0, c1, c2, c3, y0, y1, y2, y3, m, rfl, rfl, rfl, hy0, hy1, hy2, hy3⟩ := open_agg4 Try.underlying37 (by kernel_rfl) cells (hval 0 37 v0 rfl rfl) h0
  obtain ⟨a, e0, rfl, wa⟩ := DataW.trod_int Try.underlying3 hy0
  obtain ⟨b, e1, rfl, wb⟩ := DataW.trod_int Try.underlying3 hy1
  obtain ⟨c, e2, rfl, wc⟩ := DataW.trod_int Try.underlying3 hy2
  obtain ⟨d, e3, rfl, wd⟩ := DataW.trod_int Try.underlying3 hy3
  simp at e0 e1 e2 e3
  subst e0 e1 e2 e3
  clear hA0 hval0
  simp only [List.append_nil] at hW'
  have structReads : ∀ (W' : World) (sp : Nat → Bool), DataW.Trod enc Try.prog W' 0 sp true 37 (.agg #[.int .i64 a, .int .i64 b, .int .i64 c, .int .i64 d]) (.agg [.lit (.int .i64 a), .lit (.int .i64 b), .lit (.int .i64 c), .lit (.int .i64 d)]) [] := fun W' sp =>
    shut_agg4 (y0 := (.lit (.int .i64 a), [])) (y1 := (.lit (.int .i64 b), [])) (y2 := (.lit (.int .i64 c), [])) (y3 := (.lit (.int .i64 d), [])) Try.underlying37 (by kernel_rfl) cells ⟨1, by simp [DataW.trod, Try.underlying3, wa]⟩ ⟨1, by simp [DataW.trod, Try.underlying3, wb]⟩ ⟨1, by simp [DataW.trod, Try.underlying3, wc]⟩ ⟨1, by simp [DataW.trod, Try.underlying3, wd]⟩
  refine (walk a b c d W).mono fun e W' ⟨he, hg⟩ => ?_
  subst he
  exact ⟨_, rfl, post_of_same (pa := []) (pv := []) hW' (fun _ _ _ => (trodAll_cons_mk (shut_bool Try.underlying4 _) trodAll_mk0)) (fun sp _ => trodAll_mk1 (structReads _ sp)) (fun _ _ => rfl) rfl
    (hg.frame _) hg.2.1 (ok_one (by kernel_rfl) rfl (okWide_bool_mk Try.underlying4 _))⟩

theorem over : Rows.keyOrderRow.holds Try.pinned (OpenSpec.ofChange Rows.keyOrderSpec) :=
  OpenClaim.holds_of_wide 5 Try.f5 rfl rfl rfl rfl rfl rfl rfl ⟨rfl, rfl, rfl, rfl, rfl⟩ rfl rfl rfl rfl rfl (by kernel_rfl) Try.func5 (by kernel_rfl)
    (of_decide_eq_true (by kernel_rfl)) (by unfold Func.isWrapper; first | (rw [if_pos (by decide +kernel)]; kernel_rfl) | (rw [if_neg (by decide +kernel)]; exact ⟨rfl, rfl⟩))
    (fun os started H enc _ => lifted os started H enc)

/-- The statement. -/
theorem proved : Rows.KeyOrderSaid :=
  over
#print axioms proved
end Go.Proofs.Ytbmhbahmnmoajaa.keyOrder
