/-
  The contract of the document's examples of layer 8: the function that asks them answers yes.
-/
import Derived.Test.YtpliipmbgblbaaaWrdRef
namespace Go.Proofs.Ytpliipmbgblbaaa
open Go.ChangeShapes Go.WideShapes Go.ChangeAt Go.RowKit
set_option linter.unusedVariables false
theorem shown_any (w : World) :
    Calls Try.prog 8 #[] w fun e w' => e = .returned (.bool true) ∧ w = w' := by
  go_enter Try.func8, Try.ntmps8
  go_wp2_with fail
  refine (show Calls Try.prog _ _ _ (fun e w' => e = .returned (.int .u64 4194307) ∧ w = w') from ends_any 3 4 (by decide) (by decide) w).mono ?_
  rintro e w' ⟨rfl, rfl⟩
  go_wp2_with fail
  refine (show Calls Try.prog _ _ _ (fun e w' => e = .returned (.tuple #[.int .i64 3, .int .i64 4]) ∧ w = w') from pair_any 4194307 (by decide) w).mono ?_
  rintro e w' ⟨rfl, rfl⟩
  go_wp2_with fail
  refine (show Calls Try.prog _ _ _ (fun e w' => e = .returned (.int .u64 7) ∧ w = w') from link_any 3 true (by decide) w).mono ?_
  rintro e w' ⟨rfl, rfl⟩
  go_wp2_with fail
  refine (show Calls Try.prog _ _ _ (fun e w' => e = .returned (.int .i64 3) ∧ w = w') from ref_any 7 (by decide) w).mono ?_
  rintro e w' ⟨rfl, rfl⟩
  go_wp2_with fail
  refine (show Calls Try.prog _ _ _ (fun e w' => e = .returned (.bool true) ∧ w = w') from mark_any 7 (by decide) w).mono ?_
  rintro e w' ⟨rfl, rfl⟩
  go_wp2_with fail
  refine (show Calls Try.prog _ _ _ (fun e w' => e = .returned (.bool false) ∧ w = w') from mark_any 6 (by decide) w).mono ?_
  rintro e w' ⟨rfl, rfl⟩
  go_wp2_with fail
  refine (show Calls Try.prog _ _ _ (fun e w' => e = .returned (.int .u64 22) ∧ w = w') from flag_any 5 2 w).mono ?_
  rintro e w' ⟨rfl, rfl⟩
  go_wp2_with fail
  refine (show Calls Try.prog _ _ _ (fun e w' => e = .returned (.int .u64 5) ∧ w = w') from stamp_any 22 w).mono ?_
  rintro e w' ⟨rfl, rfl⟩
  go_wp2_with fail
  refine (show Calls Try.prog _ _ _ (fun e w' => e = .returned (.bool true) ∧ w = w') from has_any 22 2 (by decide) w).mono ?_
  rintro e w' ⟨rfl, rfl⟩
  go_wp2_with fail
  refine (show Calls Try.prog _ _ _ (fun e w' => e = .returned (.bool false) ∧ w = w') from has_any 22 1 (by decide) w).mono ?_
  rintro e w' ⟨rfl, rfl⟩
  go_wp2_with fail
  refine (show Calls Try.prog _ _ _ (fun e w' => e = .returned (.int .u64 1048577) ∧ w = w') from top_any 1 1 (by decide) w).mono ?_
  rintro e w' ⟨rfl, rfl⟩
  go_wp2_with fail
  refine (show Calls Try.prog _ _ _ (fun e w' => e = .returned (.int .i64 1) ∧ w = w') from first_any 1048577 (by decide) w).mono ?_
  rintro e w' ⟨rfl, rfl⟩
  go_wp2_with fail
  refine (show Calls Try.prog _ _ _ (fun e w' => e = .returned (.int .u64 1) ∧ w = w') from tag_any 1048577 w).mono ?_
  rintro e w' ⟨rfl, rfl⟩
  go_wp2_with fail
  go_ret
  exact ⟨rfl, rfl⟩
end Go.Proofs.Ytpliipmbgblbaaa
