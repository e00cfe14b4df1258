/-
  WeightCompares: for every two numbers of 64 bits, two floats that may be compared are in the order as they compare; noughts, and such that are none, compare as floats do. No condition.
-/
import Derived.Test.YtalhliickoflaaaRows
import Derived.WalkKit
import Derived.ProofKit
import Derived.OpenShut
import Derived.Test.YtalhliickoflaaaShown
namespace Go.Proofs.Ytalhliickoflaaa.weightCompares
open Go.ChangeShapes Go.WideShapes Go.ChangeAt Go.RowKit
set_option linter.unusedVariables false      -- a walk need not use every 'w<i>' (that an integer argument fits its kind)

theorem own : ownKnob Try.prog.godebug = none := by kernel_rfl

set_option maxRecDepth 100000 in
theorem walkNone1 (a b : Int) (a0 : 0 ≤ a) (a1 : a < 18446744073709551616) (b0 : 0 ≤ b) (b1 : b < 18446744073709551616) (ho : FloatKind.f64.format.order a.toNat b.toNat = none) (k : (kindI a == 4) = true) (w : World) :
    Calls Try.prog 5 #[.int .u64 a, .int .u64 b] w fun e w' => e = .returned (.bool true) ∧ Grown w w' := by
  go_enter Try.func5, Try.ntmps5
  go_wp2_with (first | (go_at_call 11; refine (shown_any _).mono ?_; rintro e w1 ⟨rfl, hg⟩) | (go_at_call 19; refine (of_any _ _).mono ?_; rintro e w' ⟨rfl, rfl⟩) | (go_at_call 15; refine (refKind_any _ _ (by omega) (by omega)).mono ?_; rintro e w' ⟨rfl, rfl⟩) | (go_at_call 16; refine (less_any _ _ _ (by omega) (by omega) (by omega) (by omega)).mono ?_; rintro e w' ⟨rfl, rfl⟩))
  go_ret
  exact ⟨rfl, hg⟩
set_option maxRecDepth 100000 in
theorem walkNone2 (a b : Int) (a0 : 0 ≤ a) (a1 : a < 18446744073709551616) (b0 : 0 ≤ b) (b1 : b < 18446744073709551616) (ho : FloatKind.f64.format.order a.toNat b.toNat = none) (k : (kindI a == 4) = false) (k2 : (kindI b == 4) = true) (w : World) :
    Calls Try.prog 5 #[.int .u64 a, .int .u64 b] w fun e w' => e = .returned (.bool true) ∧ Grown w w' := by
  go_enter Try.func5, Try.ntmps5
  go_wp2_with (first | (go_at_call 11; refine (shown_any _).mono ?_; rintro e w1 ⟨rfl, hg⟩) | (go_at_call 19; refine (of_any _ _).mono ?_; rintro e w' ⟨rfl, rfl⟩) | (go_at_call 15; refine (refKind_any _ _ (by omega) (by omega)).mono ?_; rintro e w' ⟨rfl, rfl⟩) | (go_at_call 16; refine (less_any _ _ _ (by omega) (by omega) (by omega) (by omega)).mono ?_; rintro e w' ⟨rfl, rfl⟩))
  go_ret
  exact ⟨rfl, hg⟩
set_option maxRecDepth 100000 in
theorem walkLt (a b : Int) (a0 : 0 ≤ a) (a1 : a < 18446744073709551616) (b0 : 0 ≤ b) (b1 : b < 18446744073709551616) (ho : FloatKind.f64.format.order a.toNat b.toNat = some .lt) (k : (kindI a == 4) = false) (k2 : (kindI b == 4) = false) (l1 : lessB a b = true) (l2 : lessB b a = false) (w : World) :
    Calls Try.prog 5 #[.int .u64 a, .int .u64 b] w fun e w' => e = .returned (.bool true) ∧ Grown w w' := by
  go_enter Try.func5, Try.ntmps5
  go_wp2_with (first | (go_at_call 11; refine (shown_any _).mono ?_; rintro e w1 ⟨rfl, hg⟩) | (go_at_call 19; refine (of_any _ _).mono ?_; rintro e w' ⟨rfl, rfl⟩) | (go_at_call 15; refine (refKind_any _ _ (by omega) (by omega)).mono ?_; rintro e w' ⟨rfl, rfl⟩) | (go_at_call 16; refine (less_any _ _ _ (by omega) (by omega) (by omega) (by omega)).mono ?_; rintro e w' ⟨rfl, rfl⟩))
  go_ret
  exact ⟨rfl, hg⟩
set_option maxRecDepth 100000 in
theorem walkGt (a b : Int) (a0 : 0 ≤ a) (a1 : a < 18446744073709551616) (b0 : 0 ≤ b) (b1 : b < 18446744073709551616) (ho : FloatKind.f64.format.order a.toNat b.toNat = some .gt) (k : (kindI a == 4) = false) (k2 : (kindI b == 4) = false) (l1 : lessB a b = false) (l2 : lessB b a = true) (w : World) :
    Calls Try.prog 5 #[.int .u64 a, .int .u64 b] w fun e w' => e = .returned (.bool true) ∧ Grown w w' := by
  go_enter Try.func5, Try.ntmps5
  go_wp2_with (first | (go_at_call 11; refine (shown_any _).mono ?_; rintro e w1 ⟨rfl, hg⟩) | (go_at_call 19; refine (of_any _ _).mono ?_; rintro e w' ⟨rfl, rfl⟩) | (go_at_call 15; refine (refKind_any _ _ (by omega) (by omega)).mono ?_; rintro e w' ⟨rfl, rfl⟩) | (go_at_call 16; refine (less_any _ _ _ (by omega) (by omega) (by omega) (by omega)).mono ?_; rintro e w' ⟨rfl, rfl⟩))
  go_ret
  exact ⟨rfl, hg⟩
set_option maxRecDepth 100000 in
theorem walkZero (a b : Int) (a0 : 0 ≤ a) (a1 : a < 18446744073709551616) (b0 : 0 ≤ b) (b1 : b < 18446744073709551616) (ho : FloatKind.f64.format.order a.toNat b.toNat = some .eq) (k : (kindI a == 4) = false) (k2 : (kindI b == 4) = false) (ne : (a == b) = false) (z1 : (kindI a == 0) = true) (z2 : (kindI b == 0) = true) (l1 : (!lessB a b && !lessB b a) = false) (w : World) :
    Calls Try.prog 5 #[.int .u64 a, .int .u64 b] w fun e w' => e = .returned (.bool true) ∧ Grown w w' := by
  cases e1 : lessB a b <;> cases e2 : lessB b a <;> simp only [e1, e2] at l1
  all_goals try (exact absurd l1 (by decide))
  all_goals clear l1
  all_goals
    go_enter Try.func5, Try.ntmps5
    go_wp2_with (first | (go_at_call 11; refine (shown_any _).mono ?_; rintro e w1 ⟨rfl, hg⟩) | (go_at_call 19; refine (of_any _ _).mono ?_; rintro e w' ⟨rfl, rfl⟩) | (go_at_call 15; refine (refKind_any _ _ (by omega) (by omega)).mono ?_; rintro e w' ⟨rfl, rfl⟩) | (go_at_call 16; refine (less_any _ _ _ (by omega) (by omega) (by omega) (by omega)).mono ?_; rintro e w' ⟨rfl, rfl⟩))
    go_ret
    exact ⟨rfl, hg⟩
set_option maxRecDepth 100000 in
theorem walkSame (a : Int) (a0 : 0 ≤ a) (a1 : a < 18446744073709551616) (ho : FloatKind.f64.format.order a.toNat a.toNat = some .eq) (k : (kindI a == 4) = false) (z : (kindI a == 0) = true) (w : World) :
    Calls Try.prog 5 #[.int .u64 a, .int .u64 a] w fun e w' => e = .returned (.bool true) ∧ Grown w w' := by
  have l := lessB_irrefl a
  go_enter Try.func5, Try.ntmps5
  go_wp2_with (first | (go_at_call 11; refine (shown_any _).mono ?_; rintro e w1 ⟨rfl, hg⟩) | (go_at_call 19; refine (of_any _ _).mono ?_; rintro e w' ⟨rfl, rfl⟩) | (go_at_call 15; refine (refKind_any _ _ (by omega) (by omega)).mono ?_; rintro e w' ⟨rfl, rfl⟩) | (go_at_call 16; refine (less_any _ _ _ (by omega) (by omega) (by omega) (by omega)).mono ?_; rintro e w' ⟨rfl, rfl⟩))
  go_ret
  exact ⟨rfl, hg⟩
set_option maxRecDepth 100000 in
theorem walkSame2 (a : Int) (a0 : 0 ≤ a) (a1 : a < 18446744073709551616) (ho : FloatKind.f64.format.order a.toNat a.toNat = some .eq) (k : (kindI a == 4) = false) (z : (kindI a == 0) = false) (w : World) :
    Calls Try.prog 5 #[.int .u64 a, .int .u64 a] w fun e w' => e = .returned (.bool true) ∧ Grown w w' := by
  have l := lessB_irrefl a
  go_enter Try.func5, Try.ntmps5
  go_wp2_with (first | (go_at_call 11; refine (shown_any _).mono ?_; rintro e w1 ⟨rfl, hg⟩) | (go_at_call 19; refine (of_any _ _).mono ?_; rintro e w' ⟨rfl, rfl⟩) | (go_at_call 15; refine (refKind_any _ _ (by omega) (by omega)).mono ?_; rintro e w' ⟨rfl, rfl⟩) | (go_at_call 16; refine (less_any _ _ _ (by omega) (by omega) (by omega) (by omega)).mono ?_; rintro e w' ⟨rfl, rfl⟩))
  go_ret
  exact ⟨rfl, hg⟩
theorem walk0 (a b : Int) (a0 : 0 ≤ a) (a1 : a < 18446744073709551616) (b0 : 0 ≤ b) (b1 : b < 18446744073709551616) (w : World) :
    Calls Try.prog 5 #[.int .u64 a, .int .u64 b] w fun e w' => e = .returned (.bool true) ∧ Grown w w' := by
  rcases ord_cases a b a0 a1 b0 b1 with ⟨hk, ho⟩ | ⟨k1, k2, ho, hy, hz⟩ | ⟨k1, k2, ho, hy, hz⟩ | ⟨k1, k2, ho, he⟩
  · by_cases k : kindI a = 4
    · exact walkNone1 a b a0 a1 b0 b1 ho (by rw [beq_iff_eq]; exact k) w
    · exact walkNone2 a b a0 a1 b0 b1 ho (by rw [beq_eq_false_iff_ne]; exact k) (by rw [beq_iff_eq]; rcases hk with h | h; exact absurd h k; exact h) w
  · exact walkLt a b a0 a1 b0 b1 ho (by rw [beq_eq_false_iff_ne]; exact k1) (by rw [beq_eq_false_iff_ne]; exact k2) hy hz w
  · exact walkGt a b a0 a1 b0 b1 ho (by rw [beq_eq_false_iff_ne]; exact k1) (by rw [beq_eq_false_iff_ne]; exact k2) hy hz w
  · rcases he with rfl | ⟨ne, z1, z2⟩
    · by_cases z : kindI a = 0
      · exact walkSame a a0 a1 ho (by rw [beq_eq_false_iff_ne]; exact k1) (by rw [beq_iff_eq]; exact z) w
      · exact walkSame2 a a0 a1 ho (by rw [beq_eq_false_iff_ne]; exact k1) (by rw [beq_eq_false_iff_ne]; exact z) w
    · refine walkZero a b a0 a1 b0 b1 ho (by rw [beq_eq_false_iff_ne]; exact k1) (by rw [beq_eq_false_iff_ne]; exact k2) (by rw [beq_eq_false_iff_ne]; exact ne) (by rw [beq_iff_eq]; exact z1) (by rw [beq_iff_eq]; exact z2) ?_ w
      unfold lessB
      by_cases h1 : plI a < plI b
      · simp [h1]
      · by_cases h2 : plI b < plI a
        · simp [h1, h2]
        · exact absurd (plI_inj a0 a1 b0 b1 (by omega)) ne

/-! ### STEP 1: THE WALK: the Go text returns true. 'Grown w w'': the world has at most new blocks (Derived/RowKit3.lean). Part the cases AHEAD of 'go_enter' where a test parts the walk; take each callee by a contract of your own. -/
theorem walk (a0 : Int) (a1 : Int) (w0 : (Lit.int .u64 a0).wf = true) (w1 : (Lit.int .u64 a1).wf = true) (w : World) :
    Calls Try.prog 5 #[.int .u64 a0, .int .u64 a1] w fun e w' => e = .returned (.bool true) ∧ Grown w w' := by
  have hmin : IntKind.u64.min = 0 := rfl
  have hmax : IntKind.u64.max = 18446744073709551615 := rfl
  have k0 := w0
  have k1 := w1
  simp only [Lit.wf, Bool.and_eq_true, decide_eq_true_eq, hmin, hmax] at k0 k1
  exact walk0 a0 a1 (by omega) (by omega) (by omega) (by omega) w


/-! ### THE ROW's STEP: WRITTEN OUT: LEAVE IT -/
set_option maxRecDepth 100000 in
theorem lifted (os : Os) (started : os.Started) (H : Type) (enc : TypeId × Value → H) :
    ReturnsInHanded {} Try.checked os 5 .any (Rows.weightComparesSpec.pre6 enc Try.prog Try.f5 Rows.weightComparesRow.domain false) (Rows.weightComparesSpec.post enc Try.prog Try.f5 false true false false) := by
  refine returnsInHanded_of_change (C := Try.checked) own started (by kernel_rfl) Try.func5
    (ChangeSpec.witness6 (enc := enc) (C := Try.checked) false ⟨#[], #[.int .u64 0, .int .u64 0], []⟩ 8 (by kernel_rfl) (by kernel_rfl) (by kernel_rfl) (by kernel_rfl)) ?_
  intro W base args ds gs before hval0 hW hcnd _
  have hval : ∀ (j : Nat) t v, Try.f5.params[j]? = some t → args[j]? = some v → Value.okWide Try.prog W .any base t v := hval0
  have hW' := hW
  obtain ⟨p, q, hA0, hV, rfl, hfz, hnd⟩ := hW
  have hA : DataW.TrodAll enc Try.prog W 0 (fun _ => true) true Try.f5.params.toList args.toList ds p := hA0
  rw [Try.params5] at hA hval
  obtain ⟨v0, vs0, d0, ds0, p0, q0, hargs, rfl, rfl, h0, r0⟩ := trodAll_cons hA
  obtain ⟨v1, vs1, d1, ds1, p1, q1, rfl, rfl, rfl, h1, r1⟩ := trodAll_cons r0
  obtain ⟨rfl, rfl, rfl⟩ := trodAll_nil r1
  obtain rfl : args = #[v0, v1] := by cases args; simp_all
  obtain ⟨rfl, rfl⟩ := trodVars_none hV
  obtain ⟨a0, rfl, rfl, rfl, w0⟩ := open_int Try.underlying22 (hval 0 22 v0 rfl rfl) h0
  obtain ⟨a1, rfl, rfl, rfl, w1⟩ := open_int Try.underlying22 (hval 1 22 v1 rfl rfl) h1
  clear hA0 hval0
  simp only [List.append_nil] at hW'
  refine (walk a0 a1 w0 w1 W).mono fun e W' ⟨he, hg⟩ => ?_
  subst he
  exact ⟨_, rfl, post_of_same (pa := []) (pv := []) hW' (fun _ _ _ => (trodAll_cons_mk (shut_bool Try.underlying4 _) trodAll_mk0)) (fun sp _ => (trodAll_cons_mk (shut_int Try.underlying22 w0) (trodAll_cons_mk (shut_int Try.underlying22 w1) trodAll_mk0))) (fun _ _ => rfl) rfl
    (hg.frame _) hg.2.1 (ok_one (by kernel_rfl) rfl (okWide_bool_mk Try.underlying4 _))⟩

theorem over : Rows.weightComparesRow.holds Try.pinned (OpenSpec.ofChange Rows.weightComparesSpec) :=
  OpenClaim.holds_of_wide 5 Try.f5 rfl rfl rfl rfl rfl rfl rfl ⟨rfl, rfl, rfl, rfl, rfl⟩ rfl rfl rfl rfl rfl (by kernel_rfl) Try.func5 (by kernel_rfl)
    (of_decide_eq_true (by kernel_rfl)) (by unfold Func.isWrapper; first | (rw [if_pos (by decide +kernel)]; kernel_rfl) | (rw [if_neg (by decide +kernel)]; exact ⟨rfl, rfl⟩))
    (fun os started H enc _ => lifted os started H enc)

/-- ████ THE STATEMENT ████ -/
theorem proved : Rows.WeightComparesSaid :=
  over
#print axioms proved
end Go.Proofs.Ytalhliickoflaaa.weightCompares
