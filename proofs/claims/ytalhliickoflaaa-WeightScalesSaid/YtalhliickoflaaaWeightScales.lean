/-
  WeightScales: for every number of 64 bits that is a usual float, and is one with one more in its exponent, that one is twice as much, and with the sign turned it is its opposite. No condition.
-/
import Derived.Test.YtalhliickoflaaaRows
import Derived.WalkKit
import Derived.ProofKit
import Derived.OpenShut
import Derived.Test.YtalhliickoflaaaShown
namespace Go.Proofs.Ytalhliickoflaaa.weightScales
open Go.ChangeShapes Go.WideShapes Go.ChangeAt Go.RowKit
set_option linter.unusedVariables false      -- a walk need not use every 'w<i>' (that an integer argument fits its kind)

theorem own : ownKnob Try.prog.godebug = none := by kernel_rfl

theorem walkNo1 (b : Int) (b0 : 0 ≤ b) (b1 : b < 18446744073709551616) (h : (kindI b != 2) = true) (w : World) :
    Calls Try.prog 6 #[.int .u64 b] w fun e w' => e = .returned (.bool true) ∧ Grown w w' := by
  go_enter Try.func6, Try.ntmps6
  go_wp2_with (first | (go_at_call 11; refine (shown_any _).mono ?_; rintro e w1 ⟨rfl, hg⟩) | (go_at_call 15; refine (refKind_any _ _ (by omega) (by omega)).mono ?_; rintro e w' ⟨rfl, rfl⟩))
  go_ret
  exact ⟨rfl, hg⟩
theorem walkNo2 (b : Int) (b0 : 0 ≤ b) (b1 : b < 18446744073709551616) (h : (kindI b != 2) = false) (h2 : b + 4503599627370496 < 18446744073709551616) (h3 : (kindI (b + 4503599627370496) != 2) = true) (w : World) :
    Calls Try.prog 6 #[.int .u64 b] w fun e w' => e = .returned (.bool true) ∧ Grown w w' := by
  go_enter Try.func6, Try.ntmps6
  go_wp2_with (first | (go_at_call 11; refine (shown_any _).mono ?_; rintro e w1 ⟨rfl, hg⟩) | (go_at_call 15; refine (refKind_any _ _ (by omega) (by omega)).mono ?_; rintro e w' ⟨rfl, rfl⟩))
  go_ret
  exact ⟨rfl, hg⟩
theorem walkYes (b : Int) (b0 : 0 ≤ b) (b1 : b < 18446744073709551616) (h : (kindI b != 2) = false) (h2 : b + 4503599627370496 < 18446744073709551616) (h3 : (kindI (b + 4503599627370496) != 2) = false) (w : World) :
    Calls Try.prog 6 #[.int .u64 b] w fun e w' => e = .returned (.bool true) ∧ Grown w w' := by
  have k1 : kindI b = 2 := by simpa using h
  have k2 : kindI (b + 4503599627370496) = 2 := by simpa using h3
  have hm := fun w => run_float_arith (P := Try.prog) w .mul 31 .f64 4611686018427387904 b.toNat _ (mulF b b0 b1 h2 k1 k2)
  have o1 : (FloatKind.f64.format.order (b + 4503599627370496).toNat (b + 4503599627370496).toNat == some Ordering.eq) = true := by
    rw [ord_self (b + 4503599627370496) (by omega) h2 (by rw [k2]; decide)]; rfl
  have tb := turnI_bd b b0 b1
  have o2 : (FloatKind.f64.format.order (turnI b).toNat (turnI b).toNat == some Ordering.eq) = true := by
    rw [ord_self (turnI b) tb.1 tb.2 (by rw [kindI_turn b b0 b1, k1]; decide)]; rfl
  have x1 := xor_sign b b0 b1
  have hn : ∀ w : World, Sem.run Try.prog (Op.unary UnOp.neg (Value.float FloatKind.f64 b.toNat)) w = .ok (.float .f64 (turnI b).toNat) w := fun w => by rw [← negF b b0 b1]; rfl
  clear k1 k2 tb
  go_enter Try.func6, Try.ntmps6
  go_wp2_with (first | (go_at_call 11; refine (shown_any _).mono ?_; rintro e w1 ⟨rfl, hg⟩) | (go_at_call 15; refine (refKind_any _ _ (by omega) (by omega)).mono ?_; rintro e w' ⟨rfl, rfl⟩) | (go_at_call 19; refine (of_any _ _).mono ?_; rintro e w' ⟨rfl, rfl⟩))
  go_ret
  exact ⟨rfl, hg⟩
theorem walk0 (b : Int) (b0 : 0 ≤ b) (b1 : b < 18446744073709551616) (w : World) :
    Calls Try.prog 6 #[.int .u64 b] w fun e w' => e = .returned (.bool true) ∧ Grown w w' := by
  by_cases h : kindI b = 2
  · have hk := (kindI_usual b b0 b1).1 h
    have h2 : b + 4503599627370496 < 18446744073709551616 := by unfold rungW at hk; omega
    by_cases h3 : kindI (b + 4503599627370496) = 2
    · exact walkYes b b0 b1 (by rw [bne_eq_false_iff_eq]; exact h) h2 (by rw [bne_eq_false_iff_eq]; exact h3) w
    · exact walkNo2 b b0 b1 (by rw [bne_eq_false_iff_eq]; exact h) h2 (by rw [bne_iff_ne]; exact h3) w
  · exact walkNo1 b b0 b1 (by rw [bne_iff_ne]; exact h) w

/-! ### STEP 1: THE WALK: the Go text returns true. 'Grown w w'': the world has at most new blocks (Derived/RowKit3.lean). Part the cases AHEAD of 'go_enter' where a test parts the walk; take each callee by a contract of your own. -/
theorem walk (a0 : Int) (w0 : (Lit.int .u64 a0).wf = true) (w : World) :
    Calls Try.prog 6 #[.int .u64 a0] w fun e w' => e = .returned (.bool true) ∧ Grown w w' := by
  have hmin : IntKind.u64.min = 0 := rfl
  have hmax : IntKind.u64.max = 18446744073709551615 := rfl
  have k0 := w0
  simp only [Lit.wf, Bool.and_eq_true, decide_eq_true_eq, hmin, hmax] at k0
  exact walk0 a0 (by omega) (by omega) w


/-! ### THE ROW's STEP: WRITTEN OUT: LEAVE IT -/
set_option maxRecDepth 100000 in
theorem lifted (os : Os) (started : os.Started) (H : Type) (enc : TypeId × Value → H) :
    ReturnsInHanded {} Try.checked os 6 .any (Rows.weightScalesSpec.pre6 enc Try.prog Try.f6 Rows.weightScalesRow.domain false) (Rows.weightScalesSpec.post enc Try.prog Try.f6 false true false false) := by
  refine returnsInHanded_of_change (C := Try.checked) own started (by kernel_rfl) Try.func6
    (ChangeSpec.witness6 (enc := enc) (C := Try.checked) false ⟨#[], #[.int .u64 0], []⟩ 8 (by kernel_rfl) (by kernel_rfl) (by kernel_rfl) (by kernel_rfl)) ?_
  intro W base args ds gs before hval0 hW hcnd _
  have hval : ∀ (j : Nat) t v, Try.f6.params[j]? = some t → args[j]? = some v → Value.okWide Try.prog W .any base t v := hval0
  have hW' := hW
  obtain ⟨p, q, hA0, hV, rfl, hfz, hnd⟩ := hW
  have hA : DataW.TrodAll enc Try.prog W 0 (fun _ => true) true Try.f6.params.toList args.toList ds p := hA0
  rw [Try.params6] at hA hval
  obtain ⟨v0, vs0, d0, ds0, p0, q0, hargs, rfl, rfl, h0, r0⟩ := trodAll_cons hA
  obtain ⟨rfl, rfl, rfl⟩ := trodAll_nil r0
  obtain rfl : args = #[v0] := by cases args; simp_all
  obtain ⟨rfl, rfl⟩ := trodVars_none hV
  obtain ⟨a0, rfl, rfl, rfl, w0⟩ := open_int Try.underlying22 (hval 0 22 v0 rfl rfl) h0
  clear hA0 hval0
  simp only [List.append_nil] at hW'
  refine (walk a0 w0 W).mono fun e W' ⟨he, hg⟩ => ?_
  subst he
  exact ⟨_, rfl, post_of_same (pa := []) (pv := []) hW' (fun _ _ _ => (trodAll_cons_mk (shut_bool Try.underlying4 _) trodAll_mk0)) (fun sp _ => (trodAll_cons_mk (shut_int Try.underlying22 w0) trodAll_mk0)) (fun _ _ => rfl) rfl
    (hg.frame _) hg.2.1 (ok_one (by kernel_rfl) rfl (okWide_bool_mk Try.underlying4 _))⟩

theorem over : Rows.weightScalesRow.holds Try.pinned (OpenSpec.ofChange Rows.weightScalesSpec) :=
  OpenClaim.holds_of_wide 6 Try.f6 rfl rfl rfl rfl rfl rfl rfl ⟨rfl, rfl, rfl, rfl, rfl⟩ rfl rfl rfl rfl rfl (by kernel_rfl) Try.func6 (by kernel_rfl)
    (of_decide_eq_true (by kernel_rfl)) (by unfold Func.isWrapper; first | (rw [if_pos (by decide +kernel)]; kernel_rfl) | (rw [if_neg (by decide +kernel)]; exact ⟨rfl, rfl⟩))
    (fun os started H enc _ => lifted os started H enc)

/-- ████ THE STATEMENT ████ -/
theorem proved : Rows.WeightScalesSaid :=
  over
#print axioms proved
end Go.Proofs.Ytalhliickoflaaa.weightScales
