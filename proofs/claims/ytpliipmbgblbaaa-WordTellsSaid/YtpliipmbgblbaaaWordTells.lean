/-
  WordTells: for every two numbers, a mark, a number of 64 bits, bits and a word, what is put together and what words hold is as the document says. No condition.
-/
import Derived.Test.YtpliipmbgblbaaaWrdShown
import Derived.Test.YtpliipmbgblbaaaLaw
import Derived.Test.YtpliipmbgblbaaaFields
namespace Go.Proofs.Ytpliipmbgblbaaa.wordTells
open Go.ChangeShapes Go.WideShapes Go.ChangeAt Go.RowKit Go.Deep
set_option linter.unusedVariables false
theorem own : ownKnob Try.prog.godebug = none := by kernel_rfl
set_option maxRecDepth 100000 in
set_option maxHeartbeats 4000000 in
theorem walkY (r o n x : Nat) (m : Bool) (b : Int) (hr2 : r < 1048576) (ho2 : o < 1048576) (hx : x < 18446744073709551616) (w : World) :
    Calls Try.prog 3 #[.agg #[.int .i64 (r : Int), .int .i64 (o : Int), .bool m, .int .u64 (n : Int), .int .i64 b, .int .u64 (x : Int)]] w fun e w' => e = .returned (.bool true) ∧ Below w.heap.size w w' := by
  have hr : isRef (r : Int) := ⟨by omega, by omega⟩
  have ho : isRef (o : Int) := ⟨by omega, by omega⟩
  go_enter Try.func3, Try.ntmps3
  go_wp2_with (first | (go_at_call 8; (with_reducible refine (shown_any _).mono ?_); rintro e w' ⟨rfl, rfl⟩) | (go_at_call 9; (with_reducible refine (refIs_yes _ _ hr).mono ?_); rintro e w' ⟨rfl, rfl⟩) | (go_at_call 9; (with_reducible refine (refIs_yes _ _ ho).mono ?_); rintro e w' ⟨rfl, rfl⟩) | (go_at_call 10; (with_reducible refine (pair_any x hx _).mono ?_); rintro e w' ⟨rfl, rfl⟩) | (go_at_call 11; (with_reducible refine (refPair_any x hx _).mono ?_); rintro e w' ⟨rfl, rfl⟩) | (go_at_call 12; (with_reducible refine (link_any r m (by omega) _).mono ?_); rintro e w' ⟨rfl, rfl⟩) | (go_at_call 13; (with_reducible refine (refLink_any r m hr2 _).mono ?_); rintro e w' ⟨rfl, rfl⟩) | (go_at_call 14; (with_reducible refine (ref_any x hx _).mono ?_); rintro e w' ⟨rfl, rfl⟩) | (go_at_call 15; (with_reducible refine (refRef_any x hx _).mono ?_); rintro e w' ⟨rfl, rfl⟩) | (go_at_call 16; (with_reducible refine (mark_any x hx _).mono ?_); rintro e w' ⟨rfl, rfl⟩) | (go_at_call 17; (with_reducible refine (refMark_any x hx _).mono ?_); rintro e w' ⟨rfl, rfl⟩) | (go_at_call 18; (with_reducible refine (flag_any n b _).mono ?_); rintro e w' ⟨rfl, rfl⟩) | (go_at_call 19; (with_reducible refine (refFlag_any n b _).mono ?_); rintro e w' ⟨rfl, rfl⟩) | (go_at_call 20; (with_reducible refine (stamp_any x _).mono ?_); rintro e w' ⟨rfl, rfl⟩) | (go_at_call 21; (with_reducible refine (refStamp_any x hx _).mono ?_); rintro e w' ⟨rfl, rfl⟩) | (go_at_call 22; (with_reducible refine (has_any x b hx _).mono ?_); rintro e w' ⟨rfl, rfl⟩) | (go_at_call 23; (with_reducible refine (refHas_any x b hx _).mono ?_); rintro e w' ⟨rfl, rfl⟩) | (go_at_call 24; (with_reducible refine (top_any r n hr2 _).mono ?_); rintro e w' ⟨rfl, rfl⟩) | (go_at_call 25; (with_reducible refine (refTop_any r n hr2 _).mono ?_); rintro e w' ⟨rfl, rfl⟩) | (go_at_call 26; (with_reducible refine (first_any x hx _).mono ?_); rintro e w' ⟨rfl, rfl⟩) | (go_at_call 27; (with_reducible refine (refFirst_any x hx _).mono ?_); rintro e w' ⟨rfl, rfl⟩) | (go_at_call 28; (with_reducible refine (tag_any x _).mono ?_); rintro e w' ⟨rfl, rfl⟩) | (go_at_call 29; (with_reducible refine (refTag_any x hx _).mono ?_); rintro e w' ⟨rfl, rfl⟩) | (go_at_call 30; (with_reducible refine (ends_any r o hr2 ho2 _).mono ?_); rintro e w' ⟨rfl, rfl⟩) | (go_at_call 31; (with_reducible refine (refEnds_any r o hr2 ho2 _).mono ?_); rintro e w' ⟨rfl, rfl⟩))
  go_ret
  exact ⟨rfl, by first | exact Below.refl _ _ | exact (Below.refl _ w).alloc (Nat.le_refl _) _ | exact Below.drew ((Below.refl _ w).alloc (Nat.le_refl _) _) | exact ((Below.refl _ w).alloc (Nat.le_refl _) _).alloc (by simp) _ | exact (((Below.refl _ w).alloc (Nat.le_refl _) _).alloc (by simp) _).alloc (by simp; omega) _⟩

theorem walkN1 (r o : Int) (n x : Nat) (m : Bool) (b : Int) (hr : ¬ isRef r) (w : World) :
    Calls Try.prog 3 #[.agg #[.int .i64 r, .int .i64 o, .bool m, .int .u64 (n : Int), .int .i64 b, .int .u64 (x : Int)]] w fun e w' => e = .returned (.bool true) ∧ Below w.heap.size w w' := by
  go_enter Try.func3, Try.ntmps3
  go_wp2_with (first | (go_at_call 8; (with_reducible refine (shown_any _).mono ?_); rintro e w' ⟨rfl, rfl⟩) | (go_at_call 9; (with_reducible refine (refIs_no _ _ hr).mono ?_); rintro e w' ⟨rfl, rfl⟩))
  go_ret
  exact ⟨rfl, by first | exact Below.refl _ _ | exact (Below.refl _ w).alloc (Nat.le_refl _) _ | exact Below.drew ((Below.refl _ w).alloc (Nat.le_refl _) _) | exact ((Below.refl _ w).alloc (Nat.le_refl _) _).alloc (by simp) _ | exact (((Below.refl _ w).alloc (Nat.le_refl _) _).alloc (by simp) _).alloc (by simp; omega) _⟩

theorem walkN2 (r o : Int) (n x : Nat) (m : Bool) (b : Int) (hr : isRef r) (ho : ¬ isRef o) (w : World) :
    Calls Try.prog 3 #[.agg #[.int .i64 r, .int .i64 o, .bool m, .int .u64 (n : Int), .int .i64 b, .int .u64 (x : Int)]] w fun e w' => e = .returned (.bool true) ∧ Below w.heap.size w w' := by
  go_enter Try.func3, Try.ntmps3
  go_wp2_with (first | (go_at_call 8; (with_reducible refine (shown_any _).mono ?_); rintro e w' ⟨rfl, rfl⟩) | (go_at_call 9; (with_reducible refine (refIs_yes _ _ hr).mono ?_); rintro e w' ⟨rfl, rfl⟩) | (go_at_call 9; (with_reducible refine (refIs_no _ _ ho).mono ?_); rintro e w' ⟨rfl, rfl⟩))
  go_ret
  exact ⟨rfl, by first | exact Below.refl _ _ | exact (Below.refl _ w).alloc (Nat.le_refl _) _ | exact Below.drew ((Below.refl _ w).alloc (Nat.le_refl _) _) | exact ((Below.refl _ w).alloc (Nat.le_refl _) _).alloc (by simp) _ | exact (((Below.refl _ w).alloc (Nat.le_refl _) _).alloc (by simp) _).alloc (by simp; omega) _⟩

section
variable {H : Type} {enc : TypeId × Value → H} {w : World}
theorem open_p {v : Value} {d : DataW H} {ps : List MemPlace} {base : Nat} (hval : Value.okWide Try.prog w .any base 24 v) (h : DataW.Trod enc Try.prog w 0 (fun _ => true) true 24 v d ps) (hs : Sized Try.prog 24 d) (hlt : ∀ z ∈ ps, z.block < w.heap.size) :
    ∃ (pRef : Int) (pOther : Int) (pMark : Bool) (pN : Nat) (pBits : Int) (pW : Nat), v = .agg #[.int .i64 pRef, .int .i64 pOther, .bool pMark, .int .u64 (pN : Int), .int .i64 pBits, .int .u64 (pW : Int)] ∧ (-9223372036854775808 ≤ pRef ∧ pRef < 9223372036854775808) ∧ (-9223372036854775808 ≤ pOther ∧ pOther < 9223372036854775808) ∧ pN < 18446744073709551616 ∧ (-9223372036854775808 ≤ pBits ∧ pBits < 9223372036854775808) ∧ pW < 18446744073709551616 := by
  obtain ⟨cs, rfl, hsz⟩ := okWide_struct Try.underlying24 hval
  obtain ⟨fuel, hf⟩ := h
  have hcs : (Value.agg cs).cells.toList = cs.toList := rfl
  rw [hcs] at hf
  have hcl : cs.toList.length = 6 := by rw [Array.length_toList, hsz]; kernel_rfl
  obtain ⟨c0, c1, c2, c3, c4, c5, hL⟩ : ∃ c0 c1 c2 c3 c4 c5, cs.toList = [c0, c1, c2, c3, c4, c5] := ⟨_, _, _, _, _, _, cells_of hcl .nilIface⟩
  rw [hL] at hf
  rw [list_agg hL]
  clear hcl hL hsz hcs
  obtain ⟨y0, n0, g0, s0, q0⟩ := field_at Try.underlying24 hf 0 _ rfl 3 0 1 [c0] rfl rfl (by kernel_rfl) rfl hs hlt
  obtain ⟨pRef, e1, hpRef⟩ := leaf_i64 Try.underlying3 g0
  cases e1
  obtain ⟨y2, n2, g2, s2, q2⟩ := field_at Try.underlying24 hf 1 _ rfl 3 1 1 [c1] rfl rfl (by kernel_rfl) rfl hs hlt
  obtain ⟨pOther, e3, hpOther⟩ := leaf_i64 Try.underlying3 g2
  cases e3
  obtain ⟨y4, n4, g4, s4, q4⟩ := field_at Try.underlying24 hf 2 _ rfl 4 2 1 [c2] rfl rfl (by kernel_rfl) rfl hs hlt
  obtain ⟨pMark, e5⟩ := leaf_bool Try.underlying4 g4
  cases e5
  obtain ⟨y6, n6, g6, s6, q6⟩ := field_at Try.underlying24 hf 3 _ rfl 22 3 1 [c3] rfl rfl (by kernel_rfl) rfl hs hlt
  obtain ⟨pN, e7, hpN⟩ := leaf_u64 Try.underlying22 g6
  cases e7
  obtain ⟨y8, n8, g8, s8, q8⟩ := field_at Try.underlying24 hf 4 _ rfl 3 4 1 [c4] rfl rfl (by kernel_rfl) rfl hs hlt
  obtain ⟨pBits, e9, hpBits⟩ := leaf_i64 Try.underlying3 g8
  cases e9
  obtain ⟨y10, n10, g10, s10, q10⟩ := field_at Try.underlying24 hf 5 _ rfl 22 5 1 [c5] rfl rfl (by kernel_rfl) rfl hs hlt
  obtain ⟨pW, e11, hpW⟩ := leaf_u64 Try.underlying22 g10
  cases e11
  exact ⟨pRef, pOther, pMark, pN, pBits, pW, rfl, hpRef, hpOther, hpN, hpBits, hpW⟩
end

set_option maxRecDepth 100000 in
theorem lifted (os : Os) (started : os.Started) (H : Type) (enc : TypeId × Value → H) :
    ReturnsInHanded {} Try.checked os 3 .any (Rows.wordTellsSpec.pre6 enc Try.prog Try.f3 Rows.wordTellsRow.domain false) (Rows.wordTellsSpec.post enc Try.prog Try.f3 false true false false) := by
  refine law_lifted (C := Try.checked) own started (by kernel_rfl) Try.func3
    (ChangeSpec.witness6 (enc := enc) (C := Try.checked) false ⟨#[], #[.agg #[.int .i64 0, .int .i64 0, .bool false, .int .u64 0, .int .i64 0, .int .u64 0]], []⟩ 8 (by kernel_rfl) (by kernel_rfl) (by kernel_rfl) (by kernel_rfl))
    (by kernel_rfl) (by kernel_rfl) Try.underlying4 rfl (by kernel_rfl) ?_
  intro W base args ds before hval hA hwt hlt
  have hA' : DataW.TrodAll enc Try.prog W 0 (fun _ => true) true Try.f3.params.toList args.toList ds before := hA
  have hval' : ∀ (j : Nat) t v, Try.f3.params[j]? = some t → args[j]? = some v → Value.okWide Try.prog W .any base t v := hval
  have hwt' : (DataW.weightsEach Try.prog Try.f3.params.toList ds).all (· ≤ reachBytes) = true := hwt
  rw [Try.params3] at hA' hval' hwt'
  obtain ⟨v0, vs0, d0, ds0, p0, q0, hargs, rfl, rfl, k0, r0⟩ := trodAll_cons hA'
  obtain ⟨rfl, rfl, rfl⟩ := trodAll_nil r0
  obtain rfl : args = #[v0] := by cases args; simp_all
  obtain ⟨pRef, pOther, pMark, pN, pBits, pW, rfl, hpRef, hpOther, hpN, hpBits, hpW⟩ := open_p (hval' 0 24 v0 rfl rfl) k0 (sized_of hwt' (j := 0) (t := 24) rfl rfl) (fun x hx => hlt x (by simp [hx]))
  refine ⟨rfl, ?_⟩
  by_cases hr : isRef pRef
  · by_cases ho : isRef pOther
    · obtain ⟨r0, r1⟩ := hr
      obtain ⟨o0, o1⟩ := ho
      obtain ⟨r, rfl⟩ := Int.eq_ofNat_of_zero_le r0
      obtain ⟨o, rfl⟩ := Int.eq_ofNat_of_zero_le o0
      exact walkY r o pN pW pMark pBits (by omega) (by omega) hpW W
    · exact walkN2 pRef pOther pN pW pMark pBits hr ho W
  · exact walkN1 pRef pOther pN pW pMark pBits hr W

theorem over : Rows.wordTellsRow.holds Try.pinned (OpenSpec.ofChange Rows.wordTellsSpec) :=
  OpenClaim.holds_of_wide 3 Try.f3 rfl rfl rfl rfl rfl rfl rfl ⟨rfl, rfl, rfl, rfl, rfl⟩ rfl rfl rfl rfl rfl (by kernel_rfl) Try.func3 (by kernel_rfl)
    (of_decide_eq_true (by kernel_rfl)) (by unfold Func.isWrapper; first | (rw [if_pos (by decide +kernel)]; kernel_rfl) | (rw [if_neg (by decide +kernel)]; exact ⟨rfl, rfl⟩))
    (fun os started H enc _ => lifted os started H enc)

/-- The statement. -/
theorem proved : Rows.WordTellsSaid :=
  over
#print axioms proved
end Go.Proofs.Ytpliipmbgblbaaa.wordTells
