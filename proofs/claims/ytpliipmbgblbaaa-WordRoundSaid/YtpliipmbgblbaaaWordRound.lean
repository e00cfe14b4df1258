/-
  WordRound: for every number and every tag of 64 bits, a tag that is one more goes on by one, and round behind the last one; a mark put on a link is one more, and leaves its reference. No condition.
-/
import Derived.Test.YtpliipmbgblbaaaWrdShown
import Derived.Test.YtpliipmbgblbaaaLaw
import Derived.Test.YtpliipmbgblbaaaFields
namespace Go.Proofs.Ytpliipmbgblbaaa.wordRound
open Go.ChangeShapes Go.WideShapes Go.ChangeAt Go.RowKit Go.Deep
set_option linter.unusedVariables false
theorem own : ownKnob Try.prog.godebug = none := by kernel_rfl

theorem walkA (r t T g N l : Nat) (hr : isRef (r : Int)) (hg : g < 17592186044415) (hl : l < 2097152)
    (c1 : ∀ w, Calls Try.prog 24 #[.int .i64 (r : Int), .int .u64 (t : Int)] w (fun e w' => e = .returned (.int .u64 (T : Int)) ∧ w = w'))
    (c2 : ∀ w, Calls Try.prog 26 #[.int .u64 (T : Int)] w (fun e w' => e = .returned (.int .i64 (r : Int)) ∧ w = w'))
    (c3 : ∀ w, Calls Try.prog 28 #[.int .u64 (T : Int)] w (fun e w' => e = .returned (.int .u64 (g : Int)) ∧ w = w'))
    (c4 : ∀ w, Calls Try.prog 24 #[.int .i64 (r : Int), .int .u64 ((g : Int) + 1)] w (fun e w' => e = .returned (.int .u64 (N : Int)) ∧ w = w'))
    (c5 : ∀ w, Calls Try.prog 26 #[.int .u64 (N : Int)] w (fun e w' => e = .returned (.int .i64 (r : Int)) ∧ w = w'))
    (c6 : ∀ w, Calls Try.prog 28 #[.int .u64 (N : Int)] w (fun e w' => e = .returned (.int .u64 ((g : Int) + 1)) ∧ w = w'))
    (c7 : ∀ w, Calls Try.prog 12 #[.int .i64 (r : Int), .bool false] w (fun e w' => e = .returned (.int .u64 (l : Int)) ∧ w = w'))
    (c8 : ∀ w, Calls Try.prog 12 #[.int .i64 (r : Int), .bool true] w (fun e w' => e = .returned (.int .u64 ((l : Int) + 1)) ∧ w = w'))
    (c9 : ∀ w, Calls Try.prog 14 #[.int .u64 ((l : Int) + 1)] w (fun e w' => e = .returned (.int .i64 (r : Int)) ∧ w = w'))
    (d1 : ∀ w, Calls Try.prog 16 #[.int .u64 ((l : Int) + 1)] w (fun e w' => e = .returned (.bool true) ∧ w = w'))
    (d2 : ∀ w, Calls Try.prog 16 #[.int .u64 (l : Int)] w (fun e w' => e = .returned (.bool false) ∧ w = w')) (w : World) :
    Calls Try.prog 6 #[.int .i64 (r : Int), .int .u64 (t : Int)] w fun e w' => e = .returned (.bool true) ∧ Below w.heap.size w w' := by
  go_enter Try.func6, Try.ntmps6
  go_wp2_with (first | (go_at_call 8; (with_reducible refine (shown_any _).mono ?_); rintro e w' ⟨rfl, rfl⟩) | (go_at_call 9; (with_reducible refine (refIs_yes _ _ hr).mono ?_); rintro e w' ⟨rfl, rfl⟩) | (go_at_call 24; (with_reducible refine (c1 _).mono ?_); rintro e w' ⟨rfl, rfl⟩) | (go_at_call 26; (with_reducible refine (c2 _).mono ?_); rintro e w' ⟨rfl, rfl⟩) | (go_at_call 28; (with_reducible refine (c3 _).mono ?_); rintro e w' ⟨rfl, rfl⟩) | (go_at_call 24; (with_reducible refine (c4 _).mono ?_); rintro e w' ⟨rfl, rfl⟩) | (go_at_call 26; (with_reducible refine (c5 _).mono ?_); rintro e w' ⟨rfl, rfl⟩) | (go_at_call 28; (with_reducible refine (c6 _).mono ?_); rintro e w' ⟨rfl, rfl⟩) | (go_at_call 12; (with_reducible refine (c7 _).mono ?_); rintro e w' ⟨rfl, rfl⟩) | (go_at_call 12; (with_reducible refine (c8 _).mono ?_); rintro e w' ⟨rfl, rfl⟩) | (go_at_call 14; (with_reducible refine (c9 _).mono ?_); rintro e w' ⟨rfl, rfl⟩) | (go_at_call 16; (with_reducible refine (d1 _).mono ?_); rintro e w' ⟨rfl, rfl⟩) | (go_at_call 16; (with_reducible refine (d2 _).mono ?_); rintro e w' ⟨rfl, rfl⟩))
  go_ret
  exact ⟨rfl, by first | exact Below.refl _ _ | exact (Below.refl _ w).alloc (Nat.le_refl _) _ | exact Below.drew ((Below.refl _ w).alloc (Nat.le_refl _) _) | exact ((Below.refl _ w).alloc (Nat.le_refl _) _).alloc (by simp) _ | exact (((Below.refl _ w).alloc (Nat.le_refl _) _).alloc (by simp) _).alloc (by simp; omega) _⟩

theorem walkB (r t T N l : Nat) (hr : isRef (r : Int)) (hl : l < 2097152)
    (c1 : ∀ w, Calls Try.prog 24 #[.int .i64 (r : Int), .int .u64 (t : Int)] w (fun e w' => e = .returned (.int .u64 (T : Int)) ∧ w = w'))
    (c2 : ∀ w, Calls Try.prog 26 #[.int .u64 (T : Int)] w (fun e w' => e = .returned (.int .i64 (r : Int)) ∧ w = w'))
    (c3 : ∀ w, Calls Try.prog 28 #[.int .u64 (T : Int)] w (fun e w' => e = .returned (.int .u64 17592186044415) ∧ w = w'))
    (c4 : ∀ w, Calls Try.prog 24 #[.int .i64 (r : Int), .int .u64 17592186044416] w (fun e w' => e = .returned (.int .u64 (N : Int)) ∧ w = w'))
    (c5 : ∀ w, Calls Try.prog 26 #[.int .u64 (N : Int)] w (fun e w' => e = .returned (.int .i64 (r : Int)) ∧ w = w'))
    (c6 : ∀ w, Calls Try.prog 28 #[.int .u64 (N : Int)] w (fun e w' => e = .returned (.int .u64 0) ∧ w = w'))
    (c7 : ∀ w, Calls Try.prog 12 #[.int .i64 (r : Int), .bool false] w (fun e w' => e = .returned (.int .u64 (l : Int)) ∧ w = w'))
    (c8 : ∀ w, Calls Try.prog 12 #[.int .i64 (r : Int), .bool true] w (fun e w' => e = .returned (.int .u64 ((l : Int) + 1)) ∧ w = w'))
    (c9 : ∀ w, Calls Try.prog 14 #[.int .u64 ((l : Int) + 1)] w (fun e w' => e = .returned (.int .i64 (r : Int)) ∧ w = w'))
    (d1 : ∀ w, Calls Try.prog 16 #[.int .u64 ((l : Int) + 1)] w (fun e w' => e = .returned (.bool true) ∧ w = w'))
    (d2 : ∀ w, Calls Try.prog 16 #[.int .u64 (l : Int)] w (fun e w' => e = .returned (.bool false) ∧ w = w')) (w : World) :
    Calls Try.prog 6 #[.int .i64 (r : Int), .int .u64 (t : Int)] w fun e w' => e = .returned (.bool true) ∧ Below w.heap.size w w' := by
  go_enter Try.func6, Try.ntmps6
  go_wp2_with (first | (go_at_call 8; (with_reducible refine (shown_any _).mono ?_); rintro e w' ⟨rfl, rfl⟩) | (go_at_call 9; (with_reducible refine (refIs_yes _ _ hr).mono ?_); rintro e w' ⟨rfl, rfl⟩) | (go_at_call 24; (with_reducible refine (c1 _).mono ?_); rintro e w' ⟨rfl, rfl⟩) | (go_at_call 26; (with_reducible refine (c2 _).mono ?_); rintro e w' ⟨rfl, rfl⟩) | (go_at_call 28; (with_reducible refine (c3 _).mono ?_); rintro e w' ⟨rfl, rfl⟩) | (go_at_call 24; (with_reducible refine (c4 _).mono ?_); rintro e w' ⟨rfl, rfl⟩) | (go_at_call 26; (with_reducible refine (c5 _).mono ?_); rintro e w' ⟨rfl, rfl⟩) | (go_at_call 28; (with_reducible refine (c6 _).mono ?_); rintro e w' ⟨rfl, rfl⟩) | (go_at_call 12; (with_reducible refine (c7 _).mono ?_); rintro e w' ⟨rfl, rfl⟩) | (go_at_call 12; (with_reducible refine (c8 _).mono ?_); rintro e w' ⟨rfl, rfl⟩) | (go_at_call 14; (with_reducible refine (c9 _).mono ?_); rintro e w' ⟨rfl, rfl⟩) | (go_at_call 16; (with_reducible refine (d1 _).mono ?_); rintro e w' ⟨rfl, rfl⟩) | (go_at_call 16; (with_reducible refine (d2 _).mono ?_); rintro e w' ⟨rfl, rfl⟩))
  go_ret
  exact ⟨rfl, by first | exact Below.refl _ _ | exact (Below.refl _ w).alloc (Nat.le_refl _) _ | exact Below.drew ((Below.refl _ w).alloc (Nat.le_refl _) _) | exact ((Below.refl _ w).alloc (Nat.le_refl _) _).alloc (by simp) _ | exact (((Below.refl _ w).alloc (Nat.le_refl _) _).alloc (by simp) _).alloc (by simp; omega) _⟩

theorem walkN (r : Int) (t : Nat) (hr : ¬ isRef r) (w : World) :
    Calls Try.prog 6 #[.int .i64 r, .int .u64 (t : Int)] w fun e w' => e = .returned (.bool true) ∧ Below w.heap.size w w' := by
  go_enter Try.func6, Try.ntmps6
  go_wp2_with (first | (go_at_call 8; (with_reducible refine (shown_any _).mono ?_); rintro e w' ⟨rfl, rfl⟩) | (go_at_call 9; (with_reducible refine (refIs_no _ _ hr).mono ?_); rintro e w' ⟨rfl, rfl⟩))
  go_ret
  exact ⟨rfl, by first | exact Below.refl _ _ | exact (Below.refl _ w).alloc (Nat.le_refl _) _ | exact Below.drew ((Below.refl _ w).alloc (Nat.le_refl _) _) | exact ((Below.refl _ w).alloc (Nat.le_refl _) _).alloc (by simp) _ | exact (((Below.refl _ w).alloc (Nat.le_refl _) _).alloc (by simp) _).alloc (by simp; omega) _⟩

theorem walk (r t : Nat) (hr : r < 1048576) (ht : t < 18446744073709551616) (w : World) :
    Calls Try.prog 6 #[.int .i64 (r : Int), .int .u64 (t : Int)] w fun e w' => e = .returned (.bool true) ∧ Below w.heap.size w w' := by
  have hg : tagN (topN r t) = t % 17592186044416 := by unfold tagN topN; omega
  have hf : ∀ t w, Calls Try.prog 26 #[.int .u64 ((topN r t : Nat) : Int)] w (fun e w' => e = .returned (.int .i64 (r : Int)) ∧ w = w') := fun t w => by
    have h := first_any (topN r t) (top_lt t hr) w
    rw [first_top t hr] at h
    exact h
  by_cases hc : t % 17592186044416 < 17592186044415
  · exact walkA r t (topN r t) (t % 17592186044416) (topN r (t % 17592186044416 + 1)) (linkN r false) ⟨by omega, by omega⟩ hc (link_lt false hr)
      (fun w => top_any r t hr w) (hf t) (fun w => by
        have h := tag_any (topN r t) w
        rw [hg] at h
        exact h)
      (fun w => top_any r (t % 17592186044416 + 1) hr w) (hf _) (fun w => by
        have h := tag_any (topN r (t % 17592186044416 + 1)) w
        rw [tag_top hr (by omega)] at h
        exact h)
      (fun w => link_any r false (by omega) w) (fun w => link_any r true (by omega) w)
      (fun w => by
        have h := ref_any (linkN r false + 1) (by have := link_lt false hr; omega) w
        rw [show refN (linkN r false + 1) = r from ref_link true hr] at h
        exact h)
      (fun w => by
        have h := mark_any (linkN r false + 1) (by have := link_lt false hr; omega) w
        rw [show markB (linkN r false + 1) = true from mark_link r true] at h
        exact h)
      (fun w => by
        have h := mark_any (linkN r false) (by have := link_lt false hr; omega) w
        rw [mark_link] at h
        exact h) w
  · have e : t % 17592186044416 = 17592186044415 := by omega
    exact walkB r t (topN r t) (topN r 17592186044416) (linkN r false) ⟨by omega, by omega⟩ (link_lt false hr)
      (fun w => top_any r t hr w) (hf t) (fun w => by
        have h := tag_any (topN r t) w
        rw [hg, e] at h
        exact h)
      (fun w => top_any r 17592186044416 hr w) (hf _) (fun w => by
        have h := tag_any (topN r 17592186044416) w
        rw [show tagN (topN r 17592186044416) = 0 by unfold tagN topN; omega] at h
        exact h)
      (fun w => link_any r false (by omega) w) (fun w => link_any r true (by omega) w)
      (fun w => by
        have h := ref_any (linkN r false + 1) (by have := link_lt false hr; omega) w
        rw [show refN (linkN r false + 1) = r from ref_link true hr] at h
        exact h)
      (fun w => by
        have h := mark_any (linkN r false + 1) (by have := link_lt false hr; omega) w
        rw [show markB (linkN r false + 1) = true from mark_link r true] at h
        exact h)
      (fun w => by
        have h := mark_any (linkN r false) (by have := link_lt false hr; omega) w
        rw [mark_link] at h
        exact h) w
section
variable {H : Type} {enc : TypeId × Value → H} {w : World}
theorem open_r {v : Value} {d : DataW H} {ps : List MemPlace} {base : Nat} (hval : Value.okWide Try.prog w .any base 3 v) (h : DataW.Trod enc Try.prog w 0 (fun _ => true) true 3 v d ps) (hs : Sized Try.prog 3 d) (hlt : ∀ z ∈ ps, z.block < w.heap.size) :
    ∃ (r : Int), v = .int .i64 r ∧ (-9223372036854775808 ≤ r ∧ r < 9223372036854775808) := by
  obtain ⟨a0, rfl⟩ := okWide_int Try.underlying3 hval
  obtain ⟨fuel, hf0⟩ := h
  have hf : DataW.trod enc Try.prog w 0 (fun _ => true) true fuel 3 [.int .i64 a0] = some (d, ps) := hf0
  obtain ⟨r, e0, hr⟩ := leaf_i64 Try.underlying3 hf
  cases e0
  exact ⟨_, rfl, hr⟩
theorem open_t {v : Value} {d : DataW H} {ps : List MemPlace} {base : Nat} (hval : Value.okWide Try.prog w .any base 22 v) (h : DataW.Trod enc Try.prog w 0 (fun _ => true) true 22 v d ps) (hs : Sized Try.prog 22 d) (hlt : ∀ z ∈ ps, z.block < w.heap.size) :
    ∃ (t : Nat), v = .int .u64 (t : Int) ∧ t < 18446744073709551616 := by
  obtain ⟨a0, rfl⟩ := okWide_int Try.underlying22 hval
  obtain ⟨fuel, hf0⟩ := h
  have hf : DataW.trod enc Try.prog w 0 (fun _ => true) true fuel 22 [.int .u64 a0] = some (d, ps) := hf0
  obtain ⟨t, e0, ht⟩ := leaf_u64 Try.underlying22 hf
  cases e0
  exact ⟨_, rfl, ht⟩
end

set_option maxRecDepth 100000 in
theorem lifted (os : Os) (started : os.Started) (H : Type) (enc : TypeId × Value → H) :
    ReturnsInHanded {} Try.checked os 6 .any (Rows.wordRoundSpec.pre6 enc Try.prog Try.f6 Rows.wordRoundRow.domain false) (Rows.wordRoundSpec.post enc Try.prog Try.f6 false true false false) := by
  refine law_lifted (C := Try.checked) own started (by kernel_rfl) Try.func6
    (ChangeSpec.witness6 (enc := enc) (C := Try.checked) false ⟨#[], #[.int .i64 0, .int .u64 0], []⟩ 8 (by kernel_rfl) (by kernel_rfl) (by kernel_rfl) (by kernel_rfl))
    (by kernel_rfl) (by kernel_rfl) Try.underlying4 rfl (by kernel_rfl) ?_
  intro W base args ds before hval hA hwt hlt
  have hA' : DataW.TrodAll enc Try.prog W 0 (fun _ => true) true Try.f6.params.toList args.toList ds before := hA
  have hval' : ∀ (j : Nat) t v, Try.f6.params[j]? = some t → args[j]? = some v → Value.okWide Try.prog W .any base t v := hval
  have hwt' : (DataW.weightsEach Try.prog Try.f6.params.toList ds).all (· ≤ reachBytes) = true := hwt
  rw [Try.params6] at hA' hval' hwt'
  obtain ⟨v0, vs0, d0, ds0, p0, q0, hargs, rfl, rfl, k0, r0⟩ := trodAll_cons hA'
  obtain ⟨v1, vs1, d1, ds1, p1, q1, rfl, rfl, rfl, k1, r1⟩ := trodAll_cons r0
  obtain ⟨rfl, rfl, rfl⟩ := trodAll_nil r1
  obtain rfl : args = #[v0, v1] := by cases args; simp_all
  obtain ⟨r, rfl, hr⟩ := open_r (hval' 0 3 v0 rfl rfl) k0 (sized_of hwt' (j := 0) (t := 3) rfl rfl) (fun x hx => hlt x (by simp [hx]))
  obtain ⟨t, rfl, ht⟩ := open_t (hval' 1 22 v1 rfl rfl) k1 (sized_of hwt' (j := 1) (t := 22) rfl rfl) (fun x hx => hlt x (by simp [hx]))
  refine ⟨rfl, ?_⟩
  by_cases hr : isRef r
  · obtain ⟨r0, r1⟩ := hr
    obtain ⟨r, rfl⟩ := Int.eq_ofNat_of_zero_le r0
    exact walk r t (by omega) ht W
  · exact walkN r t hr W

theorem over : Rows.wordRoundRow.holds Try.pinned (OpenSpec.ofChange Rows.wordRoundSpec) :=
  OpenClaim.holds_of_wide 6 Try.f6 rfl rfl rfl rfl rfl rfl rfl ⟨rfl, rfl, rfl, rfl, rfl⟩ rfl rfl rfl rfl rfl (by kernel_rfl) Try.func6 (by kernel_rfl)
    (of_decide_eq_true (by kernel_rfl)) (by unfold Func.isWrapper; first | (rw [if_pos (by decide +kernel)]; kernel_rfl) | (rw [if_neg (by decide +kernel)]; exact ⟨rfl, rfl⟩))
    (fun os started H enc _ => lifted os started H enc)

/-- The statement. -/
theorem proved : Rows.WordRoundSaid :=
  over
#print axioms proved
end Go.Proofs.Ytpliipmbgblbaaa.wordRound
