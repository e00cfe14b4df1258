/-
  The contracts of package pool: link, turn, Pop and Push, whoever makes their accesses.
-/
import Derived.Test.YtadknblgfcgkpaaPolSrv
namespace Go.Proofs.Ytadknblgfcgkpaa
open Go.ChangeShapes Go.WideShapes Go.ChangeAt Go.RowKit Go.BigFrame
set_option linter.unusedVariables false
set_option maxRecDepth 100000

theorem fieldN_lt {t r f : Nat} (ht : t ≤ 64) (hr : r < 1048576) (hf : f < 8) : fieldN t r f < 9000000 := by unfold fieldN; omega
theorem tagN_lt {x : Nat} (h : x < 18446744073709551616) : tagN x < 17592186044416 := by unfold tagN; omega
theorem topN_lt {r : Nat} (h : r < 1048576) (t : Nat) : topN r t < 18446744073709551616 := by unfold topN; omega
theorem i64_nat {n : Nat} (h : n < 9223372036854775808) : -9223372036854775808 ≤ (n : Int) ∧ (n : Int) < 9223372036854775808 := by omega
theorem link_any (t r : Nat) (ht : t ≤ 64) (h1 : 1 ≤ r) (hr : r < 1048576) (w : World) :
    Calls Try.prog 36 #[.int .i64 (t : Int), .int .i64 (r : Int)] w fun e w' => e = .returned (.int .i64 (fieldN t r 7 : Nat)) ∧ w = w' := by
  have HF : ∀ w, Calls Try.prog 52 #[.int .i64 (t : Int), .int .i64 (r : Int), .int .i64 7] w fun e w' => e = .returned (.int .i64 (fieldN t r 7 : Nat)) ∧ w = w' := fun w => field_any t r 7 (by omega) h1 (by omega) (by omega) w
  clear ht h1 hr
  go_enter Try.func36, Try.ntmps36
  go_wp2_with (go_at_call 52; (with_reducible refine (HF _).mono ?_); rintro e w' ⟨rfl, rfl⟩)
  go_ret
  exact ⟨rfl, rfl⟩

/-! ### The programs, plain -/
section
variable {S : Type} (T : S → Int → Int → Nat → Nat → Tell S) (t : Nat)
/-- Pop, as long as its count lasts. -/
def popRun : Nat → S → Ran S
  | 0, _ => .bad
  | n + 1, s =>
    match T s 0 1 0 0 with
    | .bad => .bad
    | .left => .left 0 1 0 0
    | .told w s1 =>
      if firstN w = 0 then .done 0 s1 else
      match T s1 0 ((fieldN t (firstN w) 7 : Nat) : Int) 0 0 with
      | .bad => .bad
      | .left => .left 0 ((fieldN t (firstN w) 7 : Nat) : Int) 0 0
      | .told x s2 =>
        match T s2 2 1 w (topN (firstN x) (tagN w + 1)) with
        | .bad => .bad
        | .left => .left 2 1 w (topN (firstN x) (tagN w + 1))
        | .told d s3 => if d = 1 then .done (firstN w) s3 else popRun n s3
/-- Push of r. -/
def pushRun (r : Nat) : Nat → S → Ran S
  | 0, _ => .bad
  | n + 1, s =>
    match T s 0 1 0 0 with
    | .bad => .bad
    | .left => .left 0 1 0 0
    | .told w s1 =>
      match T s1 1 ((fieldN t r 7 : Nat) : Int) (firstN w) 0 with
      | .bad => .bad
      | .left => .left 1 ((fieldN t r 7 : Nat) : Int) (firstN w) 0
      | .told _ s2 =>
        match T s2 2 1 w (topN r (tagN w + 1)) with
        | .bad => .bad
        | .left => .left 2 1 w (topN r (tagN w + 1))
        | .told d s3 => if d = 1 then .done 0 s3 else pushRun r n s3
end

/-! ### turn -/
section
variable {dv : Value} {S : Type} (V : Srv dv S)
theorem turn_told {s s' : S} {n x r : Nat} (hx : x < 18446744073709551616) (hr : r < 1048576) (ht : V.tell s 2 1 x (topN r (tagN x + 1)) = .told n s') (w : World) (hI : V.I s w) :
    Calls Try.prog 38 #[dv, .int .u64 (x : Int), .int .i64 (r : Int)] w (fun e w' => e = .returned (.bool ((n : Int) == 1)) ∧ V.I s' w' ∧ But V.g w w') := by
  have hw : IntKind.u64.wrap (((tagN x : Nat) : Int) + 1) = ((tagN x + 1 : Nat) : Int) := by rw [IntKind.wrap_u64]; have := tagN_lt hx; omega
  have HT := fun w => top_any r (tagN x + 1) hr w
  have HC := V.cas ht (by decide) hx (topN_lt hr _)
  have HI := Lib.hid hI
  clear hI hx hr ht
  obtain ⟨T1, hT1⟩ : ∃ T, tagN x + 1 = T := ⟨_, rfl⟩
  rw [hT1] at hw HT HC
  clear hT1
  go_enter Try.func38, Try.ntmps38
  go_wp2_with (first
    | (go_at_call 56; (with_reducible refine (tag_any x _).mono ?_); rintro e w' ⟨rfl, rfl⟩)
    | (go_at_call 55; (with_reducible refine (HT _).mono ?_); rintro e w' ⟨rfl, rfl⟩)
    | (go_at_call 54; (with_reducible refine (HC _ HI.out).mono ?_); clear HC; rintro e w' ⟨rfl, hi⟩; have HJ := Lib.hid hi; clear hi))
  go_ret
  exact ⟨rfl, HJ.out⟩
theorem turn_left {s : S} {x r : Nat} (hx : x < 18446744073709551616) (hr : r < 1048576) (ht : V.tell s 2 1 x (topN r (tagN x + 1)) = .left) (w : World) (hI : V.I s w) :
    Calls Try.prog 38 #[dv, .int .u64 (x : Int), .int .i64 (r : Int)] w (Quits V.pv (V.L 2 1 x (topN r (tagN x + 1)))) := by
  have hw : IntKind.u64.wrap (((tagN x : Nat) : Int) + 1) = ((tagN x + 1 : Nat) : Int) := by rw [IntKind.wrap_u64]; have := tagN_lt hx; omega
  have HT := fun w => top_any r (tagN x + 1) hr w
  have HC := V.casL ht (by decide) hx (topN_lt hr _)
  have HI := Lib.hid hI
  clear hI hx hr ht
  obtain ⟨T1, hT1⟩ : ∃ T, tagN x + 1 = T := ⟨_, rfl⟩
  rw [hT1] at hw HT HC ⊢
  clear hT1
  go_enter Try.func38, Try.ntmps38
  go_wp2_with (first
    | (go_at_call 56; (with_reducible refine (tag_any x _).mono ?_); rintro e w' ⟨rfl, rfl⟩)
    | (go_at_call 55; (with_reducible refine (HT _).mono ?_); rintro e w' ⟨rfl, rfl⟩)
    | (go_at_call 54; (with_reducible refine (HC _ HI.out).mono ?_); clear HC; rintro e w' ⟨rfl, hi⟩; exact ⟨rfl, rfl, hi⟩))

/-! ### Pop -/
theorem eq0 {n : Nat} (h : n = 0) : ((n : Int) == 0) = true := by rw [beq_iff_eq]; omega
theorem ne0 {n : Nat} (h : ¬ n = 0) : ((n : Int) == 0) = false := by rw [beq_eq_false_iff_ne]; omega
theorem eq1 {n : Nat} (h : n = 1) : ((n : Int) == 1) = true := by rw [beq_iff_eq]; omega
theorem ne1 {n : Nat} (h : ¬ n = 1) : ((n : Int) == 1) = false := by rw [beq_eq_false_iff_ne]; omega
set_option maxHeartbeats 4000000 in
set_option maxRecDepth 100000 in
theorem pop_at (t : Nat) (ht : t ≤ 64) (n : Nat) (s : S) (R : Ran S) (hR : popRun V.tell t n s = R) (hb : R ≠ .bad) (w : World) (hI : V.I s w) :
    Calls Try.prog 20 #[dv, .int .i64 (t : Int)] w (RunEnd V w (fun r => .int .i64 (r : Int)) R) := by
  have HI0 := Lib.hid hI
  have HB := Lib.hid hb
  have HR := Lib.hid hR
  have HT := Lib.hid ht
  clear hI hb hR ht
  go_enter Try.func20, Try.ntmps20
  go_wp2_with fail
  refine wp_scope_again 0 (fun n a' w' => ∃ (s : S) (u5 u6 u7 u8 u9 u10 u11 u12 u13 u14 u15 u16 u17 u18 u19 u20 u21 u22 u23 u24 : Value), a' = { tmps := #[dv, .int .i64 (t : Int), undef, undef, .int .i64 0, u5, u6, u7, u8, u9, u10, u11, u12, u13, u14, u15, u16, u17, u18, u19, u20, u21, u22, u23, u24, undef], defers := [] } ∧ V.I s w' ∧ But V.g w w' ∧ popRun V.tell t n s = R) rfl ?_ ?_
  case refine_2 =>
    intro key
    exact wp_seq (wp_label (key n _ _ ⟨s, _, _, _, _, _, _, _, _, _, _, _, _, _, _, _, _, _, _, _, _, rfl, HI0.out, But.refl _ _, HR.out⟩))
  case refine_1 =>
    clear HI0 HR
    clear s n
    rintro n a' z ⟨s, u5, u6, u7, u8, u9, u10, u11, u12, u13, u14, u15, u16, u17, u18, u19, u20, u21, u22, u23, u24, rfl, hI, hbt, hR⟩
    cases n with
    | zero => exact absurd hR.symm HB.out
    | succ n =>
    have HI := Lib.hid hI
    have HB0 := Lib.hid hbt
    clear hI hbt
    unfold popRun at hR
    cases h1 : V.tell s 0 1 0 0 with
    | bad => rw [h1] at hR; exact absurd hR.symm HB.out
    | left =>
      rw [h1] at hR
      have HL1 := V.loadL h1 (by decide)
      have HR : Hid ((Ran.left 0 1 0 0 : Ran S) = R) := Lib.hid hR
      clear HB h1 hR
      go_wp2_with (first | (go_at_call 34; (with_reducible refine (HL1 _ HI.out).mono ?_); clear HL1; rintro e w2 ⟨rfl, hi⟩; refine ⟨rfl, ?_⟩; rw [← HR.out]; exact ⟨rfl, hi⟩))
    | told x s1 =>
    rw [h1] at hR
    dsimp only at hR
    have hx := V.small h1
    have HL1 := V.load h1 (by decide)
    clear h1
    by_cases hf : firstN x = 0
    · have d1 := eq0 hf
      have HR : Hid ((Ran.done 0 s1 : Ran S) = R) := Lib.hid (by simpa only [hf, if_true] using hR)
      clear HB hR
      rw [hf] at d1
      have HF := fun w => first_any x hx w
      rw [hf] at HF
      clear hf hx
      go_wp2_with (first | (go_at_call 34; (with_reducible refine (HL1 _ HI.out).mono ?_); clear HL1; rintro e w2 ⟨rfl, hi, hbt⟩; have HI1 := Lib.hid hi; have HB1 := Lib.hid (HB0.out.trans hbt); clear hi hbt) | (go_at_call 37; (with_reducible refine (HF _).mono ?_); rintro e w' ⟨rfl, rfl⟩))
      simp only [Exit.jump]
      go_ret
      rw [← HR.out]
      exact ⟨rfl, HI1.out, HB1.out⟩
    · have d1 := ne0 hf
      simp only [if_neg hf] at hR
      have hrl := first_lt x
      have HK := fun w => link_any t (firstN x) HT.out (by omega) hrl w
      have hfl := i64_nat (n := fieldN t (firstN x) 7) (by have := fieldN_lt HT.out hrl (f := 7) (by omega); omega)
      have HX := Lib.hid hx
      cases h2 : V.tell s1 0 ((fieldN t (firstN x) 7 : Nat) : Int) 0 0 with
      | bad => rw [h2] at hR; exact absurd hR.symm HB.out
      | left =>
        rw [h2] at hR
        have HL2 := V.loadL h2 hfl
        have HR : Hid ((Ran.left 0 ((fieldN t (firstN x) 7 : Nat) : Int) 0 0 : Ran S) = R) := Lib.hid hR
        have HF := fun w => first_any x hx w
        clear HB h2 hfl hf hrl hx hR
        generalize fieldN t (firstN x) 7 = fl at *
        generalize firstN x = r at *
        go_wp2_with (first | (go_at_call 34; (with_reducible refine (HL1 _ HI.out).mono ?_); clear HL1; rintro e w2 ⟨rfl, hi, hbt⟩; have HI1 := Lib.hid hi; have HB1 := Lib.hid (HB0.out.trans hbt); clear hi hbt) | (go_at_call 37; (with_reducible refine (HF _).mono ?_); rintro e w' ⟨rfl, rfl⟩) | (go_at_call 36; (with_reducible refine (HK _).mono ?_); rintro e w' ⟨rfl, rfl⟩) | (go_at_call 34; (with_reducible refine (HL2 _ HI1.out).mono ?_); clear HL2; rintro e w3 ⟨rfl, hi⟩; refine ⟨rfl, ?_⟩; rw [← HR.out]; exact ⟨rfl, hi⟩))
      | told y s2 =>
      rw [h2] at hR
      dsimp only at hR
      have hy := V.small h2
      have HL2 := V.load h2 hfl
      clear h2
      have hyl := first_lt y
      cases h3 : V.tell s2 2 1 x (topN (firstN y) (tagN x + 1)) with
      | bad => rw [h3] at hR; exact absurd hR.symm HB.out
      | left =>
        rw [h3] at hR
        have HR : Hid ((Ran.left 2 1 x (topN (firstN y) (tagN x + 1)) : Ran S) = R) := Lib.hid hR
        have HC := turn_left V hx hyl h3
        have HF := fun w => first_any x hx w
        clear HB h3 hf hrl hx hfl hyl hR
        generalize fieldN t (firstN x) 7 = fl at *
        generalize firstN x = r at *
        go_wp2_with (first | (go_at_call 34; (with_reducible refine (HL1 _ HI.out).mono ?_); clear HL1; rintro e w2 ⟨rfl, hi, hbt⟩; have HI1 := Lib.hid hi; have HB1 := Lib.hid (HB0.out.trans hbt); clear hi hbt) | (go_at_call 37; (with_reducible refine (HF _).mono ?_); rintro e w' ⟨rfl, rfl⟩) | (go_at_call 36; (with_reducible refine (HK _).mono ?_); rintro e w' ⟨rfl, rfl⟩) | (go_at_call 34; (with_reducible refine (HL2 _ HI1.out).mono ?_); clear HL2; rintro e w3 ⟨rfl, hi, hbt⟩; have HI2 := Lib.hid hi; have HB2 := Lib.hid (HB1.out.trans hbt); clear hi hbt) | (go_at_call 37; (with_reducible refine (first_any y hy _).mono ?_); rintro e w' ⟨rfl, rfl⟩) | (go_at_call 38; (with_reducible refine (HC _ HI2.out).mono ?_); clear HC; rintro e w4 ⟨rfl, hi⟩; refine ⟨rfl, ?_⟩; rw [← HR.out]; exact ⟨rfl, hi⟩))
      | told d s3 =>
      rw [h3] at hR
      dsimp only at hR
      have HC := turn_told V hx hyl h3
      have HF := fun w => first_any x hx w
      clear h3 hf hrl hx hfl hyl
      by_cases hd : d = 1
      · have dd := eq1 hd
        have HR : Hid ((Ran.done (firstN x) s3 : Ran S) = R) := Lib.hid (by simpa only [if_pos hd] using hR)
        clear hd HB hR
        generalize fieldN t (firstN x) 7 = fl at *
        generalize firstN x = r at *
        go_wp2_with (first | (go_at_call 34; (with_reducible refine (HL1 _ HI.out).mono ?_); clear HL1; rintro e w2 ⟨rfl, hi, hbt⟩; have HI1 := Lib.hid hi; have HB1 := Lib.hid (HB0.out.trans hbt); clear hi hbt) | (go_at_call 37; (with_reducible refine (HF _).mono ?_); rintro e w' ⟨rfl, rfl⟩) | (go_at_call 36; (with_reducible refine (HK _).mono ?_); rintro e w' ⟨rfl, rfl⟩) | (go_at_call 34; (with_reducible refine (HL2 _ HI1.out).mono ?_); clear HL2; rintro e w3 ⟨rfl, hi, hbt⟩; have HI2 := Lib.hid hi; have HB2 := Lib.hid (HB1.out.trans hbt); clear hi hbt) | (go_at_call 37; (with_reducible refine (first_any y hy _).mono ?_); rintro e w' ⟨rfl, rfl⟩) | (go_at_call 38; (with_reducible refine (HC _ HI2.out).mono ?_); clear HC; rintro e w4 ⟨rfl, hi, hbt⟩; have HI3 := Lib.hid hi; have HB3 := Lib.hid (HB2.out.trans hbt); clear hi hbt))
        simp only [Exit.jump]
        go_ret
        rw [← HR.out]
        exact ⟨rfl, HI3.out, HB3.out⟩
      · have dd := ne1 hd
        simp only [if_neg hd] at hR
        have HR := Lib.hid hR
        clear hd hR
        generalize fieldN t (firstN x) 7 = fl at *
        generalize firstN x = r at *
        go_wp2_with (first | (go_at_call 34; (with_reducible refine (HL1 _ HI.out).mono ?_); clear HL1; rintro e w2 ⟨rfl, hi, hbt⟩; have HI1 := Lib.hid hi; have HB1 := Lib.hid (HB0.out.trans hbt); clear hi hbt) | (go_at_call 37; (with_reducible refine (HF _).mono ?_); rintro e w' ⟨rfl, rfl⟩) | (go_at_call 36; (with_reducible refine (HK _).mono ?_); rintro e w' ⟨rfl, rfl⟩) | (go_at_call 34; (with_reducible refine (HL2 _ HI1.out).mono ?_); clear HL2; rintro e w3 ⟨rfl, hi, hbt⟩; have HI2 := Lib.hid hi; have HB2 := Lib.hid (HB1.out.trans hbt); clear hi hbt) | (go_at_call 37; (with_reducible refine (first_any y hy _).mono ?_); rintro e w' ⟨rfl, rfl⟩) | (go_at_call 38; (with_reducible refine (HC _ HI2.out).mono ?_); clear HC; rintro e w4 ⟨rfl, hi, hbt⟩; have HI3 := Lib.hid hi; have HB3 := Lib.hid (HB2.out.trans hbt); clear hi hbt))
        go_step3
        exact ⟨rfl, n, by omega, s3, _, _, _, _, _, _, _, _, _, _, _, _, _, _, _, _, _, _, _, _, rfl, HI3.out, HB3.out, HR.out⟩

set_option maxHeartbeats 4000000 in
set_option maxRecDepth 100000 in
theorem push_at (t : Nat) (ht : t ≤ 64) (r : Nat) (h1 : 1 ≤ r) (hr : r < 1048576) (n : Nat) (s : S) (R : Ran S) (hR : pushRun V.tell t r n s = R) (hb : R ≠ .bad) (w : World) (hI : V.I s w) :
    Calls Try.prog 19 #[dv, .int .i64 (t : Int), .int .i64 (r : Int)] w (RunEnd V w (fun _ => .tuple #[]) R) := by
  have HI0 := Lib.hid hI
  have HB := Lib.hid hb
  have HR := Lib.hid hR
  have HT := Lib.hid ht
  have HK := fun w => link_any t r ht h1 hr w
  have hfl := i64_nat (n := fieldN t r 7) (by have := fieldN_lt ht hr (f := 7) (by omega); omega)
  obtain ⟨df, d1, d2, rfl⟩ := V.isFn
  have hsm := eql_do df d1 d2
  have HRL := Lib.hid hr
  clear hI hb hR ht h1 hr
  go_enter Try.func19, Try.ntmps19
  go_wp2_with fail
  refine wp_scope_again 0 (fun n a' w' => ∃ (s : S) (u6 u7 u9 u10 u11 u12 u13 u14 u15 u16 u17 u18 u19 u20 u21 u22 u23 : Value), a' = { tmps := #[.func (.func df) d1 d2, .int .i64 (t : Int), .int .i64 (r : Int), undef, undef, undef, u6, u7, .bool false, u9, u10, u11, u12, u13, u14, u15, u16, u17, u18, u19, u20, u21, u22, u23], defers := [] } ∧ V.I s w' ∧ But V.g w w' ∧ pushRun V.tell t r n s = R) rfl ?_ ?_
  case refine_2 =>
    intro key
    go_wp2_with fail
    refine wp_label ?_
    simp only [Exit.then]
    rename_i hk
    exact hk _ _ (key n _ _ ⟨s, _, _, _, _, _, _, _, _, _, _, _, _, _, _, _, _, _, rfl, HI0.out, But.refl _ _, HR.out⟩)
  case refine_1 =>
    clear HI0 HR
    clear s n
    rintro n a' z ⟨s, u6, u7, u9, u10, u11, u12, u13, u14, u15, u16, u17, u18, u19, u20, u21, u22, u23, rfl, hI, hbt, hR⟩
    cases n with
    | zero => exact absurd hR.symm HB.out
    | succ n =>
    have HI := Lib.hid hI
    have HB0 := Lib.hid hbt
    clear hI hbt
    unfold pushRun at hR
    cases h1 : V.tell s 0 1 0 0 with
    | bad => rw [h1] at hR; exact absurd hR.symm HB.out
    | left =>
      rw [h1] at hR
      have HL1 := V.loadL h1 (by decide)
      have HR : Hid ((Ran.left 0 1 0 0 : Ran S) = R) := Lib.hid hR
      clear HB h1 hR
      go_wp2_with (first | (go_at_call 34; (with_reducible refine (HL1 _ HI.out).mono ?_); clear HL1; rintro e w2 ⟨rfl, hi⟩; refine ⟨rfl, ?_⟩; rw [← HR.out]; exact ⟨rfl, hi⟩))
    | told x s1 =>
    rw [h1] at hR
    dsimp only at hR
    have hx := V.small h1
    have HL1 := V.load h1 (by decide)
    clear h1
    have hrl := first_lt x
    have HF := fun w => first_any x hx w
    have hcv : IntKind.u64.wrap ((firstN x : Nat) : Int) = ((firstN x : Nat) : Int) := by rw [IntKind.wrap_u64]; omega
    cases h2 : V.tell s1 1 ((fieldN t r 7 : Nat) : Int) (firstN x) 0 with
    | bad => rw [h2] at hR; exact absurd hR.symm HB.out
    | left =>
      rw [h2] at hR
      have HL2 := V.storeL h2 hfl (by omega)
      have HR : Hid ((Ran.left 1 ((fieldN t r 7 : Nat) : Int) (firstN x) 0 : Ran S) = R) := Lib.hid hR
      clear HB h2 hfl hrl hx hR
      generalize fieldN t r 7 = fl at *
      generalize firstN x = f at *
      go_wp2_with (first | (go_at_call 34; (with_reducible refine (HL1 _ HI.out).mono ?_); clear HL1; rintro e w2 ⟨rfl, hi, hbt⟩; have HI1 := Lib.hid hi; have HB1 := Lib.hid (HB0.out.trans hbt); clear hi hbt) | (go_at_call 37; (with_reducible refine (HF _).mono ?_); rintro e w' ⟨rfl, rfl⟩) | (go_at_call 36; (with_reducible refine (HK _).mono ?_); rintro e w' ⟨rfl, rfl⟩) | (go_at_call 35; (with_reducible refine (HL2 _ HI1.out).mono ?_); clear HL2; rintro e w3 ⟨rfl, hi⟩; refine ⟨rfl, ?_⟩; rw [← HR.out]; exact ⟨rfl, hi⟩))
    | told y s2 =>
    rw [h2] at hR
    dsimp only at hR
    have HL2 := V.store h2 hfl (by omega)
    clear h2
    cases h3 : V.tell s2 2 1 x (topN r (tagN x + 1)) with
    | bad => rw [h3] at hR; exact absurd hR.symm HB.out
    | left =>
      rw [h3] at hR
      have HR : Hid ((Ran.left 2 1 x (topN r (tagN x + 1)) : Ran S) = R) := Lib.hid hR
      have HC := turn_left V hx HRL.out h3
      clear HB h3 hrl hx hfl hR
      generalize fieldN t r 7 = fl at *
      generalize firstN x = f at *
      go_wp2_with (first | (go_at_call 34; (with_reducible refine (HL1 _ HI.out).mono ?_); clear HL1; rintro e w2 ⟨rfl, hi, hbt⟩; have HI1 := Lib.hid hi; have HB1 := Lib.hid (HB0.out.trans hbt); clear hi hbt) | (go_at_call 37; (with_reducible refine (HF _).mono ?_); rintro e w' ⟨rfl, rfl⟩) | (go_at_call 36; (with_reducible refine (HK _).mono ?_); rintro e w' ⟨rfl, rfl⟩) | (go_at_call 35; (with_reducible refine (HL2 _ HI1.out).mono ?_); clear HL2; rintro e w3 ⟨rfl, hi, hbt⟩; have HI2 := Lib.hid hi; have HB2 := Lib.hid (HB1.out.trans hbt); clear hi hbt) | (go_at_call 38; (with_reducible refine (HC _ HI2.out).mono ?_); clear HC; rintro e w4 ⟨rfl, hi⟩; refine ⟨rfl, ?_⟩; rw [← HR.out]; exact ⟨rfl, hi⟩))
    | told d s3 =>
    rw [h3] at hR
    dsimp only at hR
    have HC := turn_told V hx HRL.out h3
    clear h3 hrl hx hfl
    by_cases hd : d = 1
    · have dd := eq1 hd
      have HR : Hid ((Ran.done 0 s3 : Ran S) = R) := Lib.hid (by simpa only [if_pos hd] using hR)
      clear hd HB hR
      generalize fieldN t r 7 = fl at *
      generalize firstN x = f at *
      go_wp2_with (first | (go_at_call 34; (with_reducible refine (HL1 _ HI.out).mono ?_); clear HL1; rintro e w2 ⟨rfl, hi, hbt⟩; have HI1 := Lib.hid hi; have HB1 := Lib.hid (HB0.out.trans hbt); clear hi hbt) | (go_at_call 37; (with_reducible refine (HF _).mono ?_); rintro e w' ⟨rfl, rfl⟩) | (go_at_call 36; (with_reducible refine (HK _).mono ?_); rintro e w' ⟨rfl, rfl⟩) | (go_at_call 35; (with_reducible refine (HL2 _ HI1.out).mono ?_); clear HL2; rintro e w3 ⟨rfl, hi, hbt⟩; have HI2 := Lib.hid hi; have HB2 := Lib.hid (HB1.out.trans hbt); clear hi hbt) | (go_at_call 38; (with_reducible refine (HC _ HI2.out).mono ?_); clear HC; rintro e w4 ⟨rfl, hi, hbt⟩; have HI3 := Lib.hid hi; have HB3 := Lib.hid (HB2.out.trans hbt); clear hi hbt))
      simp only [Exit.jump]
      go_end0
      rw [← HR.out]
      exact ⟨rfl, HI3.out, HB3.out⟩
    · have dd := ne1 hd
      simp only [if_neg hd] at hR
      have HR := Lib.hid hR
      clear hd hR
      generalize fieldN t r 7 = fl at *
      generalize firstN x = f at *
      go_wp2_with (first | (go_at_call 34; (with_reducible refine (HL1 _ HI.out).mono ?_); clear HL1; rintro e w2 ⟨rfl, hi, hbt⟩; have HI1 := Lib.hid hi; have HB1 := Lib.hid (HB0.out.trans hbt); clear hi hbt) | (go_at_call 37; (with_reducible refine (HF _).mono ?_); rintro e w' ⟨rfl, rfl⟩) | (go_at_call 36; (with_reducible refine (HK _).mono ?_); rintro e w' ⟨rfl, rfl⟩) | (go_at_call 35; (with_reducible refine (HL2 _ HI1.out).mono ?_); clear HL2; rintro e w3 ⟨rfl, hi, hbt⟩; have HI2 := Lib.hid hi; have HB2 := Lib.hid (HB1.out.trans hbt); clear hi hbt) | (go_at_call 38; (with_reducible refine (HC _ HI2.out).mono ?_); clear HC; rintro e w4 ⟨rfl, hi, hbt⟩; have HI3 := Lib.hid hi; have HB3 := Lib.hid (HB2.out.trans hbt); clear hi hbt))
      go_step3
      exact ⟨rfl, n, by omega, s3, _, _, _, _, _, _, _, _, _, _, _, _, _, _, _, _, _, rfl, HI3.out, HB3.out, HR.out⟩
end
end Go.Proofs.Ytadknblgfcgkpaa
