/-
  The document's example (stage 12).
-/
import Derived.Test.YtadknblgfcgkpaaPolPlain
import Derived.Test.YtadknblgfcgkpaaAccOther
import Derived.Test.YtadknblgfcgkpaaPolRef
namespace Go.Proofs.Ytadknblgfcgkpaa
open Go.ChangeShapes Go.WideShapes Go.ChangeAt Go.RowKit Go.BigFrame Go.Deep
set_option linter.unusedVariables false
set_option maxRecDepth 100000

/-- A new world, its root a letter. -/
def NewWdR (w : World) (t c : Int) (m sz : Nat) (nf : Nat → Nat) (r : Nat) (e : Ending) (w' : World) : Prop :=
  ∃ A k R ra S sa, e = .returned (.agg #[.int .i64 t, .int .i64 c, .slice A sz k, .int .u64 (r : Int), .slice R m ra, .slice S m sa]) ∧ AtW w' A sz nf ∧ StmsAt w' R m (zerosS m) ∧ StmsAt w' S m (zerosS m) ∧ Below w.heap.size w w' ∧
    ∀ P : Nat → Prop, (∀ b, w.heap.size ≤ b → P b) → OffW P A sz ∧ OffS P w' R m ∧ OffS P w' S m
theorem newWdR (t c : Nat) (h1 : 1 ≤ t) (h2 : t ≤ 64) (h3 : c ≤ 65536) {r : Nat} (hr : r = 0) (w : World) : Calls Try.prog 14 #[.int .i64 (t : Int), .int .i64 (c : Int)] w (NewWdR w t c t (sizeN t c) (newF t c) r) := by
  subst hr
  exact newWd_at t c h1 h2 h3 w
/-- Four operations alone on a new memory for two threads of three records. -/
theorem shown_runs : ∃ G1 G2 G3 G4 : Nat → Nat, aloneRun 2 1 0 (sizeN 2 3) 10 [] (newF 2 3) = some (1, G1) ∧ aloneRun 2 1 0 (sizeN 2 3) 10 [] G1 = some (2, G2) ∧ aloneRun 2 2 ((1 : Nat) : Int) (sizeN 2 3) 10 [] G2 = some (0, G3) ∧ aloneRun 2 1 0 (sizeN 2 3) 10 [] G3 = some (1, G4) := by
  have g0 : ∀ j, newF 2 3 j < 18446744073709551616 := newF_lt (by decide)
  have f0 : FreeIs 2 (newF 2 3) [1, 2, 3] := new_free (t := 2) (c := 3) (by decide)
  have g1 : ∀ j, popG 2 (newF 2 3) j < 18446744073709551616 := popG_lt g0
  have g2 : ∀ j, popG 2 (popG 2 (newF 2 3)) j < 18446744073709551616 := popG_lt g1
  have f2 := f0.pop.pop
  have g3 : ∀ j, pushG 2 1 (popG 2 (popG 2 (newF 2 3))) j < 18446744073709551616 := pushG_lt (by decide) g2
  have f3 := f2.push (r := 1) (by decide) (by decide) (by decide)
  exact ⟨_, _, _, _, run_pop g0 6 f0 (by decide), run_pop g1 6 f0.pop (by decide), run_push g2 6 (by decide) (by decide), run_pop g3 6 f3 (by decide)⟩
set_option maxHeartbeats 8000000 in
set_option maxRecDepth 100000 in
theorem poolShown (w : World) : Calls Try.prog 8 #[] w (Kept w (.bool true)) := by
  obtain ⟨G1, G2, G3, G4, r1, r2, r3, r4⟩ := shown_runs
  obtain ⟨r, hr⟩ : ∃ r : Nat, r = 0 := ⟨0, rfl⟩
  have HN : ∀ w, Calls Try.prog 14 #[.int .i64 2, .int .i64 3] w (NewWdR w 2 3 2 (sizeN 2 3) (newF 2 3) r) := fun w => newWdR 2 3 (by decide) (by decide) (by decide) hr w
  have hsz : sizeN 2 3 ≤ 1000000 := by decide
  have HC : ∀ (me k u : Int) (N : Nat) (er : Int) (G GF : Nat → Nat), (k = 2 → 1 ≤ u ∧ u < 1048576) → aloneRun 2 k u (sizeN 2 3) 10 [] G = some (N, GF) → ansE k = er → ∀ (A : Option Addr) (ka : Nat) (R : Option Addr) (ra : Nat) (S : Option Addr) (sa : Nat) (w : World), Hid (AtW w A (sizeN 2 3) G) → Hid (StmsAt w R 2 (zerosS 2)) → Hid (StmsAt w S 2 (zerosS 2)) →
      Calls Try.prog 15 #[.agg #[.int .i64 2, .int .i64 3, .slice A (sizeN 2 3) ka, .int .u64 (r : Int), .slice R 2 ra, .slice S 2 sa], .int .i64 me, .agg #[.int .i64 k, .int .i64 u, .int .i64 0, .int .u64 0], .int .i64 9] w (AloneEnd w 2 3 A (sizeN 2 3) r R S 2 GF (zerosS 2) (zerosS 2) er N) := by
    intro me k u N er G GF hu hrr he A ka R ra S sa w h0 h1 h2
    subst he
    exact alone_at 2 (by decide) 3 me k u 0 0 hu 9 (by decide) A (sizeN 2 3) ka r R 2 ra S sa hsz G (zerosS 2) (zerosS 2) N GF hrr w h0 h1 h2
  have C1 := HC 0 1 0 1 0 _ _ (by decide) r1 rfl
  have C2 := HC 1 1 0 2 0 _ _ (by decide) r2 rfl
  have C3 : ∀ (A : Option Addr) (ka : Nat) (R : Option Addr) (ra : Nat) (S : Option Addr) (sa : Nat) (w : World), Hid (AtW w A (sizeN 2 3) G2) → Hid (StmsAt w R 2 (zerosS 2)) → Hid (StmsAt w S 2 (zerosS 2)) →
      Calls Try.prog 15 #[.agg #[.int .i64 2, .int .i64 3, .slice A (sizeN 2 3) ka, .int .u64 (r : Int), .slice R 2 ra, .slice S 2 sa], .int .i64 0, .agg #[.int .i64 2, .int .i64 1, .int .i64 0, .int .u64 0], .int .i64 9] w (AloneEnd w 2 3 A (sizeN 2 3) r R S 2 G3 (zerosS 2) (zerosS 2) 0 0) := HC 0 2 1 0 0 _ _ (by decide) r3 rfl
  have C4 := HC 1 1 0 1 0 _ _ (by decide) r4 rfl
  have C5 : ∀ w, Calls Try.prog 10 #[.int .i64 2, .int .i64 3, .int .i64 0, .agg #[.int .i64 0, .int .i64 0, .int .i64 0, .int .u64 0], .slice none 0 0] w (RunE 1 false 0 0 w) := fun w => next_done 2 (by decide) 3 0 0 0 0 0 (by decide) none 0 0 [] (Nat.le_refl _) w (Lib.hid (LogAt.nil _ _)) 0 [] rfl
  clear HC r1 r2 r3 r4 hsz hr
  generalize sizeN 2 3 = n at *
  generalize newF 2 3 = G0 at *
  go_enter Try.func8, Try.ntmps8
  go_wp2_with fail
  (with_reducible refine (HN _).mono ?_)
  clear HN
  rintro e w0 ⟨A0, ka0, R0, ra0, S0, sa0, rfl, ha, hs0, hs1, hb, _⟩
  go_upto_region 2 with fail
  have W0 := Lib.hid (WdAt.made0 (t := 2) (c := 3) (k := ka0) (r := r) (ra := ra0) (sa := sa0) w0 51 ha hs0 hs1)
  have BB := Lib.hid (hb.trans ((al_below w0 (.cells #[.int .i64 2, .int .i64 3, .slice A0 n ka0, .int .u64 (r : Int), .slice R0 2 ra0, .slice S0 2 sa0] 51)).mono hb.size))
  clear ha hs0 hs1 hb
  generalize w0.alloc (.cells #[.int .i64 2, .int .i64 3, .slice A0 n ka0, .int .u64 (r : Int), .slice R0 2 ra0, .slice S0 2 sa0] 51) = x0 at W0 BB ⊢
  generalize w0.heap.size = b0 at W0 ⊢
  obtain ⟨c0, c1, c2, c3, c4, c5⟩ := W0.out.cells
  go_wp2_with fail
  (with_reducible refine (C1 A0 ka0 R0 ra0 S0 sa0 _ W0.out.gA W0.out.g0 W0.out.g1).mono ?_)
  clear c0 c1 c2 c3 c4 c5
  rintro e w1 ⟨A1, ka1, R1, ra1, S1, sa1, rfl, ha, hs0, hs1, hb, hP⟩
  go_upto_region 3 with fail
  have hbx : Below w1.heap.size w1 ((w1.alloc (.cells #[.int .i64 2, .int .i64 3, .slice A1 n ka1, .int .u64 (r : Int), .slice R1 2 ra1, .slice S1 2 sa1] 51)).alloc (.cells #[.int .i64 0, .bool false, .int .i64 1, .int .u64 0, .slice none 0 0] 37)) := below_pair _ _ _
  have W1 := Lib.hid (WdAt.made (t := 2) (c := 3) (k := ka1) (r := r) (ra := ra1) (sa := sa1) w1 (.cells #[.int .i64 0, .bool false, .int .i64 1, .int .u64 0, .slice none 0 0] 37) 51 ha hs0 hs1)
  have O1 := Lib.hid (VarAt.made1 w1 (.cells #[.int .i64 2, .int .i64 3, .slice A1 n ka1, .int .u64 (r : Int), .slice R1 2 ra1, .slice S1 2 sa1] 51) #[.int .i64 0, .bool false, .int .i64 1, .int .u64 0, .slice none 0 0] 37)
  have hbn := hb.trans (hbx.mono hb.size)
  have HS1 := Lib.hid (And.intro hs0 hs1)
  have HX1 := Lib.hid hbx
  have HB1 := Lib.hid hb
  have HP1 := Lib.hid hP
  generalize (w1.alloc (.cells #[.int .i64 2, .int .i64 3, .slice A1 n ka1, .int .u64 (r : Int), .slice R1 2 ra1, .slice S1 2 sa1] 51)).alloc (.cells #[.int .i64 0, .bool false, .int .i64 1, .int .u64 0, .slice none 0 0] 37) = x1 at hbx hbn W1 O1 HX1 ⊢
  have BBn := Lib.hid (BB.out.trans (hbn.mono BB.out.size)); clear BB; have BB := BBn; clear BBn
  clear ha hs0 hs1 hb hP hbx hbn
  clear W0
  generalize w1.heap.size = b1 at W1 O1 ⊢
  obtain ⟨c0, c1, c2, c3, c4, c5⟩ := W1.out.cells
  go_wp2_with fail
  (with_reducible refine (C2 A1 ka1 R1 ra1 S1 sa1 _ W1.out.gA W1.out.g0 W1.out.g1).mono ?_)
  clear c0 c1 c2 c3 c4 c5
  rintro e w2 ⟨A2, ka2, R2, ra2, S2, sa2, rfl, ha, hs0, hs1, hb, hP⟩
  go_upto_region 4 with fail
  have hbx : Below w2.heap.size w2 ((w2.alloc (.cells #[.int .i64 2, .int .i64 3, .slice A2 n ka2, .int .u64 (r : Int), .slice R2 2 ra2, .slice S2 2 sa2] 51)).alloc (.cells #[.int .i64 0, .bool false, .int .i64 2, .int .u64 0, .slice none 0 0] 37)) := below_pair _ _ _
  have W2 := Lib.hid (WdAt.made (t := 2) (c := 3) (k := ka2) (r := r) (ra := ra2) (sa := sa2) w2 (.cells #[.int .i64 0, .bool false, .int .i64 2, .int .u64 0, .slice none 0 0] 37) 51 ha hs0 hs1)
  have O2 := Lib.hid (VarAt.made1 w2 (.cells #[.int .i64 2, .int .i64 3, .slice A2 n ka2, .int .u64 (r : Int), .slice R2 2 ra2, .slice S2 2 sa2] 51) #[.int .i64 0, .bool false, .int .i64 2, .int .u64 0, .slice none 0 0] 37)
  have hbn := hb.trans (hbx.mono hb.size)
  have HS2 := Lib.hid (And.intro hs0 hs1)
  have HX2 := Lib.hid hbx
  have HB2 := Lib.hid hb
  have HP2 := Lib.hid hP
  generalize (w2.alloc (.cells #[.int .i64 2, .int .i64 3, .slice A2 n ka2, .int .u64 (r : Int), .slice R2 2 ra2, .slice S2 2 sa2] 51)).alloc (.cells #[.int .i64 0, .bool false, .int .i64 2, .int .u64 0, .slice none 0 0] 37) = x2 at hbx hbn W2 O2 HX2 ⊢
  have O1n := Lib.hid (O1.out.below hbn); clear O1; have O1 := O1n; clear O1n
  have BBn := Lib.hid (BB.out.trans (hbn.mono BB.out.size)); clear BB; have BB := BBn; clear BBn
  clear ha hs0 hs1 hb hP hbx hbn
  clear W1
  generalize w2.heap.size = b2 at W2 O2 ⊢
  obtain ⟨c0, c1, c2, c3, c4, c5⟩ := W2.out.cells
  go_wp2_with fail
  (with_reducible refine (C3 A2 ka2 R2 ra2 S2 sa2 _ W2.out.gA W2.out.g0 W2.out.g1).mono ?_)
  clear c0 c1 c2 c3 c4 c5
  rintro e w3 ⟨A3, ka3, R3, ra3, S3, sa3, rfl, ha, hs0, hs1, hb, hP⟩
  go_upto_region 5 with fail
  have hbx : Below w3.heap.size w3 ((w3.alloc (.cells #[.int .i64 2, .int .i64 3, .slice A3 n ka3, .int .u64 (r : Int), .slice R3 2 ra3, .slice S3 2 sa3] 51)).alloc (.cells #[.int .i64 0, .bool false, .int .i64 0, .int .u64 0, .slice none 0 0] 37)) := below_pair _ _ _
  have W3 := Lib.hid (WdAt.made (t := 2) (c := 3) (k := ka3) (r := r) (ra := ra3) (sa := sa3) w3 (.cells #[.int .i64 0, .bool false, .int .i64 0, .int .u64 0, .slice none 0 0] 37) 51 ha hs0 hs1)
  have O3 := Lib.hid (VarAt.made1 w3 (.cells #[.int .i64 2, .int .i64 3, .slice A3 n ka3, .int .u64 (r : Int), .slice R3 2 ra3, .slice S3 2 sa3] 51) #[.int .i64 0, .bool false, .int .i64 0, .int .u64 0, .slice none 0 0] 37)
  have hbn := hb.trans (hbx.mono hb.size)
  have HS3 := Lib.hid (And.intro hs0 hs1)
  have HX3 := Lib.hid hbx
  have HB3 := Lib.hid hb
  have HP3 := Lib.hid hP
  generalize (w3.alloc (.cells #[.int .i64 2, .int .i64 3, .slice A3 n ka3, .int .u64 (r : Int), .slice R3 2 ra3, .slice S3 2 sa3] 51)).alloc (.cells #[.int .i64 0, .bool false, .int .i64 0, .int .u64 0, .slice none 0 0] 37) = x3 at hbx hbn W3 O3 HX3 ⊢
  have O1n := Lib.hid (O1.out.below hbn); clear O1; have O1 := O1n; clear O1n
  have O2n := Lib.hid (O2.out.below hbn); clear O2; have O2 := O2n; clear O2n
  have BBn := Lib.hid (BB.out.trans (hbn.mono BB.out.size)); clear BB; have BB := BBn; clear BBn
  clear ha hs0 hs1 hb hP hbx hbn
  clear W2
  generalize w3.heap.size = b3 at W3 O3 ⊢
  obtain ⟨c0, c1, c2, c3, c4, c5⟩ := W3.out.cells
  go_wp2_with fail
  (with_reducible refine (C4 A3 ka3 R3 ra3 S3 sa3 _ W3.out.gA W3.out.g0 W3.out.g1).mono ?_)
  clear c0 c1 c2 c3 c4 c5
  rintro e w4 ⟨A4, ka4, R4, ra4, S4, sa4, rfl, ha, hs0, hs1, hb, hP⟩
  go_upto_region 6 with fail
  have hbx : Below w4.heap.size w4 ((w4.alloc (.cells #[.int .i64 2, .int .i64 3, .slice A4 n ka4, .int .u64 (r : Int), .slice R4 2 ra4, .slice S4 2 sa4] 51)).alloc (.cells #[.int .i64 0, .bool false, .int .i64 1, .int .u64 0, .slice none 0 0] 37)) := below_pair _ _ _
  have W4 := Lib.hid (WdAt.made (t := 2) (c := 3) (k := ka4) (r := r) (ra := ra4) (sa := sa4) w4 (.cells #[.int .i64 0, .bool false, .int .i64 1, .int .u64 0, .slice none 0 0] 37) 51 ha hs0 hs1)
  have O4 := Lib.hid (VarAt.made1 w4 (.cells #[.int .i64 2, .int .i64 3, .slice A4 n ka4, .int .u64 (r : Int), .slice R4 2 ra4, .slice S4 2 sa4] 51) #[.int .i64 0, .bool false, .int .i64 1, .int .u64 0, .slice none 0 0] 37)
  have hbn := hb.trans (hbx.mono hb.size)
  have HS4 := Lib.hid (And.intro hs0 hs1)
  have HX4 := Lib.hid hbx
  have HB4 := Lib.hid hb
  have HP4 := Lib.hid hP
  generalize (w4.alloc (.cells #[.int .i64 2, .int .i64 3, .slice A4 n ka4, .int .u64 (r : Int), .slice R4 2 ra4, .slice S4 2 sa4] 51)).alloc (.cells #[.int .i64 0, .bool false, .int .i64 1, .int .u64 0, .slice none 0 0] 37) = x4 at hbx hbn W4 O4 HX4 ⊢
  have O1n := Lib.hid (O1.out.below hbn); clear O1; have O1 := O1n; clear O1n
  have O2n := Lib.hid (O2.out.below hbn); clear O2; have O2 := O2n; clear O2n
  have O3n := Lib.hid (O3.out.below hbn); clear O3; have O3 := O3n; clear O3n
  have BBn := Lib.hid (BB.out.trans (hbn.mono BB.out.size)); clear BB; have BB := BBn; clear BBn
  clear ha hs0 hs1 hb hP hbx hbn
  clear W3
  generalize w4.heap.size = b4 at W4 O4 ⊢
  go_wp2_with fail
  (with_reducible refine (C5 _).mono ?_)
  rintro e w5 ⟨rfl, hb5⟩
  go_upto_region 7 with fail
  have hbx : Below w5.heap.size w5 ((w5.alloc (.cells #[.int .i64 0, .int .i64 0, .int .u64 0, .int .u64 0, .slice none 0 0, .slice none 0 0] 33)).alloc (.cells #[.int .i64 1, .bool false, .int .i64 0, .int .u64 0, .slice none 0 0] 37)) := below_pair _ _ _
  have O5 := Lib.hid (VarAt.made1 w5 (.cells #[.int .i64 0, .int .i64 0, .int .u64 0, .int .u64 0, .slice none 0 0, .slice none 0 0] 33) #[.int .i64 1, .bool false, .int .i64 0, .int .u64 0, .slice none 0 0] 37)
  have hbn := hb5.trans (hbx.mono hb5.size)
  generalize (w5.alloc (.cells #[.int .i64 0, .int .i64 0, .int .u64 0, .int .u64 0, .slice none 0 0, .slice none 0 0] 33)).alloc (.cells #[.int .i64 1, .bool false, .int .i64 0, .int .u64 0, .slice none 0 0] 37) = x5 at hbx hbn O5 ⊢
  generalize w5.heap.size = b5 at O5 ⊢
  obtain ⟨_, ⟨p1, p2, p3, p4, p5⟩, _⟩ := (O1.out.below hbn).five
  obtain ⟨_, ⟨q1, q2, q3, q4, q5⟩, _⟩ := (O2.out.below hbn).five
  obtain ⟨_, ⟨s1, s2, s3, s4, s5⟩, _⟩ := (O4.out.below hbn).five
  obtain ⟨_, ⟨u1, u2, u3, u4, u5⟩, _⟩ := O5.out.five
  have BBn := Lib.hid (BB.out.trans (hbn.mono BB.out.size)); clear BB; have BB := BBn; clear BBn
  clear hb5 hbx hbn
  go_wp2_with fail
  go_ret
  exact ⟨rfl, BB.out⟩

/-! ### Dims, Outs -/
theorem dims_any (t c : Int) (w : World) : Calls Try.prog 9 #[.int .i64 t, .int .i64 c] w fun e w' => e = .returned (.bool (mayB t c)) ∧ w = w' := by
  by_cases h1 : 1 ≤ t
  case neg =>
    have e : mayB t c = false := by unfold mayB; rw [decide_eq_false_iff_not]; omega
    have d1 : decide (1 ≤ t) = false := decide_eq_false h1
    rw [e]
    clear e h1
    go_enter Try.func9, Try.ntmps9
    go_wp2_with fail
    go_ret
    exact ⟨rfl, rfl⟩
  by_cases h2 : t ≤ 64
  case neg =>
    have e : mayB t c = false := by unfold mayB; rw [decide_eq_false_iff_not]; omega
    have d1 : decide (1 ≤ t) = true := decide_eq_true h1
    have d2 : decide (t ≤ 64) = false := decide_eq_false h2
    rw [e]
    clear e h1 h2
    go_enter Try.func9, Try.ntmps9
    go_wp2_with fail
    go_ret
    exact ⟨rfl, rfl⟩
  by_cases h3 : 0 ≤ c
  case neg =>
    have e : mayB t c = false := by unfold mayB; rw [decide_eq_false_iff_not]; omega
    have d1 : decide (1 ≤ t) = true := decide_eq_true h1
    have d2 : decide (t ≤ 64) = true := decide_eq_true h2
    have d3 : decide (0 ≤ c) = false := decide_eq_false h3
    rw [e]
    clear e h1 h2 h3
    go_enter Try.func9, Try.ntmps9
    go_wp2_with fail
    go_ret
    exact ⟨rfl, rfl⟩
  have e : mayB t c = decide (c ≤ 65536) := by
    by_cases h4 : c ≤ 65536
    · rw [decide_eq_true h4]; unfold mayB; rw [decide_eq_true_iff]; omega
    · rw [decide_eq_false h4]; unfold mayB; rw [decide_eq_false_iff_not]; omega
  have d1 : decide (1 ≤ t) = true := decide_eq_true h1
  have d2 : decide (t ≤ 64) = true := decide_eq_true h2
  have d3 : decide (0 ≤ c) = true := decide_eq_true h3
  rw [e]
  generalize hb : decide (c ≤ 65536) = b
  clear e h1 h2 h3
  go_enter Try.func9, Try.ntmps9
  go_wp2_with fail
  go_ret
  exact ⟨ret_bool' (by rw [← hb]), rfl⟩
set_option maxHeartbeats 1000000 in
theorem outsE_same (er : Int) (N S : Int) (w : World) : Calls Try.prog 13 #[.agg #[.int .i64 er, .bool false, .int .i64 N, .int .u64 S, .slice none 0 0], .agg #[.int .i64 er, .bool false, .int .i64 N, .int .u64 S, .slice none 0 0]] w (Kept w (.bool true)) := by
  go_enter Try.func13, Try.ntmps13
  go_wp2_with fail
  go_loopw [5] (fun i wr => i = .int .i64 0 ∧ wr.cell? ⟨w.heap.size, 4, none⟩ = some (.slice none 0 0) ∧ Below w.heap.size w wr) (fun _ _ => 0)
  case atStart => exact ⟨rfl, by go_simp, (by repeat (first | with_reducible assumption | with_reducible exact Below.refl _ _ | with_reducible refine Below.drew ?_ | with_reducible refine below_al ?_ | (with_reducible refine below_set1 (by omega) _ ?_)))⟩
  case round =>
    obtain ⟨rfl, hc, hb⟩ := hrel
    have HB := Lib.hid hb
    clear hb
    go_wp2_with fail
    go_ret
    exact ⟨rfl, HB.out⟩
/-- What the document's own Next tells, by what a run comes to. -/
theorem refR_left {t : Nat} {k u : Int} {log : List Res} {K i : Int} {a b : Nat} (h : nextR t k u log = .left K i a b) : refR t k u log = ⟨K, i, a, b, 0, 0, false⟩ := by unfold refR; rw [h]; rfl
theorem refR_done {t : Nat} {k u : Int} {log : List Res} {r : Nat} {s : List Res} (h : nextR t k u log = .done r s) : refR t k u log = ⟨0, 0, 0, 0, ansE k, r, true⟩ := by unfold refR; rw [h]; rfl

end Go.Proofs.Ytadknblgfcgkpaa
