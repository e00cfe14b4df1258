/-
  AccessSwaps: two accesses of two unlike words may change places: the world behind both is the same, and what each one tells; for every small world, every two accesses of words. No condition beyond the statement's own.
-/
import Derived.Test.YtieepdpelkpfkaaAccShown
import Derived.Test.YtieepdpelkpfkaaAccLeaf
import Derived.Test.YtieepdpelkpfkaaLaw
import Derived.Test.YtieepdpelkpfkaaFields
import Derived.Deep.Cut
namespace Go.Proofs.Ytieepdpelkpfkaa.accessSwaps
open Go.ChangeShapes Go.WideShapes Go.ChangeAt Go.RowKit Go.Deep Go.BigFrame
set_option linter.unusedVariables false
theorem own : ownKnob Try.prog.godebug = none := by kernel_rfl

/-- What an access of a word makes of the words, and what it tells, wherever its cell. -/
def gN (n : Nat) (F : Nat → Nat) (K : Nat) (i : Int) (a b : Nat) : Nat → Nat := if 0 ≤ i ∧ i < (n : Int) then setW F i.toNat (isN K a b (F i.toNat)) else F
def tN (n : Nat) (F : Nat → Nat) (K : Nat) (i : Int) (a b : Nat) : Nat := if 0 ≤ i ∧ i < (n : Int) then toldN K a b (F i.toNat) else 0
theorem doAny (t c : Int) (A : Option Addr) (n k : Nat) (F : Nat → Nat) (r : Nat) (R S : Option Addr) (m ra sa : Nat) (l0 l1 : List Stm) (me : Int) (a b : Nat) (D : Option Addr) (dn dc : Nat) (W : Option Addr) (wn wc : Nat) (K : Nat) (i : Int) (hK : K < 5) (hn : n ≤ 1000000) (hF : ∀ j, F j < 18446744073709551616) (ha : a < 18446744073709551616) (hb : b < 18446744073709551616) (fa : Bool) (w : World)
    (hA : Hid (AtW w A n F)) (h0 : Hid (StmsAt w R m l0)) (h1 : Hid (StmsAt w S m l1)) :
    Calls Try.prog 14 #[.agg #[.int .i64 t, .int .i64 c, .slice A n k, .int .u64 (r : Int), .slice R m ra, .slice S m sa], .int .i64 me, .agg #[.int .i64 (K : Int), .int .i64 i, .int .u64 (a : Int), .int .u64 (b : Int), .slice D dn dc, .slice W wn wc], .bool fa] w (DoW w t c A n r R S m (gN n F K i a b) l0 l1 (tN n F K i a b) [] false) := by
  have hd : diskB (K : Int) = false := by unfold diskB; rw [decide_eq_false (by omega)]; rfl
  have h13 : ((K : Int) == 13) = false := by rw [beq_eq_false_iff_ne]; omega
  unfold gN tN
  by_cases h : 0 ≤ i ∧ i < (n : Int)
  · rw [if_pos h, if_pos h]
    obtain ⟨q, rfl⟩ := Int.eq_ofNat_of_zero_le h.1
    exact doWord t c A n k F r R S m ra sa l0 l1 me a b D dn dc W wn wc K q hK (by omega) hn hF ha hb fa w hA h0 h1
  · rw [if_neg h, if_neg h]
    refine do_word t c A n k F r R S m ra sa l0 l1 me K i a b D dn dc W wn wc hd h13 fa F 0 (fun w g => ?_) w hA h0 h1
    by_cases hi : i < 0
    · exact ofWord_no_c t c A n k F a b D dn dc W wn wc K i (decide_eq_false (by omega)) (decide_eq_false (by omega)) (decide_eq_true hi) w g
    · exact ofWord_no_d t c A n k F a b D dn dc W wn wc K i (decide_eq_false (by omega)) (decide_eq_false (by omega)) (decide_eq_false hi) (decide_eq_true (by omega)) w g
theorem isN_lt {K a b x : Nat} (ha : a < 18446744073709551616) (hb : b < 18446744073709551616) (hx : x < 18446744073709551616) : isN K a b x < 18446744073709551616 := by
  unfold isN
  split
  · exact ha
  · split
    · split <;> assumption
    · split
      · omega
      · split <;> assumption
theorem gN_lt {n : Nat} {F : Nat → Nat} {K : Nat} {i : Int} {a b : Nat} (hF : ∀ j, F j < 18446744073709551616) (ha : a < 18446744073709551616) (hb : b < 18446744073709551616) (j : Nat) : gN n F K i a b j < 18446744073709551616 := by
  unfold gN
  split
  · exact setW_lt hF (isN_lt ha hb (hF _)) j
  · exact hF j
theorem gN_other {n : Nat} {F : Nat → Nat} {K : Nat} {i : Int} {a b : Nat} {q : Nat} (h : i ≠ (q : Int)) : gN n F K i a b q = F q := by
  unfold gN
  split
  · unfold setW
    rw [if_neg (by omega)]
  · rfl
theorem tN_other {n : Nat} {F : Nat → Nat} {K K' : Nat} {i j : Int} {a b a' b' : Nat} (h : i ≠ j) : tN n (gN n F K i a b) K' j a' b' = tN n F K' j a' b' := by
  unfold tN
  split
  · rw [gN_other (by omega)]
  · rfl
theorem gN_swap {n : Nat} {F : Nat → Nat} {K K' : Nat} {i j : Int} {a b a' b' : Nat} (h : i ≠ j) : gN n (gN n F K i a b) K' j a' b' = gN n (gN n F K' j a' b') K i a b := by
  funext p
  by_cases hi : i = (p : Int)
  · subst hi
    rw [gN_other (i := j) (by omega)]
    show gN n F K (p : Int) a b p = gN n (gN n F K' j a' b') K (p : Int) a b p
    unfold gN
    by_cases h1 : 0 ≤ (p : Int) ∧ (p : Int) < (n : Int)
    · rw [if_pos h1, if_pos h1]
      unfold setW
      simp only [Int.toNat_natCast, if_true]
      by_cases h2 : 0 ≤ j ∧ j < (n : Int)
      · rw [if_pos h2, if_neg (by omega)]
      · rw [if_neg h2]
    · rw [if_neg h1, if_neg h1]
      by_cases h2 : 0 ≤ j ∧ j < (n : Int)
      · rw [if_pos h2]; unfold setW; rw [if_neg (by omega)]
      · rw [if_neg h2]
  · rw [gN_other (i := i) hi]
    by_cases hj : j = (p : Int)
    · subst hj
      unfold gN
      by_cases h1 : 0 ≤ (p : Int) ∧ (p : Int) < (n : Int)
      · rw [if_pos h1, if_pos h1]
        unfold setW
        simp only [Int.toNat_natCast, if_true]
        by_cases h2 : 0 ≤ i ∧ i < (n : Int)
        · rw [if_pos h2, if_neg (by omega)]
        · rw [if_neg h2]
      · rw [if_neg h1, if_neg h1]
        by_cases h2 : 0 ≤ i ∧ i < (n : Int)
        · rw [if_pos h2]; unfold setW; rw [if_neg (by omega)]
        · rw [if_neg h2]
    · rw [gN_other hj, gN_other hj, gN_other hi]

set_option maxRecDepth 100000 in
set_option maxHeartbeats 8000000 in
theorem walkNo (t c : Int) (A : Option Addr) (n k : Nat) (F : Nat → Nat) (r : Nat) (R : Option Addr) (m0 ra : Nat) (S : Option Addr) (m1 sa : Nat) (l0 l1 : List Stm) (xk xi : Int) (xa xb : Nat) (xD : Option Addr) (xdn xdc : Nat) (xW : Option Addr) (xwn xwc : Nat) (yk yi : Int) (ya yb : Nat) (yD : Option Addr) (ydn ydc : Nat) (yW : Option Addr) (ywn ywc : Nat) (hsm : smallB t c n l0 l1 0 = false) (hnn : n ≤ 140737488355328) (w : World) (hA : Hid (AtW w A n F)) (h0 : Hid (StmsAt w R m0 l0)) (h1 : Hid (StmsAt w S m1 l1)) :
    Calls Try.prog 6 #[.agg #[.int .i64 t, .int .i64 c, .slice A n k, .int .u64 (r : Int), .slice R m0 ra, .slice S m1 sa], .agg #[.int .i64 xk, .int .i64 xi, .int .u64 (xa : Int), .int .u64 (xb : Int), .slice xD xdn xdc, .slice xW xwn xwc], .agg #[.int .i64 yk, .int .i64 yi, .int .u64 (ya : Int), .int .u64 (yb : Int), .slice yD ydn ydc, .slice yW ywn ywc]] w fun e w' => e = .returned (.bool true) ∧ Below w.heap.size w w' := by
  have HSM := fun w h h' => small_at t c A n k r R m0 ra S m1 sa l0 l1 0 (by omega) w h h'
  rw [hsm] at HSM
  clear hsm hnn
  have K : Hid (Kp w [(2, [.int .i64 yk, .int .i64 yi, .int .u64 (ya : Int), .int .u64 (yb : Int), .slice yD ydn ydc, .slice yW ywn ywc]), (1, [.int .i64 xk, .int .i64 xi, .int .u64 (xa : Int), .int .u64 (xb : Int), .slice xD xdn xdc, .slice xW xwn xwc]), (0, [.int .i64 t, .int .i64 c, .slice A n k, .int .u64 (r : Int), .slice R m0 ra, .slice S m1 sa])] [] (((w.alloc (.cells #[.int .i64 t, .int .i64 c, .slice A n k, .int .u64 (r : Int), .slice R m0 ra, .slice S m1 sa] 31)).alloc (.cells #[.int .i64 xk, .int .i64 xi, .int .u64 (xa : Int), .int .u64 (xb : Int), .slice xD xdn xdc, .slice xW xwn xwc] 34)).alloc (.cells #[.int .i64 yk, .int .i64 yi, .int .u64 (ya : Int), .int .u64 (yb : Int), .slice yD ydn ydc, .slice yW ywn ywc] 34))) :=
    Lib.hid ((((Kp.nil w).var 0 rfl #[.int .i64 t, .int .i64 c, .slice A n k, .int .u64 (r : Int), .slice R m0 ra, .slice S m1 sa] 31).var 1 (by simp) #[.int .i64 xk, .int .i64 xi, .int .u64 (xa : Int), .int .u64 (xb : Int), .slice xD xdn xdc, .slice xW xwn xwc] 34).var 2 (by simp) #[.int .i64 yk, .int .i64 yi, .int .u64 (ya : Int), .int .u64 (yb : Int), .slice yD ydn ydc, .slice yW ywn ywc] 34)
  go_enter Try.func6, Try.ntmps6
  go_wp2_with fail
  (with_reducible refine (shown_any _).mono ?_)
  rintro e w1 ⟨rfl, hb⟩
  have Kn := Lib.hid (K.out.later hb); clear K; have K := Kn; clear Kn
  clear hb
  obtain ⟨_, ⟨c0, c1, c2, c3, c4, c5⟩, _⟩ := (K.out.at_ (o := 0) (.tail _ (.tail _ (.head _)))).six
  obtain ⟨_, ⟨a0, a1, a2, a3, a4, a5⟩, _⟩ := (K.out.at_ (o := 1) (.tail _ (.head _))).six
  obtain ⟨_, ⟨b0, b1, b2, b3, b4, b5⟩, _⟩ := (K.out.at_ (o := 2) (.head _)).six
  rw [Nat.add_zero] at c0 c1 c2 c3 c4 c5
  go_wp2_with fail
  (with_reducible refine (HSM _ (Lib.hid (h0.out.later K.out.bel)) (Lib.hid (h1.out.later K.out.bel))).mono ?_)
  rintro e w2 ⟨rfl, hb⟩
  have Kn := Lib.hid (K.out.later hb); clear K; have K := Kn; clear Kn
  clear c0 c1 c2 c3 c4 c5 a0 a1 a2 a3 a4 a5 b0 b1 b2 b3 b4 b5
  clear hb HSM
  obtain ⟨_, ⟨c0, c1, c2, c3, c4, c5⟩, _⟩ := (K.out.at_ (o := 0) (.tail _ (.tail _ (.head _)))).six
  obtain ⟨_, ⟨a0, a1, a2, a3, a4, a5⟩, _⟩ := (K.out.at_ (o := 1) (.tail _ (.head _))).six
  obtain ⟨_, ⟨b0, b1, b2, b3, b4, b5⟩, _⟩ := (K.out.at_ (o := 2) (.head _)).six
  rw [Nat.add_zero] at c0 c1 c2 c3 c4 c5
  go_wp2_with fail
  go_ret
  exact ⟨rfl, K.out.bel⟩

set_option maxRecDepth 100000 in
set_option maxHeartbeats 8000000 in
theorem walkBad (t c : Int) (A : Option Addr) (n k : Nat) (F : Nat → Nat) (r : Nat) (R : Option Addr) (m0 ra : Nat) (S : Option Addr) (m1 sa : Nat) (l0 l1 : List Stm) (xk xi : Int) (xa xb : Nat) (xD : Option Addr) (xdn xdc : Nat) (xW : Option Addr) (xwn xwc : Nat) (yk yi : Int) (ya yb : Nat) (yD : Option Addr) (ydn ydc : Nat) (yW : Option Addr) (ywn ywc : Nat) (hsm : smallB t c n l0 l1 0 = true) (hnn : n ≤ 140737488355328) (hcase : (((xi : Int) == yi) = true) ∨ (((xi : Int) == yi) = false ∧ decide (xk < 0) = true) ∨ (((xi : Int) == yi) = false ∧ decide (xk < 0) = false ∧ decide (4 < xk) = true) ∨ (((xi : Int) == yi) = false ∧ decide (xk < 0) = false ∧ decide (4 < xk) = false ∧ decide (yk < 0) = true) ∨ (((xi : Int) == yi) = false ∧ decide (xk < 0) = false ∧ decide (4 < xk) = false ∧ decide (yk < 0) = false ∧ decide (4 < yk) = true)) (w : World) (hA : Hid (AtW w A n F)) (h0 : Hid (StmsAt w R m0 l0)) (h1 : Hid (StmsAt w S m1 l1)) :
    Calls Try.prog 6 #[.agg #[.int .i64 t, .int .i64 c, .slice A n k, .int .u64 (r : Int), .slice R m0 ra, .slice S m1 sa], .agg #[.int .i64 xk, .int .i64 xi, .int .u64 (xa : Int), .int .u64 (xb : Int), .slice xD xdn xdc, .slice xW xwn xwc], .agg #[.int .i64 yk, .int .i64 yi, .int .u64 (ya : Int), .int .u64 (yb : Int), .slice yD ydn ydc, .slice yW ywn ywc]] w fun e w' => e = .returned (.bool true) ∧ Below w.heap.size w w' := by
  have HSM := fun w h h' => small_at t c A n k r R m0 ra S m1 sa l0 l1 0 (by omega) w h h'
  rw [hsm] at HSM
  clear hsm hnn
  have K : Hid (Kp w [(2, [.int .i64 yk, .int .i64 yi, .int .u64 (ya : Int), .int .u64 (yb : Int), .slice yD ydn ydc, .slice yW ywn ywc]), (1, [.int .i64 xk, .int .i64 xi, .int .u64 (xa : Int), .int .u64 (xb : Int), .slice xD xdn xdc, .slice xW xwn xwc]), (0, [.int .i64 t, .int .i64 c, .slice A n k, .int .u64 (r : Int), .slice R m0 ra, .slice S m1 sa])] [] (((w.alloc (.cells #[.int .i64 t, .int .i64 c, .slice A n k, .int .u64 (r : Int), .slice R m0 ra, .slice S m1 sa] 31)).alloc (.cells #[.int .i64 xk, .int .i64 xi, .int .u64 (xa : Int), .int .u64 (xb : Int), .slice xD xdn xdc, .slice xW xwn xwc] 34)).alloc (.cells #[.int .i64 yk, .int .i64 yi, .int .u64 (ya : Int), .int .u64 (yb : Int), .slice yD ydn ydc, .slice yW ywn ywc] 34))) :=
    Lib.hid ((((Kp.nil w).var 0 rfl #[.int .i64 t, .int .i64 c, .slice A n k, .int .u64 (r : Int), .slice R m0 ra, .slice S m1 sa] 31).var 1 (by simp) #[.int .i64 xk, .int .i64 xi, .int .u64 (xa : Int), .int .u64 (xb : Int), .slice xD xdn xdc, .slice xW xwn xwc] 34).var 2 (by simp) #[.int .i64 yk, .int .i64 yi, .int .u64 (ya : Int), .int .u64 (yb : Int), .slice yD ydn ydc, .slice yW ywn ywc] 34)
  go_enter Try.func6, Try.ntmps6
  go_wp2_with fail
  (with_reducible refine (shown_any _).mono ?_)
  rintro e w1 ⟨rfl, hb⟩
  have Kn := Lib.hid (K.out.later hb); clear K; have K := Kn; clear Kn
  clear hb
  obtain ⟨_, ⟨c0, c1, c2, c3, c4, c5⟩, _⟩ := (K.out.at_ (o := 0) (.tail _ (.tail _ (.head _)))).six
  obtain ⟨_, ⟨a0, a1, a2, a3, a4, a5⟩, _⟩ := (K.out.at_ (o := 1) (.tail _ (.head _))).six
  obtain ⟨_, ⟨b0, b1, b2, b3, b4, b5⟩, _⟩ := (K.out.at_ (o := 2) (.head _)).six
  rw [Nat.add_zero] at c0 c1 c2 c3 c4 c5
  go_wp2_with fail
  (with_reducible refine (HSM _ (Lib.hid (h0.out.later K.out.bel)) (Lib.hid (h1.out.later K.out.bel))).mono ?_)
  rintro e w2 ⟨rfl, hb⟩
  have Kn := Lib.hid (K.out.later hb); clear K; have K := Kn; clear Kn
  clear c0 c1 c2 c3 c4 c5 a0 a1 a2 a3 a4 a5 b0 b1 b2 b3 b4 b5
  clear hb HSM
  obtain ⟨_, ⟨c0, c1, c2, c3, c4, c5⟩, _⟩ := (K.out.at_ (o := 0) (.tail _ (.tail _ (.head _)))).six
  obtain ⟨_, ⟨a0, a1, a2, a3, a4, a5⟩, _⟩ := (K.out.at_ (o := 1) (.tail _ (.head _))).six
  obtain ⟨_, ⟨b0, b1, b2, b3, b4, b5⟩, _⟩ := (K.out.at_ (o := 2) (.head _)).six
  rw [Nat.add_zero] at c0 c1 c2 c3 c4 c5
  rcases hcase with q0 | ⟨q0, q1⟩ | ⟨q0, q1, q2⟩ | ⟨q0, q1, q2, q3⟩ | ⟨q0, q1, q2, q3, q4⟩
  · go_wp2_with fail
    go_ret
    exact ⟨rfl, K.out.bel⟩
  · go_wp2_with fail
    go_ret
    exact ⟨rfl, K.out.bel⟩
  · go_wp2_with fail
    go_ret
    exact ⟨rfl, K.out.bel⟩
  · go_wp2_with fail
    go_ret
    exact ⟨rfl, K.out.bel⟩
  · go_wp2_with fail
    go_ret
    exact ⟨rfl, K.out.bel⟩

set_option maxRecDepth 100000 in
set_option maxHeartbeats 8000000 in
theorem walk (t c : Int) (A : Option Addr) (n k : Nat) (F : Nat → Nat) (r : Nat) (R : Option Addr) (m0 ra : Nat) (S : Option Addr) (sa : Nat) (l0 l1 : List Stm) (xK : Nat) (xi : Int) (xa xb : Nat) (xD : Option Addr) (xdn xdc : Nat) (xW : Option Addr) (xwn xwc : Nat) (yK : Nat) (yi : Int) (ya yb : Nat) (yD : Option Addr) (ydn ydc : Nat) (yW : Option Addr) (ywn ywc : Nat) (hsm : smallB t c n l0 l1 0 = true) (hnn : n ≤ 140737488355328) (q0 : ((xi : Int) == yi) = false) (q1 : decide ((xK : Int) < 0) = false) (q2 : decide ((4 : Int) < (xK : Int)) = false) (q3 : decide ((yK : Int) < 0) = false) (q4 : decide ((4 : Int) < (yK : Int)) = false) (G1 G2 H1 : Nat → Nat) (N1 N2 : Nat) (k1 : ∀ (A : Option Addr) (k : Nat) (R : Option Addr) (ra : Nat) (S : Option Addr) (sa : Nat) (w : World), Hid (AtW w A n F) → Hid (StmsAt w R m0 l0) → Hid (StmsAt w S m0 l1) → Calls Try.prog 14 #[.agg #[.int .i64 t, .int .i64 c, .slice A n k, .int .u64 (r : Int), .slice R m0 ra, .slice S m0 sa], .int .i64 0, .agg #[.int .i64 (xK : Int), .int .i64 xi, .int .u64 (xa : Int), .int .u64 (xb : Int), .slice xD xdn xdc, .slice xW xwn xwc], .bool false] w (DoW w t c A n r R S m0 G1 l0 l1 N1 [] false)) (k2 : ∀ (A : Option Addr) (k : Nat) (R : Option Addr) (ra : Nat) (S : Option Addr) (sa : Nat) (w : World), Hid (AtW w A n G1) → Hid (StmsAt w R m0 l0) → Hid (StmsAt w S m0 l1) → Calls Try.prog 14 #[.agg #[.int .i64 t, .int .i64 c, .slice A n k, .int .u64 (r : Int), .slice R m0 ra, .slice S m0 sa], .int .i64 0, .agg #[.int .i64 (yK : Int), .int .i64 yi, .int .u64 (ya : Int), .int .u64 (yb : Int), .slice yD ydn ydc, .slice yW ywn ywc], .bool false] w (DoW w t c A n r R S m0 G2 l0 l1 N2 [] false)) (k3 : ∀ (A : Option Addr) (k : Nat) (R : Option Addr) (ra : Nat) (S : Option Addr) (sa : Nat) (w : World), Hid (AtW w A n F) → Hid (StmsAt w R m0 l0) → Hid (StmsAt w S m0 l1) → Calls Try.prog 14 #[.agg #[.int .i64 t, .int .i64 c, .slice A n k, .int .u64 (r : Int), .slice R m0 ra, .slice S m0 sa], .int .i64 0, .agg #[.int .i64 (yK : Int), .int .i64 yi, .int .u64 (ya : Int), .int .u64 (yb : Int), .slice yD ydn ydc, .slice yW ywn ywc], .bool false] w (DoW w t c A n r R S m0 H1 l0 l1 N2 [] false)) (k4 : ∀ (A : Option Addr) (k : Nat) (R : Option Addr) (ra : Nat) (S : Option Addr) (sa : Nat) (w : World), Hid (AtW w A n H1) → Hid (StmsAt w R m0 l0) → Hid (StmsAt w S m0 l1) → Calls Try.prog 14 #[.agg #[.int .i64 t, .int .i64 c, .slice A n k, .int .u64 (r : Int), .slice R m0 ra, .slice S m0 sa], .int .i64 0, .agg #[.int .i64 (xK : Int), .int .i64 xi, .int .u64 (xa : Int), .int .u64 (xb : Int), .slice xD xdn xdc, .slice xW xwn xwc], .bool false] w (DoW w t c A n r R S m0 G2 l0 l1 N1 [] false)) (w : World) (hA : Hid (AtW w A n F)) (h0 : Hid (StmsAt w R m0 l0)) (h1 : Hid (StmsAt w S m0 l1)) :
    Calls Try.prog 6 #[.agg #[.int .i64 t, .int .i64 c, .slice A n k, .int .u64 (r : Int), .slice R m0 ra, .slice S m0 sa], .agg #[.int .i64 (xK : Int), .int .i64 xi, .int .u64 (xa : Int), .int .u64 (xb : Int), .slice xD xdn xdc, .slice xW xwn xwc], .agg #[.int .i64 (yK : Int), .int .i64 yi, .int .u64 (ya : Int), .int .u64 (yb : Int), .slice yD ydn ydc, .slice yW ywn ywc]] w fun e w' => e = .returned (.bool true) ∧ Below w.heap.size w w' := by
  have HNN := Lib.hid hnn
  have HSM := fun w h h' => small_at t c A n k r R m0 ra S m0 sa l0 l1 0 (by omega) w h h'
  rw [hsm] at HSM
  clear hsm hnn
  have K : Hid (Kp w [(2, [.int .i64 (yK : Int), .int .i64 yi, .int .u64 (ya : Int), .int .u64 (yb : Int), .slice yD ydn ydc, .slice yW ywn ywc]), (1, [.int .i64 (xK : Int), .int .i64 xi, .int .u64 (xa : Int), .int .u64 (xb : Int), .slice xD xdn xdc, .slice xW xwn xwc]), (0, [.int .i64 t, .int .i64 c, .slice A n k, .int .u64 (r : Int), .slice R m0 ra, .slice S m0 sa])] [] (((w.alloc (.cells #[.int .i64 t, .int .i64 c, .slice A n k, .int .u64 (r : Int), .slice R m0 ra, .slice S m0 sa] 31)).alloc (.cells #[.int .i64 (xK : Int), .int .i64 xi, .int .u64 (xa : Int), .int .u64 (xb : Int), .slice xD xdn xdc, .slice xW xwn xwc] 34)).alloc (.cells #[.int .i64 (yK : Int), .int .i64 yi, .int .u64 (ya : Int), .int .u64 (yb : Int), .slice yD ydn ydc, .slice yW ywn ywc] 34))) :=
    Lib.hid ((((Kp.nil w).var 0 rfl #[.int .i64 t, .int .i64 c, .slice A n k, .int .u64 (r : Int), .slice R m0 ra, .slice S m0 sa] 31).var 1 (by simp) #[.int .i64 (xK : Int), .int .i64 xi, .int .u64 (xa : Int), .int .u64 (xb : Int), .slice xD xdn xdc, .slice xW xwn xwc] 34).var 2 (by simp) #[.int .i64 (yK : Int), .int .i64 yi, .int .u64 (ya : Int), .int .u64 (yb : Int), .slice yD ydn ydc, .slice yW ywn ywc] 34)
  go_enter Try.func6, Try.ntmps6
  go_wp2_with fail
  (with_reducible refine (shown_any _).mono ?_)
  rintro e w1 ⟨rfl, hb⟩
  have Kn := Lib.hid (K.out.later hb); clear K; have K := Kn; clear Kn
  clear hb
  obtain ⟨_, ⟨c0, c1, c2, c3, c4, c5⟩, _⟩ := (K.out.at_ (o := 0) (.tail _ (.tail _ (.head _)))).six
  obtain ⟨_, ⟨a0, a1, a2, a3, a4, a5⟩, _⟩ := (K.out.at_ (o := 1) (.tail _ (.head _))).six
  obtain ⟨_, ⟨b0, b1, b2, b3, b4, b5⟩, _⟩ := (K.out.at_ (o := 2) (.head _)).six
  rw [Nat.add_zero] at c0 c1 c2 c3 c4 c5
  go_wp2_with fail
  (with_reducible refine (HSM _ (Lib.hid (h0.out.later K.out.bel)) (Lib.hid (h1.out.later K.out.bel))).mono ?_)
  rintro e w2 ⟨rfl, hb⟩
  have Kn := Lib.hid (K.out.later hb); clear K; have K := Kn; clear Kn
  clear c0 c1 c2 c3 c4 c5 a0 a1 a2 a3 a4 a5 b0 b1 b2 b3 b4 b5
  clear hb HSM
  obtain ⟨_, ⟨c0, c1, c2, c3, c4, c5⟩, _⟩ := (K.out.at_ (o := 0) (.tail _ (.tail _ (.head _)))).six
  obtain ⟨_, ⟨a0, a1, a2, a3, a4, a5⟩, _⟩ := (K.out.at_ (o := 1) (.tail _ (.head _))).six
  obtain ⟨_, ⟨b0, b1, b2, b3, b4, b5⟩, _⟩ := (K.out.at_ (o := 2) (.head _)).six
  rw [Nat.add_zero] at c0 c1 c2 c3 c4 c5
  go_wp2_with fail
  clear c0 c1 c2 c3 c4 c5 a0 a1 a2 a3 a4 a5 b0 b1 b2 b3 b4 b5
  have BB := Lib.hid K.out.bel
  refine (k1 _ _ _ _ _ _ _ (Lib.hid (hA.out.later BB.out)) (Lib.hid (h0.out.later BB.out)) (Lib.hid (h1.out.later BB.out))).mono ?_
  rintro e w3 ⟨A3, ka3, R3, ra3, S3, sa3, X3, kx3, rfl, ha, hs0, hs1, hk, hx, hb, hP⟩
  go_upto_region 5 with fail
  obtain ⟨x3, hx3⟩ : ∃ x, (w3.alloc (.cells #[.int .i64 t, .int .i64 c, .slice A3 n ka3, .int .u64 (r : Int), .slice R3 m0 ra3, .slice S3 m0 sa3] 31)).alloc (.cells #[.int .u64 (N1 : Int), .slice X3 0 kx3, .bool false] 42) = x := ⟨_, rfl⟩
  have hbx : Below w3.heap.size w3 x3 := by rw [← hx3]; exact below_pair _ _ _
  have W3 : Hid (WdAt x3 w3.heap.size t c A3 n ka3 r R3 m0 ra3 S3 sa3 G1 l0 l1) := Lib.hid (by rw [← hx3]; exact WdAt.made w3 _ _ ha hs0 hs1)
  have V3 : Hid (ResAt x3 (w3.heap.size + 1) N1 X3 kx3 ([] : List Nat) false) := Lib.hid (by rw [← hx3]; exact ResAt.made w3 _ _ hx)
  have hbn := hb.trans (hbx.mono hb.size)
  have Kn := Lib.hid (K.out.later hbn); clear K; have K := Kn; clear Kn
  have BBn := Lib.hid (BB.out.trans (hbn.mono BB.out.size)); clear BB; have BB := BBn; clear BBn
  clear ha hs0 hs1 hk hx hb hP hbx hbn
  rw [hx3]
  clear hx3
  obtain ⟨_, ⟨c0, c1, c2, c3, c4, c5⟩, _⟩ := (K.out.at_ (o := 0) (.tail _ (.tail _ (.head _)))).six
  obtain ⟨_, ⟨a0, a1, a2, a3, a4, a5⟩, _⟩ := (K.out.at_ (o := 1) (.tail _ (.head _))).six
  obtain ⟨_, ⟨b0, b1, b2, b3, b4, b5⟩, _⟩ := (K.out.at_ (o := 2) (.head _)).six
  rw [Nat.add_zero] at c0 c1 c2 c3 c4 c5
  obtain ⟨d0, d1, d2, d3, d4, d5⟩ := W3.out.cells
  go_wp2_with fail
  clear c0 c1 c2 c3 c4 c5 a0 a1 a2 a3 a4 a5 b0 b1 b2 b3 b4 b5
  clear d0 d1 d2 d3 d4 d5
  refine (k2 _ _ _ _ _ _ _ W3.out.gA W3.out.g0 W3.out.g1).mono ?_
  rintro e w4 ⟨A4, ka4, R4, ra4, S4, sa4, X4, kx4, rfl, ha, hs0, hs1, hk, hx, hb, hP⟩
  go_upto_region 6 with fail
  obtain ⟨x4, hx4⟩ : ∃ x, (w4.alloc (.cells #[.int .i64 t, .int .i64 c, .slice A4 n ka4, .int .u64 (r : Int), .slice R4 m0 ra4, .slice S4 m0 sa4] 31)).alloc (.cells #[.int .u64 (N2 : Int), .slice X4 0 kx4, .bool false] 42) = x := ⟨_, rfl⟩
  have hbx : Below w4.heap.size w4 x4 := by rw [← hx4]; exact below_pair _ _ _
  have W4 : Hid (WdAt x4 w4.heap.size t c A4 n ka4 r R4 m0 ra4 S4 sa4 G2 l0 l1) := Lib.hid (by rw [← hx4]; exact WdAt.made w4 _ _ ha hs0 hs1)
  have V4 : Hid (ResAt x4 (w4.heap.size + 1) N2 X4 kx4 ([] : List Nat) false) := Lib.hid (by rw [← hx4]; exact ResAt.made w4 _ _ hx)
  have hbn := hb.trans (hbx.mono hb.size)
  have Kn := Lib.hid (K.out.later hbn); clear K; have K := Kn; clear Kn
  have W3n := Lib.hid (W3.out.later hbn); clear W3; have W3 := W3n; clear W3n
  have V3n := Lib.hid (V3.out.later hbn); clear V3; have V3 := V3n; clear V3n
  have BBn := Lib.hid (BB.out.trans (hbn.mono BB.out.size)); clear BB; have BB := BBn; clear BBn
  clear ha hs0 hs1 hk hx hb hP hbx hbn
  rw [hx4]
  clear hx4
  obtain ⟨_, ⟨c0, c1, c2, c3, c4, c5⟩, _⟩ := (K.out.at_ (o := 0) (.tail _ (.tail _ (.head _)))).six
  obtain ⟨_, ⟨a0, a1, a2, a3, a4, a5⟩, _⟩ := (K.out.at_ (o := 1) (.tail _ (.head _))).six
  obtain ⟨_, ⟨b0, b1, b2, b3, b4, b5⟩, _⟩ := (K.out.at_ (o := 2) (.head _)).six
  rw [Nat.add_zero] at c0 c1 c2 c3 c4 c5
  go_wp2_with fail
  clear c0 c1 c2 c3 c4 c5 a0 a1 a2 a3 a4 a5 b0 b1 b2 b3 b4 b5
  refine (k3 _ _ _ _ _ _ _ (Lib.hid (hA.out.later BB.out)) (Lib.hid (h0.out.later BB.out)) (Lib.hid (h1.out.later BB.out))).mono ?_
  rintro e w5 ⟨A5, ka5, R5, ra5, S5, sa5, X5, kx5, rfl, ha, hs0, hs1, hk, hx, hb, hP⟩
  go_upto_region 7 with fail
  obtain ⟨x5, hx5⟩ : ∃ x, (w5.alloc (.cells #[.int .i64 t, .int .i64 c, .slice A5 n ka5, .int .u64 (r : Int), .slice R5 m0 ra5, .slice S5 m0 sa5] 31)).alloc (.cells #[.int .u64 (N2 : Int), .slice X5 0 kx5, .bool false] 42) = x := ⟨_, rfl⟩
  have hbx : Below w5.heap.size w5 x5 := by rw [← hx5]; exact below_pair _ _ _
  have W5 : Hid (WdAt x5 w5.heap.size t c A5 n ka5 r R5 m0 ra5 S5 sa5 H1 l0 l1) := Lib.hid (by rw [← hx5]; exact WdAt.made w5 _ _ ha hs0 hs1)
  have V5 : Hid (ResAt x5 (w5.heap.size + 1) N2 X5 kx5 ([] : List Nat) false) := Lib.hid (by rw [← hx5]; exact ResAt.made w5 _ _ hx)
  have hbn := hb.trans (hbx.mono hb.size)
  have Kn := Lib.hid (K.out.later hbn); clear K; have K := Kn; clear Kn
  have V3n := Lib.hid (V3.out.later hbn); clear V3; have V3 := V3n; clear V3n
  have W4n := Lib.hid (W4.out.later hbn); clear W4; have W4 := W4n; clear W4n
  have V4n := Lib.hid (V4.out.later hbn); clear V4; have V4 := V4n; clear V4n
  have BBn := Lib.hid (BB.out.trans (hbn.mono BB.out.size)); clear BB; have BB := BBn; clear BBn
  clear ha hs0 hs1 hk hx hb hP hbx hbn
  rw [hx5]
  clear hx5
  obtain ⟨_, ⟨c0, c1, c2, c3, c4, c5⟩, _⟩ := (K.out.at_ (o := 0) (.tail _ (.tail _ (.head _)))).six
  obtain ⟨_, ⟨a0, a1, a2, a3, a4, a5⟩, _⟩ := (K.out.at_ (o := 1) (.tail _ (.head _))).six
  obtain ⟨_, ⟨b0, b1, b2, b3, b4, b5⟩, _⟩ := (K.out.at_ (o := 2) (.head _)).six
  rw [Nat.add_zero] at c0 c1 c2 c3 c4 c5
  obtain ⟨d0, d1, d2, d3, d4, d5⟩ := W5.out.cells
  go_wp2_with fail
  clear c0 c1 c2 c3 c4 c5 a0 a1 a2 a3 a4 a5 b0 b1 b2 b3 b4 b5
  clear d0 d1 d2 d3 d4 d5
  refine (k4 _ _ _ _ _ _ _ W5.out.gA W5.out.g0 W5.out.g1).mono ?_
  rintro e w6 ⟨A6, ka6, R6, ra6, S6, sa6, X6, kx6, rfl, ha, hs0, hs1, hk, hx, hb, hP⟩
  go_upto_region 8 with fail
  obtain ⟨x6, hx6⟩ : ∃ x, (w6.alloc (.cells #[.int .i64 t, .int .i64 c, .slice A6 n ka6, .int .u64 (r : Int), .slice R6 m0 ra6, .slice S6 m0 sa6] 31)).alloc (.cells #[.int .u64 (N1 : Int), .slice X6 0 kx6, .bool false] 42) = x := ⟨_, rfl⟩
  have hbx : Below w6.heap.size w6 x6 := by rw [← hx6]; exact below_pair _ _ _
  have W6 : Hid (WdAt x6 w6.heap.size t c A6 n ka6 r R6 m0 ra6 S6 sa6 G2 l0 l1) := Lib.hid (by rw [← hx6]; exact WdAt.made w6 _ _ ha hs0 hs1)
  have V6 : Hid (ResAt x6 (w6.heap.size + 1) N1 X6 kx6 ([] : List Nat) false) := Lib.hid (by rw [← hx6]; exact ResAt.made w6 _ _ hx)
  have hbn := hb.trans (hbx.mono hb.size)
  have V3n := Lib.hid (V3.out.later hbn); clear V3; have V3 := V3n; clear V3n
  have W4n := Lib.hid (W4.out.later hbn); clear W4; have W4 := W4n; clear W4n
  have V4n := Lib.hid (V4.out.later hbn); clear V4; have V4 := V4n; clear V4n
  have V5n := Lib.hid (V5.out.later hbn); clear V5; have V5 := V5n; clear V5n
  have BBn := Lib.hid (BB.out.trans (hbn.mono BB.out.size)); clear BB; have BB := BBn; clear BBn
  clear ha hs0 hs1 hk hx hb hP hbx hbn
  rw [hx6]
  clear hx6
  obtain ⟨c0, c1, c2, c3, c4, c5⟩ := W4.out.cells
  obtain ⟨d0, d1, d2, d3, d4, d5⟩ := W6.out.cells
  go_wp2_with fail
  clear c0 c1 c2 c3 c4 c5 d0 d1 d2 d3 d4 d5
  (with_reducible refine (sameW_at t c A4 A6 n ka4 ka6 G2 HNN.out r R4 m0 ra4 S4 m0 sa4 R6 ra6 S6 sa6 l0 l1 _ W4.out.gA W6.out.gA W4.out.g0 W4.out.g1 W6.out.g0 W6.out.g1).mono ?_)
  rintro e w7 ⟨rfl, hb⟩
  have V3n := Lib.hid (V3.out.later hb); clear V3; have V3 := V3n; clear V3n
  have V4n := Lib.hid (V4.out.later hb); clear V4; have V4 := V4n; clear V4n
  have V5n := Lib.hid (V5.out.later hb); clear V5; have V5 := V5n; clear V5n
  have V6n := Lib.hid (V6.out.later hb); clear V6; have V6 := V6n; clear V6n
  have BBn := Lib.hid (BB.out.trans (hb.mono BB.out.size)); clear BB; have BB := BBn; clear BBn
  clear hb
  obtain ⟨c0, c1, c2⟩ := V3.out.cells
  obtain ⟨d0, d1, d2⟩ := V6.out.cells
  go_wp2_with fail
  clear c0 c1 c2 d0 d1 d2
  refine (told_at N1 X3 X6 kx3 kx6 [] false _ V3.out.gX V6.out.gX).mono ?_
  rintro e w8 ⟨rfl, hb⟩
  have V4n := Lib.hid (V4.out.later hb); clear V4; have V4 := V4n; clear V4n
  have V5n := Lib.hid (V5.out.later hb); clear V5; have V5 := V5n; clear V5n
  have BBn := Lib.hid (BB.out.trans (hb.mono BB.out.size)); clear BB; have BB := BBn; clear BBn
  clear hb
  obtain ⟨c0, c1, c2⟩ := V4.out.cells
  obtain ⟨d0, d1, d2⟩ := V5.out.cells
  go_wp2_with fail
  clear c0 c1 c2 d0 d1 d2
  refine (told_at N2 X4 X5 kx4 kx5 [] false _ V4.out.gX V5.out.gX).mono ?_
  rintro e w9 ⟨rfl, hb⟩

  have BBn := Lib.hid (BB.out.trans (hb.mono BB.out.size)); clear BB; have BB := BBn; clear BBn
  clear hb
  go_wp2_with fail
  go_ret
  exact ⟨rfl, BB.out⟩
section
set_option maxRecDepth 100000
set_option maxHeartbeats 2000000
variable {H : Type} {enc : TypeId × Value → H} {w : World}
theorem open_w {v : Value} {d : DataW H} {ps : List MemPlace} {base : Nat} (hval : Value.okWide Try.prog w .any base 31 v) (h : DataW.Trod enc Try.prog w 0 (fun _ => true) true 31 v d ps) (hs : Sized Try.prog 31 d) (hlt : ∀ z ∈ ps, z.block < w.heap.size) :
    ∃ (wMemT : Int) (wMemC : Int) (wMemWordA : Option Addr) (wMemWordL wMemWordC : Nat) (wMemWordf : Nat → Nat) (wDiskRoot : Nat) (wDiskRows0A : Option Addr) (wDiskRows0L wDiskRows0C : Nat) (wDiskRows0l : List Stm) (wDiskRows1A : Option Addr) (wDiskRows1L wDiskRows1C : Nat) (wDiskRows1l : List Stm), v = .agg #[.int .i64 wMemT, .int .i64 wMemC, .slice wMemWordA wMemWordL wMemWordC, .int .u64 (wDiskRoot : Int), .slice wDiskRows0A wDiskRows0L wDiskRows0C, .slice wDiskRows1A wDiskRows1L wDiskRows1C] ∧ (-9223372036854775808 ≤ wMemT ∧ wMemT < 9223372036854775808) ∧ (-9223372036854775808 ≤ wMemC ∧ wMemC < 9223372036854775808) ∧ (wMemWordL ≤ wMemWordC ∧ wMemWordL ≤ 140737488355328 ∧ AtW w wMemWordA wMemWordL wMemWordf) ∧ wDiskRoot < 18446744073709551616 ∧ (wDiskRows0L ≤ wDiskRows0C ∧ StmsAt w wDiskRows0A wDiskRows0L wDiskRows0l) ∧ (wDiskRows1L ≤ wDiskRows1C ∧ StmsAt w wDiskRows1A wDiskRows1L wDiskRows1l) := by
  obtain ⟨cs, rfl, hsz⟩ := okWide_struct Try.underlying31 hval
  obtain ⟨fuel, hf⟩ := h
  have hcs : (Value.agg cs).cells.toList = cs.toList := rfl
  rw [hcs] at hf
  have hcl : cs.toList.length = 6 := by rw [Array.length_toList, hsz]; kernel_rfl
  obtain ⟨c0, c1, c2, c3, c4, c5, hL⟩ : ∃ c0 c1 c2 c3 c4 c5, cs.toList = [c0, c1, c2, c3, c4, c5] := ⟨_, _, _, _, _, _, cells_of hcl .nilIface⟩
  rw [hL] at hf
  rw [list_agg hL]
  clear hcl hL hsz hcs
  obtain ⟨y0, n0, g0, s0, q0⟩ := field_at Try.underlying31 hf 0 _ rfl 24 0 3 [c0, c1, c2] rfl rfl (by kernel_rfl) rfl hs hlt
  obtain ⟨y1, n1, g1, s1, q1⟩ := field_at Try.underlying24 g0 0 _ rfl 3 0 1 [c0] rfl rfl (by kernel_rfl) rfl s0 q0
  obtain ⟨wMemT, e2, hwMemT⟩ := leaf_i64 Try.underlying3 g1
  cases e2
  obtain ⟨y3, n3, g3, s3, q3⟩ := field_at Try.underlying24 g0 1 _ rfl 3 1 1 [c1] rfl rfl (by kernel_rfl) rfl s0 q0
  obtain ⟨wMemC, e4, hwMemC⟩ := leaf_i64 Try.underlying3 g3
  cases e4
  obtain ⟨y5, n5, g5, s5, q5⟩ := field_at Try.underlying24 g0 2 _ rfl 22 2 1 [c2] rfl rfl (by kernel_rfl) rfl s0 q0
  obtain ⟨wMemWordA, wMemWordL, wMemWordC, wMemWordf, e6, hwMemWord⟩ := leaf_words g5 s5 q5
  cases e6
  obtain ⟨y7, n7, g7, s7, q7⟩ := field_at Try.underlying31 hf 1 _ rfl 29 3 3 [c3, c4, c5] rfl rfl (by kernel_rfl) rfl hs hlt
  obtain ⟨y8, n8, g8, s8, q8⟩ := field_at Try.underlying29 g7 0 _ rfl 25 0 1 [c3] rfl rfl (by kernel_rfl) rfl s7 q7
  obtain ⟨wDiskRoot, e9, hwDiskRoot⟩ := leaf_u64 Try.underlying25 g8
  cases e9
  obtain ⟨y10, n10, g10, s10, q10⟩ := field_at Try.underlying29 g7 1 _ rfl 27 1 2 [c4, c5] rfl rfl (by kernel_rfl) rfl s7 q7
  obtain ⟨y11, n11, g11, s11, q11⟩ := elem_at Try.underlying27 g10 0 (by decide) 1 [c4] (by kernel_rfl) rfl s10 q10
  obtain ⟨wDiskRows0A, wDiskRows0L, wDiskRows0C, wDiskRows0l, e12, hwDiskRows0⟩ := leaf_streams g11 s11 q11
  cases e12
  obtain ⟨y13, n13, g13, s13, q13⟩ := elem_at Try.underlying27 g10 1 (by decide) 1 [c5] (by kernel_rfl) rfl s10 q10
  obtain ⟨wDiskRows1A, wDiskRows1L, wDiskRows1C, wDiskRows1l, e14, hwDiskRows1⟩ := leaf_streams g13 s13 q13
  cases e14
  exact ⟨wMemT, wMemC, wMemWordA, wMemWordL, wMemWordC, wMemWordf, wDiskRoot, wDiskRows0A, wDiskRows0L, wDiskRows0C, wDiskRows0l, wDiskRows1A, wDiskRows1L, wDiskRows1C, wDiskRows1l, rfl, hwMemT, hwMemC, hwMemWord, hwDiskRoot, hwDiskRows0, hwDiskRows1⟩
theorem open_x {v : Value} {d : DataW H} {ps : List MemPlace} {base : Nat} (hval : Value.okWide Try.prog w .any base 34 v) (h : DataW.Trod enc Try.prog w 0 (fun _ => true) true 34 v d ps) (hs : Sized Try.prog 34 d) (hlt : ∀ z ∈ ps, z.block < w.heap.size) :
    ∃ (xKind : Int) (xCell : Int) (xA : Nat) (xB : Nat) (xDataA : Option Addr) (xDataL xDataC : Nat) (xDatax : List Nat) (xWordA : Option Addr) (xWordL xWordC : Nat) (xWordf : Nat → Nat), v = .agg #[.int .i64 xKind, .int .i64 xCell, .int .u64 (xA : Int), .int .u64 (xB : Int), .slice xDataA xDataL xDataC, .slice xWordA xWordL xWordC] ∧ (-9223372036854775808 ≤ xKind ∧ xKind < 9223372036854775808) ∧ (-9223372036854775808 ≤ xCell ∧ xCell < 9223372036854775808) ∧ xA < 18446744073709551616 ∧ xB < 18446744073709551616 ∧ (xDataL ≤ xDataC ∧ xDataL ≤ 140737488355328 ∧ AtB w xDataA xDataL xDatax) ∧ (xWordL ≤ xWordC ∧ xWordL ≤ 140737488355328 ∧ AtW w xWordA xWordL xWordf) := by
  obtain ⟨cs, rfl, hsz⟩ := okWide_struct Try.underlying34 hval
  obtain ⟨fuel, hf⟩ := h
  have hcs : (Value.agg cs).cells.toList = cs.toList := rfl
  rw [hcs] at hf
  have hcl : cs.toList.length = 6 := by rw [Array.length_toList, hsz]; kernel_rfl
  obtain ⟨c0, c1, c2, c3, c4, c5, hL⟩ : ∃ c0 c1 c2 c3 c4 c5, cs.toList = [c0, c1, c2, c3, c4, c5] := ⟨_, _, _, _, _, _, cells_of hcl .nilIface⟩
  rw [hL] at hf
  rw [list_agg hL]
  clear hcl hL hsz hcs
  obtain ⟨y0, n0, g0, s0, q0⟩ := field_at Try.underlying34 hf 0 _ rfl 3 0 1 [c0] rfl rfl (by kernel_rfl) rfl hs hlt
  obtain ⟨xKind, e1, hxKind⟩ := leaf_i64 Try.underlying3 g0
  cases e1
  obtain ⟨y2, n2, g2, s2, q2⟩ := field_at Try.underlying34 hf 1 _ rfl 3 1 1 [c1] rfl rfl (by kernel_rfl) rfl hs hlt
  obtain ⟨xCell, e3, hxCell⟩ := leaf_i64 Try.underlying3 g2
  cases e3
  obtain ⟨y4, n4, g4, s4, q4⟩ := field_at Try.underlying34 hf 2 _ rfl 25 2 1 [c2] rfl rfl (by kernel_rfl) rfl hs hlt
  obtain ⟨xA, e5, hxA⟩ := leaf_u64 Try.underlying25 g4
  cases e5
  obtain ⟨y6, n6, g6, s6, q6⟩ := field_at Try.underlying34 hf 3 _ rfl 25 3 1 [c3] rfl rfl (by kernel_rfl) rfl hs hlt
  obtain ⟨xB, e7, hxB⟩ := leaf_u64 Try.underlying25 g6
  cases e7
  obtain ⟨y8, n8, g8, s8, q8⟩ := field_at Try.underlying34 hf 4 _ rfl 32 4 1 [c4] rfl rfl (by kernel_rfl) rfl hs hlt
  obtain ⟨xDataA, xDataL, xDataC, xDatax, e9, hxData⟩ := leaf_bytes g8 s8 q8
  cases e9
  obtain ⟨y10, n10, g10, s10, q10⟩ := field_at Try.underlying34 hf 5 _ rfl 22 5 1 [c5] rfl rfl (by kernel_rfl) rfl hs hlt
  obtain ⟨xWordA, xWordL, xWordC, xWordf, e11, hxWord⟩ := leaf_words g10 s10 q10
  cases e11
  exact ⟨xKind, xCell, xA, xB, xDataA, xDataL, xDataC, xDatax, xWordA, xWordL, xWordC, xWordf, rfl, hxKind, hxCell, hxA, hxB, hxData, hxWord⟩
theorem open_y {v : Value} {d : DataW H} {ps : List MemPlace} {base : Nat} (hval : Value.okWide Try.prog w .any base 34 v) (h : DataW.Trod enc Try.prog w 0 (fun _ => true) true 34 v d ps) (hs : Sized Try.prog 34 d) (hlt : ∀ z ∈ ps, z.block < w.heap.size) :
    ∃ (yKind : Int) (yCell : Int) (yA : Nat) (yB : Nat) (yDataA : Option Addr) (yDataL yDataC : Nat) (yDatax : List Nat) (yWordA : Option Addr) (yWordL yWordC : Nat) (yWordf : Nat → Nat), v = .agg #[.int .i64 yKind, .int .i64 yCell, .int .u64 (yA : Int), .int .u64 (yB : Int), .slice yDataA yDataL yDataC, .slice yWordA yWordL yWordC] ∧ (-9223372036854775808 ≤ yKind ∧ yKind < 9223372036854775808) ∧ (-9223372036854775808 ≤ yCell ∧ yCell < 9223372036854775808) ∧ yA < 18446744073709551616 ∧ yB < 18446744073709551616 ∧ (yDataL ≤ yDataC ∧ yDataL ≤ 140737488355328 ∧ AtB w yDataA yDataL yDatax) ∧ (yWordL ≤ yWordC ∧ yWordL ≤ 140737488355328 ∧ AtW w yWordA yWordL yWordf) := by
  obtain ⟨cs, rfl, hsz⟩ := okWide_struct Try.underlying34 hval
  obtain ⟨fuel, hf⟩ := h
  have hcs : (Value.agg cs).cells.toList = cs.toList := rfl
  rw [hcs] at hf
  have hcl : cs.toList.length = 6 := by rw [Array.length_toList, hsz]; kernel_rfl
  obtain ⟨c0, c1, c2, c3, c4, c5, hL⟩ : ∃ c0 c1 c2 c3 c4 c5, cs.toList = [c0, c1, c2, c3, c4, c5] := ⟨_, _, _, _, _, _, cells_of hcl .nilIface⟩
  rw [hL] at hf
  rw [list_agg hL]
  clear hcl hL hsz hcs
  obtain ⟨y0, n0, g0, s0, q0⟩ := field_at Try.underlying34 hf 0 _ rfl 3 0 1 [c0] rfl rfl (by kernel_rfl) rfl hs hlt
  obtain ⟨yKind, e1, hyKind⟩ := leaf_i64 Try.underlying3 g0
  cases e1
  obtain ⟨y2, n2, g2, s2, q2⟩ := field_at Try.underlying34 hf 1 _ rfl 3 1 1 [c1] rfl rfl (by kernel_rfl) rfl hs hlt
  obtain ⟨yCell, e3, hyCell⟩ := leaf_i64 Try.underlying3 g2
  cases e3
  obtain ⟨y4, n4, g4, s4, q4⟩ := field_at Try.underlying34 hf 2 _ rfl 25 2 1 [c2] rfl rfl (by kernel_rfl) rfl hs hlt
  obtain ⟨yA, e5, hyA⟩ := leaf_u64 Try.underlying25 g4
  cases e5
  obtain ⟨y6, n6, g6, s6, q6⟩ := field_at Try.underlying34 hf 3 _ rfl 25 3 1 [c3] rfl rfl (by kernel_rfl) rfl hs hlt
  obtain ⟨yB, e7, hyB⟩ := leaf_u64 Try.underlying25 g6
  cases e7
  obtain ⟨y8, n8, g8, s8, q8⟩ := field_at Try.underlying34 hf 4 _ rfl 32 4 1 [c4] rfl rfl (by kernel_rfl) rfl hs hlt
  obtain ⟨yDataA, yDataL, yDataC, yDatax, e9, hyData⟩ := leaf_bytes g8 s8 q8
  cases e9
  obtain ⟨y10, n10, g10, s10, q10⟩ := field_at Try.underlying34 hf 5 _ rfl 22 5 1 [c5] rfl rfl (by kernel_rfl) rfl hs hlt
  obtain ⟨yWordA, yWordL, yWordC, yWordf, e11, hyWord⟩ := leaf_words g10 s10 q10
  cases e11
  exact ⟨yKind, yCell, yA, yB, yDataA, yDataL, yDataC, yDatax, yWordA, yWordL, yWordC, yWordf, rfl, hyKind, hyCell, hyA, hyB, hyData, hyWord⟩
end

set_option maxRecDepth 100000 in
set_option maxHeartbeats 8000000 in
theorem lifted (os : Os) (started : os.Started) (H : Type) (enc : TypeId × Value → H) :
    ReturnsInHanded {} Try.checked os 6 .any (Rows.accessSwapsSpec.pre6 enc Try.prog Try.f6 Rows.accessSwapsRow.domain false) (Rows.accessSwapsSpec.post enc Try.prog Try.f6 false true false false) := by
  refine law_lifted (C := Try.checked) own started (by kernel_rfl) Try.func6
    (ChangeSpec.witness6 (enc := enc) (C := Try.checked) false ⟨#[], #[.agg #[.int .i64 0, .int .i64 0, .slice none 0 0, .int .u64 0, .slice none 0 0, .slice none 0 0], .agg #[.int .i64 0, .int .i64 0, .int .u64 0, .int .u64 0, .slice none 0 0, .slice none 0 0], .agg #[.int .i64 0, .int .i64 0, .int .u64 0, .int .u64 0, .slice none 0 0, .slice none 0 0]], []⟩ 8 (by kernel_rfl) (by kernel_rfl) (by kernel_rfl) (by kernel_rfl))
    (by kernel_rfl) (by kernel_rfl) Try.underlying4 rfl (by kernel_rfl) ?_
  intro W base args ds before hval hA hwt hlt
  have hA' : DataW.TrodAll enc Try.prog W 0 (fun _ => true) true Try.f6.params.toList args.toList ds before := hA
  have hval' : ∀ (j : Nat) t v, Try.f6.params[j]? = some t → args[j]? = some v → Value.okWide Try.prog W .any base t v := hval
  have hwt' : (DataW.weightsEach Try.prog Try.f6.params.toList ds).all (· ≤ reachBytes) = true := hwt
  rw [Try.params6] at hA' hval' hwt'
  obtain ⟨v0, vs0, d0, ds0, p0, q0, hargs, rfl, rfl, k0, r0⟩ := trodAll_cons hA'
  obtain ⟨v1, vs1, d1, ds1, p1, q1, rfl, rfl, rfl, k1, r1⟩ := trodAll_cons r0
  obtain ⟨v2, vs2, d2, ds2, p2, q2, rfl, rfl, rfl, k2, r2⟩ := trodAll_cons r1
  obtain ⟨rfl, rfl, rfl⟩ := trodAll_nil r2
  obtain rfl : args = #[v0, v1, v2] := by cases args; simp_all
  obtain ⟨wMemT, wMemC, wMemWordA, wMemWordL, wMemWordC, wMemWordf, wDiskRoot, wDiskRows0A, wDiskRows0L, wDiskRows0C, wDiskRows0l, wDiskRows1A, wDiskRows1L, wDiskRows1C, wDiskRows1l, rfl, hwMemT, hwMemC, hwMemWord, hwDiskRoot, hwDiskRows0, hwDiskRows1⟩ := open_w (hval' 0 31 v0 rfl rfl) k0 (sized_of hwt' (j := 0) (t := 31) rfl rfl) (fun x hx => hlt x (by simp [hx]))
  obtain ⟨xKind, xCell, xA, xB, xDataA, xDataL, xDataC, xDatax, xWordA, xWordL, xWordC, xWordf, rfl, hxKind, hxCell, hxA, hxB, hxData, hxWord⟩ := open_x (hval' 1 34 v1 rfl rfl) k1 (sized_of hwt' (j := 1) (t := 34) rfl rfl) (fun x hx => hlt x (by simp [hx]))
  obtain ⟨yKind, yCell, yA, yB, yDataA, yDataL, yDataC, yDatax, yWordA, yWordL, yWordC, yWordf, rfl, hyKind, hyCell, hyA, hyB, hyData, hyWord⟩ := open_y (hval' 2 34 v2 rfl rfl) k2 (sized_of hwt' (j := 2) (t := 34) rfl rfl) (fun x hx => hlt x (by simp [hx]))
  refine ⟨rfl, ?_⟩
  obtain ⟨hlc, hlm, hAW⟩ := hwMemWord
  obtain ⟨_, h0⟩ := hwDiskRows0
  obtain ⟨_, h1⟩ := hwDiskRows1
  by_cases hsm : smallB wMemT wMemC wMemWordL wDiskRows0l wDiskRows1l 0 = true
  · by_cases hc : xCell = yCell
    · exact walkBad wMemT wMemC wMemWordA wMemWordL wMemWordC wMemWordf wDiskRoot wDiskRows0A wDiskRows0L wDiskRows0C wDiskRows1A wDiskRows1L wDiskRows1C wDiskRows0l wDiskRows1l xKind xCell xA xB xDataA xDataL xDataC xWordA xWordL xWordC yKind yCell yA yB yDataA yDataL yDataC yWordA yWordL yWordC hsm hlm (.inl (by rw [beq_iff_eq]; exact hc)) W (Lib.hid hAW) (Lib.hid h0) (Lib.hid h1)
    have e0 : (xCell == yCell) = false := by rw [beq_eq_false_iff_ne]; exact hc
    by_cases h2 : xKind < 0
    · exact walkBad wMemT wMemC wMemWordA wMemWordL wMemWordC wMemWordf wDiskRoot wDiskRows0A wDiskRows0L wDiskRows0C wDiskRows1A wDiskRows1L wDiskRows1C wDiskRows0l wDiskRows1l xKind xCell xA xB xDataA xDataL xDataC xWordA xWordL xWordC yKind yCell yA yB yDataA yDataL yDataC yWordA yWordL yWordC hsm hlm (.inr (.inl ⟨e0, decide_eq_true h2⟩)) W (Lib.hid hAW) (Lib.hid h0) (Lib.hid h1)
    by_cases h3 : 4 < xKind
    · exact walkBad wMemT wMemC wMemWordA wMemWordL wMemWordC wMemWordf wDiskRoot wDiskRows0A wDiskRows0L wDiskRows0C wDiskRows1A wDiskRows1L wDiskRows1C wDiskRows0l wDiskRows1l xKind xCell xA xB xDataA xDataL xDataC xWordA xWordL xWordC yKind yCell yA yB yDataA yDataL yDataC yWordA yWordL yWordC hsm hlm (.inr (.inr (.inl ⟨e0, decide_eq_false h2, decide_eq_true h3⟩))) W (Lib.hid hAW) (Lib.hid h0) (Lib.hid h1)
    by_cases h4 : yKind < 0
    · exact walkBad wMemT wMemC wMemWordA wMemWordL wMemWordC wMemWordf wDiskRoot wDiskRows0A wDiskRows0L wDiskRows0C wDiskRows1A wDiskRows1L wDiskRows1C wDiskRows0l wDiskRows1l xKind xCell xA xB xDataA xDataL xDataC xWordA xWordL xWordC yKind yCell yA yB yDataA yDataL yDataC yWordA yWordL yWordC hsm hlm (.inr (.inr (.inr (.inl ⟨e0, decide_eq_false h2, decide_eq_false h3, decide_eq_true h4⟩)))) W (Lib.hid hAW) (Lib.hid h0) (Lib.hid h1)
    by_cases h5 : 4 < yKind
    · exact walkBad wMemT wMemC wMemWordA wMemWordL wMemWordC wMemWordf wDiskRoot wDiskRows0A wDiskRows0L wDiskRows0C wDiskRows1A wDiskRows1L wDiskRows1C wDiskRows0l wDiskRows1l xKind xCell xA xB xDataA xDataL xDataC xWordA xWordL xWordC yKind yCell yA yB yDataA yDataL yDataC yWordA yWordL yWordC hsm hlm (.inr (.inr (.inr (.inr ⟨e0, decide_eq_false h2, decide_eq_false h3, decide_eq_false h4, decide_eq_true h5⟩)))) W (Lib.hid hAW) (Lib.hid h0) (Lib.hid h1)
    obtain ⟨xK, rfl⟩ := Int.eq_ofNat_of_zero_le (show 0 ≤ xKind by omega)
    obtain ⟨yK, rfl⟩ := Int.eq_ofNat_of_zero_le (show 0 ≤ yKind by omega)
    have hs := hsm
    unfold smallB at hs
    simp only [Bool.and_eq_true, decide_eq_true_eq] at hs
    obtain ⟨hf, hr, hn6, _, _⟩ := hs
    obtain ⟨hn0, hm1, hm8, hgd, hx0, hx1, hlen⟩ := right_parts hr hf h0.1 h1.1
    have hl' := hlen.symm
    subst hl'
    have hF := hAW.1
    exact walk wMemT wMemC wMemWordA wMemWordL wMemWordC wMemWordf wDiskRoot wDiskRows0A wDiskRows0L wDiskRows0C wDiskRows1A wDiskRows1C wDiskRows0l wDiskRows1l xK xCell xA xB xDataA xDataL xDataC xWordA xWordL xWordC yK yCell yA yB yDataA yDataL yDataC yWordA yWordL yWordC hsm hlm e0 (decide_eq_false h2) (decide_eq_false h3) (decide_eq_false h4) (decide_eq_false h5)
      (gN wMemWordL wMemWordf xK xCell xA xB) (gN wMemWordL (gN wMemWordL wMemWordf xK xCell xA xB) yK yCell yA yB) (gN wMemWordL wMemWordf yK yCell yA yB) (tN wMemWordL wMemWordf xK xCell xA xB) (tN wMemWordL wMemWordf yK yCell yA yB)
      (fun A k R ra S sa w g g0 g1 => doAny _ _ A _ k _ _ R S _ ra sa _ _ 0 xA xB xDataA xDataL xDataC xWordA xWordL xWordC xK xCell (by omega) (by omega) hF hxA hxB false w g g0 g1)
      (fun A k R ra S sa w g g0 g1 => by
        have h := doAny wMemT wMemC A wMemWordL k (gN wMemWordL wMemWordf xK xCell xA xB) wDiskRoot R S _ ra sa wDiskRows0l wDiskRows1l 0 yA yB yDataA yDataL yDataC yWordA yWordL yWordC yK yCell (by omega) (by omega) (gN_lt hF hxA hxB) hyA hyB false w g g0 g1
        rw [tN_other hc] at h
        exact h)
      (fun A k R ra S sa w g g0 g1 => doAny _ _ A _ k _ _ R S _ ra sa _ _ 0 yA yB yDataA yDataL yDataC yWordA yWordL yWordC yK yCell (by omega) (by omega) hF hyA hyB false w g g0 g1)
      (fun A k R ra S sa w g g0 g1 => by
        have h := doAny wMemT wMemC A wMemWordL k (gN wMemWordL wMemWordf yK yCell yA yB) wDiskRoot R S _ ra sa wDiskRows0l wDiskRows1l 0 xA xB xDataA xDataL xDataC xWordA xWordL xWordC xK xCell (by omega) (by omega) (gN_lt hF hyA hyB) hxA hxB false w g g0 g1
        rw [tN_other (fun e => hc e.symm), gN_swap (fun e => hc e.symm)] at h
        exact h)
      W (Lib.hid hAW) (Lib.hid h0) (Lib.hid h1)
  · exact walkNo wMemT wMemC wMemWordA wMemWordL wMemWordC wMemWordf wDiskRoot wDiskRows0A wDiskRows0L wDiskRows0C wDiskRows1A wDiskRows1L wDiskRows1C wDiskRows0l wDiskRows1l xKind xCell xA xB xDataA xDataL xDataC xWordA xWordL xWordC yKind yCell yA yB yDataA yDataL yDataC yWordA yWordL yWordC (by simpa using hsm) hlm W (Lib.hid hAW) (Lib.hid h0) (Lib.hid h1)

theorem over : Rows.accessSwapsRow.holds Try.pinned (OpenSpec.ofChange Rows.accessSwapsSpec) :=
  OpenClaim.holds_of_wide 6 Try.f6 rfl rfl rfl rfl rfl rfl rfl ⟨rfl, rfl, rfl, rfl, rfl⟩ rfl rfl rfl rfl rfl (by kernel_rfl) Try.func6 (by kernel_rfl)
    (of_decide_eq_true (by kernel_rfl)) (by unfold Func.isWrapper; first | (rw [if_pos (by decide +kernel)]; kernel_rfl) | (rw [if_neg (by decide +kernel)]; exact ⟨rfl, rfl⟩))
    (fun os started H enc _ => lifted os started H enc)

/-- The statement. -/
theorem proved : Rows.AccessSwapsSaid :=
  over
#print axioms proved
end Go.Proofs.Ytieepdpelkpfkaa.accessSwaps
