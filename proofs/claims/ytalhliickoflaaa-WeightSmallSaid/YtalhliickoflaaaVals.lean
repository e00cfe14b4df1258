/-
  Plain values that the contracts of layer 2 tell: kinds, the order, and signs turned; facts on them.
-/
import Derived.Test.YtalhliickoflaaaFloats
import Derived.Laws.BitsAllLaws
namespace Go.Proofs.Ytalhliickoflaaa
set_option linter.unusedVariables false

/-- The kind of a float. -/
def kindI (a : Int) : Int :=
  if a / 4503599627370496 % 2048 = 2047 then (if 0 < a % 4503599627370496 then 4 else 3)
  else if 0 < a / 4503599627370496 % 2048 then 2 else if 0 < a % 4503599627370496 then 1 else 0

/-- Its place in the order. -/
def plI (a : Int) : Int := if 9223372036854775808 ≤ a then 18446744073709551615 - a else a + 9223372036854775808
def lessB (a b : Int) : Bool := decide (plI a < plI b)
/-- With its sign turned. -/
def turnI (a : Int) : Int := if 9223372036854775808 ≤ a then a - 9223372036854775808 else a + 9223372036854775808

theorem mask52 (k : Int) (h0 : 0 ≤ k) (h1 : k < 18446744073709551616) : bits .and .u64 k 4503599627370495 = k % 4503599627370496 := by
  rw [u64_and k 4503599627370495 h0 h1 (by omega) (by omega)]
  have h := Nat.and_two_pow_sub_one_eq_mod k.toNat 52
  have e : (4503599627370495 : Int).toNat = 2 ^ 52 - 1 := by decide
  have p : (2 : Nat) ^ 52 = 4503599627370496 := by decide
  rw [e, h, p]
  omega

theorem mask11 (k : Int) (h0 : 0 ≤ k) (h1 : k < 18446744073709551616) : bits .and .u64 k 2047 = k % 2048 := by
  rw [u64_and k 2047 h0 h1 (by omega) (by omega)]
  have h := Nat.and_two_pow_sub_one_eq_mod k.toNat 11
  have e : (2047 : Int).toNat = 2 ^ 11 - 1 := by decide
  have p : (2 : Nat) ^ 11 = 2048 := by decide
  rw [e, h, p]
  omega

theorem p63 : (2 : Nat) ^ 63 = 9223372036854775808 := by decide

theorem and_sign (a : Int) (h0 : 0 ≤ a) (h1 : a < 18446744073709551616) : bits .and .u64 a 9223372036854775808 = if 9223372036854775808 ≤ a then 9223372036854775808 else 0 := by
  rw [u64_and a 9223372036854775808 h0 h1 (by omega) (by omega)]
  have e : (9223372036854775808 : Int).toNat = 2 ^ 63 := by decide
  rw [e]
  have m := @Nat.and_mod_two_pow a.toNat (2 ^ 63) 63
  have d := @Nat.and_div_two_pow a.toNat (2 ^ 63) 63
  rw [Nat.mod_self, Nat.and_zero] at m
  rw [Nat.div_self (by decide)] at d
  rw [p63] at m d ⊢
  by_cases h : 9223372036854775808 ≤ a
  · rw [if_pos h]
    have : a.toNat / 9223372036854775808 = 1 := by omega
    rw [this] at d
    have d' : (a.toNat &&& 9223372036854775808) / 9223372036854775808 = 1 := d
    omega
  · rw [if_neg h]
    have : a.toNat / 9223372036854775808 = 0 := by omega
    rw [this] at d
    have d' : (a.toNat &&& 9223372036854775808) / 9223372036854775808 = 0 := d
    omega

theorem or_sign (a : Int) (h0 : 0 ≤ a) (h1 : a < 9223372036854775808) : bits .or .u64 a 9223372036854775808 = a + 9223372036854775808 := by
  rw [u64_or a 9223372036854775808 h0 (by omega) (by omega) (by omega)]
  have e : (9223372036854775808 : Int).toNat = 2 ^ 63 := by decide
  rw [e]
  have m := @Nat.or_mod_two_pow a.toNat (2 ^ 63) 63
  have d := @Nat.or_div_two_pow a.toNat (2 ^ 63) 63
  rw [Nat.mod_self, Nat.or_zero] at m
  rw [Nat.div_self (by decide)] at d
  rw [p63] at m d ⊢
  have : a.toNat / 9223372036854775808 = 0 := by omega
  rw [this] at d
  have d' : (a.toNat ||| 9223372036854775808) / 9223372036854775808 = 1 := d
  omega

theorem xor_sign (a : Int) (h0 : 0 ≤ a) (h1 : a < 18446744073709551616) : bits .xor .u64 a 9223372036854775808 = turnI a := by
  rw [u64_xor a 9223372036854775808 h0 h1 (by omega) (by omega)]
  have e : (9223372036854775808 : Int).toNat = 2 ^ 63 := by decide
  rw [e]
  have m := @Nat.xor_mod_two_pow a.toNat (2 ^ 63) 63
  have d := @Nat.xor_div_two_pow a.toNat (2 ^ 63) 63
  rw [Nat.mod_self, Nat.xor_zero] at m
  rw [Nat.div_self (by decide)] at d
  rw [p63] at m d ⊢
  unfold turnI
  by_cases h : 9223372036854775808 ≤ a
  · rw [if_pos h]
    have : a.toNat / 9223372036854775808 = 1 := by omega
    rw [this] at d
    have d' : (a.toNat ^^^ 9223372036854775808) / 9223372036854775808 = 0 := d
    omega
  · rw [if_neg h]
    have : a.toNat / 9223372036854775808 = 0 := by omega
    rw [this] at d
    have d' : (a.toNat ^^^ 9223372036854775808) / 9223372036854775808 = 1 := d
    omega

theorem negF (a : Int) (h0 : 0 ≤ a) (h1 : a < 18446744073709551616) : Op.negFloat .f64 a.toNat = (turnI a).toNat := by
  have x := xor_sign a h0 h1
  rw [u64_xor a 9223372036854775808 h0 h1 (by omega) (by omega)] at x
  have e : (9223372036854775808 : Int).toNat = 2 ^ 63 := by decide
  rw [e] at x
  have g : Op.negFloat .f64 a.toNat = a.toNat ^^^ 2 ^ 63 := rfl
  rw [g]
  omega

theorem not_max (a : Int) (h0 : 0 ≤ a) (h1 : a < 18446744073709551616) : bits .xor .u64 IntKind.u64.max a = 18446744073709551615 - a := by
  have hm : IntKind.u64.max = 18446744073709551615 := rfl
  rw [hm, u64_xor 18446744073709551615 a (by omega) (by omega) h0 h1]
  have e : (18446744073709551615 : Int).toNat = 2 ^ 64 - 1 := by decide
  have x : (2 ^ 64 - 1) ^^^ a.toNat = 2 ^ 64 - 1 - a.toNat := by
    have ha : a.toNat < 2 ^ 64 := by have p : (2 : Nat) ^ 64 = 18446744073709551616 := by decide
                                     omega
    have h := BitVec.allOnes_xor (x := BitVec.ofNat 64 a.toNat)
    have h' := congrArg BitVec.toNat h
    rw [BitVec.toNat_xor, BitVec.toNat_not, BitVec.toNat_allOnes, BitVec.toNat_ofNat, Nat.mod_eq_of_lt ha] at h'
    exact h'
  rw [e, x]
  have p : (2 : Nat) ^ 64 = 18446744073709551616 := by decide
  rw [p]
  omega

theorem plI_bd (a : Int) (h0 : 0 ≤ a) (h1 : a < 18446744073709551616) : 0 ≤ plI a ∧ plI a < 18446744073709551616 := by
  unfold plI; split <;> omega
theorem turnI_bd (a : Int) (h0 : 0 ≤ a) (h1 : a < 18446744073709551616) : 0 ≤ turnI a ∧ turnI a < 18446744073709551616 := by
  unfold turnI; split <;> omega
theorem plI_inj {a b : Int} (h0 : 0 ≤ a) (h1 : a < 18446744073709551616) (h2 : 0 ≤ b) (h3 : b < 18446744073709551616) (h : plI a = plI b) : a = b := by
  unfold plI at h; split at h <;> split at h <;> omega

theorem kindI_bd (a : Int) : 0 ≤ kindI a ∧ kindI a ≤ 4 := by
  unfold kindI; repeat' split
  all_goals omega

theorem kindI_nan (a : Int) (h0 : 0 ≤ a) (h1 : a < 18446744073709551616) : kindI a = 4 ↔ 9218868437227405312 < rungW a.toNat := by
  unfold kindI rungW; repeat' split
  all_goals omega
theorem kindI_zero (a : Int) (h0 : 0 ≤ a) (h1 : a < 18446744073709551616) : kindI a = 0 ↔ rungW a.toNat = 0 := by
  unfold kindI rungW; repeat' split
  all_goals omega
theorem kindI_usual (a : Int) (h0 : 0 ≤ a) (h1 : a < 18446744073709551616) : kindI a = 2 ↔ 4503599627370496 ≤ rungW a.toNat ∧ rungW a.toNat < 9218868437227405312 := by
  unfold kindI rungW; repeat' split
  all_goals omega
theorem kindI_small (x : Int) (h0 : 0 ≤ x) (h1 : x < 2251799813685248) : kindI x = if 0 < x then 1 else 0 := by
  unfold kindI; repeat' split
  all_goals omega
theorem kindI_turn (a : Int) (h0 : 0 ≤ a) (h1 : a < 18446744073709551616) : kindI (turnI a) = kindI a := by
  have e1 : turnI a / 4503599627370496 % 2048 = a / 4503599627370496 % 2048 := by unfold turnI; split <;> omega
  have e2 : turnI a % 4503599627370496 = a % 4503599627370496 := by unfold turnI; split <;> omega
  unfold kindI
  rw [e1, e2]
theorem plI_turn (a : Int) (h0 : 0 ≤ a) (h1 : a < 18446744073709551616) : plI (turnI a) = 18446744073709551615 - plI a := by
  unfold plI turnI; repeat' split
  all_goals omega

/-- The signed magnitude of a float's bits. -/
def valI (a : Int) : Int := if 9223372036854775808 ≤ a then -(a - 9223372036854775808) else a

theorem valI_eq (a : Int) (h0 : 0 ≤ a) (h1 : a < 18446744073709551616) : sgn (negW a.toNat) (rungW a.toNat) = valI a := by
  unfold sgn negW rungW valI
  by_cases h : 9223372036854775808 ≤ a
  · rw [if_pos (by simp; omega), if_pos h]; omega
  · rw [if_neg (by simp; omega), if_neg h]; omega

/-- How two floats stand to each other, as an operation of the language finds it. -/
theorem ord_none (a b : Int) (h0 : 0 ≤ a) (h1 : a < 18446744073709551616) (h2 : 0 ≤ b) (h3 : b < 18446744073709551616) (h : kindI a = 4 ∨ kindI b = 4) :
    FloatKind.f64.format.order a.toNat b.toNat = none := by
  rw [kindI_nan a h0 h1, kindI_nan b h2 h3] at h
  exact order_nan h
theorem ord_some (a b : Int) (h0 : 0 ≤ a) (h1 : a < 18446744073709551616) (h2 : 0 ≤ b) (h3 : b < 18446744073709551616) (ha : kindI a ≠ 4) (hb : kindI b ≠ 4) :
    FloatKind.f64.format.order a.toNat b.toNat = some (compare (valI a) (valI b)) := by
  rw [Ne, kindI_nan a h0 h1] at ha
  rw [Ne, kindI_nan b h2 h3] at hb
  rw [← valI_eq a h0 h1, ← valI_eq b h2 h3]
  exact order_num (by omega) (by omega) (by omega) (by omega)

theorem cmp_lt {x y : Int} (h : x < y) : compare x y = .lt := by
  show compareOfLessAndEq x y = _
  unfold compareOfLessAndEq; rw [if_pos h]
theorem cmp_eq {x y : Int} (h : x = y) : compare x y = .eq := by
  show compareOfLessAndEq x y = _
  unfold compareOfLessAndEq; rw [if_neg (by omega), if_pos h]
theorem cmp_gt {x y : Int} (h : y < x) : compare x y = .gt := by
  show compareOfLessAndEq x y = _
  unfold compareOfLessAndEq; rw [if_neg (by omega), if_neg (by omega)]

/-- The four ways in which two floats stand to each other. -/
theorem ord_cases (a b : Int) (h0 : 0 ≤ a) (h1 : a < 18446744073709551616) (h2 : 0 ≤ b) (h3 : b < 18446744073709551616) :
    ((kindI a = 4 ∨ kindI b = 4) ∧ FloatKind.f64.format.order a.toNat b.toNat = none) ∨
    (kindI a ≠ 4 ∧ kindI b ≠ 4 ∧ FloatKind.f64.format.order a.toNat b.toNat = some .lt ∧ lessB a b = true ∧ lessB b a = false) ∨
    (kindI a ≠ 4 ∧ kindI b ≠ 4 ∧ FloatKind.f64.format.order a.toNat b.toNat = some .gt ∧ lessB a b = false ∧ lessB b a = true) ∨
    (kindI a ≠ 4 ∧ kindI b ≠ 4 ∧ FloatKind.f64.format.order a.toNat b.toNat = some .eq ∧ (a = b ∨ (a ≠ b ∧ kindI a = 0 ∧ kindI b = 0))) := by
  by_cases ha : kindI a = 4
  · exact Or.inl ⟨Or.inl ha, ord_none a b h0 h1 h2 h3 (Or.inl ha)⟩
  by_cases hb : kindI b = 4
  · exact Or.inl ⟨Or.inr hb, ord_none a b h0 h1 h2 h3 (Or.inr hb)⟩
  have ho := ord_some a b h0 h1 h2 h3 ha hb
  right
  rcases Int.lt_trichotomy (valI a) (valI b) with p | p | p
  · left
    refine ⟨ha, hb, by rw [ho, cmp_lt p], ?_, ?_⟩
    · unfold lessB; rw [decide_eq_true_eq]; unfold valI at p; unfold plI; repeat' split at p
      all_goals (repeat' split) <;> omega
    · unfold lessB; rw [decide_eq_false_iff_not]; unfold valI at p; unfold plI; repeat' split at p
      all_goals (repeat' split) <;> omega
  · right; right
    refine ⟨ha, hb, by rw [ho, cmp_eq p], ?_⟩
    by_cases e : a = b
    · exact Or.inl e
    · refine Or.inr ⟨e, ?_, ?_⟩
      · rw [kindI_zero a h0 h1]; unfold rungW; unfold valI at p; repeat' split at p
        all_goals omega
      · rw [kindI_zero b h2 h3]; unfold rungW; unfold valI at p; repeat' split at p
        all_goals omega
  · right; left
    refine ⟨ha, hb, by rw [ho, cmp_gt p], ?_, ?_⟩
    · unfold lessB; rw [decide_eq_false_iff_not]; unfold valI at p; unfold plI; repeat' split at p
      all_goals (repeat' split) <;> omega
    · unfold lessB; rw [decide_eq_true_eq]; unfold valI at p; unfold plI; repeat' split at p
      all_goals (repeat' split) <;> omega

theorem ord_self (a : Int) (h0 : 0 ≤ a) (h1 : a < 18446744073709551616) (ha : kindI a ≠ 4) : FloatKind.f64.format.order a.toNat a.toNat = some .eq := by
  rw [ord_some a a h0 h1 h0 h1 ha ha, cmp_eq rfl]

theorem mulF (b : Int) (h0 : 0 ≤ b) (h1 : b < 18446744073709551616) (h2 : b + 4503599627370496 < 18446744073709551616) (hb : kindI b = 2) (hc : kindI (b + 4503599627370496) = 2) :
    floatBits .mul .f64 4611686018427387904 b.toNat = some (b + 4503599627370496).toNat := by
  rw [kindI_usual b h0 h1] at hb
  rw [kindI_usual (b + 4503599627370496) (by omega) h2] at hc
  have e := mul_two (b := b.toNat) (by omega) hb.1 (by unfold rungW at hb hc ⊢; omega)
  have e' : (b + 4503599627370496).toNat = b.toNat + 4503599627370496 := by omega
  rw [e']
  exact e

theorem addF (x y : Int) (h0 : 0 ≤ x) (h1 : x < 2251799813685248) (h2 : 0 ≤ y) (h3 : y < 2251799813685248) : floatBits .add .f64 x.toNat y.toNat = some (x + y).toNat := by
  have e := add_small (x := x.toNat) (y := y.toNat) (by omega) (by omega)
  have e' : (x + y).toNat = x.toNat + y.toNat := by omega
  rw [e']
  exact e

theorem lessB_irrefl (a : Int) : lessB a a = false := by unfold lessB; rw [decide_eq_false_iff_not]; omega

end Go.Proofs.Ytalhliickoflaaa
