/-
  Plain facts on the words of float64: how two words stand to each other as floats is how their signed magnitudes stand to each other as whole numbers; doubling, and sums of small ones.
-/
import Derived.Laws.FloatArith
namespace Go.Proofs.Ytalhliickoflaaa
set_option linter.unusedVariables false

/-- The magnitude of a rung, in units of the least place. -/
def magOf (r : Nat) : Nat := if r < 4503599627370496 then r else (4503599627370496 + r % 4503599627370496) * 2 ^ (r / 4503599627370496 - 1)

theorem magOf_zero : magOf 0 = 0 := rfl

theorem magOf_lt {r t : Nat} (h : r < t) : magOf r < magOf t := by
  unfold magOf
  by_cases h1 : t < 4503599627370496
  · rw [if_pos h1, if_pos (by omega)]; exact h
  · rw [if_neg h1]
    have hp : 0 < 2 ^ (t / 4503599627370496 - 1) := Nat.two_pow_pos _
    by_cases h2 : r < 4503599627370496
    · rw [if_pos h2]
      have := Nat.le_mul_of_pos_right (4503599627370496 + t % 4503599627370496) hp
      omega
    · rw [if_neg h2]
      by_cases he : r / 4503599627370496 = t / 4503599627370496
      · rw [he]
        exact Nat.mul_lt_mul_of_pos_right (by omega) hp
      · have hq : r / 4503599627370496 < t / 4503599627370496 := by omega
        have e1 : 2 ^ (r / 4503599627370496 - 1) * 2 ≤ 2 ^ (t / 4503599627370496 - 1) := by
          rw [← Nat.pow_succ]
          exact Nat.pow_le_pow_right (by omega) (by omega)
        have e2 : (4503599627370496 + r % 4503599627370496) * 2 ^ (r / 4503599627370496 - 1) < (2 * 4503599627370496) * 2 ^ (r / 4503599627370496 - 1) :=
          Nat.mul_lt_mul_of_pos_right (by omega) (Nat.two_pow_pos _)
        have e3 : (2 * 4503599627370496) * 2 ^ (r / 4503599627370496 - 1) = 4503599627370496 * (2 ^ (r / 4503599627370496 - 1) * 2) := by
          rw [Nat.mul_comm (2 ^ _) 2, ← Nat.mul_assoc, Nat.mul_comm 4503599627370496 2]
        have e4 : 4503599627370496 * (2 ^ (r / 4503599627370496 - 1) * 2) ≤ 4503599627370496 * 2 ^ (t / 4503599627370496 - 1) := Nat.mul_le_mul_left _ e1
        have e5 : 4503599627370496 * 2 ^ (t / 4503599627370496 - 1) ≤ (4503599627370496 + t % 4503599627370496) * 2 ^ (t / 4503599627370496 - 1) := Nat.mul_le_mul_right _ (by omega)
        omega

theorem magOf_eq {r t : Nat} (h : magOf r = magOf t) : r = t := by
  rcases Nat.lt_trichotomy r t with p | p | p
  · have := magOf_lt p; omega
  · exact p
  · have := magOf_lt p; omega

/-- The sign of a word, and its rung. -/
def negW (a : Nat) : Bool := decide (9223372036854775808 ≤ a)
def rungW (a : Nat) : Nat := a % 9223372036854775808

/-- With a sign. -/
def sgn (s : Bool) (m : Nat) : Int := if s then -(m : Int) else m

theorem sgn_lt {s t : Bool} {r q : Nat} : (sgn s r < sgn t q ↔ sgn s (magOf r) < sgn t (magOf q)) ∧ (sgn s r = sgn t q ↔ sgn s (magOf r) = sgn t (magOf q)) := by
  have z := magOf_zero
  have k1 : r = 0 ∨ (0 < r ∧ 0 < magOf r) := by
    by_cases h : r = 0
    · exact Or.inl h
    · right; have := magOf_lt (r := 0) (t := r) (by omega); omega
  have k2 : q = 0 ∨ (0 < q ∧ 0 < magOf q) := by
    by_cases h : q = 0
    · exact Or.inl h
    · right; have := magOf_lt (r := 0) (t := q) (by omega); omega
  have k3 : (r < q ∧ magOf r < magOf q) ∨ (r = q) ∨ (q < r ∧ magOf q < magOf r) := by
    rcases Nat.lt_trichotomy r q with p | p | p
    · exact Or.inl ⟨p, magOf_lt p⟩
    · exact Or.inr (Or.inl p)
    · exact Or.inr (Or.inr ⟨p, magOf_lt p⟩)
  have k4 : r = 0 → magOf r = 0 := fun h => by rw [h]; rfl
  have k5 : q = 0 → magOf q = 0 := fun h => by rw [h]; rfl
  have k6 : r = q → magOf r = magOf q := fun h => by rw [h]
  generalize magOf r = R at *
  generalize magOf q = Q at *
  unfold sgn
  cases s <;> cases t <;> simp only [Bool.false_eq_true, if_false, if_true] <;> constructor <;> constructor <;> intro h <;> omega

theorem compare_iff {a b c d : Int} (h1 : a < b ↔ c < d) (h2 : a = b ↔ c = d) : compare a b = compare c d := by
  show compareOfLessAndEq a b = compareOfLessAndEq c d
  unfold compareOfLessAndEq
  simp only [h1, h2]

theorem compare_scale (a b : Int) (k : Nat) : compare (a * 2 ^ k) (b * 2 ^ k) = compare a b := by
  have hp : (0 : Int) < 2 ^ k := Int.pow_pos (by omega)
  refine compare_iff ⟨fun h => Int.lt_of_mul_lt_mul_right h (Int.le_of_lt hp), fun h => Int.mul_lt_mul_of_pos_right h hp⟩ ⟨fun h => Int.eq_of_mul_eq_mul_right (Int.ne_of_gt hp) h, fun h => by rw [h]⟩

theorem signed_scale (s : Bool) (m i k : Nat) (h : k ≤ i) : Ieee.signed s m (i - k) * 2 ^ k = sgn s (m * 2 ^ i) := by
  have e : m * 2 ^ (i - k) * 2 ^ k = m * 2 ^ i := by rw [Nat.mul_assoc, ← Nat.pow_add]; congr 2; omega
  unfold Ieee.signed sgn
  rw [Nat.shiftLeft_eq, ← e]
  cases s
  · simp
  · simp [Int.neg_mul]

/-- What a finite word reads as. -/
theorem read_fin {a : Nat} (h : rungW a < 9218868437227405312) (hb : a < 18446744073709551616) :
    ∃ m i : Nat, Ieee.double.read a = .number (negW a) m (-1074 + i) ∧ m * 2 ^ i = magOf (rungW a) ∧
      (rungW a < 4503599627370496 → m = rungW a ∧ i = 0) ∧ (4503599627370496 ≤ rungW a → m = 4503599627370496 + rungW a % 4503599627370496 ∧ i = rungW a / 4503599627370496 - 1) := by
  have hs : (a / Ieee.double.signWeight % 2 == 1) = negW a := by
    have e : Ieee.double.signWeight = 9223372036854775808 := by decide
    rw [e, Bool.eq_iff_iff]
    unfold negW
    simp only [beq_iff_eq, decide_eq_true_eq]
    omega
  have hw : a % Ieee.double.signWeight = rungW a := by
    have e : Ieee.double.signWeight = 9223372036854775808 := by decide
    rw [e]; rfl
  have e1 : Ieee.double.binade = 4503599627370496 := by decide
  have e2 : Ieee.double.infRung = 9218868437227405312 := by decide
  have e3 : Ieee.double.leastPlace = -1074 := by decide
  unfold Ieee.Format.read
  simp only [hs, hw, e1, e2, e3]
  unfold magOf
  by_cases h1 : rungW a < 4503599627370496
  · refine ⟨rungW a, 0, ?_, ?_, fun _ => ⟨rfl, rfl⟩, fun h => by omega⟩
    · rw [if_pos h1]; rfl
    · rw [if_pos h1]; omega
  · refine ⟨4503599627370496 + rungW a % 4503599627370496, rungW a / 4503599627370496 - 1, ?_, ?_, fun h => by omega, fun _ => ⟨rfl, rfl⟩⟩
    · rw [if_neg h1, if_pos h]
    · rw [if_neg h1]

theorem read_inf {a : Nat} (h : rungW a = 9218868437227405312) (hb : a < 18446744073709551616) : Ieee.double.read a = .infinity (negW a) := by
  have hs : (a / Ieee.double.signWeight % 2 == 1) = negW a := by
    have e : Ieee.double.signWeight = 9223372036854775808 := by decide
    rw [e, Bool.eq_iff_iff]
    unfold negW
    simp only [beq_iff_eq, decide_eq_true_eq]
    omega
  have hw : a % Ieee.double.signWeight = rungW a := by
    have e : Ieee.double.signWeight = 9223372036854775808 := by decide
    rw [e]; rfl
  have e1 : Ieee.double.binade = 4503599627370496 := by decide
  have e2 : Ieee.double.infRung = 9218868437227405312 := by decide
  unfold Ieee.Format.read
  simp only [hs, hw, e1, e2]
  rw [if_neg (by omega), if_neg (by omega), if_pos h]

theorem read_nan {a : Nat} (h : 9218868437227405312 < rungW a) : ∃ s f, Ieee.double.read a = .nan s f := by
  have hw : a % Ieee.double.signWeight = rungW a := by
    have e : Ieee.double.signWeight = 9223372036854775808 := by decide
    rw [e]; rfl
  have e1 : Ieee.double.binade = 4503599627370496 := by decide
  have e2 : Ieee.double.infRung = 9218868437227405312 := by decide
  unfold Ieee.Format.read
  simp only [hw, e1, e2]
  rw [if_neg (by omega), if_neg (by omega), if_neg (by omega)]
  exact ⟨_, _, rfl⟩

theorem order_nan {a b : Nat} (h : 9218868437227405312 < rungW a ∨ 9218868437227405312 < rungW b) : Ieee.double.order a b = none := by
  unfold Ieee.Format.order
  rcases h with h | h
  · obtain ⟨s, f, e⟩ := read_nan h
    rw [e]; rfl
  · obtain ⟨s, f, e⟩ := read_nan h
    rw [e]
    cases Ieee.double.read a <;> rfl

theorem order_num {a b : Nat} (ha : a < 18446744073709551616) (hb : b < 18446744073709551616) (ra : rungW a ≤ 9218868437227405312) (rb : rungW b ≤ 9218868437227405312) :
    Ieee.double.order a b = some (compare (sgn (negW a) (rungW a)) (sgn (negW b) (rungW b))) := by
  unfold Ieee.Format.order
  by_cases fa : rungW a < 9218868437227405312
  · obtain ⟨m, i, ea, va, -, -⟩ := read_fin fa ha
    by_cases fb : rungW b < 9218868437227405312
    · obtain ⟨n, j, eb, vb, -, -⟩ := read_fin fb hb
      rw [ea, eb]
      have hm : min ((-1074 : Int) + i) (-1074 + j) = -1074 + (min i j : Nat) := by omega
      have h1 : ((-1074 : Int) + i - (-1074 + (min i j : Nat))).toNat = i - min i j := by omega
      have h2 : ((-1074 : Int) + j - (-1074 + (min i j : Nat))).toNat = j - min i j := by omega
      show some (compare _ _) = _
      rw [hm, h1, h2, ← compare_scale _ _ (min i j), signed_scale _ _ _ _ (Nat.min_le_left _ _), signed_scale _ _ _ _ (Nat.min_le_right _ _), va, vb]
      exact congrArg some (compare_iff sgn_lt.1.symm sgn_lt.2.symm)
    · have eb := read_inf (a := b) (by omega) hb
      rw [ea, eb]
      show some (if negW b then Ordering.gt else Ordering.lt) = _
      congr 1
      show _ = compareOfLessAndEq _ _
      unfold compareOfLessAndEq sgn
      cases negW a <;> cases negW b <;> simp only [Bool.false_eq_true, if_false, if_true]
      · rw [if_pos (by omega)]
      · rw [if_neg (by omega), if_neg (by omega)]
      · rw [if_pos (by omega)]
      · rw [if_neg (by omega), if_neg (by omega)]
  · have ea := read_inf (a := a) (by omega) ha
    by_cases fb : rungW b < 9218868437227405312
    · obtain ⟨n, j, eb, vb, -, -⟩ := read_fin fb hb
      rw [ea, eb]
      show some (if negW a then Ordering.lt else Ordering.gt) = _
      congr 1
      show _ = compareOfLessAndEq _ _
      unfold compareOfLessAndEq sgn
      cases negW a <;> cases negW b <;> simp only [Bool.false_eq_true, if_false, if_true]
      · rw [if_neg (by omega), if_neg (by omega)]
      · rw [if_neg (by omega), if_neg (by omega)]
      · rw [if_pos (by omega)]
      · rw [if_pos (by omega)]
    · have eb := read_inf (a := b) (by omega) hb
      have ha' : rungW a = 9218868437227405312 := by omega
      have hb' : rungW b = 9218868437227405312 := by omega
      rw [ea, eb, ha', hb']
      cases negW a <;> cases negW b <;> rfl

theorem cut_even (m d : Nat) (s : Bool) (h : d ≤ m.log2 + 2) (hd : m % 2 ^ d = 0) : Ieee.Toward.even.cut s m d = m / 2 ^ d := by
  have hp : 0 < 2 ^ d := Nat.two_pow_pos _
  unfold Ieee.Toward.cut
  simp only [Nat.min_eq_left h, Nat.shiftLeft_eq, Nat.one_mul, hd]
  have e1 : decide (2 ^ d < 2 * 0) = false := by simp
  have e2 : (2 ^ d == 2 * 0) = false := by
    rw [beq_eq_false_iff_ne]; omega
  simp only [e1, e2, Bool.false_and, Bool.or_false, Bool.toNat_false, Nat.add_zero]

theorem word_of {a : Nat} (hb : a < 18446744073709551616) : Ieee.double.word (negW a) (rungW a) = a := by
  unfold Ieee.Format.word negW rungW
  have e : Ieee.double.signWeight = 9223372036854775808 := by decide
  rw [e]
  by_cases h : 9223372036854775808 ≤ a
  · rw [if_pos (by simpa using h)]; omega
  · rw [if_neg (by simpa using h)]; omega

theorem nearest_exact (s : Bool) (mag : Nat) (place last : Int) (hm : mag ≠ 0) (hl : max (place + (mag.log2 : Nat) - 52) (-1074) = last) (hp : place ≤ last) (hd : last - place ≤ (mag.log2 : Nat)) (hv : mag % 2 ^ (last - place).toNat = 0) :
    Ieee.double.nearest s mag place = Ieee.double.word s (min ((last + 1074).toNat * 4503599627370496 + mag / 2 ^ (last - place).toNat) 9218868437227405312) := by
  have k1 : Ieee.double.binade = 4503599627370496 := by decide
  have k2 : Ieee.double.infRung = 9218868437227405312 := by decide
  have k3 : Ieee.double.leastPlace = -1074 := by decide
  have k5 : ((Ieee.double.fractionBits : Nat) : Int) = 52 := by decide
  unfold Ieee.Format.nearest
  rw [if_neg hm, k1, k2, k3, k5]
  dsimp only
  rw [hl]
  have p1 : (place - last).toNat = 0 := by omega
  have p3 : last - -1074 = last + 1074 := by omega
  rw [p1, p3, Nat.shiftLeft_zero, cut_even _ _ _ (by omega) hv]

/-- Twice a usual float: one more in its exponent. -/
theorem mul_two {b : Nat} (hb : b < 18446744073709551616) (h1 : 4503599627370496 ≤ rungW b) (h2 : rungW b + 4503599627370496 < 9218868437227405312) :
    Ieee.double.mul 4611686018427387904 b = some (b + 4503599627370496) := by
  obtain ⟨m, i, eb, -, -, hn⟩ := read_fin (a := b) (by omega) hb
  obtain ⟨hm, hi⟩ := hn h1
  have e2 : Ieee.double.read 4611686018427387904 = .number false 4503599627370496 (-51) := by decide
  obtain ⟨B, hB⟩ : ∃ B : Nat, B = 4503599627370496 := ⟨_, rfl⟩
  rw [← hB] at e2
  unfold Ieee.Format.mul
  rw [eb, e2]
  simp only [Ieee.Datum.product, Option.map_some, Ieee.Format.write, Bool.false_xor]
  congr 1
  have hb' : b + 4503599627370496 < 18446744073709551616 := by unfold rungW at h2; omega
  have hr : rungW (b + 4503599627370496) = rungW b + 4503599627370496 := by unfold rungW at h2 ⊢; omega
  have hs : negW (b + 4503599627370496) = negW b := by unfold negW; unfold rungW at h2; rw [decide_eq_decide]; omega
  obtain ⟨g, hg⟩ : ∃ g : Nat, g = B * m := ⟨_, rfl⟩
  have hg' : g = 4503599627370496 * m := by rw [hg, hB]
  rw [← hg]
  have hlog : g.log2 = 104 := by
    rw [Nat.log2_eq_iff (by omega)]
    constructor <;> omega
  have p52 : (2 : Nat) ^ 52 = 4503599627370496 := by decide
  have hd : 2 ^ (-51 + (-1074 + ((i : Nat) : Int)) + 52 - (-51 + (-1074 + ((i : Nat) : Int)))).toNat = 4503599627370496 := by
    have e : (-51 + (-1074 + ((i : Nat) : Int)) + 52 - (-51 + (-1074 + ((i : Nat) : Int)))).toNat = 52 := by omega
    exact (congrArg (fun n => 2 ^ n) e).trans p52
  have hq : g / 4503599627370496 = m := by omega
  have hz : g % 4503599627370496 = 0 := by omega
  rw [nearest_exact (negW b) g (-51 + (-1074 + (i : Int))) (-51 + (-1074 + (i : Int)) + 52) (by omega) (by rw [hlog]; omega) (by omega) (by rw [hlog]; omega) (by rw [hd]; exact hz), hd, hq]
  have q1 : (-51 + (-1074 + (i : Int)) + 52 + 1074).toNat = i + 1 := by omega
  have q2 : (i + 1) * 4503599627370496 + m = rungW b + 4503599627370496 := by omega
  rw [q1, q2, Nat.min_eq_left (Nat.le_of_lt h2), ← hr, ← hs]
  exact word_of hb'

/-- Small floats add as whole numbers. -/
theorem add_small {x y : Nat} (hx : x < 2251799813685248) (hy : y < 2251799813685248) : Ieee.double.add x y = some (x + y) := by
  have rx : rungW x = x := by unfold rungW; omega
  have ry : rungW y = y := by unfold rungW; omega
  obtain ⟨m, i, ex, -, hm, -⟩ := read_fin (a := x) (by omega) (by omega)
  obtain ⟨hm1, hm2⟩ := hm (by omega)
  obtain ⟨n, j, ey, -, hn, -⟩ := read_fin (a := y) (by omega) (by omega)
  obtain ⟨hn1, hn2⟩ := hn (by omega)
  rw [rx] at hm1
  rw [ry] at hn1
  subst hm1 hm2 hn1 hn2
  have nx : negW m = false := by unfold negW; simp; omega
  have ny : negW n = false := by unfold negW; simp; omega
  unfold Ieee.Format.add
  rw [ex, ey, nx, ny]
  have l0 : (-1074 : Int) + ((0 : Nat) : Int) = -1074 := by omega
  have l1 : ((-1074 : Int) - -1074).toNat = 0 := by omega
  simp only [Ieee.Datum.sum, l0, Int.min_self, l1, Ieee.signed, Bool.false_eq_true, if_false, Nat.shiftLeft_zero, Option.map_some, Ieee.Format.write]
  congr 1
  have sg : (if (m : Int) + (n : Int) = 0 then false && false else decide ((m : Int) + (n : Int) < 0)) = false := by
    split
    · rfl
    · simp; omega
  have na : ((m : Int) + (n : Int)).natAbs = m + n := by omega
  rw [sg, na]
  have w0 : ∀ r, Ieee.double.word false r = r := fun r => rfl
  by_cases h0 : m + n = 0
  · rw [h0]; rfl
  · have hlog : (m + n).log2 < 52 := by
      rw [Nat.log2_lt h0]; omega
    rw [nearest_exact false (m + n) (-1074) (-1074) h0 (by omega) (by omega) (by omega) (by rw [l1]; omega), l1, w0]
    omega

end Go.Proofs.Ytalhliickoflaaa
