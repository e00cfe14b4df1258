/-
  Plain facts on checks of 32 bits, as the document tells them bit by bit: that a step is linear, that it loses nothing, that half a byte may be looked up, and what follows for rows of bytes. Nothing of the program stands here.
-/
import Derived.Test.YtioheffdolnciaaDoorPlain
namespace Go.Proofs.YtioheffdolnciaaDoor

/-- One bit shifted out. -/
def stepN (s : Nat) : Nat := if s % 2 = 1 then (s / 2) ^^^ 3988292384 else s / 2
def step4 (s : Nat) : Nat := stepN (stepN (stepN (stepN s)))
def step8 (s : Nat) : Nat := step4 (step4 s)
def byteN (s x : Nat) : Nat := step8 (s ^^^ x)
def foldN (s : Nat) (xs : List Nat) : Nat := xs.foldl byteN s
/-- The check that is gone on with. -/
def moreN (sum : Nat) (xs : List Nat) : Nat := 4294967295 - foldN (4294967295 - sum) xs
def halfs : List Nat := [0, 498536548, 997073096, 651767980, 1994146192, 1802195444, 1303535960, 1342533948, 3988292384, 4027552580, 3604390888, 3412177804, 2607071920, 2262029012, 2685067896, 3183342108]

theorem xor_lc (a b c : Nat) : a ^^^ (b ^^^ c) = b ^^^ (a ^^^ c) := by rw [← Nat.xor_assoc, Nat.xor_comm a b, Nat.xor_assoc]

theorem xor_parity (a b : Nat) : (a ^^^ b) % 2 = 1 ↔ ¬ (a % 2 = b % 2) := by
  have h := Nat.testBit_xor a b 0
  simp only [Nat.testBit_zero] at h
  rcases Nat.mod_two_eq_zero_or_one a with ha | ha <;> rcases Nat.mod_two_eq_zero_or_one b with hb | hb <;> rcases Nat.mod_two_eq_zero_or_one (a ^^^ b) with hc | hc <;> simp [ha, hb, hc] at h ⊢

theorem step_eq (s : Nat) : stepN s = s / 2 ^^^ (if s % 2 = 1 then 3988292384 else 0) := by
  unfold stepN; split <;> simp

theorem step_xor (a b : Nat) : stepN (a ^^^ b) = stepN a ^^^ stepN b := by
  rw [step_eq, step_eq, step_eq, Nat.xor_div_two]
  have hp := xor_parity a b
  have e : (if (a ^^^ b) % 2 = 1 then 3988292384 else 0) = ((if a % 2 = 1 then 3988292384 else 0) ^^^ (if b % 2 = 1 then 3988292384 else 0) : Nat) := by
    rcases Nat.mod_two_eq_zero_or_one a with ha | ha <;> rcases Nat.mod_two_eq_zero_or_one b with hb | hb <;> simp [ha, hb] at hp ⊢ <;> simp [hp]
  rw [e]
  simp only [Nat.xor_assoc, xor_lc, Nat.xor_comm]

theorem step4_xor (a b : Nat) : step4 (a ^^^ b) = step4 a ^^^ step4 b := by
  unfold step4; rw [step_xor, step_xor, step_xor, step_xor]
theorem step8_xor (a b : Nat) : step8 (a ^^^ b) = step8 a ^^^ step8 b := by
  unfold step8; rw [step4_xor, step4_xor]

theorem step_lt {s : Nat} (h : s < 4294967296) : stepN s < 4294967296 := by
  rw [step_eq]
  refine Nat.xor_lt_two_pow (n := 32) (by omega) ?_
  split <;> omega
theorem step4_lt {s : Nat} (h : s < 4294967296) : step4 s < 4294967296 := step_lt (step_lt (step_lt (step_lt h)))
theorem step8_lt {s : Nat} (h : s < 4294967296) : step8 s < 4294967296 := step4_lt (step4_lt h)

theorem step_inj {a b : Nat} (ha : a < 4294967296) (hb : b < 4294967296) (h : stepN a = stepN b) : a = b := by
  have key : ∀ x y : Nat, x < 2147483648 → y < 2147483648 → x ^^^ 3988292384 = y → False := by
    intro x y hx hy e
    have : x ^^^ y = 3988292384 := by rw [← e, ← Nat.xor_assoc, Nat.xor_self, Nat.zero_xor]
    have h2 : x ^^^ y < 2 ^ 31 := Nat.xor_lt_two_pow (by omega) (by omega)
    omega
  have canc : ∀ x y : Nat, x ^^^ 3988292384 = y ^^^ 3988292384 → x = y := by
    intro x y e
    have := congrArg (· ^^^ 3988292384) e
    simpa [Nat.xor_assoc, Nat.xor_self] using this
  unfold stepN at h
  split at h <;> split at h
  · have := canc _ _ h; omega
  · exact (key _ _ (by omega) (by omega) h).elim
  · exact (key _ _ (by omega) (by omega) h.symm).elim
  · omega
theorem step4_inj {a b : Nat} (ha : a < 4294967296) (hb : b < 4294967296) (h : step4 a = step4 b) : a = b :=
  step_inj ha hb (step_inj (step_lt ha) (step_lt hb) (step_inj (step_lt (step_lt ha)) (step_lt (step_lt hb)) (step_inj (step_lt (step_lt (step_lt ha))) (step_lt (step_lt (step_lt hb))) h)))
theorem step8_inj {a b : Nat} (ha : a < 4294967296) (hb : b < 4294967296) (h : step8 a = step8 b) : a = b :=
  step4_inj ha hb (step4_inj (step4_lt ha) (step4_lt hb) h)

theorem xor_canc {a b c : Nat} (h : a ^^^ c = b ^^^ c) : a = b := by
  have := congrArg (· ^^^ c) h
  simpa [Nat.xor_assoc, Nat.xor_self] using this
theorem xor_eq_zero {a b : Nat} : a ^^^ b = 0 ↔ a = b := by
  constructor
  · intro h; exact xor_canc (c := b) (by rw [h, Nat.xor_self])
  · rintro rfl; exact Nat.xor_self _

theorem step_double (y : Nat) : stepN (2 * y) = y := by
  unfold stepN; rw [if_neg (by omega)]; omega
theorem step4_shl (y : Nat) : step4 (16 * y) = y := by
  have e : 16 * y = 2 * (2 * (2 * (2 * y))) := by omega
  unfold step4; rw [e, step_double, step_double, step_double, step_double]
theorem step8_shl (y : Nat) : step8 (256 * y) = y := by
  have e : 256 * y = 16 * (16 * y) := by omega
  unfold step8; rw [e, step4_shl, step4_shl]
theorem step_zero : stepN 0 = 0 := rfl
theorem step8_zero : step8 0 = 0 := by decide

theorem split16 (s : Nat) : s = 16 * (s / 16) ^^^ s % 16 := by
  apply Nat.eq_of_testBit_eq
  intro i
  have e : 16 * (s / 16) = (s / 2 ^ 4) * 2 ^ 4 := by omega
  have e2 : s % 16 = s % 2 ^ 4 := rfl
  rw [Nat.testBit_xor, e, e2, Nat.testBit_mul_two_pow, Nat.testBit_mod_two_pow, Nat.testBit_div_two_pow]
  by_cases h : i < 4
  · have h' : ¬ 4 ≤ i := by omega
    simp [h, h']
  · have h' : 4 ≤ i := by omega
    simp [h, h', Nat.sub_add_cancel h']

theorem halfs_eq : ∀ r : Nat, r < 16 → step4 r = halfs.getD r 0 := by decide

/-- Half a byte, looked up. -/
theorem step4_look (s : Nat) : step4 s = s / 16 ^^^ halfs.getD (s % 16) 0 := by
  conv => lhs; rw [split16 s]
  rw [step4_xor, step4_shl, halfs_eq _ (by omega)]

theorem halfs_lt : ∀ r : Nat, r < 16 → halfs.getD r 0 < 4294967296 := by decide

theorem byte_lt {s x : Nat} (hs : s < 4294967296) (hx : x < 256) : byteN s x < 4294967296 :=
  step8_lt (Nat.xor_lt_two_pow (n := 32) (by omega) (by omega))
theorem fold_lt {s : Nat} {xs : List Nat} (hs : s < 4294967296) (hx : Bytes xs) : foldN s xs < 4294967296 := by
  induction xs generalizing s with
  | nil => exact hs
  | cons x xs ih => exact ih (byte_lt hs hx.head) hx.tail
theorem more_lt (sum : Nat) (xs : List Nat) : moreN sum xs < 4294967296 := by unfold moreN; omega

theorem byte_inj {a b x : Nat} (ha : a < 4294967296) (hb : b < 4294967296) (hx : x < 256) (h : byteN a x = byteN b x) : a = b :=
  xor_canc (step8_inj (Nat.xor_lt_two_pow (n := 32) (by omega) (by omega)) (Nat.xor_lt_two_pow (n := 32) (by omega) (by omega)) h)
theorem fold_inj {a b : Nat} {xs : List Nat} (ha : a < 4294967296) (hb : b < 4294967296) (hx : Bytes xs) (h : foldN a xs = foldN b xs) : a = b := by
  induction xs generalizing a b with
  | nil => exact h
  | cons x xs ih => exact byte_inj ha hb hx.head (ih (byte_lt ha hx.head) (byte_lt hb hx.head) hx.tail h)

/-- FOLLOWS. -/
theorem more_inj {x y : Nat} {xs : List Nat} (hx : x < 4294967296) (hy : y < 4294967296) (hb : Bytes xs) : moreN x xs = moreN y xs ↔ x = y := by
  constructor
  · intro h
    unfold moreN at h
    have h1 := fold_lt (s := 4294967295 - x) (by omega) hb
    have h2 := fold_lt (s := 4294967295 - y) (by omega) hb
    have := fold_inj (a := 4294967295 - x) (b := 4294967295 - y) (by omega) (by omega) hb (by omega)
    omega
  · rintro rfl; rfl

/-- GOES ON. -/
theorem more_append (sum : Nat) (xs ys : List Nat) (hs : sum < 4294967296) (hx : Bytes xs) : moreN (moreN sum xs) ys = moreN sum (xs ++ ys) := by
  have h := fold_lt (s := 4294967295 - sum) (by omega) hx
  have e : 4294967295 - (4294967295 - foldN (4294967295 - sum) xs) = foldN (4294967295 - sum) xs := by omega
  unfold moreN
  rw [e]
  unfold foldN
  rw [List.foldl_append]

theorem more_nil (sum : Nat) (hs : sum < 4294967296) : moreN sum [] = sum := by
  show 4294967295 - (4294967295 - sum) = sum
  omega

/-- LINEAR: rows that are turned by rows. -/
theorem fold_xor {s t : Nat} {xs ys : List Nat} (h : xs.length = ys.length) : foldN (s ^^^ t) (List.zipWith (· ^^^ ·) xs ys) = foldN s xs ^^^ foldN t ys := by
  induction xs generalizing s t ys with
  | nil => cases ys with
    | nil => rfl
    | cons y ys => simp at h
  | cons x xs ih => cases ys with
    | nil => simp at h
    | cons y ys =>
      show foldN (byteN (s ^^^ t) (x ^^^ y)) (List.zipWith (· ^^^ ·) xs ys) = foldN (byteN s x) xs ^^^ foldN (byteN t y) ys
      have e : byteN (s ^^^ t) (x ^^^ y) = byteN s x ^^^ byteN t y := by
        unfold byteN
        rw [← step8_xor]
        congr 1
        simp only [xor_lc, Nat.xor_comm]
      rw [e]
      exact ih (by simpa using h)

theorem ones_xor {a : Nat} (h : a < 4294967296) : 4294967295 ^^^ a = 4294967295 - a := by
  have e : a ^^^ 4294967295 = 4294967295 - a := by
    have h1 : a < 2 ^ 32 := h
    have := BitVec.toNat_not (x := BitVec.ofNat 32 a)
    have h3 : (~~~ BitVec.ofNat 32 a) = BitVec.ofNat 32 a ^^^ BitVec.allOnes 32 := (BitVec.xor_allOnes).symm
    rw [h3, BitVec.toNat_xor, BitVec.toNat_ofNat, BitVec.toNat_allOnes, Nat.mod_eq_of_lt h1] at this
    exact this
  rw [Nat.xor_comm, e]

/-- TURNS. -/
theorem more_turns {a b c : List Nat} (hab : a.length = b.length) (hac : a.length = c.length) (ha : Bytes a) (hb : Bytes b) (hc : Bytes c) :
    moreN 0 (List.zipWith (· ^^^ ·) (List.zipWith (· ^^^ ·) a b) c) = (moreN 0 a ^^^ moreN 0 b) ^^^ moreN 0 c := by
  have e : (4294967295 : Nat) = (4294967295 ^^^ 4294967295) ^^^ 4294967295 := by decide
  have f := fold_xor (s := 4294967295 ^^^ 4294967295) (t := 4294967295) (xs := List.zipWith (· ^^^ ·) a b) (ys := c) (by simp; omega)
  rw [fold_xor hab, ← e] at f
  have la := fold_lt (s := 4294967295) (by omega) ha
  have lb := fold_lt (s := 4294967295) (by omega) hb
  have lc := fold_lt (s := 4294967295) (by omega) hc
  show 4294967295 - foldN (4294967295 - 0) _ = ((4294967295 - foldN (4294967295 - 0) a) ^^^ (4294967295 - foldN (4294967295 - 0) b)) ^^^ (4294967295 - foldN (4294967295 - 0) c)
  rw [Nat.sub_zero, f]
  have l : (foldN 4294967295 a ^^^ foldN 4294967295 b) ^^^ foldN 4294967295 c < 4294967296 := Nat.xor_lt_two_pow (n := 32) (Nat.xor_lt_two_pow (n := 32) la lb) lc
  rw [← ones_xor l, ← ones_xor la, ← ones_xor lb, ← ones_xor lc]
  generalize foldN 4294967295 a = A
  generalize foldN 4294967295 b = B
  generalize foldN 4294967295 c = C
  have z : ∀ n : Nat, 4294967295 ^^^ (4294967295 ^^^ n) = n := fun n => by rw [← Nat.xor_assoc, Nat.xor_self, Nat.zero_xor]
  calc 4294967295 ^^^ ((A ^^^ B) ^^^ C) = 4294967295 ^^^ (4294967295 ^^^ (4294967295 ^^^ ((A ^^^ B) ^^^ C))) := by rw [z]
    _ = _ := by simp only [Nat.xor_assoc, xor_lc, Nat.xor_comm]

theorem fold_zeros (s n : Nat) (h : s < 4294967296) : foldN s (List.replicate n 0) = 0 ↔ s = 0 := by
  have b : Bytes (List.replicate n 0) := fun x hx => by rw [(List.mem_replicate.1 hx).2]; omega
  have z : foldN 0 (List.replicate n 0) = 0 := by
    induction n with
    | zero => rfl
    | succ n ih => exact ih (fun x hx => by rw [(List.mem_replicate.1 hx).2]; omega)
  constructor
  · intro e; exact fold_inj h (by omega) b (by rw [e, z])
  · rintro rfl; exact z

/-- A row that differs from a row by another one has the same check just if the other one's bare sum is nought. -/
theorem more_diff {b d : List Nat} (hl : b.length = d.length) (hb : Bytes b) (hd : Bytes d) : moreN 0 b = moreN 0 (List.zipWith (· ^^^ ·) b d) ↔ foldN 0 d = 0 := by
  have f := fold_xor (s := 4294967295) (t := 0) hl
  rw [Nat.xor_zero] at f
  have lb := fold_lt (s := 4294967295) (by omega) hb
  have ld := fold_lt (s := 0) (by omega) hd
  have l : foldN 4294967295 b ^^^ foldN 0 d < 4294967296 := Nat.xor_lt_two_pow (n := 32) lb ld
  show 4294967295 - foldN (4294967295 - 0) b = 4294967295 - foldN (4294967295 - 0) _ ↔ _
  rw [Nat.sub_zero, f]
  constructor
  · intro h
    have h2 : foldN 0 d ^^^ foldN 4294967295 b = 0 ^^^ foldN 4294967295 b := by rw [Nat.zero_xor, Nat.xor_comm]; omega
    exact xor_canc h2
  · intro h; rw [h, Nat.xor_zero]

theorem fold_append (s : Nat) (xs ys : List Nat) : foldN s (xs ++ ys) = foldN (foldN s xs) ys := by
  unfold foldN; rw [List.foldl_append]

theorem step8_xor_shl (a y : Nat) : step8 (a ^^^ 256 * y) = step8 a ^^^ y := by rw [step8_xor, step8_shl]

theorem fold_four (s t0 t1 t2 t3 : Nat) : foldN s [t0, t1, t2, t3] = step8 (step8 (step8 (step8 ((((s ^^^ t0) ^^^ 256 * t1) ^^^ 256 * (256 * t2)) ^^^ 256 * (256 * (256 * t3)))))) := by
  rw [step8_xor_shl, step8_xor_shl, step8_xor_shl, step8_xor_shl, step8_xor_shl, step8_xor_shl]
  rfl

theorem split256 (s : Nat) : s = 256 * (s / 256) ^^^ s % 256 := by
  apply Nat.eq_of_testBit_eq
  intro i
  have e : 256 * (s / 256) = (s / 2 ^ 8) * 2 ^ 8 := by omega
  have e2 : s % 256 = s % 2 ^ 8 := rfl
  rw [Nat.testBit_xor, e, e2, Nat.testBit_mul_two_pow, Nat.testBit_mod_two_pow, Nat.testBit_div_two_pow]
  by_cases h : i < 8
  · have h' : ¬ 8 ≤ i := by omega
    simp [h, h']
  · have h' : 8 ≤ i := by omega
    simp [h, h', Nat.sub_add_cancel h']

theorem xor_shl (x y : Nat) : 256 * (x ^^^ y) = 256 * x ^^^ 256 * y := by
  apply Nat.eq_of_testBit_eq
  intro i
  have e : ∀ z : Nat, 256 * z = z * 2 ^ 8 := fun z => by omega
  rw [e, e x, e y, Nat.testBit_xor, Nat.testBit_mul_two_pow, Nat.testBit_mul_two_pow, Nat.testBit_mul_two_pow, Nat.testBit_xor]
  by_cases h : 8 ≤ i <;> simp [h]

theorem four_of (t : Nat) (h : t < 4294967296) : (((t % 256) ^^^ 256 * (t / 256 % 256)) ^^^ 256 * (256 * (t / 65536 % 256))) ^^^ 256 * (256 * (256 * (t / 16777216 % 256))) = t := by
  have a := split256 t
  have b := split256 (t / 256)
  have c := split256 (t / 65536)
  have e1 : t / 256 / 256 = t / 65536 := by omega
  have e2 : t / 65536 / 256 = t / 16777216 := by omega
  have e3 : t / 16777216 % 256 = t / 16777216 := by omega
  rw [e1] at b
  rw [e2] at c
  rw [e3]
  conv => rhs; rw [a, b, c, xor_shl, xor_shl, xor_shl]
  simp only [Nat.xor_assoc, Nat.xor_comm]

theorem fold_burst (t m n : Nat) (h : t < 4294967296) (h0 : t ≠ 0) : foldN 0 (List.replicate m 0 ++ [t % 256, t / 256 % 256, t / 65536 % 256, t / 16777216 % 256] ++ List.replicate n 0) ≠ 0 := by
  rw [fold_append, fold_append, (fold_zeros 0 m (by omega)).2 rfl, fold_four, Nat.zero_xor, four_of t h]
  intro e
  rw [fold_zeros _ n (step8_lt (step8_lt (step8_lt (step8_lt h))))] at e
  have z : step8 (step8 (step8 (step8 0))) = 0 := by rw [step8_zero, step8_zero, step8_zero, step8_zero]
  rw [← z] at e
  exact h0 (step8_inj h (by omega) (step8_inj (step8_lt h) (by decide) (step8_inj (step8_lt (step8_lt h)) (by decide) (step8_inj (step8_lt (step8_lt (step8_lt h))) (by decide) e))))

theorem fold_two (d m n : Nat) (h : d < 256) : foldN 0 (List.replicate m 0 ++ [d, d] ++ List.replicate n 0) = 0 ↔ d = 0 := by
  have e2 : foldN 0 [d, d] = step8 (step8 (d ^^^ 256 * d)) := by
    rw [step8_xor_shl]; show step8 (step8 (0 ^^^ d) ^^^ d) = _; rw [Nat.zero_xor]
  have l : d ^^^ 256 * d < 4294967296 := Nat.xor_lt_two_pow (n := 32) (by omega) (by omega)
  have z : step8 (step8 0) = 0 := by rw [step8_zero, step8_zero]
  rw [fold_append, fold_append, (fold_zeros 0 m (by omega)).2 rfl, e2, fold_zeros _ n (step8_lt (step8_lt l))]
  constructor
  · intro e
    rw [← z] at e
    have e3 := step8_inj l (by omega) (step8_inj (step8_lt l) (by decide) e)
    have e4 := xor_eq_zero.1 e3
    omega
  · rintro rfl; decide
end Go.Proofs.YtioheffdolnciaaDoor
