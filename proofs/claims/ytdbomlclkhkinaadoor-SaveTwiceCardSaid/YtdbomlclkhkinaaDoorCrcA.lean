/-
  Texts of one kind, one behind the other: Crc, CrcCalls, CrcRef.
-/
import Derived.Test.YtdbomlclkhkinaaDoorBase
import Derived.Test.YtdbomlclkhkinaaDoorOwnSet
import Derived.Lib.LaidTab
import Derived.LaidMore
namespace Go.Proofs.YtdbomlclkhkinaaDoor

/-- One bit shifted out. -/
def stepN (s : Nat) : Nat := if s % 2 = 1 then (s / 2) ^^^ 3988292384 else s / 2
def step4 (s : Nat) : Nat := stepN (stepN (stepN (stepN s)))
def step8 (s : Nat) : Nat := step4 (step4 s)
def byteN (s x : Nat) : Nat := step8 (s ^^^ x)
def foldN (s : Nat) (xs : List Nat) : Nat := xs.foldl byteN s
/-- The check that is gone on with. -/
def moreN (sum : Nat) (xs : List Nat) : Nat := 4294967295 - foldN (4294967295 - sum) xs
def halfs : List Nat := [0, 498536548, 997073096, 651767980, 1994146192, 1802195444, 1303535960, 1342533948, 3988292384, 4027552580, 3604390888, 3412177804, 2607071920, 2262029012, 2685067896, 3183342108]

theorem xor_lc (a b c : Nat) : a ^^^ (b ^^^ c) = b ^^^ (a ^^^ c) := by rw [← Nat.xor_assoc, Nat.xor_comm a b, Nat.xor_assoc]

theorem xor_parity (a b : Nat) : (a ^^^ b) % 2 = 1 ↔ ¬ (a % 2 = b % 2) := by
  have h := Nat.testBit_xor a b 0
  simp only [Nat.testBit_zero] at h
  rcases Nat.mod_two_eq_zero_or_one a with ha | ha <;> rcases Nat.mod_two_eq_zero_or_one b with hb | hb <;> rcases Nat.mod_two_eq_zero_or_one (a ^^^ b) with hc | hc <;> simp [ha, hb, hc] at h ⊢

theorem step_eq (s : Nat) : stepN s = s / 2 ^^^ (if s % 2 = 1 then 3988292384 else 0) := by
  unfold stepN; split <;> simp

theorem step_xor (a b : Nat) : stepN (a ^^^ b) = stepN a ^^^ stepN b := by
  rw [step_eq, step_eq, step_eq, Nat.xor_div_two]
  have hp := xor_parity a b
  have e : (if (a ^^^ b) % 2 = 1 then 3988292384 else 0) = ((if a % 2 = 1 then 3988292384 else 0) ^^^ (if b % 2 = 1 then 3988292384 else 0) : Nat) := by
    rcases Nat.mod_two_eq_zero_or_one a with ha | ha <;> rcases Nat.mod_two_eq_zero_or_one b with hb | hb <;> simp [ha, hb] at hp ⊢ <;> simp [hp]
  rw [e]
  simp only [Nat.xor_assoc, xor_lc, Nat.xor_comm]

theorem step4_xor (a b : Nat) : step4 (a ^^^ b) = step4 a ^^^ step4 b := by
  unfold step4; rw [step_xor, step_xor, step_xor, step_xor]
theorem step8_xor (a b : Nat) : step8 (a ^^^ b) = step8 a ^^^ step8 b := by
  unfold step8; rw [step4_xor, step4_xor]

theorem step_lt {s : Nat} (h : s < 4294967296) : stepN s < 4294967296 := by
  rw [step_eq]
  refine Nat.xor_lt_two_pow (n := 32) (by omega) ?_
  split <;> omega
theorem step4_lt {s : Nat} (h : s < 4294967296) : step4 s < 4294967296 := step_lt (step_lt (step_lt (step_lt h)))
theorem step8_lt {s : Nat} (h : s < 4294967296) : step8 s < 4294967296 := step4_lt (step4_lt h)

theorem step_inj {a b : Nat} (ha : a < 4294967296) (hb : b < 4294967296) (h : stepN a = stepN b) : a = b := by
  have key : ∀ x y : Nat, x < 2147483648 → y < 2147483648 → x ^^^ 3988292384 = y → False := by
    intro x y hx hy e
    have : x ^^^ y = 3988292384 := by rw [← e, ← Nat.xor_assoc, Nat.xor_self, Nat.zero_xor]
    have h2 : x ^^^ y < 2 ^ 31 := Nat.xor_lt_two_pow (by omega) (by omega)
    omega
  have canc : ∀ x y : Nat, x ^^^ 3988292384 = y ^^^ 3988292384 → x = y := by
    intro x y e
    have := congrArg (· ^^^ 3988292384) e
    simpa [Nat.xor_assoc, Nat.xor_self] using this
  unfold stepN at h
  split at h <;> split at h
  · have := canc _ _ h; omega
  · exact (key _ _ (by omega) (by omega) h).elim
  · exact (key _ _ (by omega) (by omega) h.symm).elim
  · omega
theorem step4_inj {a b : Nat} (ha : a < 4294967296) (hb : b < 4294967296) (h : step4 a = step4 b) : a = b :=
  step_inj ha hb (step_inj (step_lt ha) (step_lt hb) (step_inj (step_lt (step_lt ha)) (step_lt (step_lt hb)) (step_inj (step_lt (step_lt (step_lt ha))) (step_lt (step_lt (step_lt hb))) h)))
theorem step8_inj {a b : Nat} (ha : a < 4294967296) (hb : b < 4294967296) (h : step8 a = step8 b) : a = b :=
  step4_inj ha hb (step4_inj (step4_lt ha) (step4_lt hb) h)

theorem xor_canc {a b c : Nat} (h : a ^^^ c = b ^^^ c) : a = b := by
  have := congrArg (· ^^^ c) h
  simpa [Nat.xor_assoc, Nat.xor_self] using this
theorem xor_eq_zero {a b : Nat} : a ^^^ b = 0 ↔ a = b := by
  constructor
  · intro h; exact xor_canc (c := b) (by rw [h, Nat.xor_self])
  · rintro rfl; exact Nat.xor_self _

theorem step_double (y : Nat) : stepN (2 * y) = y := by
  unfold stepN; rw [if_neg (by omega)]; omega
theorem step4_shl (y : Nat) : step4 (16 * y) = y := by
  have e : 16 * y = 2 * (2 * (2 * (2 * y))) := by omega
  unfold step4; rw [e, step_double, step_double, step_double, step_double]
theorem step8_shl (y : Nat) : step8 (256 * y) = y := by
  have e : 256 * y = 16 * (16 * y) := by omega
  unfold step8; rw [e, step4_shl, step4_shl]
theorem step_zero : stepN 0 = 0 := rfl
theorem step8_zero : step8 0 = 0 := by decide

theorem split16 (s : Nat) : s = 16 * (s / 16) ^^^ s % 16 := by
  apply Nat.eq_of_testBit_eq
  intro i
  have e : 16 * (s / 16) = (s / 2 ^ 4) * 2 ^ 4 := by omega
  have e2 : s % 16 = s % 2 ^ 4 := rfl
  rw [Nat.testBit_xor, e, e2, Nat.testBit_mul_two_pow, Nat.testBit_mod_two_pow, Nat.testBit_div_two_pow]
  by_cases h : i < 4
  · have h' : ¬ 4 ≤ i := by omega
    simp [h, h']
  · have h' : 4 ≤ i := by omega
    simp [h, h', Nat.sub_add_cancel h']

theorem halfs_eq : ∀ r : Nat, r < 16 → step4 r = halfs.getD r 0 := by decide

/-- Half a byte, looked up. -/
theorem step4_look (s : Nat) : step4 s = s / 16 ^^^ halfs.getD (s % 16) 0 := by
  conv => lhs; rw [split16 s]
  rw [step4_xor, step4_shl, halfs_eq _ (by omega)]

theorem halfs_lt : ∀ r : Nat, r < 16 → halfs.getD r 0 < 4294967296 := by decide

theorem byte_lt {s x : Nat} (hs : s < 4294967296) (hx : x < 256) : byteN s x < 4294967296 :=
  step8_lt (Nat.xor_lt_two_pow (n := 32) (by omega) (by omega))
theorem fold_lt {s : Nat} {xs : List Nat} (hs : s < 4294967296) (hx : Bytes xs) : foldN s xs < 4294967296 := by
  induction xs generalizing s with
  | nil => exact hs
  | cons x xs ih => exact ih (byte_lt hs hx.head) hx.tail
theorem more_lt (sum : Nat) (xs : List Nat) : moreN sum xs < 4294967296 := by unfold moreN; omega

theorem byte_inj {a b x : Nat} (ha : a < 4294967296) (hb : b < 4294967296) (hx : x < 256) (h : byteN a x = byteN b x) : a = b :=
  xor_canc (step8_inj (Nat.xor_lt_two_pow (n := 32) (by omega) (by omega)) (Nat.xor_lt_two_pow (n := 32) (by omega) (by omega)) h)
theorem fold_inj {a b : Nat} {xs : List Nat} (ha : a < 4294967296) (hb : b < 4294967296) (hx : Bytes xs) (h : foldN a xs = foldN b xs) : a = b := by
  induction xs generalizing a b with
  | nil => exact h
  | cons x xs ih => exact byte_inj ha hb hx.head (ih (byte_lt ha hx.head) (byte_lt hb hx.head) hx.tail h)

/-- FOLLOWS. -/
theorem more_inj {x y : Nat} {xs : List Nat} (hx : x < 4294967296) (hy : y < 4294967296) (hb : Bytes xs) : moreN x xs = moreN y xs ↔ x = y := by
  constructor
  · intro h
    unfold moreN at h
    have h1 := fold_lt (s := 4294967295 - x) (by omega) hb
    have h2 := fold_lt (s := 4294967295 - y) (by omega) hb
    have := fold_inj (a := 4294967295 - x) (b := 4294967295 - y) (by omega) (by omega) hb (by omega)
    omega
  · rintro rfl; rfl

/-- GOES ON. -/
theorem more_append (sum : Nat) (xs ys : List Nat) (hs : sum < 4294967296) (hx : Bytes xs) : moreN (moreN sum xs) ys = moreN sum (xs ++ ys) := by
  have h := fold_lt (s := 4294967295 - sum) (by omega) hx
  have e : 4294967295 - (4294967295 - foldN (4294967295 - sum) xs) = foldN (4294967295 - sum) xs := by omega
  unfold moreN
  rw [e]
  unfold foldN
  rw [List.foldl_append]

theorem more_nil (sum : Nat) (hs : sum < 4294967296) : moreN sum [] = sum := by
  show 4294967295 - (4294967295 - sum) = sum
  omega

/-- LINEAR: rows that are turned by rows. -/
theorem fold_xor {s t : Nat} {xs ys : List Nat} (h : xs.length = ys.length) : foldN (s ^^^ t) (List.zipWith (· ^^^ ·) xs ys) = foldN s xs ^^^ foldN t ys := by
  induction xs generalizing s t ys with
  | nil => cases ys with
    | nil => rfl
    | cons y ys => simp at h
  | cons x xs ih => cases ys with
    | nil => simp at h
    | cons y ys =>
      show foldN (byteN (s ^^^ t) (x ^^^ y)) (List.zipWith (· ^^^ ·) xs ys) = foldN (byteN s x) xs ^^^ foldN (byteN t y) ys
      have e : byteN (s ^^^ t) (x ^^^ y) = byteN s x ^^^ byteN t y := by
        unfold byteN
        rw [← step8_xor]
        congr 1
        simp only [xor_lc, Nat.xor_comm]
      rw [e]
      exact ih (by simpa using h)

theorem ones_xor {a : Nat} (h : a < 4294967296) : 4294967295 ^^^ a = 4294967295 - a := by
  have e : a ^^^ 4294967295 = 4294967295 - a := by
    have h1 : a < 2 ^ 32 := h
    have := BitVec.toNat_not (x := BitVec.ofNat 32 a)
    have h3 : (~~~ BitVec.ofNat 32 a) = BitVec.ofNat 32 a ^^^ BitVec.allOnes 32 := (BitVec.xor_allOnes).symm
    rw [h3, BitVec.toNat_xor, BitVec.toNat_ofNat, BitVec.toNat_allOnes, Nat.mod_eq_of_lt h1] at this
    exact this
  rw [Nat.xor_comm, e]

/-- TURNS. -/
theorem more_turns {a b c : List Nat} (hab : a.length = b.length) (hac : a.length = c.length) (ha : Bytes a) (hb : Bytes b) (hc : Bytes c) :
    moreN 0 (List.zipWith (· ^^^ ·) (List.zipWith (· ^^^ ·) a b) c) = (moreN 0 a ^^^ moreN 0 b) ^^^ moreN 0 c := by
  have e : (4294967295 : Nat) = (4294967295 ^^^ 4294967295) ^^^ 4294967295 := by decide
  have f := fold_xor (s := 4294967295 ^^^ 4294967295) (t := 4294967295) (xs := List.zipWith (· ^^^ ·) a b) (ys := c) (by simp; omega)
  rw [fold_xor hab, ← e] at f
  have la := fold_lt (s := 4294967295) (by omega) ha
  have lb := fold_lt (s := 4294967295) (by omega) hb
  have lc := fold_lt (s := 4294967295) (by omega) hc
  show 4294967295 - foldN (4294967295 - 0) _ = ((4294967295 - foldN (4294967295 - 0) a) ^^^ (4294967295 - foldN (4294967295 - 0) b)) ^^^ (4294967295 - foldN (4294967295 - 0) c)
  rw [Nat.sub_zero, f]
  have l : (foldN 4294967295 a ^^^ foldN 4294967295 b) ^^^ foldN 4294967295 c < 4294967296 := Nat.xor_lt_two_pow (n := 32) (Nat.xor_lt_two_pow (n := 32) la lb) lc
  rw [← ones_xor l, ← ones_xor la, ← ones_xor lb, ← ones_xor lc]
  generalize foldN 4294967295 a = A
  generalize foldN 4294967295 b = B
  generalize foldN 4294967295 c = C
  have z : ∀ n : Nat, 4294967295 ^^^ (4294967295 ^^^ n) = n := fun n => by rw [← Nat.xor_assoc, Nat.xor_self, Nat.zero_xor]
  calc 4294967295 ^^^ ((A ^^^ B) ^^^ C) = 4294967295 ^^^ (4294967295 ^^^ (4294967295 ^^^ ((A ^^^ B) ^^^ C))) := by rw [z]
    _ = _ := by simp only [Nat.xor_assoc, xor_lc, Nat.xor_comm]

theorem fold_zeros (s n : Nat) (h : s < 4294967296) : foldN s (List.replicate n 0) = 0 ↔ s = 0 := by
  have b : Bytes (List.replicate n 0) := fun x hx => by rw [(List.mem_replicate.1 hx).2]; omega
  have z : foldN 0 (List.replicate n 0) = 0 := by
    induction n with
    | zero => rfl
    | succ n ih => exact ih (fun x hx => by rw [(List.mem_replicate.1 hx).2]; omega)
  constructor
  · intro e; exact fold_inj h (by omega) b (by rw [e, z])
  · rintro rfl; exact z

/-- A row that differs from a row by another one has the same check just if the other one's bare sum is nought. -/
theorem more_diff {b d : List Nat} (hl : b.length = d.length) (hb : Bytes b) (hd : Bytes d) : moreN 0 b = moreN 0 (List.zipWith (· ^^^ ·) b d) ↔ foldN 0 d = 0 := by
  have f := fold_xor (s := 4294967295) (t := 0) hl
  rw [Nat.xor_zero] at f
  have lb := fold_lt (s := 4294967295) (by omega) hb
  have ld := fold_lt (s := 0) (by omega) hd
  have l : foldN 4294967295 b ^^^ foldN 0 d < 4294967296 := Nat.xor_lt_two_pow (n := 32) lb ld
  show 4294967295 - foldN (4294967295 - 0) b = 4294967295 - foldN (4294967295 - 0) _ ↔ _
  rw [Nat.sub_zero, f]
  constructor
  · intro h
    have h2 : foldN 0 d ^^^ foldN 4294967295 b = 0 ^^^ foldN 4294967295 b := by rw [Nat.zero_xor, Nat.xor_comm]; omega
    exact xor_canc h2
  · intro h; rw [h, Nat.xor_zero]

theorem fold_append (s : Nat) (xs ys : List Nat) : foldN s (xs ++ ys) = foldN (foldN s xs) ys := by
  unfold foldN; rw [List.foldl_append]

theorem step8_xor_shl (a y : Nat) : step8 (a ^^^ 256 * y) = step8 a ^^^ y := by rw [step8_xor, step8_shl]

theorem fold_four (s t0 t1 t2 t3 : Nat) : foldN s [t0, t1, t2, t3] = step8 (step8 (step8 (step8 ((((s ^^^ t0) ^^^ 256 * t1) ^^^ 256 * (256 * t2)) ^^^ 256 * (256 * (256 * t3)))))) := by
  rw [step8_xor_shl, step8_xor_shl, step8_xor_shl, step8_xor_shl, step8_xor_shl, step8_xor_shl]
  rfl

theorem split256 (s : Nat) : s = 256 * (s / 256) ^^^ s % 256 := by
  apply Nat.eq_of_testBit_eq
  intro i
  have e : 256 * (s / 256) = (s / 2 ^ 8) * 2 ^ 8 := by omega
  have e2 : s % 256 = s % 2 ^ 8 := rfl
  rw [Nat.testBit_xor, e, e2, Nat.testBit_mul_two_pow, Nat.testBit_mod_two_pow, Nat.testBit_div_two_pow]
  by_cases h : i < 8
  · have h' : ¬ 8 ≤ i := by omega
    simp [h, h']
  · have h' : 8 ≤ i := by omega
    simp [h, h', Nat.sub_add_cancel h']

theorem xor_shl (x y : Nat) : 256 * (x ^^^ y) = 256 * x ^^^ 256 * y := by
  apply Nat.eq_of_testBit_eq
  intro i
  have e : ∀ z : Nat, 256 * z = z * 2 ^ 8 := fun z => by omega
  rw [e, e x, e y, Nat.testBit_xor, Nat.testBit_mul_two_pow, Nat.testBit_mul_two_pow, Nat.testBit_mul_two_pow, Nat.testBit_xor]
  by_cases h : 8 ≤ i <;> simp [h]

theorem four_of (t : Nat) (h : t < 4294967296) : (((t % 256) ^^^ 256 * (t / 256 % 256)) ^^^ 256 * (256 * (t / 65536 % 256))) ^^^ 256 * (256 * (256 * (t / 16777216 % 256))) = t := by
  have a := split256 t
  have b := split256 (t / 256)
  have c := split256 (t / 65536)
  have e1 : t / 256 / 256 = t / 65536 := by omega
  have e2 : t / 65536 / 256 = t / 16777216 := by omega
  have e3 : t / 16777216 % 256 = t / 16777216 := by omega
  rw [e1] at b
  rw [e2] at c
  rw [e3]
  conv => rhs; rw [a, b, c, xor_shl, xor_shl, xor_shl]
  simp only [Nat.xor_assoc, Nat.xor_comm]

theorem fold_burst (t m n : Nat) (h : t < 4294967296) (h0 : t ≠ 0) : foldN 0 (List.replicate m 0 ++ [t % 256, t / 256 % 256, t / 65536 % 256, t / 16777216 % 256] ++ List.replicate n 0) ≠ 0 := by
  rw [fold_append, fold_append, (fold_zeros 0 m (by omega)).2 rfl, fold_four, Nat.zero_xor, four_of t h]
  intro e
  rw [fold_zeros _ n (step8_lt (step8_lt (step8_lt (step8_lt h))))] at e
  have z : step8 (step8 (step8 (step8 0))) = 0 := by rw [step8_zero, step8_zero, step8_zero, step8_zero]
  rw [← z] at e
  exact h0 (step8_inj h (by omega) (step8_inj (step8_lt h) (by decide) (step8_inj (step8_lt (step8_lt h)) (by decide) (step8_inj (step8_lt (step8_lt (step8_lt h))) (by decide) e))))

theorem fold_two (d m n : Nat) (h : d < 256) : foldN 0 (List.replicate m 0 ++ [d, d] ++ List.replicate n 0) = 0 ↔ d = 0 := by
  have e2 : foldN 0 [d, d] = step8 (step8 (d ^^^ 256 * d)) := by
    rw [step8_xor_shl]; show step8 (step8 (0 ^^^ d) ^^^ d) = _; rw [Nat.zero_xor]
  have l : d ^^^ 256 * d < 4294967296 := Nat.xor_lt_two_pow (n := 32) (by omega) (by omega)
  have z : step8 (step8 0) = 0 := by rw [step8_zero, step8_zero]
  rw [fold_append, fold_append, (fold_zeros 0 m (by omega)).2 rfl, e2, fold_zeros _ n (step8_lt (step8_lt l))]
  constructor
  · intro e
    rw [← z] at e
    have e3 := step8_inj l (by omega) (step8_inj (step8_lt l) (by decide) e)
    have e4 := xor_eq_zero.1 e3
    omega
  · rintro rfl; decide
end Go.Proofs.YtdbomlclkhkinaaDoor
namespace Go.Proofs.YtdbomlclkhkinaaDoor
open Go.ChangeShapes Go.WideShapes Go.ChangeAt Go.RowKit
set_option linter.unusedVariables false
set_option maxRecDepth 100000

/-- The table of half bytes lies where the program reads it. -/
def Tab (w : World) : Prop := ∀ i, i < 16 → w.cell? ⟨0, i, none⟩ = some (.int .u32 ((halfs.getD i 0 : Nat) : Int))

theorem and15 (s : Nat) (hs : s < 4294967296) : bits .and .u32 (s : Int) 15 = ((s % 16 : Nat) : Int) := by
  have := u32_and_nat s 15 hs (by omega)
  rw [show ((15 : Nat) : Int) = 15 from rfl] at this
  rw [this, show (15 : Nat) = 2 ^ 4 - 1 from rfl, Nat.and_two_pow_sub_one_eq_mod]

theorem xor_ones (s : Nat) (hs : s < 4294967296) : bits .xor .u32 IntKind.u32.max (s : Int) = ((4294967295 - s : Nat) : Int) := by
  have := u32_xor_nat 4294967295 s (by omega) hs
  rw [ones_xor hs] at this
  exact this

theorem half_any (s : Nat) (hs : s < 4294967296) (w : World) (hT : Hid (Tab w)) :
    Calls Tryd.prog 115 #[.int .u32 (s : Int)] w fun e w' => e = .returned (.int .u32 ((step4 s : Nat) : Int)) ∧ w = w' := by
  have hc := hT.out (s % 16) (by omega)
  have e1 := and15 s hs
  have e2 : bits .xor .u32 ((s : Int) / 16) ((halfs.getD (s % 16) 0 : Nat) : Int) = ((step4 s : Nat) : Int) := by
    have := u32_xor_nat (s / 16) (halfs.getD (s % 16) 0) (by omega) (halfs_lt _ (by omega))
    rw [step4_look]
    exact this
  have H2 := Lib.hid e2
  generalize halfs.getD (s % 16) 0 = v at *
  clear e2
  go_enter Tryd.func115, Tryd.ntmps115
  go_wp2
  rw [H2.out]
  go_ret
  exact ⟨rfl, rfl⟩

theorem fold_take (s : Nat) (xs : List Nat) (k : Nat) (h : k < xs.length) : foldN s (xs.take (k + 1)) = step4 (step4 (foldN s (xs.take k) ^^^ xs.getD k 0)) := by
  rw [take_snoc xs k h, fold_append]; rfl

theorem more_some (s : Nat) (hs : s < 4294967296) (b off len cap : Nat) (xs : List Nat) (w : World) (hT : Hid (Tab w)) (hl : xs.length = len) (hbig : len ≤ 9223372036854775807) (hB : Hid (Bytes xs))
    (hc : Hid (∀ j, j < len → w.cell? ⟨b, off + j, none⟩ = some (.int .u8 ((xs.getD j 0 : Nat) : Int)))) :
    Calls Tryd.prog 112 #[.int .u32 (s : Int), .slice (some ⟨b, off, none⟩) len cap] w fun e w' => e = .returned (.int .u32 ((moreN s xs : Nat) : Int)) ∧ w = w' := by
  have e0 := xor_ones s hs
  have HL := Lib.hid hl
  have HF : Hid (moreN s xs = 4294967295 - foldN (4294967295 - s) xs) := Lib.hid rfl
  clear hl
  go_enter Tryd.func112, Tryd.ntmps112
  go_wp2_with fail
  go_loop [5, 12] (fun t i => ∃ k : Nat, k ≤ len ∧ i = .int .i64 k ∧ t = .int .u32 ((foldN (4294967295 - s) (xs.take k) : Nat) : Int)) (fun _ i => len - (intOf i).toNat)
  case atStart => exact ⟨0, Nat.zero_le _, rfl, rfl⟩
  case round =>
    obtain ⟨k, hk, rfl, rfl⟩ := hrel
    have hf := fold_lt (s := 4294967295 - s) (by omega) (hB.out.take k)
    clear e0
    by_cases hlt : k < len
    · have hcell := hc.out k hlt
      have hy := hB.out.getD k
      have T := Lib.hid (fold_take (4294967295 - s) xs k (by rw [HL.out]; exact hlt))
      generalize xs.getD k 0 = y at *
      generalize foldN (4294967295 - s) (xs.take k) = f at *
      have e1 : bits .xor .u32 (f : Int) (y : Int) = ((f ^^^ y : Nat) : Int) := u32_xor_nat f y hf (by omega)
      have hx : f ^^^ y < 4294967296 := Nat.xor_lt_two_pow (n := 32) (by omega) (by omega)
      have hx4 := step4_lt hx
      go_wp2_with (first | (go_at_call 115; (with_reducible refine (half_any (f ^^^ y) hx _ hT).mono ?_); rintro e w' ⟨rfl, rfl⟩) | (go_at_call 115; (with_reducible refine (half_any (step4 (f ^^^ y)) hx4 _ hT).mono ?_); rintro e w' ⟨rfl, rfl⟩))
      go_round
      case rel => exact ⟨k + 1, by omega, by go_num, by rw [T.out]⟩
      case measure => simp [intOf]; omega
    · have hkl : k = len := by omega
      subst hkl
      have e2 := xor_ones _ hf
      rw [List.take_of_length_le (by rw [HL.out]; exact Nat.le_refl _)] at e2 hf ⊢
      generalize foldN (4294967295 - s) xs = f at *
      go_wp2_with fail
      rw [HF.out]
      go_ret
      exact ⟨rfl, rfl⟩

theorem more_empty (s : Nat) (hs : s < 4294967296) (a : Option Addr) (cap : Nat) (w : World) :
    Calls Tryd.prog 112 #[.int .u32 (s : Int), .slice a 0 cap] w fun e w' => e = .returned (.int .u32 (s : Int)) ∧ w = w' := by
  have e0 := xor_ones s hs
  have e2 : bits .xor .u32 IntKind.u32.max ((4294967295 - s : Nat) : Int) = (s : Int) := by
    rw [xor_ones _ (by omega)]; congr 1; omega
  go_enter Tryd.func112, Tryd.ntmps112
  go_wp2_with fail
  go_loop [5, 12] (fun t i => i = .int .i64 0 ∧ t = .int .u32 ((4294967295 - s : Nat) : Int)) (fun _ _ => 0)
  case atStart => exact ⟨rfl, rfl⟩
  case round =>
    obtain ⟨rfl, rfl⟩ := hrel
    clear e0
    go_wp2_with fail
    go_ret
    exact ⟨rfl, rfl⟩

theorem more_at (s : Nat) (hs : s < 4294967296) (a : Option Addr) (len cap : Nat) (xs : List Nat) (w : World) (hT : Hid (Tab w)) (h : AtB w a len xs) :
    Calls Tryd.prog 112 #[.int .u32 (s : Int), .slice a len cap] w fun e w' => e = .returned (.int .u32 ((moreN s xs : Nat) : Int)) ∧ w = w' := by
  obtain ⟨h1, h2, h3, h4⟩ := h
  by_cases hp : 0 < len
  · obtain ⟨b, off, rfl, _, hc⟩ := h4 hp
    exact more_some s hs b off len cap xs w hT h1 h3 (Lib.hid h2) (Lib.hid hc)
  · obtain rfl : len = 0 := by omega
    have : xs = [] := by simpa using h1
    subst this
    rw [more_nil s hs]
    exact more_empty s hs a cap w

theorem sum_at (a : Option Addr) (len cap : Nat) (xs : List Nat) (w : World) (hT : Hid (Tab w)) (h : AtB w a len xs) :
    Calls Tryd.prog 108 #[.slice a len cap] w fun e w' => e = .returned (.int .u32 ((moreN 0 xs : Nat) : Int)) ∧ w = w' := by
  have HM := Lib.hid (more_at 0 (by omega) a len cap xs w hT h)
  clear h
  go_enter Tryd.func108, Tryd.ntmps108
  go_wp2_with fail
  refine HM.out.mono ?_
  rintro e w' ⟨rfl, rfl⟩
  go_wp2_with fail
  go_ret
  exact ⟨rfl, rfl⟩

theorem gHalf : Tryd.prog.globalNamed "weald/crc.half" = some 0 := by kernel_rfl
theorem tHalf : (Tryd.prog.globals[0]?).map (·.type) = some 167 := by kernel_rfl
theorem cellsU32 : Tryd.prog.cellsOf 115 = 1 := by kernel_rfl
theorem cellsTab : Tryd.prog.cellsOf 167 = 16 := by kernel_rfl

theorem tab_of_laid {W : World} (h : laidMetH Tryd.prog [("weald/crc.half", Rows.laid_weald_crc_half)] W) : Tab W := by
  rw [MakeChecks.laidMetH_plain _ _ _ (by kernel_rfl)] at h
  have hT := Lib.tabIs_of_head (k := .u32) (zs := halfs.map (fun n : Nat => (n : Int))) (rest := []) gHalf tHalf Tryd.underlying167 Tryd.underlying115 cellsU32 cellsTab h
  intro i hi
  have := hT.cell gHalf i (by simpa [halfs] using hi)
  rw [this]
  congr 2
  have all : ∀ i, i < 16 → (halfs.map (fun n : Nat => (n : Int))).getD i 0 = ((halfs.getD i 0 : Nat) : Int) := by decide
  exact all i hi

theorem Tab.pos {w : World} (h : Tab w) : 0 < w.heap.size := World.block_lt_of_cell? w ⟨0, 0, none⟩ (h 0 (by omega))
theorem Tab.below {B : Nat} {w w' : World} (h : Tab w) (hb : Below B w w') (hB : 0 < B) : Tab w' := fun i hi => (hb.cell (p := ⟨0, i, none⟩) hB).trans (h i hi)
theorem Tab.later {w w' : World} (h : Hid (Tab w)) (hb : Below w.heap.size w w') : Hid (Tab w') := Lib.hid (h.out.below hb h.out.pos)
theorem sum_is (a : Option Addr) (len cap : Nat) (xs : List Nat) (v : Int) (w : World) (hT : Hid (Tab w)) (h : AtB w a len xs) (hv : ((moreN 0 xs : Nat) : Int) = v) :
    Calls Tryd.prog 108 #[.slice a len cap] w fun e w' => e = .returned (.int .u32 v) ∧ w = w' := by
  rw [← hv]; exact sum_at a len cap xs w hT h
theorem more_is (s : Int) (n : Nat) (a : Option Addr) (len cap : Nat) (xs : List Nat) (v : Int) (w : World) (hs : s = (n : Int)) (hn : n < 4294967296) (hT : Hid (Tab w)) (h : AtB w a len xs) (hv : ((moreN n xs : Nat) : Int) = v) :
    Calls Tryd.prog 112 #[.int .u32 s, .slice a len cap] w fun e w' => e = .returned (.int .u32 v) ∧ w = w' := by
  subst hs; rw [← hv]; exact more_at n hn a len cap xs w hT h

theorem more_is' (s : Nat) (hs : s < 4294967296) (a : Option Addr) (len cap : Nat) (xs : List Nat) (n : Nat) (w : World) (hT : Hid (Tab w)) (h : AtB w a len xs) (hn : moreN s xs = n) :
    Calls Tryd.prog 112 #[.int .u32 (s : Int), .slice a len cap] w fun e w' => e = .returned (.int .u32 (n : Int)) ∧ w = w' := by
  rw [← hn]; exact more_at s hs a len cap xs w hT h
theorem sum_is' (a : Option Addr) (len cap : Nat) (xs : List Nat) (n : Nat) (w : World) (hT : Hid (Tab w)) (h : AtB w a len xs) (hn : moreN 0 xs = n) :
    Calls Tryd.prog 108 #[.slice a len cap] w fun e w' => e = .returned (.int .u32 (n : Int)) ∧ w = w' := by
  rw [← hn]; exact sum_at a len cap xs w hT h
theorem sum_own (v : Value) (base n : Nat) (xs : List Nat) (m : Nat) (w : World) (hT : Hid (Tab w)) (h : Own w base v n xs) (hn : n ≤ 9223372036854775807) (hm : moreN 0 xs = m) :
    Calls Tryd.prog 108 #[v] w fun e w' => e = .returned (.int .u32 (m : Int)) ∧ w = w' := by
  obtain ⟨A, cap, rfl, _, hat⟩ := h.at_ hn
  exact sum_is' A n cap xs m w hT hat hm

theorem Tab.quiet {w : World} (h : Hid (Tab w)) (n : Nat) : Hid (Tab (w.drewN n)) := h
end Go.Proofs.YtdbomlclkhkinaaDoor
namespace Go.Proofs.YtdbomlclkhkinaaDoor
open Go.ChangeShapes Go.WideShapes Go.ChangeAt Go.RowKit
set_option linter.unusedVariables false
set_option maxRecDepth 100000

def iterN : Nat → Nat → Nat
  | 0, s => s
  | n + 1, s => stepN (iterN n s)
theorem iter_lt {n s : Nat} (h : s < 4294967296) : iterN n s < 4294967296 := by
  induction n with
  | zero => exact h
  | succ n ih => exact step_lt ih
theorem iter_even {n s : Nat} (h : iterN n s % 2 = 0) : iterN (n + 1) s = iterN n s / 2 := by
  show stepN _ = _; unfold stepN; rw [if_neg (by omega)]
theorem iter_odd {n s : Nat} (h : iterN n s % 2 = 1) : iterN (n + 1) s = iterN n s / 2 ^^^ 3988292384 := by
  show stepN _ = _; unfold stepN; rw [if_pos h]
theorem fold_take8 (s : Nat) (xs : List Nat) (k : Nat) (h : k < xs.length) : foldN s (xs.take (k + 1)) = iterN 8 (foldN s (xs.take k) ^^^ xs.getD k 0) := by
  rw [take_snoc xs k h, fold_append]; rfl

theorem refMore_some (s : Nat) (hs : s < 4294967296) (b off len cap : Nat) (xs : List Nat) (w : World) (hl : xs.length = len) (hbig : len ≤ 9223372036854775807) (hB : Hid (Bytes xs))
    (hc : Hid (∀ j, j < len → w.cell? ⟨b, off + j, none⟩ = some (.int .u8 ((xs.getD j 0 : Nat) : Int)))) :
    Calls Tryd.prog 84 #[.int .u32 (s : Int), .slice (some ⟨b, off, none⟩) len cap] w fun e w' => e = .returned (.int .u32 ((moreN s xs : Nat) : Int)) ∧ w = w' := by
  have HL := Lib.hid hl
  have HF : Hid (moreN s xs = 4294967295 - foldN (4294967295 - s) xs) := Lib.hid rfl
  clear hl
  go_enter Tryd.func84, Tryd.ntmps84
  go_wp2_with fail
  go_loop [5, 6] (fun t i => ∃ k : Nat, k ≤ len ∧ i = .int .i64 k ∧ t = .int .u32 ((foldN (4294967295 - s) (xs.take k) : Nat) : Int)) (fun _ i => len - (intOf i).toNat)
  case atStart => exact ⟨0, Nat.zero_le _, rfl, by rw [List.take_zero]; show _ = Value.int .u32 ((4294967295 - s : Nat) : Int); go_num⟩
  case round =>
    obtain ⟨k, hk, rfl, rfl⟩ := hrel
    have hf := fold_lt (s := 4294967295 - s) (by omega) (hB.out.take k)
    by_cases hlt : k < len
    · have hcell := hc.out k hlt
      have hy := hB.out.getD k
      have T := Lib.hid (fold_take8 (4294967295 - s) xs k (by rw [HL.out]; exact hlt))
      generalize xs.getD k 0 = y at *
      generalize foldN (4294967295 - s) (xs.take k) = f at *
      have e1 : bits .xor .u32 (f : Int) (y : Int) = ((f ^^^ y : Nat) : Int) := u32_xor_nat f y hf (by omega)
      have hx : f ^^^ y < 4294967296 := Nat.xor_lt_two_pow (n := 32) (by omega) (by omega)
      generalize f ^^^ y = x at *
      go_wp2_with fail
      go_loop [5, 7] (fun t i => ∃ n : Nat, n ≤ 8 ∧ i = .int .i64 n ∧ t = .int .u32 ((iterN n x : Nat) : Int)) (fun _ i => 8 - (intOf i).toNat)
      case atStart => exact ⟨0, Nat.zero_le _, rfl, rfl⟩
      case round =>
        obtain ⟨n, hn, rfl, rfl⟩ := hrel
        by_cases h8 : n < 8
        · have hi := iter_lt (n := n) hx
          have P0 : Hid (iterN n x % 2 = 0 → iterN (n + 1) x = iterN n x / 2) := Lib.hid iter_even
          have P1 : Hid (iterN n x % 2 = 1 → iterN (n + 1) x = iterN n x / 2 ^^^ 3988292384) := Lib.hid iter_odd
          clear e1
          by_cases hp : iterN n x % 2 = 1
          · have p1 := Lib.hid (P1.out hp)
            have q : ((iterN n x : Int) % 2 == 1) = true := by rw [beq_iff_eq]; omega
            generalize iterN n x = z at *
            have e2 : bits .xor .u32 ((z : Int) / 2) 3988292384 = ((z / 2 ^^^ 3988292384 : Nat) : Int) := u32_xor_nat (z / 2) 3988292384 (by omega) (by omega)
            clear P0 P1
            go_wp2_with fail
            go_round
            case rel => exact ⟨n + 1, by omega, by go_num, by rw [p1.out]⟩
            case measure => simp [intOf]; omega
          · have p1 := Lib.hid (P0.out (by omega))
            have q : ((iterN n x : Int) % 2 == 1) = false := by rw [beq_eq_false_iff_ne]; omega
            generalize iterN n x = z at *
            clear P0 P1
            go_wp2_with fail
            go_round
            case rel => exact ⟨n + 1, by omega, by go_num, by rw [p1.out]; go_num⟩
            case measure => simp [intOf]; omega
        · have hn8 : n = 8 := by omega
          subst hn8
          clear e1
          go_wp2_with fail
          go_round
          case rel => exact ⟨k + 1, by omega, by go_num, by rw [T.out]⟩
          case measure => simp [intOf]; omega
    · have hkl : k = len := by omega
      subst hkl
      rw [List.take_of_length_le (by rw [HL.out]; exact Nat.le_refl _)] at hf ⊢
      generalize foldN (4294967295 - s) xs = f at *
      go_wp2_with fail
      have ec : ((4294967295 - f : Nat) : Int) = 4294967295 - (f : Int) := by omega
      rw [HF.out, ec]
      go_ret
      exact ⟨rfl, rfl⟩

theorem refMore_empty (s : Nat) (hs : s < 4294967296) (a : Option Addr) (cap : Nat) (w : World) :
    Calls Tryd.prog 84 #[.int .u32 (s : Int), .slice a 0 cap] w fun e w' => e = .returned (.int .u32 (s : Int)) ∧ w = w' := by
  go_enter Tryd.func84, Tryd.ntmps84
  go_wp2_with fail
  go_loop [5, 6] (fun t i => i = .int .i64 0 ∧ t = .int .u32 (4294967295 - (s : Int))) (fun _ _ => 0)
  case atStart => exact ⟨rfl, rfl⟩
  case round =>
    obtain ⟨rfl, rfl⟩ := hrel
    have ec : 4294967295 - (4294967295 - (s : Int)) = (s : Int) := by omega
    go_wp2_with fail
    go_ret
    exact ⟨rfl, rfl⟩

theorem refMore_at (s : Nat) (hs : s < 4294967296) (a : Option Addr) (len cap : Nat) (xs : List Nat) (w : World) (h : AtB w a len xs) :
    Calls Tryd.prog 84 #[.int .u32 (s : Int), .slice a len cap] w fun e w' => e = .returned (.int .u32 ((moreN s xs : Nat) : Int)) ∧ w = w' := by
  obtain ⟨h1, h2, h3, h4⟩ := h
  by_cases hp : 0 < len
  · obtain ⟨b, off, rfl, _, hc⟩ := h4 hp
    exact refMore_some s hs b off len cap xs w h1 h3 (Lib.hid h2) (Lib.hid hc)
  · obtain rfl : len = 0 := by omega
    have : xs = [] := by simpa using h1
    subst this
    rw [more_nil s hs]
    exact refMore_empty s hs a cap w

theorem refSum_at (a : Option Addr) (len cap : Nat) (xs : List Nat) (w : World) (h : AtB w a len xs) :
    Calls Tryd.prog 63 #[.slice a len cap] w fun e w' => e = .returned (.int .u32 ((moreN 0 xs : Nat) : Int)) ∧ w = w' := by
  have HM := Lib.hid (refMore_at 0 (by omega) a len cap xs w h)
  clear h
  go_enter Tryd.func63, Tryd.ntmps63
  go_wp2_with fail
  refine HM.out.mono ?_
  rintro e w' ⟨rfl, rfl⟩
  go_wp2_with fail
  go_ret
  exact ⟨rfl, rfl⟩
end Go.Proofs.YtdbomlclkhkinaaDoor
