/-
  Plain facts on numbers as bytes, the lowest one first. Nothing of the program stands here.
-/
import Derived.Test.YtjbhichgojjakaaPlain
namespace Go.Proofs.Ytjbhichgojjakaa

/-- A number that bytes are, the lowest one first. -/
def numN : List Nat → Nat
  | [] => 0
  | x :: xs => x + 256 * numN xs
/-- A number's lowest n bytes, the lowest one first. -/
def leN : Nat → Nat → List Nat
  | 0, _ => []
  | n + 1, x => x % 256 :: leN n (x / 256)
def shN (k x : Nat) : Nat := x / 256 ^ k
theorem shN_zero (x : Nat) : shN 0 x = x := by simp [shN]
theorem shN_succ (k x : Nat) : shN (k + 1) x = shN k x / 256 := by rw [shN, shN, Nat.pow_succ, Nat.div_div_eq_div_mul]
theorem shN_le (k x : Nat) : shN k x ≤ x := Nat.div_le_self _ _
theorem leN_length (n x : Nat) : (leN n x).length = n := by
  induction n generalizing x with
  | zero => rfl
  | succ n ih => simp [leN, ih]
theorem leN_bytes (n x : Nat) : Bytes (leN n x) := by
  induction n generalizing x with
  | zero => intro y hy; simp [leN] at hy
  | succ n ih =>
    intro y hy
    rcases List.mem_cons.1 hy with rfl | h
    · omega
    · exact ih _ y h
theorem leN_snoc (n x : Nat) : leN (n + 1) x = leN n x ++ [shN n x % 256] := by
  induction n generalizing x with
  | zero => simp [leN, shN]
  | succ n ih =>
    rw [leN, ih, leN]
    simp [shN, Nat.pow_succ', Nat.div_div_eq_div_mul]
theorem num_snoc (xs : List Nat) (y : Nat) : numN (xs ++ [y]) = numN xs + 256 ^ xs.length * y := by
  induction xs with
  | nil => simp [numN]
  | cons x xs ih => simp [numN, ih, Nat.pow_succ, Nat.mul_add, Nat.mul_left_comm, Nat.mul_comm, Nat.add_assoc]
theorem numN_le2 (x : Nat) (h : x < 65536) : numN (leN 2 x) = x := by simp [leN, numN]; omega
theorem numN_le4 (x : Nat) (h : x < 4294967296) : numN (leN 4 x) = x := by simp [leN, numN]; omega

theorem num_take (xs : List Nat) (k : Nat) (h : k < xs.length) : numN (xs.take (k + 1)) = numN (xs.take k) + 256 ^ k * xs.getD k 0 := by
  rw [take_snoc xs k h, num_snoc, List.length_take, Nat.min_eq_left (by omega)]
theorem num_lt {xs : List Nat} (h : Bytes xs) : numN xs < 256 ^ xs.length := by
  induction xs with
  | nil => simp [numN]
  | cons x xs ih =>
    have := ih h.tail
    have := h.head
    simp [numN, Nat.pow_succ]; omega
theorem num_lt_take {xs : List Nat} (h : Bytes xs) (k : Nat) (hk : k ≤ xs.length) : numN (xs.take k) < 256 ^ k := by
  have := num_lt (h.take k)
  rwa [List.length_take, Nat.min_eq_left hk] at this
/-- Bits that stand beside each other. -/
theorem or_beside {a i : Nat} (b : Nat) (h : a < 2 ^ i) : a ||| (2 ^ i * b) = a + 2 ^ i * b := by
  rw [Nat.or_comm, Nat.add_comm, Nat.two_pow_add_eq_or_of_lt h]
end Go.Proofs.Ytjbhichgojjakaa
