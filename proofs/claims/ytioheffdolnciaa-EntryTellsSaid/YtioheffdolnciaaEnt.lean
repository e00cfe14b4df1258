/-
  Plain facts on entries (layer 5): which may be, their bytes, the entry of bytes. Nothing of the program stands here.
-/
import Derived.Test.YtioheffdolnciaaNum
namespace Go.Proofs.Ytioheffdolnciaa

/-- An entry: its kind, Stamp, Key, SU, SV, W. -/
structure Ent where
  k : Int
  s : Nat
  y : Nat
  u : Nat
  v : Nat
  x : Nat
deriving DecidableEq

/-- Each number is one of 64 bits. -/
def Ent.fit (e : Ent) : Prop := e.s < 18446744073709551616 ∧ e.y < 18446744073709551616 ∧ e.u < 18446744073709551616 ∧ e.v < 18446744073709551616 ∧ e.x < 18446744073709551616
def Ent.zero : Ent := ⟨0, 0, 0, 0, 0, 0⟩
def stampP (s : Nat) : Prop := 1 ≤ s ∧ s < 4611686018427387904
instance (s : Nat) : Decidable (stampP s) := by unfold stampP; infer_instance
def stampB (s : Nat) : Bool := decide (stampP s)
def rightP (y : Nat) : Prop := y / 2147483648 < 1073741824 ∧ y % 2147483648 ≤ 1073741824
instance (y : Nat) : Decidable (rightP y) := by unfold rightP; infer_instance
def rightB (y : Nat) : Bool := decide (rightP y)
def endsP (y u v : Nat) : Prop := (y % 2147483648 = 0 ∧ u = 0 ∧ v = 0) ∨ (1 ≤ y % 2147483648 ∧ stampP u ∧ stampP v)
instance (y u v : Nat) : Decidable (endsP y u v) := by unfold endsP; infer_instance
def endsB (y u v : Nat) : Bool := decide (endsP y u v)
theorem stampB_yes {s : Nat} (h : stampP s) : stampB s = true := decide_eq_true h
theorem stampB_no {s : Nat} (h : ¬ stampP s) : stampB s = false := decide_eq_false h
theorem rightB_yes {y : Nat} (h : rightP y) : rightB y = true := decide_eq_true h
theorem rightB_no {y : Nat} (h : ¬ rightP y) : rightB y = false := decide_eq_false h
theorem endsB_yes {y u v : Nat} (h : endsP y u v) : endsB y u v = true := decide_eq_true h
theorem endsB_no {y u v : Nat} (h : ¬ endsP y u v) : endsB y u v = false := decide_eq_false h
theorem ends_vertex {y u v : Nat} (h : y % 2147483648 = 0) : endsB y u v = (decide (u = 0) && decide (v = 0)) := by
  rw [← Bool.decide_and]
  refine decide_eq_decide.2 ⟨fun h' => ?_, fun h' => .inl ⟨h, h'⟩⟩
  rcases h' with h' | h'
  · exact h'.2
  · omega
theorem ends_edge {y u v : Nat} (h : y % 2147483648 ≠ 0) : endsB y u v = (stampB u && stampB v) := by
  unfold stampB
  rw [← Bool.decide_and]
  refine decide_eq_decide.2 ⟨fun h' => ?_, fun h' => .inr ⟨by omega, h'⟩⟩
  rcases h' with h' | h'
  · omega
  · exact h'.2
/-- An entry may be. -/
def Ent.may (e : Ent) : Prop :=
  (e.k = 1 ∧ stampP e.s ∧ rightP e.y ∧ endsP e.y e.u e.v) ∨ (e.k = 2 ∧ stampP e.s ∧ e.y = 0 ∧ e.u = 0 ∧ e.v = 0 ∧ e.x = 0) ∨ (e.k = 3 ∧ e.s ≤ 65536 ∧ e.y = 0 ∧ e.u = 0 ∧ e.v = 0 ∧ e.x = 0)
instance (e : Ent) : Decidable e.may := by unfold Ent.may; infer_instance
def Ent.mayB (e : Ent) : Bool := decide e.may
theorem Ent.mayB_yes {e : Ent} (h : e.may) : e.mayB = true := by simp [Ent.mayB, h]
theorem Ent.mayB_no {e : Ent} (h : ¬ e.may) : e.mayB = false := by simp [Ent.mayB, h]

theorem Ent.mayB_birth (s y u v x : Nat) : (Ent.mk 1 s y u v x).mayB = (stampB s && (rightB y && endsB y u v)) := by
  unfold stampB rightB endsB
  rw [← Bool.decide_and, ← Bool.decide_and]
  refine decide_eq_decide.2 ⟨fun h => ?_, fun h => .inl ⟨rfl, h⟩⟩
  rcases h with h | h | h
  · exact h.2
  · exact absurd h.1 (by simp)
  · exact absurd h.1 (by simp)
theorem Ent.mayB_death (s : Nat) : (Ent.mk 2 s 0 0 0 0).mayB = stampB s := by
  refine decide_eq_decide.2 ⟨fun h => ?_, fun h => .inr (.inl ⟨rfl, h, rfl, rfl, rfl, rfl⟩)⟩
  rcases h with h | h | h
  · exact absurd h.1 (by simp)
  · exact h.2.1
  · exact absurd h.1 (by simp)
theorem Ent.mayB_head (s : Nat) : (Ent.mk 3 s 0 0 0 0).mayB = decide (s ≤ 65536) := by
  refine decide_eq_decide.2 ⟨fun h => ?_, fun h => .inr (.inr ⟨rfl, h, rfl, rfl, rfl, rfl⟩)⟩
  rcases h with h | h | h
  · exact absurd h.1 (by simp)
  · exact absurd h.1 (by simp)
  · exact h.2.1
theorem Ent.mayB_more (k : Int) (s y u v x : Nat) (hk : k ≠ 1) (h : ¬ (y = 0 ∧ u = 0 ∧ v = 0 ∧ x = 0)) : (Ent.mk k s y u v x).mayB = false := by
  refine Ent.mayB_no fun h' => ?_
  rcases h' with h' | h' | h'
  · exact hk h'.1
  · exact h h'.2.2
  · exact h h'.2.2
theorem Ent.mayB_else (k : Int) (s y u v x : Nat) (h1 : k ≠ 1) (h2 : k ≠ 2) (h3 : k ≠ 3) : (Ent.mk k s y u v x).mayB = false := by
  refine Ent.mayB_no fun h' => ?_
  rcases h' with h' | h' | h'
  · exact h1 h'.1
  · exact h2 h'.1
  · exact h3 h'.1

/-- How many numbers a kind has. -/
def fieldsI (k : Int) : Nat := if k = 1 then 5 else if k = 2 ∨ k = 3 then 1 else 0
/-- An entry's bytes. -/
def Ent.bytes (e : Ent) : List Nat :=
  if e.k = 1 then e.k.toNat :: (leN 8 e.s ++ leN 8 e.y ++ leN 8 e.u ++ leN 8 e.v ++ leN 8 e.x) else e.k.toNat :: leN 8 e.s

/-- The entry that bytes say, whether it may be or not. -/
def rawN (b : List Nat) : Ent :=
  if b.length = 41 then ⟨(b.getD 0 0 : Nat), numN ((b.drop 1).take 8), numN ((b.drop 9).take 8), numN ((b.drop 17).take 8), numN ((b.drop 25).take 8), numN ((b.drop 33).take 8)⟩
  else ⟨(b.getD 0 0 : Nat), numN ((b.drop 1).take 8), 0, 0, 0, 0⟩
/-- Bytes that have an entry. -/
def Reads (b : List Nat) : Prop := 1 ≤ b.length ∧ b.length = 1 + 8 * fieldsI (b.getD 0 0 : Nat) ∧ (rawN b).may
instance (b : List Nat) : Decidable (Reads b) := by unfold Reads; infer_instance
def decN (b : List Nat) : Ent := if Reads b then rawN b else Ent.zero
def decE (b : List Nat) : Int := if Reads b then 0 else 2

theorem num_lt8 {l : List Nat} (h : Bytes l) (hl : l.length ≤ 8) : numN l < 18446744073709551616 := by
  have := num_lt h
  have h2 : 256 ^ l.length ≤ 256 ^ 8 := Nat.pow_le_pow_right (by omega) hl
  omega
theorem numN_leN (n x : Nat) : numN (leN n x) = x % 256 ^ n := by
  induction n generalizing x with
  | zero => simp [leN, numN, Nat.mod_one]
  | succ n ih => rw [leN, numN, ih, Nat.pow_succ', Nat.mod_mul]
theorem numN_le8 {x : Nat} (h : x < 18446744073709551616) : numN (leN 8 x) = x := by
  rw [numN_leN]; exact Nat.mod_eq_of_lt h
theorem leN_numN {l : List Nat} (h : Bytes l) : leN l.length (numN l) = l := by
  induction l with
  | nil => rfl
  | cons a l ih =>
    have := h.head
    simp only [List.length_cons, leN, numN]
    rw [show (a + 256 * numN l) % 256 = a by omega, show (a + 256 * numN l) / 256 = numN l by omega, ih h.tail]
theorem leN_numN8 {l : List Nat} (h : Bytes l) (hl : l.length = 8) : leN 8 (numN l) = l := by rw [← hl]; exact leN_numN h

theorem Bytes.drop' {xs : List Nat} (h : Bytes xs) (k : Nat) : Bytes (xs.drop k) := fun x hx => h x (List.mem_of_mem_drop hx)
theorem raw_fit {b : List Nat} (h : Bytes b) : (rawN b).fit := by
  have f : ∀ i, numN ((b.drop i).take 8) < 18446744073709551616 := fun i => num_lt8 ((h.drop' i).take 8) (by simp; omega)
  unfold rawN
  split <;> exact ⟨f _, by first | exact f _ | simp, by first | exact f _ | simp, by first | exact f _ | simp, by first | exact f _ | simp⟩
theorem zero_fit : Ent.zero.fit := by simp [Ent.fit, Ent.zero]
theorem dec_fit {b : List Nat} (h : Bytes b) : (decN b).fit := by
  unfold decN; split
  · exact raw_fit h
  · exact zero_fit
theorem zero_not : ¬ Ent.zero.may := by simp [Ent.may, Ent.zero]

theorem Ent.kinds {e : Ent} (h : e.may) : e.k = 1 ∨ e.k = 2 ∨ e.k = 3 := by
  rcases h with h | h | h
  · exact .inl h.1
  · exact .inr (.inl h.1)
  · exact .inr (.inr h.1)
theorem Ent.tail {e : Ent} (h : e.may) (h1 : e.k ≠ 1) : e.y = 0 ∧ e.u = 0 ∧ e.v = 0 ∧ e.x = 0 := by
  rcases h with h | h | h
  · exact absurd h.1 h1
  · exact h.2.2
  · exact h.2.2
theorem Ent.bytes_length (e : Ent) : e.bytes.length = if e.k = 1 then 41 else 9 := by
  unfold Ent.bytes; split <;> simp [leN_length]
theorem Ent.bytes_pos (e : Ent) : 1 ≤ e.bytes.length ∧ e.bytes.length ≤ 41 := by rw [e.bytes_length]; split <;> omega
theorem Ent.bytes_head (e : Ent) : e.bytes.getD 0 0 = e.k.toNat := by unfold Ent.bytes; split <;> rfl
theorem Ent.bytes_ok {e : Ent} (h : e.may) : Bytes e.bytes := by
  have hk := Ent.kinds h
  intro z hz
  unfold Ent.bytes at hz
  split at hz
  · simp only [List.mem_cons, List.mem_append] at hz
    rcases hz with rfl | (((hz | hz) | hz) | hz) | hz
    · omega
    all_goals exact leN_bytes _ _ _ hz
  · rcases List.mem_cons.1 hz with rfl | hz
    · omega
    · exact leN_bytes _ _ _ hz
theorem take_at {A B C : List Nat} {n : Nat} (hB : B.length = 8) (hn : A.length = n) : ((A ++ (B ++ C)).drop n).take 8 = B := by
  rw [← hn, List.drop_left, ← hB, List.take_left]
theorem raw_bytes {e : Ent} (h : e.may) (hf : e.fit) : rawN e.bytes = e := by
  have hk := Ent.kinds h
  obtain ⟨f1, f2, f3, f4, f5⟩ := hf
  unfold rawN
  rw [Ent.bytes_length, Ent.bytes_head]
  by_cases h1 : e.k = 1
  · simp only [h1, if_true]
    have l := leN_length 8
    have eb : e.bytes = [1] ++ (leN 8 e.s ++ (leN 8 e.y ++ (leN 8 e.u ++ (leN 8 e.v ++ leN 8 e.x)))) := by unfold Ent.bytes; simp [h1]
    have e1 : ((e.bytes).drop 1).take 8 = leN 8 e.s := by rw [eb]; exact take_at (l _) rfl
    have e2 : ((e.bytes).drop 9).take 8 = leN 8 e.y := by rw [eb, ← List.append_assoc]; exact take_at (l _) (by simp [l])
    have e3 : ((e.bytes).drop 17).take 8 = leN 8 e.u := by rw [eb, ← List.append_assoc, ← List.append_assoc]; exact take_at (l _) (by simp [l])
    have e4 : ((e.bytes).drop 25).take 8 = leN 8 e.v := by rw [eb, ← List.append_assoc, ← List.append_assoc, ← List.append_assoc]; exact take_at (l _) (by simp [l])
    have e5 : ((e.bytes).drop 33).take 8 = leN 8 e.x := by
      rw [eb, ← List.append_assoc, ← List.append_assoc, ← List.append_assoc, ← List.append_assoc]
      have := take_at (A := [1] ++ leN 8 e.s ++ leN 8 e.y ++ leN 8 e.u ++ leN 8 e.v) (B := leN 8 e.x) (C := []) (n := 33) (l _) (by simp [l])
      rwa [List.append_nil] at this
    rw [e1, e2, e3, e4, e5, numN_le8 f1, numN_le8 f2, numN_le8 f3, numN_le8 f4, numN_le8 f5]
    cases e; simp_all
  · obtain ⟨t1, t2, t3, t4⟩ := Ent.tail h h1
    rw [if_neg h1, if_neg (by omega)]
    have eb : e.bytes = [e.k.toNat] ++ (leN 8 e.s ++ []) := by unfold Ent.bytes; simp [h1]
    have e1 : ((e.bytes).drop 1).take 8 = leN 8 e.s := by rw [eb]; exact take_at (leN_length _ _) rfl
    rw [e1, numN_le8 f1]
    cases e; simp_all; omega
theorem reads_bytes {e : Ent} (h : e.may) (hf : e.fit) : Reads e.bytes := by
  have hk := Ent.kinds h
  refine ⟨e.bytes_pos.1, ?_, by rw [raw_bytes h hf]; exact h⟩
  rw [Ent.bytes_length, Ent.bytes_head]
  unfold fieldsI
  rcases hk with hk | hk | hk <;> simp [hk]
/-- What is encoded is decoded as it was. -/
theorem dec_bytes {e : Ent} (h : e.may) (hf : e.fit) : decN e.bytes = e ∧ decE e.bytes = 0 := by
  have := reads_bytes h hf
  exact ⟨by rw [decN, if_pos this, raw_bytes h hf], by rw [decE, if_pos this]⟩
theorem cut5 (b : List Nat) (hl : b.length = 41) : b = b.getD 0 0 :: ((b.drop 1).take 8 ++ (b.drop 9).take 8 ++ (b.drop 17).take 8 ++ (b.drop 25).take 8 ++ (b.drop 33).take 8) := by
  obtain ⟨a, l, rfl⟩ : ∃ a l, b = a :: l := by
    cases b with
    | nil => simp at hl
    | cons a l => exact ⟨a, l, rfl⟩
  have d : ∀ n, (a :: l).drop (n + 1) = l.drop n := fun n => rfl
  rw [d 0, d 8, d 16, d 24, d 32]
  simp only [List.getD_cons_zero, List.drop_zero, List.cons.injEq, true_and]
  have hl' : l.length = 40 := by simpa using hl
  have s : ∀ n, (l.drop n).take 8 ++ l.drop (n + 8) = l.drop n := fun n => by rw [← List.drop_drop, List.take_append_drop]
  have e5 : (l.drop 32).take 8 = l.drop 32 := List.take_of_length_le (by simp; omega)
  rw [e5, List.append_assoc, List.append_assoc, List.append_assoc, s 24, s 16, s 8]
  have := s 0
  simp only [List.drop_zero] at this
  rw [this]
/-- What is decoded is encoded as it was. -/
theorem bytes_raw {b : List Nat} (hb : Bytes b) (h : Reads b) : (rawN b).bytes = b := by
  obtain ⟨h1, h2, h3⟩ := h
  have l8 : ∀ n, n + 8 ≤ b.length → leN 8 (numN ((b.drop n).take 8)) = (b.drop n).take 8 := fun n hn => leN_numN8 ((hb.drop' n).take 8) (by simp; omega)
  have hk := Ent.kinds h3
  have hk0 : (rawN b).k = ((b.getD 0 0 : Nat) : Int) := by unfold rawN; split <;> rfl
  by_cases e1 : b.length = 41
  · have hr : rawN b = ⟨(b.getD 0 0 : Nat), numN ((b.drop 1).take 8), numN ((b.drop 9).take 8), numN ((b.drop 17).take 8), numN ((b.drop 25).take 8), numN ((b.drop 33).take 8)⟩ := by unfold rawN; rw [if_pos e1]
    have k1 : ((b.getD 0 0 : Nat) : Int) = 1 := by
      rw [e1] at h2; unfold fieldsI at h2
      by_cases hq : ((b.getD 0 0 : Nat) : Int) = 1
      · exact hq
      · rw [if_neg hq] at h2; split at h2 <;> omega
    rw [hr]
    unfold Ent.bytes
    simp only [k1, if_true]
    rw [l8 1 (by omega), l8 9 (by omega), l8 17 (by omega), l8 25 (by omega), l8 33 (by omega)]
    have c := cut5 b e1
    have k1' : b.getD 0 0 = 1 := by omega
    rw [k1'] at c
    exact c.symm
  · have hr : rawN b = ⟨(b.getD 0 0 : Nat), numN ((b.drop 1).take 8), 0, 0, 0, 0⟩ := by unfold rawN; rw [if_neg e1]
    have k1 : ¬ ((b.getD 0 0 : Nat) : Int) = 1 := by
      intro hq
      rw [hq] at h2; unfold fieldsI at h2; simp at h2; omega
    have e9 : b.length = 9 := by
      rw [hk0] at hk
      have : fieldsI ((b.getD 0 0 : Nat) : Int) = 1 := by unfold fieldsI; rw [if_neg k1, if_pos (by omega)]
      omega
    rw [hr]
    unfold Ent.bytes
    simp only [k1, if_false]
    rw [l8 1 (by omega)]
    obtain ⟨a, l, rfl⟩ : ∃ a l, b = a :: l := by
      cases b with
      | nil => simp at e9
      | cons a l => exact ⟨a, l, rfl⟩
    have e9' : l.length = 8 := by simpa using e9
    simp only [List.getD_cons_zero, Int.toNat_natCast, List.drop_succ_cons, List.drop_zero]
    rw [List.take_of_length_le (by omega)]
theorem bytes_inj {e f : Ent} (he : e.may) (hf : f.may) (fe : e.fit) (ff : f.fit) (h : e.bytes = f.bytes) : e = f := by
  rw [← raw_bytes he fe, ← raw_bytes hf ff, h]
theorem dec_no {b : List Nat} (h : ¬ Reads b) : decN b = Ent.zero ∧ decE b = 2 := by simp [decN, decE, h]
theorem dec_yes {b : List Nat} (h : Reads b) : decN b = rawN b ∧ decE b = 0 := by simp [decN, decE, h]
theorem reads_length {b : List Nat} (h : Reads b) : b.length = 9 ∨ b.length = 41 := by
  obtain ⟨h1, h2, h3⟩ := h
  have hk := Ent.kinds h3
  have hk0 : (rawN b).k = ((b.getD 0 0 : Nat) : Int) := by unfold rawN; split <;> rfl
  rw [hk0] at hk
  unfold fieldsI at h2
  split at h2
  · omega
  · split at h2 <;> omega
theorem reads_kind {b : List Nat} (h : Reads b) : (b.length = 41) = (((b.getD 0 0 : Nat) : Int) = 1) := by
  obtain ⟨h1, h2, h3⟩ := h
  unfold fieldsI at h2
  split at h2
  · simp_all
  · split at h2
    · simp_all
    · simp_all
/-- A byte less: none. -/
theorem cut_less (e : Ent) : ¬ Reads (e.bytes.take (e.bytes.length - 1)) := by
  intro hr
  have := reads_length hr
  have hl := e.bytes_length
  rw [List.length_take] at this
  split at hl <;> omega
/-- A byte more: none. -/
theorem cut_more (e : Ent) (c : Nat) : ¬ Reads (e.bytes ++ [c]) := by
  intro hr
  have := reads_length hr
  have hl := e.bytes_length
  rw [List.length_append] at this
  split at hl <;> simp at this <;> omega
/-- With another byte it is another entry, or none. -/
theorem cut_set {e : Ent} (h : e.may) (i c : Nat) (hi : i < e.bytes.length) (hc : c < 256) (hne : c ≠ e.bytes.getD i 0) : decN (e.bytes.set i c) ≠ e := by
  intro hd
  have hb : Bytes (e.bytes.set i c) := fun z hz => by
    rcases List.mem_or_eq_of_mem_set hz with h' | rfl
    · exact Ent.bytes_ok h z h'
    · exact hc
  by_cases hr : Reads (e.bytes.set i c)
  · rw [(dec_yes hr).1] at hd
    have := bytes_raw hb hr
    rw [hd] at this
    have h2 := congrArg (fun l => l.getD i 0) this
    simp [List.getD_eq_getElem?_getD, hi] at h2
    apply hne
    simp [List.getD_eq_getElem?_getD, hi, h2]
  · rw [(dec_no hr).1] at hd
    rw [← hd] at h
    exact zero_not h
theorem cut_same {e : Ent} (i : Nat) (hi : i < e.bytes.length) : e.bytes.set i (e.bytes.getD i 0) = e.bytes := by
  rw [List.getD_eq_getElem?_getD, List.getElem?_eq_getElem hi]
  exact List.set_getElem_self hi
end Go.Proofs.Ytioheffdolnciaa
