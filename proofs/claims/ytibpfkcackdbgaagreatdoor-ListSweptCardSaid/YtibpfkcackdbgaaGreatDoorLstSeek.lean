/- LstSeek -/
import Derived.Test.YtibpfkcackdbgaaGreatDoorLstChain
import Derived.Test.YtibpfkcackdbgaaGreatDoorCllA
namespace Go.Proofs.YtibpfkcackdbgaaGreatDoor
open Go.ChangeShapes Go.WideShapes Go.ChangeAt Go.RowKit Go.BigFrame
set_option linter.unusedVariables false
set_option maxRecDepth 100000
def keyF (gs : Nat → Nat) : Nat → Nat
 | 0 => 0
 | i + 1 => keyF gs i + 1 + gs i
def wantF (gs : Nat → Nat) (k : Nat) : Nat → Nat
 | 0 => 0
 | i + 1 => if wantF gs k i = 0 then (if k ≤ keyF gs (i + 1) then i + 1 else 0) else wantF gs k i
def anyF (ms : Nat → Bool) : Nat → Bool
 | 0 => false
 | i + 1 => if ms i = true then true else anyF ms i
def layK (i K : Nat) (G : Nat → Nat) : Nat → Nat := setW G (fieldN 1 (i + 1) 1) K
def layF (i : Nat) (G : Nat → Nat) : Nat → Nat := setW G (fieldN 1 (i + 1) 2) (4 * (i + 1))
def layN (i : Nat) (G : Nat → Nat) : Nat → Nat := setW G (nextN 1 i) (G (nextN 1 i) + 2 * (i + 1))
def layM (i : Nat) (m : Bool) (G : Nat → Nat) : Nat → Nat := if m = true then setW G (nextN 1 (i + 1)) 1 else G
def layG (gs : Nat → Nat) (ms : Nat → Bool) : Nat → Nat → Nat
 | 0 => newF 1 10
 | i + 1 => layM i (ms i) (layN i (layF i (layK i (keyF gs (i + 1)) (layG gs ms i))))
def markOf (ms : Nat → Bool) (r : Nat) : Nat := if 1 ≤ r ∧ ms (r - 1) = true then 1 else 0
structure Laid (gs : Nat → Nat) (ms : Nat → Bool) (i : Nat) (G : Nat → Nat) : Prop where
 lt : ∀ q, G q < 18446744073709551616
 key : ∀ r, 1 ≤ r → r ≤ i → G (fieldN 1 r 1) = keyF gs r
 flag : ∀ r, 1 ≤ r → r ≤ i → G (fieldN 1 r 2) = 4 * r
 nxt : ∀ r, r < i → G (nextN 1 r) = 2 * (r + 1) + markOf ms r
 last : G (nextN 1 i) = markOf ms i
 zero : ∀ r, i < r → r ≤ 10 → G (nextN 1 r) = 0
theorem keyF_lt {gs : Nat → Nat} (h : ∀ i, gs i < 256) : ∀ i, keyF gs i ≤ 256 * i
 | 0 => Nat.le_refl _
 | i + 1 => by have := keyF_lt h i; have := h i; unfold keyF; omega
theorem nextN_inj {r s : Nat} (h : nextN 1 r = nextN 1 s) : r = s := by
 unfold nextN fieldN at h
 split at h <;> split at h <;> omega
theorem nextN_field {r s a : Nat} (hs : 1 ≤ s) (ha : 1 ≤ a) (ha8 : a < 8) : nextN 1 r ≠ fieldN 1 s a := by
 unfold nextN fieldN
 split <;> omega
theorem laid_0 (gs : Nat → Nat) (ms : Nat → Bool) : Laid gs ms 0 (layG gs ms 0) where
 lt := newF_lt (by decide)
 key := fun r h1 h2 => by omega
 flag := fun r h1 h2 => by omega
 nxt := fun r h => by omega
 last := by unfold markOf; rw [if_neg (by omega)]; rfl
 zero := fun r _ h => by
  have : ∀ r, r < 11 → newF 1 10 (nextN 1 r) = 0 := by decide
  exact this r (by omega)
theorem Laid.step {gs : Nat → Nat} {ms : Nat → Bool} {i : Nat} {G : Nat → Nat} (hg : ∀ i, gs i < 256) (h : Laid gs ms i G) (hi : i < 10) : Laid gs ms (i + 1) (layM i (ms i) (layN i (layF i (layK i (keyF gs (i + 1)) G)))) := by
 have hk := keyF_lt hg (i + 1)
 have hm1 : markOf ms i ≤ 1 := by unfold markOf; split <;> omega
 have e0 : layF i (layK i (keyF gs (i + 1)) G) (nextN 1 i) = markOf ms i := by
  unfold layF layK
  rw [setW_ne (nextN_field (by omega) (by decide) (by decide)), setW_ne (nextN_field (by omega) (by decide) (by decide)), h.last]
 have hN : ∀ q, layN i (layF i (layK i (keyF gs (i + 1)) G)) q < 18446744073709551616 := by
  unfold layN
  rw [e0]
  exact setW_lt (setW_lt (setW_lt h.lt (by omega)) (by omega)) (by omega)
 -- a field that is no next word
 have hfield : ∀ r a, 1 ≤ r → 1 ≤ a → a < 8 → layM i (ms i) (layN i (layF i (layK i (keyF gs (i + 1)) G))) (fieldN 1 r a) = layF i (layK i (keyF gs (i + 1)) G) (fieldN 1 r a) := fun r a h1 h2 h3 => by
  have hn : layN i (layF i (layK i (keyF gs (i + 1)) G)) (fieldN 1 r a) = layF i (layK i (keyF gs (i + 1)) G) (fieldN 1 r a) := by
   conv => lhs; unfold layN
   exact setW_ne (fun e => nextN_field h1 h2 h3 e.symm)
  unfold layM
  split
  ·rw [setW_ne (fun e => nextN_field h1 h2 h3 e.symm), hn]
  ·exact hn
 have hnext : ∀ r, r ≠ i → r ≠ i + 1 → layM i (ms i) (layN i (layF i (layK i (keyF gs (i + 1)) G))) (nextN 1 r) = G (nextN 1 r) := fun r h1 h2 => by
  have hn : layN i (layF i (layK i (keyF gs (i + 1)) G)) (nextN 1 r) = G (nextN 1 r) := by
   unfold layN
   rw [setW_ne (fun e => h1 (nextN_inj e))]
   unfold layF layK
   rw [setW_ne (nextN_field (by omega) (by decide) (by decide)), setW_ne (nextN_field (by omega) (by decide) (by decide))]
  unfold layM
  split
  ·rw [setW_ne (fun e => h2 (nextN_inj e)), hn]
  ·exact hn
 refine ⟨?_, ?_, ?_, ?_, ?_, ?_⟩
 ·unfold layM
  split
  ·exact setW_lt hN (by decide)
  ·exact hN
 ·intro r h1 h2
  rw [hfield r 1 h1 (by decide) (by decide)]
  unfold layF
  rw [setW_ne (fun e => by have := (fieldN_inj (by omega) (by omega) (by decide) (by decide) e).2; omega)]
  unfold layK
  by_cases hr : r = i + 1
  ·subst hr; rw [setW_eq]
  ·rw [setW_ne (fun e => hr (fieldN_inj (by omega) (by omega) (by decide) (by decide) e).1), h.key r h1 (by omega)]
 ·intro r h1 h2
  rw [hfield r 2 h1 (by decide) (by decide)]
  unfold layF
  by_cases hr : r = i + 1
  ·subst hr; rw [setW_eq]
  ·rw [setW_ne (fun e => hr (fieldN_inj (by omega) (by omega) (by decide) (by decide) e).1)]
   unfold layK
   rw [setW_ne (fun e => hr (fieldN_inj (by omega) (by omega) (by decide) (by decide) e).1), h.flag r h1 (by omega)]
 ·intro r hr
  by_cases hri : r = i
  ·subst hri
   have hn : layN r (layF r (layK r (keyF gs (r + 1)) G)) (nextN 1 r) = 2 * (r + 1) + markOf ms r := by
    unfold layN
    rw [setW_eq, e0, Nat.add_comm]
   unfold layM
   split
   ·rw [setW_ne (fun e => by have := nextN_inj e; omega), hn]
   ·exact hn
  ·rw [hnext r hri (by omega), h.nxt r (by omega)]
 ·have hz : layN i (layF i (layK i (keyF gs (i + 1)) G)) (nextN 1 (i + 1)) = 0 := by
   unfold layN
   rw [setW_ne (fun e => by have := nextN_inj e; omega)]
   unfold layF layK
   rw [setW_ne (nextN_field (by omega) (by decide) (by decide)), setW_ne (nextN_field (by omega) (by decide) (by decide)), h.zero (i + 1) (by omega) (by omega)]
  unfold layM markOf
  rw [show i + 1 - 1 = i by omega]
  split
  ·rename_i hm
   rw [setW_eq, if_pos ⟨by omega, hm⟩]
  ·rename_i hm
   rw [hz, if_neg (fun hh => hm hh.2)]
 ·intro r hr h10
  rw [hnext r (by omega) (by omega), h.zero r (by omega) h10]
theorem markOf_le (ms : Nat → Bool) (r : Nat) : markOf ms r ≤ 1 := by unfold markOf; split <;> omega
section
variable {gs : Nat → Nat} {ms : Nat → Bool} {n : Nat} {G : Nat → Nat}
theorem Laid.line (h : Laid gs ms n G) (hn : n ≤ 10) : ∀ k i, i + k = n → Line 1 G (refN (G (nextN 1 i))) (List.range' (i + 1) k)
 | 0, i, e => by
  have hi : i = n := by omega
  subst hi
  have := markOf_le ms i
  show refN (G (nextN 1 i)) = 0
  rw [h.last]
  unfold refN
  omega
 | k + 1, i, e => by
  have hm := markOf_le ms i
  have hm1 := markOf_le ms (i + 1)
  have hw : refN (G (nextN 1 i)) = i + 1 := by rw [h.nxt i (by omega)]; unfold refN; omega
  have hb : G (fieldN 1 (i + 1) 0) < 2097152 := by
   rw [← nextN_pos (by omega)]
   by_cases hl : i + 1 = n
   ·subst hl; rw [h.last]; omega
   ·rw [h.nxt (i + 1) (by omega)]; omega
  rw [hw]
  have hrec := h.line hn k (i + 1) (by omega)
  rw [nextN_pos (by omega)] at hrec
  exact ⟨rfl, by omega, by omega, hb, hrec⟩
theorem range_mem {k y : Nat} (h : y ∈ List.range' 1 k) : 1 ≤ y ∧ y ≤ k := by
 rw [List.mem_range'_1] at h
 omega
theorem fstG_app {t k : Nat} {G : Nat → Nat} (y : Nat) : ∀ l : List Nat, (∀ z, z ∈ l → z ≠ 0) → fstG t k G (l ++ [y]) = if fstG t k G l = 0 then (if k ≤ G (fieldN t y 1) then y else 0) else fstG t k G l
 | [], _ => rfl
 | z :: l, hz => by
  have h0 := hz z (List.mem_cons_self ..)
  simp only [List.cons_append]
  unfold fstG
  by_cases hk : k ≤ G (fieldN t z 1)
  ·rw [if_pos hk, if_pos hk, if_neg h0]
  ·rw [if_neg hk, if_neg hk, fstG_app y l fun w hw => hz w (List.mem_cons_of_mem _ hw)]
theorem Laid.want (h : Laid gs ms n G) (k : Nat) : ∀ i, i ≤ n → fstG 1 k G (List.range' 1 i) = wantF gs k i
 | 0, _ => rfl
 | i + 1, hi => by
  rw [List.range'_1_concat, fstG_app _ _ (fun z hz => by have := range_mem hz; omega), h.want k i (by omega), Nat.add_comm 1 i, h.key (i + 1) (by omega) hi]
  rfl
theorem any_no : ∀ i, anyF ms i = false → ∀ r, r < i → ms r = false
 | 0, _, r, hr => by omega
 | i + 1, h, r, hr => by
  unfold anyF at h
  split at h
  ·cases h
  ·rename_i hm
   by_cases hri : r = i
   ·subst hri; simpa using hm
   ·exact any_no i h r (by omega)
theorem Laid.plain (h : Laid gs ms n G) (ha : anyF ms n = false) (y : Nat) (hy : 1 ≤ y) (hyn : y ≤ n) : markB (G (fieldN 1 y 0)) = false := by
 have hm : markOf ms y = 0 := by unfold markOf; rw [any_no n ha (y - 1) (by omega), if_neg (by simp)]
 rw [← nextN_pos (by omega)]
 unfold markB
 rw [decide_eq_false_iff_not]
 by_cases hl : y = n
 ·subst hl; rw [h.last, hm]; decide
 ·rw [h.nxt y (by omega), hm]; omega
def isF (gs : Nat → Nat) (k n : Nat) : Bool := decide (wantF gs k n ≠ 0 ∧ keyF gs (wantF gs k n) = k)
theorem wantF_le (gs : Nat → Nat) (k : Nat) : ∀ i, wantF gs k i ≤ i
 | 0 => Nat.le_refl _
 | i + 1 => by
  have := wantF_le gs k i
  unfold wantF
  split
  ·split <;> omega
  ·omega
theorem Laid.is (h : Laid gs ms n G) (k : Nat) : isG 1 k G (List.range' 1 n) = isF gs k n := by
 have hle := wantF_le gs k n
 unfold isG isF
 rw [h.want k n (Nat.le_refl _)]
 by_cases h0 : wantF gs k n = 0
 ·rw [h0]; simp
 ·rw [h.key _ (by omega) hle]
theorem field7 {y : Nat} (h1 : 1 ≤ y) (hy : y ≤ 10) : fieldN 1 y 7 < sizeN 1 10 := by unfold fieldN sizeN; omega
end
end Go.Proofs.YtibpfkcackdbgaaGreatDoor
