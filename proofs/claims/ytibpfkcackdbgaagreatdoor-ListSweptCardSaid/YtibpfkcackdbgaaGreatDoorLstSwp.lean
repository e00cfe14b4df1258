/- LstSwp -/
import Derived.Test.YtibpfkcackdbgaaGreatDoorLstSweep
import Derived.Test.YtibpfkcackdbgaaGreatDoorLstSeek
namespace Go.Proofs.YtibpfkcackdbgaaGreatDoor
open Go.ChangeShapes Go.WideShapes Go.ChangeAt Go.RowKit Go.BigFrame
set_option linter.unusedVariables false
set_option maxRecDepth 100000
def keyS (e r : Nat) : Nat := if 128 ≤ e then r * 2147483648 else 2 * r
def sw1 (i : Nat) (G : Nat → Nat) : Nat → Nat := setW G (fieldN 1 (i + 1) 1) (2 * (i + 1))
def sw2 (i e : Nat) (G : Nat → Nat) : Nat → Nat := if 128 ≤ e then setW G (fieldN 1 (i + 1) 1) ((i + 1) * 2147483648) else G
def sw4 (i su : Nat) (G : Nat → Nat) : Nat → Nat := setW G (fieldN 1 (i + 1) 4) su
def sw5 (i sv : Nat) (G : Nat → Nat) : Nat → Nat := setW G (fieldN 1 (i + 1) 5) sv
def swF (i e : Nat) (G : Nat → Nat) : Nat → Nat := sw5 i (e / 4 % 4) (sw4 i (e % 4) (layF i (sw2 i e (sw1 i G))))
def swG (es : Nat → Nat) (ms : Nat → Bool) : Nat → Nat → Nat
 | 0 => newF 1 10
 | i + 1 => layM i (ms i) (layN i (swF i (es i) (swG es ms i)))
structure LaidS (es : Nat → Nat) (ms : Nat → Bool) (i : Nat) (G : Nat → Nat) : Prop where
 lt : ∀ q, G q < 18446744073709551616
 key : ∀ r, 1 ≤ r → r ≤ i → G (fieldN 1 r 1) = keyS (es (r - 1)) r
 flag : ∀ r, 1 ≤ r → r ≤ i → G (fieldN 1 r 2) = 4 * r
 su : ∀ r, 1 ≤ r → r ≤ i → G (fieldN 1 r 4) = es (r - 1) % 4
 sv : ∀ r, 1 ≤ r → r ≤ i → G (fieldN 1 r 5) = es (r - 1) / 4 % 4
 nxt : ∀ r, r < i → G (nextN 1 r) = 2 * (r + 1) + markOf ms r
 last : G (nextN 1 i) = markOf ms i
 zero : ∀ r, i < r → r ≤ 10 → G (nextN 1 r) = 0
theorem laidS_0 (es : Nat → Nat) (ms : Nat → Bool) : LaidS es ms 0 (swG es ms 0) :=
 ⟨newF_lt (by decide), fun r h1 h2 => by omega, fun r h1 h2 => by omega, fun r h1 h2 => by omega, fun r h1 h2 => by omega, fun r h => by omega, (laid_0 (fun _ => 0) ms).last, (laid_0 (fun _ => 0) ms).zero⟩
theorem fieldN_ne {r s a b : Nat} (hr : 1 ≤ r) (hs : 1 ≤ s) (ha : a < 8) (hb : b < 8) (h : r ≠ s ∨ a ≠ b) : fieldN 1 r a ≠ fieldN 1 s b := fun e => by
 have := fieldN_inj hr hs ha hb e
 omega
theorem swF_at {i e r a : Nat} {G : Nat → Nat} (hr : 1 ≤ r) (ha : a < 8) : swF i e G (fieldN 1 r a) = if r = i + 1 then (if a = 1 then keyS e (i + 1) else if a = 2 then 4 * (i + 1) else if a = 4 then e % 4 else if a = 5 then e / 4 % 4 else G (fieldN 1 r a)) else G (fieldN 1 r a) := by
 have hne : ∀ b, b < 8 → (r ≠ i + 1 ∨ a ≠ b) → fieldN 1 r a ≠ fieldN 1 (i + 1) b := fun b hb h => fieldN_ne hr (by omega) ha hb h
 unfold swF sw5 sw4 layF
 by_cases hri : r = i + 1
 ·rw [if_pos hri]
  by_cases h5 : a = 5
  ·rw [if_neg (by omega), if_neg (by omega), if_neg (by omega), if_pos h5, hri, h5, setW_eq]
  rw [setW_ne (hne 5 (by decide) (.inr h5))]
  by_cases h4 : a = 4
  ·rw [if_neg (by omega), if_neg (by omega), if_pos h4, hri, h4, setW_eq]
  rw [setW_ne (hne 4 (by decide) (.inr h4))]
  by_cases h2 : a = 2
  ·rw [if_neg (by omega), if_pos h2, hri, h2, setW_eq]
  rw [setW_ne (hne 2 (by decide) (.inr h2)), if_neg h2, if_neg h4, if_neg h5]
  unfold sw2 sw1 keyS
  by_cases h1 : a = 1
  ·rw [if_pos h1, hri, h1]
   split <;> rw [setW_eq]
  ·rw [if_neg h1]
   split
   ·rw [setW_ne (hne 1 (by decide) (.inr h1)), setW_ne (hne 1 (by decide) (.inr h1))]
   ·rw [setW_ne (hne 1 (by decide) (.inr h1))]
 ·rw [if_neg hri, setW_ne (hne 5 (by decide) (.inl hri)), setW_ne (hne 4 (by decide) (.inl hri)), setW_ne (hne 2 (by decide) (.inl hri))]
  unfold sw2 sw1
  split
  ·rw [setW_ne (hne 1 (by decide) (.inl hri)), setW_ne (hne 1 (by decide) (.inl hri))]
  ·rw [setW_ne (hne 1 (by decide) (.inl hri))]
theorem swF_next {i e r : Nat} {G : Nat → Nat} : swF i e G (nextN 1 r) = G (nextN 1 r) := by
 have hne : ∀ b, 1 ≤ b → b < 8 → nextN 1 r ≠ fieldN 1 (i + 1) b := fun b h1 h8 => nextN_field (by omega) h1 h8
 unfold swF sw5 sw4 layF sw2 sw1
 rw [setW_ne (hne 5 (by decide) (by decide)), setW_ne (hne 4 (by decide) (by decide)), setW_ne (hne 2 (by decide) (by decide))]
 split
 ·rw [setW_ne (hne 1 (by decide) (by decide)), setW_ne (hne 1 (by decide) (by decide))]
 ·rw [setW_ne (hne 1 (by decide) (by decide))]
theorem swF_lt {i e : Nat} {G : Nat → Nat} (hi : i < 10) (h : ∀ q, G q < 18446744073709551616) (q : Nat) : swF i e G q < 18446744073709551616 := by
 have h2 : ∀ q, sw2 i e (sw1 i G) q < 18446744073709551616 := by
  have h1 := setW_lt h (i := fieldN 1 (i + 1) 1) (show 2 * (i + 1) < 18446744073709551616 by omega)
  unfold sw2 sw1
  split
  ·exact setW_lt h1 (by omega)
  ·exact h1
 exact setW_lt (setW_lt (setW_lt h2 (by omega)) (by omega)) (by omega) q
theorem LaidS.step {es : Nat → Nat} {ms : Nat → Bool} {i : Nat} {G : Nat → Nat} (h : LaidS es ms i G) (hi : i < 10) : LaidS es ms (i + 1) (layM i (ms i) (layN i (swF i (es i) G))) := by
 have hm1 : markOf ms i ≤ 1 := markOf_le ms i
 have e0 : swF i (es i) G (nextN 1 i) = markOf ms i := by rw [swF_next, h.last]
 have hN : ∀ q, layN i (swF i (es i) G) q < 18446744073709551616 := by
  unfold layN
  rw [e0]
  exact setW_lt (swF_lt hi h.lt) (by omega)
 have hfield : ∀ r a, 1 ≤ r → 1 ≤ a → a < 8 → layM i (ms i) (layN i (swF i (es i) G)) (fieldN 1 r a) = swF i (es i) G (fieldN 1 r a) := fun r a h1 h2 h3 => by
  have hn : layN i (swF i (es i) G) (fieldN 1 r a) = swF i (es i) G (fieldN 1 r a) := by
   conv => lhs; unfold layN
   exact setW_ne (fun e => nextN_field h1 h2 h3 e.symm)
  unfold layM
  split
  ·rw [setW_ne (fun e => nextN_field h1 h2 h3 e.symm), hn]
  ·exact hn
 have hnext : ∀ r, r ≠ i → r ≠ i + 1 → layM i (ms i) (layN i (swF i (es i) G)) (nextN 1 r) = G (nextN 1 r) := fun r h1 h2 => by
  have hn : layN i (swF i (es i) G) (nextN 1 r) = G (nextN 1 r) := by
   conv => lhs; unfold layN
   rw [setW_ne (fun e => h1 (nextN_inj e)), swF_next]
  unfold layM
  split
  ·rw [setW_ne (fun e => h2 (nextN_inj e)), hn]
  ·exact hn
 have hget : ∀ r a, 1 ≤ r → r ≤ i + 1 → a = 1 ∨ a = 2 ∨ a = 4 ∨ a = 5 → layM i (ms i) (layN i (swF i (es i) G)) (fieldN 1 r a) = if r = i + 1 then (if a = 1 then keyS (es i) (i + 1) else if a = 2 then 4 * (i + 1) else if a = 4 then es i % 4 else es i / 4 % 4) else G (fieldN 1 r a) := fun r a h1 h2 h3 => by
  rw [hfield r a h1 (by omega) (by omega), swF_at h1 (by omega)]
  split
  ·rcases h3 with rfl | rfl | rfl | rfl <;> rfl
  ·rfl
 refine ⟨?_, ?_, ?_, ?_, ?_, ?_, ?_, ?_⟩
 ·unfold layM
  split
  ·exact setW_lt hN (by decide)
  ·exact hN
 ·intro r h1 h2
  rw [hget r 1 h1 h2 (.inl rfl)]
  split
  ·rename_i hr; subst hr; rfl
  ·exact h.key r h1 (by omega)
 ·intro r h1 h2
  rw [hget r 2 h1 h2 (.inr (.inl rfl))]
  split
  ·rename_i hr; subst hr; rfl
  ·exact h.flag r h1 (by omega)
 ·intro r h1 h2
  rw [hget r 4 h1 h2 (.inr (.inr (.inl rfl)))]
  split
  ·rename_i hr; subst hr; rfl
  ·exact h.su r h1 (by omega)
 ·intro r h1 h2
  rw [hget r 5 h1 h2 (.inr (.inr (.inr rfl)))]
  split
  ·rename_i hr; subst hr; rfl
  ·exact h.sv r h1 (by omega)
 ·intro r hr
  by_cases hri : r = i
  ·subst hri
   have hn : layN r (swF r (es r) G) (nextN 1 r) = 2 * (r + 1) + markOf ms r := by
    unfold layN
    rw [setW_eq, e0, Nat.add_comm]
   unfold layM
   split
   ·rw [setW_ne (fun e => by have := nextN_inj e; omega), hn]
   ·exact hn
  ·rw [hnext r hri (by omega), h.nxt r (by omega)]
 ·have hz : layN i (swF i (es i) G) (nextN 1 (i + 1)) = 0 := by
   conv => lhs; unfold layN
   rw [setW_ne (fun e => by have := nextN_inj e; omega), swF_next, h.zero (i + 1) (by omega) (by omega)]
  unfold layM markOf
  rw [show i + 1 - 1 = i by omega]
  split
  ·rename_i hm
   rw [setW_eq, if_pos ⟨by omega, hm⟩]
  ·rename_i hm
   rw [hz, if_neg (fun hh => hm hh.2)]
 ·intro r hr h10
  rw [hnext r (by omega) (by omega), h.zero r (by omega) h10]
theorem laidS_all (es : Nat → Nat) (ms : Nat → Bool) : ∀ i, i ≤ 10 → LaidS es ms i (swG es ms i)
 | 0, _ => laidS_0 es ms
 | i + 1, h => (laidS_all es ms i (by omega)).step (by omega)
def stayS (es : Nat → Nat) (ms : Nat → Bool) (st r : Nat) : Bool := !(ms (r - 1)) && (decide (128 ≤ es (r - 1)) || (decide (es (r - 1) % 4 ≠ st) && decide (es (r - 1) / 4 % 4 ≠ st)))
section
variable {es : Nat → Nat} {ms : Nat → Bool} {n : Nat} {G : Nat → Nat}
theorem LaidS.line (h : LaidS es ms n G) (hn : n ≤ 10) : ∀ k i, i + k = n → Line 1 G (refN (G (nextN 1 i))) (List.range' (i + 1) k)
 | 0, i, e => by
  have hi : i = n := by omega
  subst hi
  have := markOf_le ms i
  show refN (G (nextN 1 i)) = 0
  rw [h.last]
  unfold refN
  omega
 | k + 1, i, e => by
  have hm := markOf_le ms i
  have hm1 := markOf_le ms (i + 1)
  have hw : refN (G (nextN 1 i)) = i + 1 := by rw [h.nxt i (by omega)]; unfold refN; omega
  have hb : G (fieldN 1 (i + 1) 0) < 2097152 := by
   rw [← nextN_pos (by omega)]
   by_cases hl : i + 1 = n
   ·subst hl; rw [h.last]; omega
   ·rw [h.nxt (i + 1) (by omega)]; omega
  rw [hw]
  have hrec := h.line hn k (i + 1) (by omega)
  rw [nextN_pos (by omega)] at hrec
  exact ⟨rfl, by omega, by omega, hb, hrec⟩
theorem LaidS.stays (h : LaidS es ms n G) (hn : n ≤ 10) (st : Nat) {y : Nat} (h1 : 1 ≤ y) (hy : y ≤ n) : stays 1 st G y = stayS es ms st y := by
 have hmk : markB (G (fieldN 1 y 0)) = ms (y - 1) := by
  have hmo : markOf ms y = if ms (y - 1) = true then 1 else 0 := by
   unfold markOf
   by_cases hm : ms (y - 1) = true
   ·rw [if_pos ⟨h1, hm⟩, if_pos hm]
   ·rw [if_neg (fun hh => hm hh.2), if_neg hm]
  have hw : G (fieldN 1 y 0) % 2 = markOf ms y := by
   have := markOf_le ms y
   rw [← nextN_pos (by omega)]
   by_cases hl : y = n
   ·subst hl; rw [h.last]; omega
   ·rw [h.nxt y (by omega)]; omega
  unfold markB
  rw [hw, hmo]
  cases ms (y - 1) <;> rfl
 have hht : Prd.hit 1 st G y = decide (¬ 128 ≤ es (y - 1) ∧ (es (y - 1) % 4 = st ∨ es (y - 1) / 4 % 4 = st)) := by
  unfold Prd.hit
  rw [h.key y h1 hy, h.su y h1 hy, h.sv y h1 hy]
  unfold keyS
  by_cases hv : 128 ≤ es (y - 1)
  ·rw [if_pos hv, Nat.mul_mod_left]
   simp [hv]
  ·rw [if_neg hv]
   congr 1
   rw [eq_iff_iff]
   constructor
   ·exact fun hh => ⟨hv, hh.2⟩
   ·exact fun hh => ⟨by omega, hh.2⟩
 unfold Go.Proofs.YtibpfkcackdbgaaGreatDoor.stays stayS
 rw [hmk, hht]
 cases ms (y - 1)
 ·by_cases hv : 128 ≤ es (y - 1)
  ·simp [hv]
  ·by_cases h4 : es (y - 1) % 4 = st
   ·simp [hv, h4]
   ·by_cases h5 : es (y - 1) / 4 % 4 = st
    ·simp [hv, h4, h5]
    ·simp [hv, h4, h5]
 ·rfl
theorem sweep_laid (h : LaidS es ms n G) (hn : n ≤ 10) (st : Nat) : ∃ d G' lF j x', d ≠ 0 ∧ j ≤ 400 ∧ (lPrg 1 10 0 0 st 2000).run (Prd.wTell (sizeN 1 10) 0 (fun _ => false)) ((G, zerosS 1), 0) = .done d ((G', lF), j) ∧ Swept 1 st (List.range' 1 n) 0 G G' x' ((List.range' 1 n).filter (stayS es ms st)) := by
 have e : lPrg 1 10 0 0 st 2000 = Prd.start 1 (Prd.lookW 1 st 2000) 2000 2000 := rfl
 have hl := h.line hn n 0 (by omega)
 have hm0 : markOf ms 0 = 0 := by unfold markOf; rw [if_neg (by omega)]
 have hhead : G (nextN 1 0) = linkN (refN (G (nextN 1 0))) false := by
  by_cases h0 : n = 0
  ·subst h0
   rw [h.last, hm0]
   rfl
  ·rw [h.nxt 0 (by omega), hm0]
   rfl
 have hnd : (0 :: List.range' 1 n).Nodup := List.nodup_cons.2 ⟨fun hz => by have := range_mem hz; omega, List.nodup_range'⟩
 obtain ⟨d, W', j, x', hd, hj, hr, hs⟩ := Prd.sweep_line (n := sizeN 1 10) (me := 0) (t := 1) (st := st) (f := 1999) (List.range' 1 n) 0 _ 2000 1 (G, zerosS 1) h.lt hl (by rw [List.length_range']; omega) (fun y hy => field7 (range_mem hy).1 (by have := range_mem hy; omega)) (by decide) hnd hhead (by show 0 < (zerosS 1).length; decide) (by rw [List.length_range']; show 0 + 47 * n ≤ _; omega) (fun y hy => by
  have hy2 := range_mem hy
  show hasF (G (fieldN 1 y 2)) 2 = false
  rw [h.flag y hy2.1 hy2.2]
  unfold hasF
  rw [decide_eq_false_iff_not, show bitsN 2 = 2 from rfl]
  omega)
 rw [List.length_range'] at hj
 rw [Prd.filter_same _ (q' := stayS es ms st) (fun y hy => h.stays hn st (range_mem hy).1 (range_mem hy).2)] at hs
 refine ⟨d, W'.1, W'.2, j, x', hd, by omega, ?_, hs⟩
 rw [e, Prd.start_go (W := (G, zerosS 1)) (by decide) h.lt]
 exact hr
end
end Go.Proofs.YtibpfkcackdbgaaGreatDoor
