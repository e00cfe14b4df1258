/- CllA -/
import Derived.Test.YtibpfkcackdbgaaGreatDoorWds
import Derived.StillTailTactics
import Derived.Deep.RegionHeld3
import Derived.Test.YtibpfkcackdbgaaGreatDoorSmal
namespace Go.Proofs.YtibpfkcackdbgaaGreatDoor
open Go.ChangeShapes Go.WideShapes Go.ChangeAt Go.RowKit
set_option linter.unusedVariables false
set_option maxRecDepth 100000
theorem ret_boolc {a b : Bool} (h : a = b) : Ending.returned (.bool a) = .returned (.bool b) := by rw [h]
theorem ret_i64c {a b : Int} (h : a = b) : Ending.returned (.int .i64 a) = .returned (.int .i64 b) := by rw [h]
def mayB (t c : Int) : Bool := decide (1 ≤ t ∧ t ≤ 64 ∧ 0 ≤ c ∧ c ≤ 65536)
def pinN (i : Nat) : Nat := 8 + i
def fieldN (t r f : Nat) : Nat := 8 + t + 8 * (r - 1) + f
def nextN (t r : Nat) : Nat := if r = 0 then 0 else fieldN t r 0
def sizeN (t c : Nat) : Nat := 8 + t + 8 * c
def behindN (r c : Nat) : Nat := if r = c then 0 else r + 1
theorem pin_at (i : Nat) (h : i < 1000000) (w : World) : Calls Tryz.prog 136 #[.int .i64 (i : Int)] w fun e w' => e = .returned (.int .i64 (pinN i : Nat)) ∧ w = w' := by
 go_enter Tryz.func136, Tryz.ntmps136
 go_wp2_with fail
 go_ret
 exact ⟨ret_i64c (by unfold pinN; omega), rfl⟩
theorem field_any (t r f : Nat) (ht : t < 1000000) (h1 : 1 ≤ r) (hr : r < 2000000) (hf : f < 1000000) (w : World) :
  Calls Tryz.prog 87 #[.int .i64 (t : Int), .int .i64 (r : Int), .int .i64 (f : Int)] w fun e w' => e = .returned (.int .i64 (fieldN t r f : Nat)) ∧ w = w' := by
 have hp : (pinN t : Int) = 8 + (t : Int) := by unfold pinN; omega
 go_enter Tryz.func87, Tryz.ntmps87
 go_wp2_with (go_at_call 136; (with_reducible refine (pin_at t ht _).mono ?_); rintro e w' ⟨rfl, rfl⟩)
 go_ret
 exact ⟨ret_i64c (by unfold fieldN; omega), rfl⟩
theorem next_any (t r : Nat) (ht : t < 1000000) (hr : r < 2000000) (w : World) :
  Calls Tryz.prog 50 #[.int .i64 (t : Int), .int .i64 (r : Int)] w fun e w' => e = .returned (.int .i64 (nextN t r : Nat)) ∧ w = w' := by
 by_cases h : r = 0
 ·subst h
  go_enter Tryz.func50, Tryz.ntmps50
  go_wp2_with fail
  go_ret
  exact ⟨ret_i64c (by unfold nextN; rfl), rfl⟩
 ·have E : Hid (nextN t r = fieldN t r 0) := Lib.hid (by unfold nextN; rw [if_neg h])
  have d : ((r : Int) == 0) = false := by rw [beq_eq_false_iff_ne]; omega
  have hcall : ∀ w, Calls Tryz.prog 87 #[.int .i64 (t : Int), .int .i64 (r : Int), .int .i64 0] w fun e w' => e = .returned (.int .i64 (nextN t r : Nat)) ∧ w = w' := fun w => by
   have h := field_any t r 0 ht (by omega) (by omega) (by omega) w
   rw [← E.out] at h
   exact h
  clear h
  go_enter Tryz.func50, Tryz.ntmps50
  go_wp2_with (go_at_call 87; (with_reducible refine (hcall _).mono ?_); rintro e w' ⟨rfl, rfl⟩)
  go_ret
  exact ⟨rfl, rfl⟩
theorem refField_any (t r f : Nat) (ht : t < 1000000) (h1 : 1 ≤ r) (hr : r < 2000000) (hf : f < 1000000) (w : World) :
  Calls Tryz.prog 15 #[.int .i64 (t : Int), .int .i64 (r : Int), .int .i64 (f : Int)] w fun e w' => e = .returned (.int .i64 (fieldN t r f : Nat)) ∧ w = w' := by
 go_enter Tryz.func15, Tryz.ntmps15
 go_wp2_with fail
 go_ret
 exact ⟨ret_i64c (by unfold fieldN; omega), rfl⟩
theorem refNext_any (t r : Nat) (ht : t < 1000000) (hr : r < 2000000) (w : World) :
  Calls Tryz.prog 18 #[.int .i64 (t : Int), .int .i64 (r : Int)] w fun e w' => e = .returned (.int .i64 (nextN t r : Nat)) ∧ w = w' := by
 by_cases h : r = 0
 ·subst h
  go_enter Tryz.func18, Tryz.ntmps18
  go_wp2_with fail
  go_ret
  exact ⟨ret_i64c (by unfold nextN; rfl), rfl⟩
 ·have E : Hid (nextN t r = fieldN t r 0) := Lib.hid (by unfold nextN; rw [if_neg h])
  have d : ((r : Int) == 0) = false := by rw [beq_eq_false_iff_ne]; omega
  have hcall : ∀ w, Calls Tryz.prog 15 #[.int .i64 (t : Int), .int .i64 (r : Int), .int .i64 0] w fun e w' => e = .returned (.int .i64 (nextN t r : Nat)) ∧ w = w' := fun w => by
   have h := refField_any t r 0 ht (by omega) hr (by omega) w
   rw [← E.out] at h
   exact h
  clear h
  go_enter Tryz.func18, Tryz.ntmps18
  go_wp2_with (go_at_call 15; (with_reducible refine (hcall _).mono ?_); rintro e w' ⟨rfl, rfl⟩)
  go_ret
  exact ⟨rfl, rfl⟩
end Go.Proofs.YtibpfkcackdbgaaGreatDoor
namespace Go.Proofs.YtibpfkcackdbgaaGreatDoor
open Go.ChangeShapes Go.WideShapes Go.ChangeAt Go.RowKit
set_option linter.unusedVariables false
set_option maxRecDepth 100000
def newF (t c i : Nat) : Nat := if i = 1 then (if c = 0 then 0 else 1) else if i < 8 + t then 0 else if (i - (8 + t)) % 8 = 7 ∧ (i - (8 + t)) / 8 + 1 < c then (i - (8 + t)) / 8 + 2 else 0
def newK (t c k i : Nat) : Nat := if i < 8 + t ∨ (i - (8 + t)) / 8 < k then newF t c i else 0
theorem newF_lt {t c : Nat} (hc : c ≤ 65536) (i : Nat) : newF t c i < 18446744073709551616 := by
 unfold newF
 split
 ·split <;> omega
 ·split
  ·omega
  ·split <;> omega
theorem newK_lt {t c : Nat} (hc : c ≤ 65536) (k i : Nat) : newK t c k i < 18446744073709551616 := by
 unfold newK
 split
 ·exact newF_lt hc i
 ·omega
theorem newK_zero (t c : Nat) (j : Nat) (hj : j < sizeN t c) : newK t c 0 j = if j = 1 then behindN 0 c else 0 := by
 unfold newK newF behindN
 by_cases h1 : j = 1
 ·subst h1
  simp only [if_pos]
  rw [if_pos (by omega)]
  by_cases hc : c = 0
  ·rw [if_pos hc, if_pos (by omega)]
  ·rw [if_neg hc, if_neg (by omega)]
 ·simp only [if_neg h1, Nat.not_lt_zero, or_false]
  split <;> rfl
theorem newK_succ (t c k : Nat) (hk : k < c) (j : Nat) (hj : j < sizeN t c) : newK t c (k + 1) j = if j = fieldN t (k + 1) 7 then behindN (k + 1) c else newK t c k j := by
 unfold sizeN at hj
 unfold newK newF fieldN behindN
 by_cases hp : j = 8 + t + 8 * (k + 1 - 1) + 7
 ·rw [if_pos hp]
  have e1 : (j - (8 + t)) / 8 = k := by omega
  have e2 : (j - (8 + t)) % 8 = 7 := by omega
  rw [if_pos (by omega), if_neg (by omega), if_neg (by omega), e1, e2]
  by_cases h : k + 1 = c
  ·rw [if_pos h, if_neg (by omega)]
  ·rw [if_neg h, if_pos (by omega)]
 ·rw [if_neg hp]
  by_cases hb : j < 8 + t
  ·rw [if_pos (Or.inl hb), if_pos (Or.inl hb)]
  ·by_cases h1 : (j - (8 + t)) / 8 < k
   ·rw [if_pos (Or.inr (by omega)), if_pos (Or.inr h1)]
   ·rw [if_neg (show ¬ (j < 8 + t ∨ (j - (8 + t)) / 8 < k) by omega)]
    by_cases h2 : (j - (8 + t)) / 8 < k + 1
    ·rw [if_pos (Or.inr h2), if_neg (by omega), if_neg hb, if_neg (by omega)]
    ·rw [if_neg (by omega)]
theorem newK_end (t c k : Nat) (hk : c ≤ k + 1) (j : Nat) (hj : j < sizeN t c) : newF t c j = newK t c k j := by
 unfold sizeN at hj
 unfold newK
 by_cases h : j < 8 + t ∨ (j - (8 + t)) / 8 < k
 ·rw [if_pos h]
 ·rw [if_neg h]
  unfold newF
  rw [if_neg (by omega), if_neg (by omega), if_neg (by omega)]
def NewPost (w : World) (t c : Nat) (e : Ending) (w' : World) : Prop :=
 ∃ g, e = .returned (.tuple #[.agg #[.int .i64 (t : Int), .int .i64 (c : Int), .slice (some ⟨g, 0, none⟩) (sizeN t c) (sizeN t c)], .int .i64 0]) ∧ w.heap.size ≤ g ∧ RowW w' g (sizeN t c) (newF t c) ∧ Below w.heap.size w w'
theorem mayB_no {t c : Int} (h : mayB t c = false) : t < 1 ∨ (¬ t < 1 ∧ 64 < t) ∨ (¬ t < 1 ∧ ¬ 64 < t ∧ c < 0) ∨ (¬ t < 1 ∧ ¬ 64 < t ∧ ¬ c < 0 ∧ 65536 < c) := by
 unfold mayB at h
 rw [decide_eq_false_iff_not] at h
 omega
def RefRel (w : World) (t c k : Nat) (wr : World) : Prop :=
 VarAt wr w.heap.size [.int .i64 0, .int .i64 0, .slice none 0 0] ∧ RowW wr (w.heap.size + 1) (sizeN t c) (newK t c k) ∧
  VarAt wr (w.heap.size + 2) [.int .i64 (t : Int), .int .i64 (c : Int), .slice (some ⟨w.heap.size + 1, 0, none⟩) (sizeN t c) (sizeN t c)] ∧ Below w.heap.size w wr
theorem RefRel.drewN {w wr : World} {t c k : Nat} (h : RefRel w t c k wr) (n : Nat) : RefRel w t c k (wr.drewN n) := ⟨h.1.drewN n, h.2.1.drewN n, h.2.2.1.drewN n, below_draw h.2.2.2 n⟩
theorem RefRel.next {w wr : World} {t c k : Nat} (h : RefRel w t c k wr) (hk : k + 1 < c) (h3 : c ≤ 65536) : RefRel w t c (k + 1) (wr.setCell ⟨w.heap.size + 1, fieldN t (k + 1) 7, none⟩ (.int .u64 ((k : Int) + 2))) := by
 obtain ⟨h0, hrow, hv, hb⟩ := h
 have e : ((k : Int) + 2) = ((behindN (k + 1) c : Nat) : Int) := by unfold behindN; rw [if_neg (by omega)]; omega
 rw [e]
 exact ⟨h0.apart _ _ (by omega), hrow.stored _ (behindN (k + 1) c) (by unfold fieldN sizeN; omega) _ (newK_lt h3 (k + 1)) (fun j hj => by rw [newK_succ t c k (by omega) j hj]), hv.apart _ _ (by omega), below_set1 (by omega) _ hb⟩
theorem RefRel.start (w : World) (t c : Nat) (h3 : c ≤ 65536) :
  let wb := ((w.alloc (.cells #[.int .i64 0, .int .i64 0, .slice none 0 0] 26)).alloc (.cells (madeCells #[.int .u64 0] (sizeN t c)) 27)).alloc (.cells #[.int .i64 (t : Int), .int .i64 (c : Int), .slice (some ⟨w.heap.size + 1, 0, none⟩) (sizeN t c) (sizeN t c)] 26)
  (c = 0 → RefRel w t c 0 wb) ∧ (0 < c → RefRel w t c 0 (wb.setCell ⟨w.heap.size + 1, 1, none⟩ (.int .u64 1))) ∧ wb.cell? ⟨w.heap.size + 1, 1, none⟩ = some (.int .u64 0) ∧ wb.frozen? ⟨w.heap.size + 1, 1, none⟩ = false ∧
   VarAt wb (w.heap.size + 2) [.int .i64 (t : Int), .int .i64 (c : Int), .slice (some ⟨w.heap.size + 1, 0, none⟩) (sizeN t c) (sizeN t c)] := by
 have V0 := VarAt.made w #[.int .i64 0, .int .i64 0, .slice none 0 0] 26
 have z0 : (w.alloc (.cells #[.int .i64 0, .int .i64 0, .slice none 0 0] 26)).heap.size = w.heap.size + 1 := by simp
 have B0 := al_below w (.cells #[.int .i64 0, .int .i64 0, .slice none 0 0] 26)
 generalize w.alloc (.cells #[.int .i64 0, .int .i64 0, .slice none 0 0] 26) = wa at *
 have R1 := RowW.made wa (sizeN t c)
 have A1 := al_below wa (.cells (madeCells #[.int .u64 0] (sizeN t c)) 27)
 have z1 : (wa.alloc (.cells (madeCells #[.int .u64 0] (sizeN t c)) 27)).heap.size = w.heap.size + 2 := by simp; omega
 rw [z0] at R1
 generalize wa.alloc (.cells (madeCells #[.int .u64 0] (sizeN t c)) 27) = wm at *
 have V2 := VarAt.made wm #[.int .i64 (t : Int), .int .i64 (c : Int), .slice (some ⟨w.heap.size + 1, 0, none⟩) (sizeN t c) (sizeN t c)] 26
 have A2 := al_below wm (.cells #[.int .i64 (t : Int), .int .i64 (c : Int), .slice (some ⟨w.heap.size + 1, 0, none⟩) (sizeN t c) (sizeN t c)] 26)
 rw [z1] at V2
 have R2 := R1.later A2
 have V1 := (V0.below A1).below A2
 have B2 := (B0.trans (A1.mono B0.size)).trans (A2.mono (by omega))
 have hs : 1 < sizeN t c := by unfold sizeN; omega
 refine ⟨fun hc => ⟨V1, R2.as (newK_lt h3 0) (fun j hj => by rw [newK_zero t c j hj]; unfold behindN; rw [if_pos hc.symm, ite_self]), V2, B2⟩, fun hc => ⟨V1.apart _ _ (by omega), R2.stored 1 1 hs _ (newK_lt h3 0) (fun j hj => by rw [newK_zero t c j hj, show behindN 0 c = 1 by unfold behindN; rw [if_neg (by omega)]]), V2.apart _ _ (by omega), below_set1 (by omega) _ B2⟩, R2.2.2.1 1 hs, R2.2.2.2 1, V2⟩
set_option maxHeartbeats 1000000 in
theorem refNew_yes (t c : Nat) (h1 : 1 ≤ t) (h2 : t ≤ 64) (h3 : c ≤ 65536) (w : World) : Calls Tryz.prog 41 #[.int .i64 (t : Int), .int .i64 (c : Int)] w (NewPost w t c) := by
 have d1 : decide ((t : Int) < 1) = false := decide_eq_false (by omega)
 have d2 : decide ((64 : Int) < (t : Int)) = false := decide_eq_false (by omega)
 have d3 : decide ((c : Int) < 0) = false := decide_eq_false (by omega)
 have d4 : decide ((65536 : Int) < (c : Int)) = false := decide_eq_false (by omega)
 have HMK := make_words (sizeN t c) (by unfold sizeN; omega)
 have HZZ : Hid (sizeN t c = 8 + t + 8 * c) := Lib.hid rfl
 have e1 : ((8 : Int) + (t : Int)) + 8 * (c : Int) = ((sizeN t c : Nat) : Int) := by unfold sizeN; omega
 have hsz : 1 < sizeN t c := by unfold sizeN; omega
 have HC := Lib.hid h3
 have ht1 : t < 1000000 := by omega
 have hc1 : c < 1000000 := by omega
 have HS := Lib.hid (RefRel.start w t c h3)
 have c1 := HS.out.2.2.1
 have f1 := HS.out.2.2.2.1
 clear h1 h2 h3
 obtain ⟨wa, hwa⟩ : ∃ wa, w.alloc (.cells #[.int .i64 0, .int .i64 0, .slice none 0 0] 26) = wa := ⟨_, rfl⟩
 obtain ⟨wm, hwm⟩ : ∃ wm, wa.alloc (.cells (madeCells #[.int .u64 0] (sizeN t c)) 27) = wm := ⟨_, rfl⟩
 have z0 : wa.heap.size = w.heap.size + 1 := by rw [← hwa]; simp
 have z1 : wm.heap.size = w.heap.size + 2 := by rw [← hwm]; simp; omega
 have M1 := HMK wa
 rw [hwm, z0] at M1
 have HS2 := HS
 clear HS
 have HS : Hid (let wb := wm.alloc (.cells #[.int .i64 (t : Int), .int .i64 (c : Int), .slice (some ⟨w.heap.size + 1, 0, none⟩) (sizeN t c) (sizeN t c)] 26)
  (c = 0 → RefRel w t c 0 wb) ∧ (0 < c → RefRel w t c 0 (wb.setCell ⟨w.heap.size + 1, 1, none⟩ (.int .u64 1))) ∧ wb.cell? ⟨w.heap.size + 1, 1, none⟩ = some (.int .u64 0) ∧ wb.frozen? ⟨w.heap.size + 1, 1, none⟩ = false ∧
   VarAt wb (w.heap.size + 2) [.int .i64 (t : Int), .int .i64 (c : Int), .slice (some ⟨w.heap.size + 1, 0, none⟩) (sizeN t c) (sizeN t c)]) := Lib.hid (by
  have h := HS2.out
  rw [hwa, hwm] at h
  exact h)
 rw [hwa, hwm] at c1 f1
 obtain ⟨wb, hwb⟩ : ∃ wb, wm.alloc (.cells #[.int .i64 (t : Int), .int .i64 (c : Int), .slice (some ⟨w.heap.size + 1, 0, none⟩) (sizeN t c) (sizeN t c)] 26) = wb := ⟨_, rfl⟩
 have HV : Hid ((c = 0 → RefRel w t c 0 wb) ∧ (0 < c → RefRel w t c 0 (wb.setCell ⟨w.heap.size + 1, 1, none⟩ (.int .u64 1)))) := Lib.hid (by
  have h := HS.out
  simp only [hwb] at h
  exact ⟨h.1, h.2.1⟩)
 have V := HS.out.2.2.2.2
 rw [hwb] at c1 f1 V
 obtain ⟨v, v0, v1, v2, g0, g1, g2⟩ := V.three
 clear HS HS2 HMK V v
 generalize hszz : sizeN t c = sz at *
 have HZ2 := Lib.hid hszz
 clear hszz
 go_enter Tryz.func41, Tryz.ntmps41
 by_cases hc0 : 0 < c
 ·have d5 : decide ((0 : Int) < (c : Int)) = true := decide_eq_true (by omega)
  go_wp2_with fail
  go_loopw [7] (fun i wr => ∃ k : Nat, k < max c 1 ∧ i = .int .i64 ((k : Int) + 1) ∧ RefRel w t c k wr) (fun i _ => c - (intOf i).toNat)
  case atStart => exact ⟨0, by omega, rfl, HV.out.2 hc0⟩
  case round =>
   obtain ⟨k, hk, rfl, hrel⟩ := hrel
   have HRR := Lib.hid hrel
   by_cases hlt : k + 1 < c
   ·have HX : Hid (RefRel w t c (k + 1) (wr.setCell ⟨w.heap.size + 1, fieldN t (k + 1) 7, none⟩ (.int .u64 ((k : Int) + 2))).drew) := Lib.hid ((hrel.next hlt HC.out).drewN 1)
    obtain ⟨h0, hrow, hvv, hb⟩ := hrel
    rw [HZ2.out] at hrow hvv
    have hp : fieldN t (k + 1) 7 < sz := by rw [← HZ2.out]; unfold fieldN sizeN; omega
    have c1 := hrow.2.2.1 _ hp
    have f1 := hrow.2.2.2 (fieldN t (k + 1) 7)
    have HF : ∀ w, Calls Tryz.prog 15 #[.int .i64 (t : Int), .int .i64 ((k : Int) + 1), .int .i64 7] w fun e w' => e = .returned (.int .i64 (fieldN t (k + 1) 7 : Nat)) ∧ w = w' := fun w => refField_any t (k + 1) 7 ht1 (by omega) (by omega) (by decide) w
    have hd : decide ((k : Int) + 1 < (c : Int)) = true := decide_eq_true (by omega)
    have s1 : IntKind.i64.wrap ((k : Int) + 1 + 1) = (k : Int) + 2 := by rw [IntKind.wrap_i64]; omega
    have s2 : IntKind.u64.wrap ((k : Int) + 2) = (k : Int) + 2 := by rw [IntKind.wrap_u64]; omega
    obtain ⟨v, v0, v1, v2, g0, g1, g2⟩ := hvv.three
    have HLT := Lib.hid hlt
    clear h0 hrow hb hvv v hlt
    generalize fieldN t (k + 1) 7 = p at *
    generalize newK t c k p = old at *
    go_wp2_with fail
    refine wp_region_still_tail 8 (by kernel_rfl) (by kernel_rfl) ?_
    simp only [List.take_succ_cons, List.take_zero, List.drop_succ_cons, List.drop_zero]
    still_step
    still_step
    still_step
    still_step
    still_call ((HF _).mono (fun e w' h => ⟨h.1, h.2.symm⟩))
    still_step
    still_step
    still_step
    refine wpStill_nil ?_
    change wpList _ _ _ _ _ wr.drew
    go_wp2_with fail
    go_roundw
    case rel => exact ⟨k + 1, by have := HLT.out; omega, by go_num, HX.out⟩
    case measure => have := HLT.out; simp [intOf]; omega
   ·have hd : decide ((k : Int) + 1 < (c : Int)) = false := decide_eq_false (by omega)
    obtain ⟨h0, hrow, hvv, hb⟩ := hrel
    have HROW := Lib.hid ((hrow.as (newF_lt HC.out) (fun j hj => newK_end t c k (by omega) j hj)).set3 w.heap.size (.int .i64 (t : Int)) (.int .i64 (c : Int)) (.slice (some ⟨w.heap.size + 1, 0, none⟩) sz sz) (by omega))
    have HBE := Lib.hid (below_setCells (b := w.heap.size) (Nat.le_refl _) [.int .i64 (t : Int), .int .i64 (c : Int), .slice (some ⟨w.heap.size + 1, 0, none⟩) sz sz] 0 _ hb)
    rw [HZ2.out] at hvv
    obtain ⟨r, r0, r1, r2, q0, q1, q2⟩ := h0.three
    obtain ⟨v, v0, v1, v2, g0, g1, g2⟩ := hvv.three
    clear h0 hrow hb hvv v hlt
    go_wp2_with fail
    exact bodyPost_ret (v := .tuple #[.agg #[.int .i64 (t : Int), .int .i64 (c : Int), .slice (some ⟨w.heap.size + 1, 0, none⟩) sz sz], .int .i64 0]) (by simp [results, Tryz.results41, go_sem, r0, r1, r2]) rfl ⟨w.heap.size + 1, by rw [HZ2.out], by omega, by rw [HZ2.out] at HROW ⊢; exact HROW.out, HBE.out⟩
 ·have d5 : decide ((0 : Int) < (c : Int)) = false := decide_eq_false (by omega)
  go_wp2_with fail
  go_loopw [7] (fun i wr => ∃ k : Nat, k < max c 1 ∧ i = .int .i64 ((k : Int) + 1) ∧ RefRel w t c k wr) (fun i _ => c - (intOf i).toNat)
  case atStart => exact ⟨0, by omega, rfl, HV.out.1 (by omega)⟩
  case round =>
   obtain ⟨k, hk, rfl, hrel⟩ := hrel
   have HRR := Lib.hid hrel
   by_cases hlt : k + 1 < c
   ·have HX : Hid (RefRel w t c (k + 1) (wr.setCell ⟨w.heap.size + 1, fieldN t (k + 1) 7, none⟩ (.int .u64 ((k : Int) + 2))).drew) := Lib.hid ((hrel.next hlt HC.out).drewN 1)
    obtain ⟨h0, hrow, hvv, hb⟩ := hrel
    rw [HZ2.out] at hrow hvv
    have hp : fieldN t (k + 1) 7 < sz := by rw [← HZ2.out]; unfold fieldN sizeN; omega
    have c1 := hrow.2.2.1 _ hp
    have f1 := hrow.2.2.2 (fieldN t (k + 1) 7)
    have HF : ∀ w, Calls Tryz.prog 15 #[.int .i64 (t : Int), .int .i64 ((k : Int) + 1), .int .i64 7] w fun e w' => e = .returned (.int .i64 (fieldN t (k + 1) 7 : Nat)) ∧ w = w' := fun w => refField_any t (k + 1) 7 ht1 (by omega) (by omega) (by decide) w
    have hd : decide ((k : Int) + 1 < (c : Int)) = true := decide_eq_true (by omega)
    have s1 : IntKind.i64.wrap ((k : Int) + 1 + 1) = (k : Int) + 2 := by rw [IntKind.wrap_i64]; omega
    have s2 : IntKind.u64.wrap ((k : Int) + 2) = (k : Int) + 2 := by rw [IntKind.wrap_u64]; omega
    obtain ⟨v, v0, v1, v2, g0, g1, g2⟩ := hvv.three
    have HLT := Lib.hid hlt
    clear h0 hrow hb hvv v hlt
    generalize fieldN t (k + 1) 7 = p at *
    generalize newK t c k p = old at *
    go_wp2_with fail
    refine wp_region_still_tail 8 (by kernel_rfl) (by kernel_rfl) ?_
    simp only [List.take_succ_cons, List.take_zero, List.drop_succ_cons, List.drop_zero]
    still_step
    still_step
    still_step
    still_step
    still_call ((HF _).mono (fun e w' h => ⟨h.1, h.2.symm⟩))
    still_step
    still_step
    still_step
    refine wpStill_nil ?_
    change wpList _ _ _ _ _ wr.drew
    go_wp2_with fail
    go_roundw
    case rel => exact ⟨k + 1, by have := HLT.out; omega, by go_num, HX.out⟩
    case measure => have := HLT.out; simp [intOf]; omega
   ·have hd : decide ((k : Int) + 1 < (c : Int)) = false := decide_eq_false (by omega)
    obtain ⟨h0, hrow, hvv, hb⟩ := hrel
    have HROW := Lib.hid ((hrow.as (newF_lt HC.out) (fun j hj => newK_end t c k (by omega) j hj)).set3 w.heap.size (.int .i64 (t : Int)) (.int .i64 (c : Int)) (.slice (some ⟨w.heap.size + 1, 0, none⟩) sz sz) (by omega))
    have HBE := Lib.hid (below_setCells (b := w.heap.size) (Nat.le_refl _) [.int .i64 (t : Int), .int .i64 (c : Int), .slice (some ⟨w.heap.size + 1, 0, none⟩) sz sz] 0 _ hb)
    rw [HZ2.out] at hvv
    obtain ⟨r, r0, r1, r2, q0, q1, q2⟩ := h0.three
    obtain ⟨v, v0, v1, v2, g0, g1, g2⟩ := hvv.three
    clear h0 hrow hb hvv v hlt
    go_wp2_with fail
    exact bodyPost_ret (v := .tuple #[.agg #[.int .i64 (t : Int), .int .i64 (c : Int), .slice (some ⟨w.heap.size + 1, 0, none⟩) sz sz], .int .i64 0]) (by simp [results, Tryz.results41, go_sem, r0, r1, r2]) rfl ⟨w.heap.size + 1, by rw [HZ2.out], by omega, by rw [HZ2.out] at HROW ⊢; exact HROW.out, HBE.out⟩
end Go.Proofs.YtibpfkcackdbgaaGreatDoor
namespace Go.Proofs.YtibpfkcackdbgaaGreatDoor
open Go.ChangeShapes Go.WideShapes Go.ChangeAt Go.RowKit Go.BigFrame
set_option linter.unusedVariables false
set_option maxRecDepth 100000
def SameRel (w : World) (t c : Int) (A B : Option Addr) (n a b : Nat) (f : Nat → Nat) (wr : World) : Prop :=
 VarAt wr w.heap.size [.int .i64 t, .int .i64 c, .slice A n a] ∧ VarAt wr (w.heap.size + 1) [.int .i64 t, .int .i64 c, .slice B n b] ∧ AtW wr A n f ∧ AtW wr B n f ∧ Below w.heap.size w wr
theorem SameRel.drewN {w wr : World} {t c : Int} {A B : Option Addr} {n a b : Nat} {f : Nat → Nat} (h : SameRel w t c A B n a b f wr) (k : Nat) : SameRel w t c A B n a b f (wr.drewN k) :=
 ⟨h.1.drewN k, h.2.1.drewN k, h.2.2.1, h.2.2.2.1, below_draw h.2.2.2.2 k⟩
theorem SameRel.start (w : World) (t c : Int) (A B : Option Addr) (n a b : Nat) (f : Nat → Nat) (hA : AtW w A n f) (hB : AtW w B n f) :
  SameRel w t c A B n a b f ((w.alloc (.cells #[.int .i64 t, .int .i64 c, .slice A n a] 26)).alloc (.cells #[.int .i64 t, .int .i64 c, .slice B n b] 26)) :=
 ⟨VarAt.three0 w _ _ _ _ _, VarAt.three1 w _ _ _ _ _, hA.later (below_pair w _ _), hB.later (below_pair w _ _), below_pair w _ _⟩
def MemAt (w : World) (b : Nat) (t c : Int) (A : Option Addr) (n cap : Nat) (f : Nat → Nat) : Prop :=
 VarAt w b [.int .i64 t, .int .i64 c, .slice A n cap] ∧ AtW w A n f
theorem MemAt.later {w w' : World} {b : Nat} {t c : Int} {A : Option Addr} {n cap : Nat} {f : Nat → Nat} (h : MemAt w b t c A n cap f) (hb : Below w.heap.size w w') : MemAt w' b t c A n cap f := ⟨h.1.below hb, h.2.later hb⟩
theorem MemAt.made (w : World) (t c : Int) {A : Option Addr} {n : Nat} (cap : Nat) {f : Nat → Nat} (h : AtW w A n f) : MemAt (w.alloc (.cells #[.int .i64 t, .int .i64 c, .slice A n cap] 26)) w.heap.size t c A n cap f :=
 ⟨VarAt.made w _ _, h.later (al_below _ _)⟩
end Go.Proofs.YtibpfkcackdbgaaGreatDoor
