/-
  The document's own measure of disks: few streams, few bytes; and when two disks are the same.
-/
import Derived.Test.YtjbhichgojjakaaDskRight
import Derived.Deep.QuietTactic
import Derived.BigQuiet
import Derived.Deep.RegionHeld3
namespace Go.Proofs.Ytjbhichgojjakaa
open Go.ChangeShapes Go.WideShapes Go.ChangeAt Go.RowKit
set_option linter.unusedVariables false
set_option maxRecDepth 100000

/-- How many bytes the streams have. -/
def sumN (l : List Stm) : Nat := (l.map fun x => x.bytes.length).sum
theorem sumN_take {l : List Stm} {k : Nat} {x : Stm} (hx : l[k]? = some x) : sumN (l.take (k + 1)) = sumN (l.take k) + x.bytes.length := by
  unfold sumN
  rw [List.take_add_one, hx]
  simp
theorem sumN_all {l : List Stm} {k : Nat} (hk : l.length ≤ k) : sumN (l.take k) = sumN l := by rw [List.take_of_length_le hk]
theorem sumN_mem {l : List Stm} {x : Stm} (h : x ∈ l) : x.bytes.length ≤ sumN l := by
  unfold sumN
  induction l with
  | nil => simp at h
  | cons y l ih =>
    simp only [List.map_cons, List.sum_cons]
    rcases List.mem_cons.1 h with rfl | h
    · omega
    · have := ih h; omega
def sumK (l0 l1 : List Stm) : Nat → Nat
  | 0 => 0
  | 1 => sumN l0
  | _ => sumN l0 + sumN l1
def fewD (l0 l1 : List Stm) : Bool := decide (l0.length ≤ 8) && decide (l1.length ≤ 8) && decide (sumN l0 + sumN l1 ≤ 4000)
theorem fewD_iff {l0 l1 : List Stm} (h : fewD l0 l1 = true) : l0.length ≤ 8 ∧ l1.length ≤ 8 ∧ sumN l0 + sumN l1 ≤ 4000 := by
  unfold fewD at h
  simp only [Bool.and_eq_true, decide_eq_true_eq] at h
  exact ⟨h.1.1, h.1.2, h.2⟩
set_option maxHeartbeats 2000000 in
theorem few_at (r : Int) (A : Option Addr) (n a : Nat) (B : Option Addr) (m b : Nat) (l0 l1 : List Stm) (w : World) (h0 : Hid (StmsAt w A n l0)) (h1 : Hid (StmsAt w B m l1)) :
    Calls Try.prog 40 #[.agg #[.int .u64 r, .slice A n a, .slice B m b]] w (Kept w (.bool (fewD l0 l1))) := by
  have hm0 := h0.out.2.1
  have hm1 := h1.out.2.1
  have HL0 := Lib.hid h0.out.1
  have HL1 := Lib.hid h1.out.1
  by_cases c0 : 8 < n
  · have E : Hid (fewD l0 l1 = false) := Lib.hid (by unfold fewD; rw [decide_eq_false (by rw [HL0.out]; omega)]; rfl)
    have d0 : decide ((8 : Int) < (n : Int)) = true := decide_eq_true (by omega)
    clear c0
    go_enter Try.func40, Try.ntmps40
    go_wp2_with fail
    go_ret
    exact ⟨ret_bool' E.out.symm, (Below.refl _ _).alloc (Nat.le_refl _) _⟩
  by_cases c1 : 8 < m
  · have E : Hid (fewD l0 l1 = false) := Lib.hid (by unfold fewD; rw [decide_eq_false (p := l1.length ≤ 8) (by rw [HL1.out]; omega)]; simp)
    have d0 : decide ((8 : Int) < (n : Int)) = false := decide_eq_false (by omega)
    have d1 : decide ((8 : Int) < (m : Int)) = true := decide_eq_true (by omega)
    clear c0 c1
    go_enter Try.func40, Try.ntmps40
    go_wp2_with fail
    go_ret
    exact ⟨ret_bool' E.out.symm, (Below.refl _ _).alloc (Nat.le_refl _) _⟩
  have E : Hid (fewD l0 l1 = decide (((sumN l0 + sumN l1 : Nat) : Int) ≤ 4000)) := Lib.hid (by
    unfold fewD
    rw [decide_eq_true (by rw [HL0.out]; omega), decide_eq_true (by rw [HL1.out]; omega)]
    simp only [Bool.true_and]
    rw [decide_eq_decide]
    omega)
  have d0 : decide ((8 : Int) < (n : Int)) = false := decide_eq_false (by omega)
  have d1 : decide ((8 : Int) < (m : Int)) = false := decide_eq_false (by omega)
  have c0' : n ≤ 8 := by omega
  have c1' : m ≤ 8 := by omega
  clear c0 c1
  go_enter Try.func40, Try.ntmps40
  go_wp2_with fail
  have HW := Lib.hid ((Below.refl w.heap.size w).alloc (Nat.le_refl _) (.cells #[.int .u64 r, .slice A n a, .slice B m b] 33))
  have VW := Lib.hid (VarAt.made w #[.int .u64 r, .slice A n a, .slice B m b] 33)
  obtain ⟨w0, hw0⟩ : ∃ w0, w0 = w.alloc (.cells #[.int .u64 r, .slice A n a, .slice B m b] 33) := ⟨_, rfl⟩
  have HB0 : Hid (Below w.heap.size w w0) := Lib.hid (by rw [hw0]; exact HW.out)
  have VB0 : Hid (VarAt w0 w.heap.size [.int .u64 r, .slice A n a, .slice B m b]) := Lib.hid (by rw [hw0]; exact VW.out)
  rw [← hw0]
  clear hw0 HW VW
  have H0 : Hid (StmsAt w0 A n l0) := Lib.hid (h0.out.later HB0.out)
  have H1 : Hid (StmsAt w0 B m l1) := Lib.hid (h1.out.later HB0.out)
  clear h0 h1
  obtain ⟨hz, hc0, hc1, hc2, hf0, hf1, hf2⟩ := VB0.out.three
  go_loopw [3, 4, 5] (fun u i _ wr => ∃ k t : Nat, k ≤ 2 ∧ i = .int .i64 k ∧ u = .int .i64 (t : Int) ∧ t = sumK l0 l1 k ∧ t ≤ k * 8 * 140737488355328 ∧ wr = w0) (fun _ i _ _ => 2 - (intOf i).toNat)
  case atStart => exact ⟨0, 0, Nat.zero_le _, rfl, rfl, rfl, by omega, (by first | rfl | trivial)⟩
  case round =>
    obtain ⟨k, t, hk, rfl, rfl, ht, htb, hwr⟩ := hrel
    have HT := Lib.hid ht
    clear ht
    subst hwr
    obtain rfl | rfl | rfl : k = 0 ∨ k = 1 ∨ k = 2 := by omega
    · rw [show ((0 : Nat) : Int) = 0 from rfl]
      go_wp2_with fail
      go_loopw [3, 5] (fun u j wq => ∃ q s : Nat, q ≤ n ∧ j = .int .i64 q ∧ u = .int .i64 (s : Int) ∧ s = t + sumN (l0.take q) ∧ s ≤ t + q * 140737488355328 ∧ wq = wr) (fun _ j _ => n - (intOf j).toNat)
      case atStart => exact ⟨0, t, Nat.zero_le _, rfl, rfl, by simp [sumN], by omega, (by first | rfl | trivial)⟩
      case round =>
        obtain ⟨q, s, hq, rfl, rfl, hs, hsb, rfl⟩ := hrel
        have HS := Lib.hid hs
        clear hs
        by_cases hlt : q < n
        · obtain ⟨x, b', off, A', c, hx, rfl, hb', hd0, hd1, hlc, hlm, hat, hsy⟩ := H0.out.at_ q hlt
          have HX := Lib.hid (sumN_take hx)
          clear hx hat
          go_wp2_with fail
          go_roundw
          case rel => exact ⟨q + 1, s + x.bytes.length, by omega, by go_num, by go_num, by have := HS.out; have := HX.out; omega, by omega, (by first | rfl | trivial)⟩
          case measure => simp [intOf]; omega
        · have HX2 := Lib.hid (sumN_all (l := l0) (k := q) (by have := HL0.out; omega))
          go_wp2_with fail
          go_roundw
          case rel => exact ⟨0 + 1, s, by omega, by go_num, rfl, by have := HS.out; have := HX2.out; have := HT.out; simp only [sumK] at *; omega, by have := HS.out; have := HX2.out; have := HT.out; omega, (by first | rfl | trivial)⟩
          case measure => simp [intOf]
    · rw [show ((1 : Nat) : Int) = 1 from rfl]
      go_wp2_with fail
      go_loopw [3, 5] (fun u j wq => ∃ q s : Nat, q ≤ m ∧ j = .int .i64 q ∧ u = .int .i64 (s : Int) ∧ s = t + sumN (l1.take q) ∧ s ≤ t + q * 140737488355328 ∧ wq = wr) (fun _ j _ => m - (intOf j).toNat)
      case atStart => exact ⟨0, t, Nat.zero_le _, rfl, rfl, by simp [sumN], by omega, (by first | rfl | trivial)⟩
      case round =>
        obtain ⟨q, s, hq, rfl, rfl, hs, hsb, rfl⟩ := hrel
        have HS := Lib.hid hs
        clear hs
        by_cases hlt : q < m
        · obtain ⟨x, b', off, A', c, hx, rfl, hb', hd0, hd1, hlc, hlm, hat, hsy⟩ := H1.out.at_ q hlt
          have HX := Lib.hid (sumN_take hx)
          clear hx hat
          go_wp2_with fail
          go_roundw
          case rel => exact ⟨q + 1, s + x.bytes.length, by omega, by go_num, by go_num, by have := HS.out; have := HX.out; omega, by omega, (by first | rfl | trivial)⟩
          case measure => simp [intOf]; omega
        · have HX2 := Lib.hid (sumN_all (l := l1) (k := q) (by have := HL1.out; omega))
          go_wp2_with fail
          go_roundw
          case rel => exact ⟨1 + 1, s, by omega, by go_num, rfl, by have := HS.out; have := HX2.out; have := HT.out; simp only [sumK] at *; omega, by have := HS.out; have := HX2.out; have := HT.out; omega, (by first | rfl | trivial)⟩
          case measure => simp [intOf]
    · have HX := Lib.hid (show fewD l0 l1 = decide ((t : Int) ≤ 4000) by rw [E.out, HT.out]; rfl)
      clear HT E
      go_wp2_with fail
      go_ret
      exact ⟨ret_bool' HX.out.symm, HB0.out⟩

/-! ### When two disks are the same -/
set_option maxHeartbeats 1000000 in
theorem all_at (A : Option Addr) (n a : Nat) (B : Option Addr) (b : Nat) (l : List Stm) (w : World) (h0 : Hid (StmsAt w A n l)) (h1 : Hid (StmsAt w B n l)) :
    Calls Try.prog 70 #[.slice A n a, .slice B n b] w (Kept w (.bool true)) := by
  have hm0 := h0.out.2.1
  have HL0 := Lib.hid h0.out.1
  go_enter Try.func70, Try.ntmps70
  go_wp2_with fail
  go_loopw [5, 6] (fun i _ wr => ∃ k : Nat, k ≤ n ∧ i = .int .i64 k ∧ Below w.heap.size w wr) (fun i _ _ => n - (intOf i).toNat)
  case atStart => exact ⟨0, Nat.zero_le _, rfl, Below.refl _ _⟩
  case round =>
    obtain ⟨k, hk, rfl, hrel⟩ := hrel
    have HB := Lib.hid hrel
    by_cases hlt : k < n
    · obtain ⟨x, b0, o0, A0, c0, hx, e0, hb0, hc0, hc1, hl0, hm0', hat0, hs0⟩ := (h0.out.later hrel).at_ k hlt
      obtain ⟨y, b1, o1, A1, c1, hy, e1, hb1, hd0, hd1, hl1, hm1', hat1, hs1⟩ := (h1.out.later hrel).at_ k hlt
      obtain rfl : x = y := Option.some.inj (hx.symm.trans hy)
      subst e0 e1
      have HA0 := Lib.hid hat0
      have HA1 := Lib.hid hat1
      clear hx hy hat0 hat1 hrel
      go_wp2_with fail
      have hC0 : ∀ w', Below wr.heap.size wr w' → w'.cell? ⟨b0, o0 + k * 2, none⟩ = some (.slice A0 x.bytes.length c0) := fun w' hb => (hb.cell (p := ⟨b0, o0 + k * 2, none⟩) hb0).trans hc0
      have hC1 : ∀ w', Below wr.heap.size wr w' → w'.cell? ⟨b0, o0 + k * 2 + 1, none⟩ = some (.int .i64 x.synced) := fun w' hb => (hb.cell (p := ⟨b0, o0 + k * 2 + 1, none⟩) hb0).trans hc1
      have hD0 : ∀ w', Below wr.heap.size wr w' → w'.cell? ⟨b1, o1 + k * 2, none⟩ = some (.slice A1 x.bytes.length c1) := fun w' hb => (hb.cell (p := ⟨b1, o1 + k * 2, none⟩) hb1).trans hd0
      have hD1 : ∀ w', Below wr.heap.size wr w' → w'.cell? ⟨b1, o1 + k * 2 + 1, none⟩ = some (.int .i64 x.synced) := fun w' hb => (hb.cell (p := ⟨b1, o1 + k * 2 + 1, none⟩) hb1).trans hd1
      clear hc0 hc1 hd0 hd1
      have hB0 : Below wr.heap.size wr wr := Below.refl _ _
      first | (go_region_held3 (fun w' => Below wr.heap.size wr w') (first | assumption | (exact Below.drew (by assumption)) | (exact Below.drew (Below.refl _ _)))
        (first
          | (go_at_call 89; (with_reducible refine (same_at A0 A1 x.bytes.length c0 c1 x.bytes x.synced _ (Lib.hid (AtB.below HA0.out (by first | assumption | (exact Below.drew (Below.refl _ _)) | (exact Below.drew (by assumption))) (Nat.le_refl _))) (Lib.hid (AtB.below HA1.out (by first | assumption | (exact Below.drew (Below.refl _ _)) | (exact Below.drew (by assumption))) (Nat.le_refl _)))).mono ?_); rintro e w4 ⟨rfl, hbw4⟩; have hBw4 : Below wr.heap.size wr w4 := below_step hbw4 (by first | assumption | (exact Below.drew (Below.refl _ _)) | (exact Below.drew (by assumption))); have HB4 := Lib.hid (HB.out.trans (hBw4.mono HB.out.size)); clear hbw4))) | fail
      all_goals
        clear hC0 hC1 hD0 hD1
        go_wp2_with fail
        go_roundw
        case rel => exact ⟨k + 1, by omega, by go_num, HB4.out⟩
        case measure => simp [intOf]; omega
    · go_wp2_with fail
      go_ret
      exact ⟨rfl, HB.out⟩
set_option maxHeartbeats 1000000 in
theorem sameD_at (r : Int) (A : Option Addr) (n a : Nat) (B : Option Addr) (m b : Nat) (A' : Option Addr) (a' : Nat) (B' : Option Addr) (b' : Nat) (l0 l1 : List Stm) (w : World) (h0 : Hid (StmsAt w A n l0)) (h1 : Hid (StmsAt w B m l1))
    (h0' : Hid (StmsAt w A' n l0)) (h1' : Hid (StmsAt w B' m l1)) :
    Calls Try.prog 48 #[.agg #[.int .u64 r, .slice A n a, .slice B m b], .agg #[.int .u64 r, .slice A' n a', .slice B' m b']] w (Kept w (.bool true)) := by
  have C0 := fun w h h' => all_at A n a A' a' l0 w h h'
  have C1 := fun w h h' => all_at B m b B' b' l1 w h h'
  go_enter Try.func48, Try.ntmps48
  go_wp2_with fail
  have HB := Lib.hid (below_pair w (.cells #[.int .u64 r, .slice A n a, .slice B m b] 33) (.cells #[.int .u64 r, .slice A' n a', .slice B' m b'] 33))
  have V0 := Lib.hid (VarAt.three0 w (.int .u64 r) (.slice A n a) (.slice B m b) (.cells #[.int .u64 r, .slice A' n a', .slice B' m b'] 33) 33)
  have V1 := Lib.hid (VarAt.three1 w (.int .u64 r) (.slice A' n a') (.slice B' m b') (.cells #[.int .u64 r, .slice A n a, .slice B m b] 33) 33)
  (with_reducible refine (C0 _ (StmsAt.hid h0 HB.out) (StmsAt.hid h0' HB.out)).mono ?_)
  rintro e w1 ⟨rfl, hb⟩
  have HB1 := Lib.hid (HB.out.trans (hb.mono HB.out.size))
  obtain ⟨hz, hc0, hc1, hc2, hf0, hf1, hf2⟩ := (V0.out.below hb).three
  obtain ⟨hzz, hd0, hd1, hd2, hg0, hg1, hg2⟩ := (V1.out.below hb).three
  clear hb
  go_wp2_with (go_at_call 70; (with_reducible refine (C1 _ (StmsAt.hid h1 HB1.out) (StmsAt.hid h1' HB1.out)).mono ?_); rintro e w2 ⟨rfl, hb⟩; have HB2 := Lib.hid (HB1.out.trans (hb.mono HB1.out.size)); have k : ∀ b o, b < w1.heap.size → w2.cell? ⟨b, o, none⟩ = w1.cell? ⟨b, o, none⟩ := (fun b o h => keptCells hb b o h); clear hb; have e0 := (k _ 0 hz).trans hc0; have e1 := (k _ 0 hzz).trans hd0; clear k hc0 hd0)
  go_ret
  exact ⟨rfl, HB2.out⟩
end Go.Proofs.Ytjbhichgojjakaa
