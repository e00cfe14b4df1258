/-
  StreamTwice: synced twice is synced once; cut behind a cut cuts no more, whatever is asked to stay; what is cut off is gone; for every stream (of up to 300 bytes) and every two numbers. No condition.
-/
import Derived.Test.YtocnndpfpplleaaStrmShown
import Derived.Test.YtocnndpfpplleaaStrmOpen
import Derived.Test.YtocnndpfpplleaaLaw
import Derived.Deep.RegionHeld3
namespace Go.Proofs.Ytocnndpfpplleaa.streamTwice
open Go.ChangeShapes Go.WideShapes Go.ChangeAt Go.RowKit
set_option linter.unusedVariables false
theorem own : ownKnob Try.prog.godebug = none := by kernel_rfl

theorem walkLong (A : Option Addr) (len cap : Nat) (s a b : Int) (l1 : 300 < len) (w : World) :
    Calls Try.prog 6 #[.agg #[.slice A len cap, .int .i64 s], .int .i64 a, .int .i64 b] w fun e w' => e = .returned (.bool true) ∧ Below w.heap.size w w' := by
  have d1 : decide ((300 : Int) < (len : Int)) = true := by rw [decide_eq_true_iff]; omega
  go_enter Try.func6, Try.ntmps6
  go_wp2_with fail
  refine (shown_below _).mono ?_
  rintro e w1 ⟨rfl, hb⟩
  have HB1 := Lib.hid (below_box hb)
  have V1 := Lib.hid ((VarAt.made w #[.slice A len cap, .int .i64 s] 24).below hb)
  clear hb
  obtain ⟨hz1, hc0, hc1, hf0, hf1⟩ := V1.out.two
  go_wp2_with fail
  go_ret
  exact ⟨rfl, HB1.out⟩

theorem walkWrong (A : Option Addr) (len cap : Nat) (s a b : Int) (l1 : len ≤ 300) (hr : rightB s len = false) (w : World) :
    Calls Try.prog 6 #[.agg #[.slice A len cap, .int .i64 s], .int .i64 a, .int .i64 b] w fun e w' => e = .returned (.bool true) ∧ Below w.heap.size w w' := by
  have d1 : decide ((300 : Int) < (len : Int)) = false := by rw [decide_eq_false_iff_not]; omega
  have HRR := fun w => refRight_any A len cap s w
  rw [hr] at HRR
  clear hr
  go_enter Try.func6, Try.ntmps6
  go_wp2_with fail
  refine (shown_below _).mono ?_
  rintro e w1 ⟨rfl, hb⟩
  have HB1 := Lib.hid (below_box hb)
  have V1 := Lib.hid ((VarAt.made w #[.slice A len cap, .int .i64 s] 24).below hb)
  clear hb
  obtain ⟨hz1, hc0, hc1, hf0, hf1⟩ := V1.out.two
  go_wp2_with (go_at_call 9; (with_reducible refine (HRR _).mono ?_); rintro e w2 ⟨rfl, hb⟩; have HB2 := Lib.hid (HB1.out.trans (hb.mono HB1.out.size)); clear hb)
  go_ret
  exact ⟨rfl, HB2.out⟩

theorem cutN_all (n : Nat) (b : Int) : cutN n n b = n := by unfold cutN; omega
theorem cutN_mono (q len : Nat) {a b : Int} (h : b ≤ a) : cutN q len b ≤ cutN q len a := by unfold cutN; omega

set_option maxRecDepth 100000 in
set_option maxHeartbeats 8000000 in
theorem walkOver (A : Option Addr) (len cap : Nat) (xs : List Nat) (hl : len ≤ cap) (l1 : len ≤ 300) (q : Nat) (hq : q ≤ len) (a b : Int) (hab : a < b) (w : World) (hA : Hid (AtB w A len xs)) :
    Calls Try.prog 6 #[.agg #[.slice A len cap, .int .i64 (q : Int)], .int .i64 a, .int .i64 b] w fun e w' => e = .returned (.bool true) ∧ Below w.heap.size w w' := by
  have d1 : decide ((300 : Int) < (len : Int)) = false := by rw [decide_eq_false_iff_not]; omega
  have d2 : decide (a < b) = true := by rw [decide_eq_true_iff]; omega
  have HRR := fun w => refRight_any A len cap (q : Int) w
  rw [rightB_nat hq] at HRR
  have HSY := fun w => sync_at A len cap hl (q : Int) w
  have HSY2 := fun w => sync_at A len len (Nat.le_refl _) (len : Int) w
  have HCT := fun w => cut_at A len cap hl (by omega) q hq a w
  have HCTY := fun w => cut_at A len len (Nat.le_refl _) (by omega) len (Nat.le_refl _) b w
  rw [cutN_all] at HCTY
  have hk := cutN_le hq a
  have HCTC := fun w => cut_at A (cutN q len a) (cutN q len a) (Nat.le_refl _) (by omega) (cutN q len a) (Nat.le_refl _) b w
  rw [cutN_all] at HCTC
  generalize cutN q len a = k at *
  clear hab
  go_enter Try.func6, Try.ntmps6
  go_wp2_with fail
  refine (shown_below _).mono ?_
  rintro e w1 ⟨rfl, hb⟩
  have HB1 := Lib.hid (below_box hb)
  have V1 := Lib.hid ((VarAt.made w #[.slice A len cap, .int .i64 (q : Int)] 24).below hb)
  have HX1 := Lib.hid (AtB.later hA (below_box hb))
  clear hb hA
  obtain ⟨hz1, hc0, hc1, hf0, hf1⟩ := V1.out.two
  go_wp2_with (go_at_call 9; (with_reducible refine (HRR _).mono ?_); rintro e w2 ⟨rfl, hb⟩; have HB2 := Lib.hid (HB1.out.trans (hb.mono HB1.out.size)); have HX2 := Lib.hid (AtB.later HX1 hb); have V2 := Lib.hid (V1.out.below hb); clear hb; clear hz1 hc0 hc1 hf0 hf1 HB1 HX1 V1; obtain ⟨hz1, hc0, hc1, hf0, hf1⟩ := V2.out.two)
  (with_reducible refine (HSY _).mono ?_)
  rintro e w3 ⟨rfl, hb⟩
  have hba : Below w2.heap.size w2 (w3.alloc (.cells #[.slice A len len, .int .i64 (len : Int)] 24)) := hb.alloc hb.size _
  have HB3 := Lib.hid (HB2.out.trans (hba.mono HB2.out.size))
  have HX3 := Lib.hid (AtB.later HX2 hba)
  have V3 := Lib.hid (V2.out.below hba)
  have Y3 := Lib.hid (VarAt.made w3 #[.slice A len len, .int .i64 (len : Int)] 24)
  clear hb hba HB2 HX2 V2 hz1 hc0 hc1 hf0 hf1
  obtain ⟨hz1, hc0, hc1, hf0, hf1⟩ := V3.out.two
  go_wp2_with fail
  (with_reducible refine (HCT _).mono ?_)
  rintro e w5 ⟨rfl, hb⟩
  obtain ⟨w7, hw7⟩ : ∃ w7, w5.alloc (.cells #[.slice A k k, .int .i64 (k : Int)] 24) = w7 := ⟨_, rfl⟩
  have hba : Below (w3.alloc (.cells #[.slice A len len, .int .i64 (len : Int)] 24)).heap.size (w3.alloc (.cells #[.slice A len len, .int .i64 (len : Int)] 24)) w7 := by rw [← hw7]; exact hb.alloc hb.size _
  have HB7 := Lib.hid (HB3.out.trans (hba.mono HB3.out.size))
  have HX7 := Lib.hid (AtB.later HX3 hba)
  have V7 := Lib.hid (V3.out.below hba)
  have Y7 := Lib.hid (Y3.out.below hba)
  have C7 : Hid (VarAt w7 w5.heap.size [.slice A k k, .int .i64 (k : Int)]) := Lib.hid (by rw [← hw7]; exact VarAt.made w5 #[.slice A k k, .int .i64 (k : Int)] 24)
  have HZ7 := Lib.hid (HX7.out.ahead k hk)
  clear hb hba HB3 HX3 V3 Y3 hz1 hc0 hc1 hf0 hf1 hk
  generalize xs.take k = zs at *
  have hS0 : ∀ w', Below w7.heap.size w7 w' → w'.cell? ⟨w.heap.size, 0, none⟩ = some (.slice A len cap) := fun w' hb => (V7.out.below hb).two.2.1
  have hS1 : ∀ w', Below w7.heap.size w7 w' → w'.cell? ⟨w.heap.size, 1, none⟩ = some (.int .i64 (q : Int)) := fun w' hb => (V7.out.below hb).two.2.2.1
  have hY0 : ∀ w', Below w7.heap.size w7 w' → w'.cell? ⟨w3.heap.size, 0, none⟩ = some (.slice A len len) := fun w' hb => (Y7.out.below hb).two.2.1
  have hY1 : ∀ w', Below w7.heap.size w7 w' → w'.cell? ⟨w3.heap.size, 1, none⟩ = some (.int .i64 (len : Int)) := fun w' hb => (Y7.out.below hb).two.2.2.1
  have hC0 : ∀ w', Below w7.heap.size w7 w' → w'.cell? ⟨w5.heap.size, 0, none⟩ = some (.slice A k k) := fun w' hb => (C7.out.below hb).two.2.1
  have hC1 : ∀ w', Below w7.heap.size w7 w' → w'.cell? ⟨w5.heap.size, 1, none⟩ = some (.int .i64 (k : Int)) := fun w' hb => (C7.out.below hb).two.2.2.1
  have hB0 : Below w7.heap.size w7 w7 := Below.refl _ _
  go_wp2_with fail
  try rw [hw7]
  clear hw7
  refine wp_region_noPanic ?_
  refine wp_region_held_drew (S := fun w' => Below w7.heap.size w7 w') (by kernel_rfl) (Below.drew (Below.refl _ _)) (fun hHeld => ?_)
  refine wpAnyH_take (i := 0) (oi := _) (v := ?_) rfl (by kernel_rfl) (by kernel_rfl) (by kernel_rfl) (fun _ _ _ h => h) (Or.inl ⟨by rfl, ?_⟩) (by assumption) ?_
  rotate_left
  · intro w hSw
    (try dsimp only at hSw)
    go_simp
    with_reducible rfl
  try simp only [List.getElem_toArray, List.getElem_cons_zero, Act.put, List.setIfInBounds_toArray, List.set_cons_zero, List.set_cons_succ]
  refine wpAnyH_take (i := 1) (oi := _) (v := ?_) rfl (by kernel_rfl) (by kernel_rfl) (by kernel_rfl) (fun _ _ _ h => h) (Or.inl ⟨by rfl, ?_⟩) (by assumption) ?_
  rotate_left
  · intro w hSw
    (try dsimp only at hSw)
    go_simp
    with_reducible rfl
  try simp only [List.getElem_toArray, List.getElem_cons_succ, List.getElem_cons_zero, Act.put, List.setIfInBounds_toArray, List.set_cons_zero, List.set_cons_succ]
  refine wpAnyH_take (i := 2) (oi := _) (v := ?_) rfl (by kernel_rfl) (by kernel_rfl) (by kernel_rfl) (fun _ _ _ h => h) (Or.inl ⟨by rfl, ?_⟩) (by assumption) ?_
  rotate_left
  · intro w hSw
    (try dsimp only at hSw)
    go_simp
    with_reducible rfl
  try simp only [List.getElem_toArray, List.getElem_cons_succ, List.getElem_cons_zero, Act.put, List.setIfInBounds_toArray, List.set_cons_zero, List.set_cons_succ]
  refine wpAnyH_take (i := 4) (oi := _) (v := ?_) rfl (by kernel_rfl) (by kernel_rfl) (by kernel_rfl) (fun _ _ _ h => h) (Or.inl ⟨by rfl, ?_⟩) (by assumption) ?_
  rotate_left
  · intro w hSw
    (try dsimp only at hSw)
    go_simp
    with_reducible rfl
  try simp only [List.getElem_toArray, List.getElem_cons_succ, List.getElem_cons_zero, Act.put, List.setIfInBounds_toArray, List.set_cons_zero, List.set_cons_succ]
  refine wpAnyH_ready (rs := [3]) (by kernel_rfl) (by simp) ?_
  refine AllReadyH.cons rfl (fun K hK => ?_) AllReadyH.nil
  go_simp
  (go_at_call 14; (with_reducible refine (HSY2 _).mono ?_); rintro e w8 ⟨rfl, hbw8⟩; have hBw8 : Below w7.heap.size w7 w8 := below_step hbw8 (by first | assumption | (exact Below.drew (Below.refl _ _)) | (exact Below.drew (by assumption))); skip; clear hbw8)
  refine hK.out _ _ ?_ (fun hHeld => ?_)
  · assumption
  clear hK K
  try simp only [List.getElem_toArray, List.getElem_cons_succ, List.getElem_cons_zero, Act.put, List.setIfInBounds_toArray, List.set_cons_zero, List.set_cons_succ]
  refine wpAnyH_ready (rs := [5]) (by kernel_rfl) (by simp) ?_
  refine AllReadyH.cons rfl (fun K hK => ?_) AllReadyH.nil
  go_simp
  (go_at_call 11; (with_reducible refine (same_at A A len len len xs (len : Int) _ (Lib.hid (AtB.below HX7.out (by first | assumption | (exact Below.drew (Below.refl _ _)) | (exact Below.drew (by assumption))) (Nat.le_refl _))) (Lib.hid (AtB.below HX7.out (by first | assumption | (exact Below.drew (Below.refl _ _)) | (exact Below.drew (by assumption))) (Nat.le_refl _)))).mono ?_); rintro e w9 ⟨rfl, hbw9⟩; have hBw9 : Below w7.heap.size w7 w9 := below_step hbw9 (by first | assumption | (exact Below.drew (Below.refl _ _)) | (exact Below.drew (by assumption))); skip; clear hbw9)
  refine hK.out _ _ ?_ (fun hHeld => ?_)
  · assumption
  clear hK K
  try simp only [List.getElem_toArray, List.getElem_cons_succ, List.getElem_cons_zero, Act.put, List.setIfInBounds_toArray, List.set_cons_zero, List.set_cons_succ]
  refine wpAnyH_take (i := 6) (oi := _) (v := ?_) rfl (by kernel_rfl) (by kernel_rfl) (by kernel_rfl) (fun _ _ _ h => h) (Or.inl ⟨by rfl, ?_⟩) (by assumption) ?_
  rotate_left
  · intro w hSw
    (try dsimp only at hSw)
    go_simp
    with_reducible rfl
  try simp only [List.getElem_toArray, List.getElem_cons_succ, List.getElem_cons_zero, Act.put, List.setIfInBounds_toArray, List.set_cons_zero, List.set_cons_succ]
  refine wpAnyH_take (i := 7) (oi := _) (v := ?_) rfl (by kernel_rfl) (by kernel_rfl) (by kernel_rfl) (fun _ _ _ h => h) (Or.inl ⟨by rfl, ?_⟩) (by assumption) ?_
  rotate_left
  · intro w hSw
    (try dsimp only at hSw)
    go_simp
    with_reducible rfl
  try simp only [List.getElem_toArray, List.getElem_cons_succ, List.getElem_cons_zero, Act.put, List.setIfInBounds_toArray, List.set_cons_zero, List.set_cons_succ]
  refine wpAnyH_take (i := 8) (oi := _) (v := ?_) rfl (by kernel_rfl) (by kernel_rfl) (by kernel_rfl) (fun _ _ _ h => h) (Or.inl ⟨by rfl, ?_⟩) (by assumption) ?_
  rotate_left
  · intro w hSw
    (try dsimp only at hSw)
    go_simp
    with_reducible rfl
  try simp only [List.getElem_toArray, List.getElem_cons_succ, List.getElem_cons_zero, Act.put, List.setIfInBounds_toArray, List.set_cons_zero, List.set_cons_succ]
  refine wpAnyH_take (i := 9) (oi := _) (v := ?_) rfl (by kernel_rfl) (by kernel_rfl) (by kernel_rfl) (fun _ _ _ h => h) (Or.inl ⟨by rfl, ?_⟩) (by assumption) ?_
  rotate_left
  · intro w hSw
    (try dsimp only at hSw)
    go_simp
    with_reducible rfl
  try simp only [List.getElem_toArray, List.getElem_cons_succ, List.getElem_cons_zero, Act.put, List.setIfInBounds_toArray, List.set_cons_zero, List.set_cons_succ]
  refine wpAnyH_take (i := 11) (oi := _) (v := ?_) rfl (by kernel_rfl) (by kernel_rfl) (by kernel_rfl) (fun _ _ _ h => h) (Or.inl ⟨by rfl, ?_⟩) (by assumption) ?_
  rotate_left
  · intro w hSw
    (try dsimp only at hSw)
    go_simp
    with_reducible rfl
  try simp only [List.getElem_toArray, List.getElem_cons_succ, List.getElem_cons_zero, Act.put, List.setIfInBounds_toArray, List.set_cons_zero, List.set_cons_succ]
  refine wpAnyH_ready (rs := [10]) (by kernel_rfl) (by simp) ?_
  refine AllReadyH.cons rfl (fun K hK => ?_) AllReadyH.nil
  go_simp
  (go_at_call 16; (with_reducible refine (HCTC _).mono ?_); rintro e w12 ⟨rfl, hbw12⟩; have hBw12 : Below w7.heap.size w7 w12 := below_step hbw12 (by first | assumption | (exact Below.drew (Below.refl _ _)) | (exact Below.drew (by assumption))); skip; clear hbw12)
  refine hK.out _ _ ?_ (fun hHeld => ?_)
  · assumption
  clear hK K
  try simp only [List.getElem_toArray, List.getElem_cons_succ, List.getElem_cons_zero, Act.put, List.setIfInBounds_toArray, List.set_cons_zero, List.set_cons_succ]
  refine wpAnyH_ready (rs := [12]) (by kernel_rfl) (by simp) ?_
  refine AllReadyH.cons rfl (fun K hK => ?_) AllReadyH.nil
  go_simp
  (go_at_call 11; (with_reducible refine (same_at A A k k k zs (k : Int) _ (Lib.hid (AtB.below HZ7.out (by first | assumption | (exact Below.drew (Below.refl _ _)) | (exact Below.drew (by assumption))) (Nat.le_refl _))) (Lib.hid (AtB.below HZ7.out (by first | assumption | (exact Below.drew (Below.refl _ _)) | (exact Below.drew (by assumption))) (Nat.le_refl _)))).mono ?_); rintro e w10 ⟨rfl, hbw10⟩; have hBw10 : Below w7.heap.size w7 w10 := below_step hbw10 (by first | assumption | (exact Below.drew (Below.refl _ _)) | (exact Below.drew (by assumption))); skip; clear hbw10)
  refine hK.out _ _ ?_ (fun hHeld => ?_)
  · assumption
  clear hK K
  try simp only [List.getElem_toArray, List.getElem_cons_succ, List.getElem_cons_zero, Act.put, List.setIfInBounds_toArray, List.set_cons_zero, List.set_cons_succ]
  refine wpAnyH_take (i := 13) (oi := _) (v := ?_) rfl (by kernel_rfl) (by kernel_rfl) (by kernel_rfl) (fun _ _ _ h => h) (Or.inl ⟨by rfl, ?_⟩) (by assumption) ?_
  rotate_left
  · intro w hSw
    (try dsimp only at hSw)
    go_simp
    with_reducible rfl
  try simp only [List.getElem_toArray, List.getElem_cons_succ, List.getElem_cons_zero, Act.put, List.setIfInBounds_toArray, List.set_cons_zero, List.set_cons_succ]
  refine wpAnyH_take (i := 14) (oi := _) (v := ?_) rfl (by kernel_rfl) (by kernel_rfl) (by kernel_rfl) (fun _ _ _ h => h) (Or.inl ⟨by rfl, ?_⟩) (by assumption) ?_
  rotate_left
  · intro w hSw
    (try dsimp only at hSw)
    go_simp
    with_reducible rfl
  try simp only [List.getElem_toArray, List.getElem_cons_succ, List.getElem_cons_zero, Act.put, List.setIfInBounds_toArray, List.set_cons_zero, List.set_cons_succ]
  refine wpAnyH_take (i := 15) (oi := _) (v := ?_) rfl (by kernel_rfl) (by kernel_rfl) (by kernel_rfl) (fun _ _ _ h => h) (Or.inl ⟨by rfl, ?_⟩) (by assumption) ?_
  rotate_left
  · intro w hSw
    (try dsimp only at hSw)
    go_simp
    with_reducible rfl
  try simp only [List.getElem_toArray, List.getElem_cons_succ, List.getElem_cons_zero, Act.put, List.setIfInBounds_toArray, List.set_cons_zero, List.set_cons_succ]
  refine wpAnyH_take (i := 16) (oi := _) (v := ?_) rfl (by kernel_rfl) (by kernel_rfl) (by kernel_rfl) (fun _ _ _ h => h) (Or.inl ⟨by rfl, ?_⟩) (by assumption) ?_
  rotate_left
  · intro w hSw
    (try dsimp only at hSw)
    go_simp
    with_reducible rfl
  try simp only [List.getElem_toArray, List.getElem_cons_succ, List.getElem_cons_zero, Act.put, List.setIfInBounds_toArray, List.set_cons_zero, List.set_cons_succ]
  refine wpAnyH_take (i := 18) (oi := _) (v := ?_) rfl (by kernel_rfl) (by kernel_rfl) (by kernel_rfl) (fun _ _ _ h => h) (Or.inl ⟨by rfl, ?_⟩) (by assumption) ?_
  rotate_left
  · intro w hSw
    (try dsimp only at hSw)
    go_simp
    with_reducible rfl
  try simp only [List.getElem_toArray, List.getElem_cons_succ, List.getElem_cons_zero, Act.put, List.setIfInBounds_toArray, List.set_cons_zero, List.set_cons_succ]
  refine wpAnyH_ready (rs := [17]) (by kernel_rfl) (by simp) ?_
  refine AllReadyH.cons rfl (fun K hK => ?_) AllReadyH.nil
  go_simp
  (go_at_call 16; (with_reducible refine (HCTY _).mono ?_); rintro e w11 ⟨rfl, hbw11⟩; have hBw11 : Below w7.heap.size w7 w11 := below_step hbw11 (by first | assumption | (exact Below.drew (Below.refl _ _)) | (exact Below.drew (by assumption))); skip; clear hbw11)
  refine hK.out _ _ ?_ (fun hHeld => ?_)
  · assumption
  clear hK K
  try simp only [List.getElem_toArray, List.getElem_cons_succ, List.getElem_cons_zero, Act.put, List.setIfInBounds_toArray, List.set_cons_zero, List.set_cons_succ]
  refine wpAnyH_ready (rs := [19]) (by kernel_rfl) (by simp) ?_
  refine AllReadyH.cons rfl (fun K hK => ?_) AllReadyH.nil
  go_simp
  (go_at_call 11; (with_reducible refine (same_at A A len len len xs (len : Int) _ (Lib.hid (AtB.below HX7.out (by first | assumption | (exact Below.drew (Below.refl _ _)) | (exact Below.drew (by assumption))) (Nat.le_refl _))) (Lib.hid (AtB.below HX7.out (by first | assumption | (exact Below.drew (Below.refl _ _)) | (exact Below.drew (by assumption))) (Nat.le_refl _)))).mono ?_); rintro e w14 ⟨rfl, hbw14⟩; have hBw14 : Below w7.heap.size w7 w14 := below_step hbw14 (by first | assumption | (exact Below.drew (Below.refl _ _)) | (exact Below.drew (by assumption))); skip; clear hbw14)
  refine hK.out _ _ ?_ (fun hHeld => ?_)
  · assumption
  clear hK K
  try simp only [List.getElem_toArray, List.getElem_cons_succ, List.getElem_cons_zero, Act.put, List.setIfInBounds_toArray, List.set_cons_zero, List.set_cons_succ]
  refine wpAnyH_take (i := 20) (oi := _) (v := ?_) rfl (by kernel_rfl) (by kernel_rfl) (by kernel_rfl) (fun _ _ _ h => h) (Or.inl ⟨by rfl, ?_⟩) (by assumption) ?_
  rotate_left
  · intro w hSw
    (try dsimp only at hSw)
    go_simp
    with_reducible rfl
  try simp only [List.getElem_toArray, List.getElem_cons_succ, List.getElem_cons_zero, Act.put, List.setIfInBounds_toArray, List.set_cons_zero, List.set_cons_succ]
  refine wpAnyH_take (i := 21) (oi := _) (v := ?_) rfl (by kernel_rfl) (by kernel_rfl) (by kernel_rfl) (fun _ _ _ h => h) (Or.inl ⟨by rfl, ?_⟩) (by assumption) ?_
  rotate_left
  · intro w hSw
    (try dsimp only at hSw)
    go_simp
    with_reducible rfl
  try simp only [List.getElem_toArray, List.getElem_cons_succ, List.getElem_cons_zero, Act.put, List.setIfInBounds_toArray, List.set_cons_zero, List.set_cons_succ]
  refine wpAnyH_take (i := 22) (oi := _) (v := ?_) rfl (by kernel_rfl) (by kernel_rfl) (by kernel_rfl) (fun _ _ _ h => h) (Or.inl ⟨by rfl, ?_⟩) (by assumption) ?_
  rotate_left
  · intro w hSw
    (try dsimp only at hSw)
    go_simp
    with_reducible rfl
  try simp only [List.getElem_toArray, List.getElem_cons_succ, List.getElem_cons_zero, Act.put, List.setIfInBounds_toArray, List.set_cons_zero, List.set_cons_succ]
  refine wpAnyH_take (i := 23) (oi := _) (v := ?_) rfl (by kernel_rfl) (by kernel_rfl) (by kernel_rfl) (fun _ _ _ h => h) (Or.inl ⟨by rfl, ?_⟩) (by assumption) ?_
  rotate_left
  · intro w hSw
    (try dsimp only at hSw)
    go_simp
    with_reducible rfl
  try simp only [List.getElem_toArray, List.getElem_cons_succ, List.getElem_cons_zero, Act.put, List.setIfInBounds_toArray, List.set_cons_zero, List.set_cons_succ]
  refine wpAnyH_take (i := 24) (oi := _) (v := ?_) rfl (by kernel_rfl) (by kernel_rfl) (by kernel_rfl) (fun _ _ _ h => h) (Or.inl ⟨by rfl, ?_⟩) (by assumption) ?_
  rotate_left
  · intro w hSw
    (try dsimp only at hSw)
    go_simp
    with_reducible rfl
  try simp only [List.getElem_toArray, List.getElem_cons_succ, List.getElem_cons_zero, Act.put, List.setIfInBounds_toArray, List.set_cons_zero, List.set_cons_succ]
  refine wpAnyH_take (i := 25) (oi := _) (v := ?_) rfl (by kernel_rfl) (by kernel_rfl) (by kernel_rfl) (fun _ _ _ h => h) (Or.inl ⟨by rfl, ?_⟩) (by assumption) ?_
  rotate_left
  · intro w hSw
    (try dsimp only at hSw)
    go_simp
    with_reducible rfl
  try simp only [List.getElem_toArray, List.getElem_cons_succ, List.getElem_cons_zero, Act.put, List.setIfInBounds_toArray, List.set_cons_zero, List.set_cons_succ]
  refine wpAnyH_take (i := 26) (oi := _) (v := undef) rfl (by kernel_rfl) (by kernel_rfl) (by kernel_rfl) (fun _ _ _ h => h) (Or.inr ⟨by rfl, rfl⟩) (by assumption) ?_
  try simp only [List.getElem_toArray, List.getElem_cons_succ, List.getElem_cons_zero, Act.put, List.setIfInBounds_toArray, List.set_cons_zero, List.set_cons_succ]
  refine wpAnyH_take (i := 27) (oi := _) (v := undef) rfl (by kernel_rfl) (by kernel_rfl) (by kernel_rfl) (fun _ _ _ h => h) (Or.inr ⟨by rfl, rfl⟩) (by assumption) ?_
  try simp only [List.getElem_toArray, List.getElem_cons_succ, List.getElem_cons_zero, Act.put, List.setIfInBounds_toArray, List.set_cons_zero, List.set_cons_succ]
  refine wpAnyH_take (i := 31) (oi := _) (v := undef) rfl (by kernel_rfl) (by kernel_rfl) (by kernel_rfl) (fun _ _ _ h => h) (Or.inr ⟨by rfl, rfl⟩) (by assumption) ?_
  try simp only [List.getElem_toArray, List.getElem_cons_succ, List.getElem_cons_zero, Act.put, List.setIfInBounds_toArray, List.set_cons_zero, List.set_cons_succ]
  refine wpAnyH_take (i := 32) (oi := _) (v := undef) rfl (by kernel_rfl) (by kernel_rfl) (by kernel_rfl) (fun _ _ _ h => h) (Or.inr ⟨by rfl, rfl⟩) (by assumption) ?_
  try simp only [List.getElem_toArray, List.getElem_cons_succ, List.getElem_cons_zero, Act.put, List.setIfInBounds_toArray, List.set_cons_zero, List.set_cons_succ]
  refine wpAnyH_take (i := 33) (oi := _) (v := undef) rfl (by kernel_rfl) (by kernel_rfl) (by kernel_rfl) (fun _ _ _ h => h) (Or.inr ⟨by rfl, rfl⟩) (by assumption) ?_
  try simp only [List.getElem_toArray, List.getElem_cons_succ, List.getElem_cons_zero, Act.put, List.setIfInBounds_toArray, List.set_cons_zero, List.set_cons_succ]
  refine wpAnyH_take (i := 28) (oi := _) (v := undef) rfl (by kernel_rfl) (by kernel_rfl) (by kernel_rfl) (fun _ _ _ h => h) (Or.inr ⟨by rfl, rfl⟩) (by assumption) ?_
  try simp only [List.getElem_toArray, List.getElem_cons_succ, List.getElem_cons_zero, Act.put, List.setIfInBounds_toArray, List.set_cons_zero, List.set_cons_succ]
  refine wpAnyH_take (i := 29) (oi := _) (v := undef) rfl (by kernel_rfl) (by kernel_rfl) (by kernel_rfl) (fun _ _ _ h => h) (Or.inr ⟨by rfl, rfl⟩) (by assumption) ?_
  try simp only [List.getElem_toArray, List.getElem_cons_succ, List.getElem_cons_zero, Act.put, List.setIfInBounds_toArray, List.set_cons_zero, List.set_cons_succ]
  refine wpAnyH_take (i := 30) (oi := _) (v := undef) rfl (by kernel_rfl) (by kernel_rfl) (by kernel_rfl) (fun _ _ _ h => h) (Or.inr ⟨by rfl, rfl⟩) (by assumption) ?_
  try simp only [List.getElem_toArray, List.getElem_cons_succ, List.getElem_cons_zero, Act.put, List.setIfInBounds_toArray, List.set_cons_zero, List.set_cons_succ]
  refine wpAnyH_take (i := 34) (oi := _) (v := undef) rfl (by kernel_rfl) (by kernel_rfl) (by kernel_rfl) (fun _ _ _ h => h) (Or.inr ⟨by rfl, rfl⟩) (by assumption) ?_
  try simp only [List.getElem_toArray, List.getElem_cons_succ, List.getElem_cons_zero, Act.put, List.setIfInBounds_toArray, List.set_cons_zero, List.set_cons_succ]
  refine wpAnyH_take (i := 35) (oi := _) (v := ?_) rfl (by kernel_rfl) (by kernel_rfl) (by kernel_rfl) (fun _ _ _ h => h) (Or.inl ⟨by rfl, ?_⟩) (by assumption) ?_
  rotate_left
  · intro w hSw
    (try dsimp only at hSw)
    go_simp
    with_reducible rfl
  try simp only [List.getElem_toArray, List.getElem_cons_succ, List.getElem_cons_zero, Act.put, List.setIfInBounds_toArray, List.set_cons_zero, List.set_cons_succ]
  refine wpAnyH_take (i := 36) (oi := _) (v := ?_) rfl (by kernel_rfl) (by kernel_rfl) (by kernel_rfl) (fun _ _ _ h => h) (Or.inl ⟨by rfl, ?_⟩) (by assumption) ?_
  rotate_left
  · intro w hSw
    (try dsimp only at hSw)
    go_simp
    with_reducible rfl
  try simp only [List.getElem_toArray, List.getElem_cons_succ, List.getElem_cons_zero, Act.put, List.setIfInBounds_toArray, List.set_cons_zero, List.set_cons_succ]
  refine wpAnyH_take (i := 37) (oi := _) (v := ?_) rfl (by kernel_rfl) (by kernel_rfl) (by kernel_rfl) (fun _ _ _ h => h) (Or.inl ⟨by rfl, ?_⟩) (by assumption) ?_
  rotate_left
  · intro w hSw
    (try dsimp only at hSw)
    go_simp
    with_reducible rfl
  try simp only [List.getElem_toArray, List.getElem_cons_succ, List.getElem_cons_zero, Act.put, List.setIfInBounds_toArray, List.set_cons_zero, List.set_cons_succ]
  refine wpAnyH_done (by kernel_rfl) ?_ _
  refine NoPanic.normal ?_
  all_goals
    go_wp2_with fail
    go_ret
    exact ⟨rfl, HB7.out.trans (Below.mono (by assumption) HB7.out.size)⟩

set_option maxRecDepth 100000 in
set_option maxHeartbeats 8000000 in
theorem walkUnder (A : Option Addr) (len cap : Nat) (xs : List Nat) (hl : len ≤ cap) (l1 : len ≤ 300) (q : Nat) (hq : q ≤ len) (a b : Int) (hab : b ≤ a) (w : World) (hA : Hid (AtB w A len xs)) :
    Calls Try.prog 6 #[.agg #[.slice A len cap, .int .i64 (q : Int)], .int .i64 a, .int .i64 b] w fun e w' => e = .returned (.bool true) ∧ Below w.heap.size w w' := by
  have d1 : decide ((300 : Int) < (len : Int)) = false := by rw [decide_eq_false_iff_not]; omega
  have d2 : decide (a < b) = false := by rw [decide_eq_false_iff_not]; omega
  have HRR := fun w => refRight_any A len cap (q : Int) w
  rw [rightB_nat hq] at HRR
  have HSY := fun w => sync_at A len cap hl (q : Int) w
  have HSY2 := fun w => sync_at A len len (Nat.le_refl _) (len : Int) w
  have HCT := fun w => cut_at A len cap hl (by omega) q hq a w
  have HCTY := fun w => cut_at A len len (Nat.le_refl _) (by omega) len (Nat.le_refl _) b w
  rw [cutN_all] at HCTY
  have hk := cutN_le hq a
  have HCTC := fun w => cut_at A (cutN q len a) (cutN q len a) (Nat.le_refl _) (by omega) (cutN q len a) (Nat.le_refl _) b w
  rw [cutN_all] at HCTC
  have HCTB := fun w => cut_at A len cap hl (by omega) q hq b w
  have hjk := cutN_mono q len hab
  generalize cutN q len b = j at *
  have kF : ∀ W, (Instr.field 24 (.agg #[.slice A j j, .int .i64 (j : Int)]) 0).run Try.prog W = .ok (.slice A j j) W := fun W => by kernel_rfl
  generalize cutN q len a = k at *
  have d3 : decide (j ≤ k) = true := decide_eq_true hjk
  clear hjk
  clear hab
  go_enter Try.func6, Try.ntmps6
  go_wp2_with fail
  refine (shown_below _).mono ?_
  rintro e w1 ⟨rfl, hb⟩
  have HB1 := Lib.hid (below_box hb)
  have V1 := Lib.hid ((VarAt.made w #[.slice A len cap, .int .i64 (q : Int)] 24).below hb)
  have HX1 := Lib.hid (AtB.later hA (below_box hb))
  clear hb hA
  obtain ⟨hz1, hc0, hc1, hf0, hf1⟩ := V1.out.two
  go_wp2_with (go_at_call 9; (with_reducible refine (HRR _).mono ?_); rintro e w2 ⟨rfl, hb⟩; have HB2 := Lib.hid (HB1.out.trans (hb.mono HB1.out.size)); have HX2 := Lib.hid (AtB.later HX1 hb); have V2 := Lib.hid (V1.out.below hb); clear hb; clear hz1 hc0 hc1 hf0 hf1 HB1 HX1 V1; obtain ⟨hz1, hc0, hc1, hf0, hf1⟩ := V2.out.two)
  (with_reducible refine (HSY _).mono ?_)
  rintro e w3 ⟨rfl, hb⟩
  have hba : Below w2.heap.size w2 (w3.alloc (.cells #[.slice A len len, .int .i64 (len : Int)] 24)) := hb.alloc hb.size _
  have HB3 := Lib.hid (HB2.out.trans (hba.mono HB2.out.size))
  have HX3 := Lib.hid (AtB.later HX2 hba)
  have V3 := Lib.hid (V2.out.below hba)
  have Y3 := Lib.hid (VarAt.made w3 #[.slice A len len, .int .i64 (len : Int)] 24)
  clear hb hba HB2 HX2 V2 hz1 hc0 hc1 hf0 hf1
  obtain ⟨hz1, hc0, hc1, hf0, hf1⟩ := V3.out.two
  go_wp2_with fail
  (with_reducible refine (HCT _).mono ?_)
  rintro e w5 ⟨rfl, hb⟩
  obtain ⟨w7, hw7⟩ : ∃ w7, w5.alloc (.cells #[.slice A k k, .int .i64 (k : Int)] 24) = w7 := ⟨_, rfl⟩
  have hba : Below (w3.alloc (.cells #[.slice A len len, .int .i64 (len : Int)] 24)).heap.size (w3.alloc (.cells #[.slice A len len, .int .i64 (len : Int)] 24)) w7 := by rw [← hw7]; exact hb.alloc hb.size _
  have HB7 := Lib.hid (HB3.out.trans (hba.mono HB3.out.size))
  have HX7 := Lib.hid (AtB.later HX3 hba)
  have V7 := Lib.hid (V3.out.below hba)
  have Y7 := Lib.hid (Y3.out.below hba)
  have C7 : Hid (VarAt w7 w5.heap.size [.slice A k k, .int .i64 (k : Int)]) := Lib.hid (by rw [← hw7]; exact VarAt.made w5 #[.slice A k k, .int .i64 (k : Int)] 24)
  have HZ7 := Lib.hid (HX7.out.ahead k hk)
  clear hb hba HB3 HX3 V3 Y3 hz1 hc0 hc1 hf0 hf1 hk
  generalize xs.take k = zs at *
  have hS0 : ∀ w', Below w7.heap.size w7 w' → w'.cell? ⟨w.heap.size, 0, none⟩ = some (.slice A len cap) := fun w' hb => (V7.out.below hb).two.2.1
  have hS1 : ∀ w', Below w7.heap.size w7 w' → w'.cell? ⟨w.heap.size, 1, none⟩ = some (.int .i64 (q : Int)) := fun w' hb => (V7.out.below hb).two.2.2.1
  have hY0 : ∀ w', Below w7.heap.size w7 w' → w'.cell? ⟨w3.heap.size, 0, none⟩ = some (.slice A len len) := fun w' hb => (Y7.out.below hb).two.2.1
  have hY1 : ∀ w', Below w7.heap.size w7 w' → w'.cell? ⟨w3.heap.size, 1, none⟩ = some (.int .i64 (len : Int)) := fun w' hb => (Y7.out.below hb).two.2.2.1
  have hC0 : ∀ w', Below w7.heap.size w7 w' → w'.cell? ⟨w5.heap.size, 0, none⟩ = some (.slice A k k) := fun w' hb => (C7.out.below hb).two.2.1
  have hC1 : ∀ w', Below w7.heap.size w7 w' → w'.cell? ⟨w5.heap.size, 1, none⟩ = some (.int .i64 (k : Int)) := fun w' hb => (C7.out.below hb).two.2.2.1
  have hB0 : Below w7.heap.size w7 w7 := Below.refl _ _
  go_wp2_with fail
  try rw [hw7]
  clear hw7
  first | (go_region_held3 (fun w' => Below w7.heap.size w7 w') (first | assumption | (exact Below.drew (by assumption)) | (exact Below.drew (Below.refl _ _)))
    (first
      | (go_at_call 14; (with_reducible refine (HSY2 _).mono ?_); rintro e w8 ⟨rfl, hbw8⟩; have hBw8 : Below w7.heap.size w7 w8 := below_step hbw8 (by first | assumption | (exact Below.drew (Below.refl _ _)) | (exact Below.drew (by assumption))); skip; clear hbw8)
      | (go_at_call 11; (with_reducible refine (same_at A A len len len xs (len : Int) _ (Lib.hid (AtB.below HX7.out (by first | assumption | (exact Below.drew (Below.refl _ _)) | (exact Below.drew (by assumption))) (Nat.le_refl _))) (Lib.hid (AtB.below HX7.out (by first | assumption | (exact Below.drew (Below.refl _ _)) | (exact Below.drew (by assumption))) (Nat.le_refl _)))).mono ?_); rintro e w9 ⟨rfl, hbw9⟩; have hBw9 : Below w7.heap.size w7 w9 := below_step hbw9 (by first | assumption | (exact Below.drew (Below.refl _ _)) | (exact Below.drew (by assumption))); skip; clear hbw9)
      | (go_at_call 11; (with_reducible refine (same_at A A k k k zs (k : Int) _ (Lib.hid (AtB.below HZ7.out (by first | assumption | (exact Below.drew (Below.refl _ _)) | (exact Below.drew (by assumption))) (Nat.le_refl _))) (Lib.hid (AtB.below HZ7.out (by first | assumption | (exact Below.drew (Below.refl _ _)) | (exact Below.drew (by assumption))) (Nat.le_refl _)))).mono ?_); rintro e w10 ⟨rfl, hbw10⟩; have hBw10 : Below w7.heap.size w7 w10 := below_step hbw10 (by first | assumption | (exact Below.drew (Below.refl _ _)) | (exact Below.drew (by assumption))); skip; clear hbw10)
      | (go_at_call 16; (with_reducible refine (HCTY _).mono ?_); rintro e w11 ⟨rfl, hbw11⟩; have hBw11 : Below w7.heap.size w7 w11 := below_step hbw11 (by first | assumption | (exact Below.drew (Below.refl _ _)) | (exact Below.drew (by assumption))); skip; clear hbw11)
      | (go_at_call 16; (with_reducible refine (HCTC _).mono ?_); rintro e w12 ⟨rfl, hbw12⟩; have hBw12 : Below w7.heap.size w7 w12 := below_step hbw12 (by first | assumption | (exact Below.drew (Below.refl _ _)) | (exact Below.drew (by assumption))); skip; clear hbw12)
      | (go_at_call 16; (with_reducible refine (HCTB _).mono ?_); rintro e w13 ⟨rfl, hbw13⟩; have hBw13 : Below w7.heap.size w7 w13 := below_step hbw13 (by first | assumption | (exact Below.drew (Below.refl _ _)) | (exact Below.drew (by assumption))); skip; clear hbw13))) | fail
  all_goals
    go_wp2_with fail
    go_ret
    exact ⟨rfl, HB7.out.trans (Below.mono (by assumption) HB7.out.size)⟩

set_option maxRecDepth 100000 in
theorem lifted (os : Os) (started : os.Started) (H : Type) (enc : TypeId × Value → H) :
    ReturnsInHanded {} Try.checked os 6 .any (Rows.streamTwiceSpec.pre6 enc Try.prog Try.f6 Rows.streamTwiceRow.domain false) (Rows.streamTwiceSpec.post enc Try.prog Try.f6 false true false false) := by
  refine law_lifted (C := Try.checked) own started (by kernel_rfl) Try.func6
    (ChangeSpec.witness6 (enc := enc) (C := Try.checked) false ⟨#[], #[.agg #[.slice none 0 0, .int .i64 0], .int .i64 0, .int .i64 0], []⟩ 8 (by kernel_rfl) (by kernel_rfl) (by kernel_rfl) (by kernel_rfl))
    (by kernel_rfl) (by kernel_rfl) Try.underlying4 rfl (by kernel_rfl) ?_
  intro W base args ds before hval hA _ hlt
  have hA' : DataW.TrodAll enc Try.prog W 0 (fun _ => true) true Try.f6.params.toList args.toList ds before := hA
  have hval' : ∀ (j : Nat) t v, Try.f6.params[j]? = some t → args[j]? = some v → Value.okWide Try.prog W .any base t v := hval
  rw [Try.params6] at hA' hval'
  obtain ⟨v0, vs0, d0, ds0, p0, q0, hargs, rfl, rfl, h0, r0⟩ := trodAll_cons hA'
  obtain ⟨v1, vs1, d1, ds1, p1, q1, rfl, rfl, rfl, h1, r1⟩ := trodAll_cons r0
  obtain ⟨v2, vs2, d2, ds2, p2, q2, rfl, rfl, rfl, h2, r2⟩ := trodAll_cons r1
  obtain ⟨rfl, rfl, rfl⟩ := trodAll_nil r2
  obtain rfl : args = #[v0, v1, v2] := by cases args; simp_all
  obtain ⟨As, lens, caps, s, Ss, rfl, hcs, hats, hbs⟩ := open_stm (hval' 0 24 v0 rfl rfl) h0 (fun x hx => hlt x (by simp [hx]))
  obtain ⟨a, rfl, _, rfl, w1⟩ := open_int Try.underlying3 (hval' 1 3 v1 rfl rfl) h1
  have b1 := wf_i64 w1
  obtain ⟨b, rfl, _, rfl, w2⟩ := open_int Try.underlying3 (hval' 2 3 v2 rfl rfl) h2
  have b2 := wf_i64 w2
  refine ⟨rfl, ?_⟩
  by_cases h : 300 < lens
  · exact walkLong As lens caps Ss a b h W
  · by_cases hr : rightB Ss lens = true
    · obtain ⟨q, rfl, hq⟩ := rightB_iff hr
      by_cases hab : a < b
      · exact walkOver As lens caps s hcs (by omega) q hq a b hab W (Lib.hid hats)
      · exact walkUnder As lens caps s hcs (by omega) q hq a b (by omega) W (Lib.hid hats)
    · exact walkWrong As lens caps Ss a b (by omega) (by simpa using hr) W

theorem over : Rows.streamTwiceRow.holds Try.pinned (OpenSpec.ofChange Rows.streamTwiceSpec) :=
  OpenClaim.holds_of_wide 6 Try.f6 rfl rfl rfl rfl rfl rfl rfl ⟨rfl, rfl, rfl, rfl, rfl⟩ rfl rfl rfl rfl rfl (by kernel_rfl) Try.func6 (by kernel_rfl)
    (of_decide_eq_true (by kernel_rfl)) (by unfold Func.isWrapper; first | (rw [if_pos (by decide +kernel)]; kernel_rfl) | (rw [if_neg (by decide +kernel)]; exact ⟨rfl, rfl⟩))
    (fun os started H enc _ => lifted os started H enc)

/-- The statement. -/
theorem proved : Rows.StreamTwiceSaid :=
  over
#print axioms proved
end Go.Proofs.Ytocnndpfpplleaa.streamTwice
