/- EntB -/
import Derived.Test.YtibpfkcackdbgaaGreatDoorEntA
namespace Go.Proofs.YtibpfkcackdbgaaGreatDoor
open Go.ChangeShapes Go.WideShapes Go.ChangeAt Go.RowKit
set_option linter.unusedVariables false
set_option maxRecDepth 100000
set_option maxHeartbeats 1000000 in
theorem refMay_birth (s y u v x : Nat) (hy : y < 18446744073709551616) (w : World) :
  Calls Tryz.prog 82 #[.agg #[.int .i64 1, .int .u64 (s : Int), .int .u64 (y : Int), .int .u64 (u : Int), .int .u64 (v : Int), .int .u64 (x : Int)]] w (Kept w (.bool (Ent.mk 1 s y u v x).mayB)) := by
 have E0 := Ent.mayB_birth s y u v x
 have HS := fun w => eRefStamp_any s w
 have HR := fun w => kRefRight_any y hy w
 have HU := fun w => eRefStamp_any u w
 have HV := fun w => eRefStamp_any v w
 by_cases h0 : y % 2147483648 = 0
 ·have d0 : ((y : Int) % 2147483648 == 0) = true := by rw [beq_iff_eq]; omega
  rw [ends_vertex h0] at E0
  have E := Lib.hid E0
  have e1 := nat_eq0 u
  have e2 := nat_eq0 v
  clear E0 h0 HU HV
  generalize decide (u = 0) = b3 at *
  generalize decide (v = 0) = b4 at *
  generalize stampB s = b1 at *
  generalize eRightB y = b2 at *
  cases b1 <;> cases b2 <;> cases b3 <;> cases b4
  all_goals
   go_enter Tryz.func82, Tryz.ntmps82
   go_wp2_with (first
   | (go_at_call 132; (with_reducible refine (HR _).mono ?_); rintro e w' ⟨rfl, rfl⟩)
   | (go_at_call 133; (with_reducible refine (HS _).mono ?_); rintro e w' ⟨rfl, rfl⟩)
   | (go_at_call 133; (with_reducible refine (HU _).mono ?_); rintro e w' ⟨rfl, rfl⟩)
   | (go_at_call 133; (with_reducible refine (HV _).mono ?_); rintro e w' ⟨rfl, rfl⟩))
   go_ret
   exact ⟨ret_bool E.out.symm, (Below.refl _ _).alloc (Nat.le_refl _) _⟩
 ·have d0 : ((y : Int) % 2147483648 == 0) = false := by rw [beq_eq_false_iff_ne]; omega
  rw [ends_edge h0] at E0
  have E := Lib.hid E0
  clear E0 h0
  generalize stampB u = b3 at *
  generalize stampB v = b4 at *
  generalize stampB s = b1 at *
  generalize eRightB y = b2 at *
  cases b1 <;> cases b2 <;> cases b3 <;> cases b4
  all_goals
   go_enter Tryz.func82, Tryz.ntmps82
   go_wp2_with (first
   | (go_at_call 132; (with_reducible refine (HR _).mono ?_); rintro e w' ⟨rfl, rfl⟩)
   | (go_at_call 133; (with_reducible refine (HS _).mono ?_); rintro e w' ⟨rfl, rfl⟩)
   | (go_at_call 133; (with_reducible refine (HU _).mono ?_); rintro e w' ⟨rfl, rfl⟩)
   | (go_at_call 133; (with_reducible refine (HV _).mono ?_); rintro e w' ⟨rfl, rfl⟩))
   go_ret
   exact ⟨ret_bool E.out.symm, (Below.refl _ _).alloc (Nat.le_refl _) _⟩
set_option maxHeartbeats 1000000 in
theorem refMay_more (k : Int) (s y u v x : Nat) (hk : k ≠ 1) (h : ¬ (y = 0 ∧ u = 0 ∧ v = 0 ∧ x = 0)) (w : World) :
  Calls Tryz.prog 82 #[.agg #[.int .i64 k, .int .u64 (s : Int), .int .u64 (y : Int), .int .u64 (u : Int), .int .u64 (v : Int), .int .u64 (x : Int)]] w (Kept w (.bool (Ent.mk k s y u v x).mayB)) := by
 have E := Lib.hid (Ent.mayB_more k s y u v x hk h)
 have d1 : (k == 1) = false := by rw [beq_eq_false_iff_ne]; exact hk
 clear hk
 by_cases zy : y = 0
 ·have fy : ((y : Int) != 0) = false := nat_ne0 zy
  by_cases zu : u = 0
  ·have fu : ((u : Int) != 0) = false := nat_ne0 zu
   by_cases zv : v = 0
   ·have fv : ((v : Int) != 0) = false := nat_ne0 zv
    have fx : ((x : Int) != 0) = true := by rw [bne_iff_ne]; intro hx; exact h ⟨zy, zu, zv, by omega⟩
    clear zy zu zv h
    go_enter Tryz.func82, Tryz.ntmps82
    go_wp2_with fail
    go_ret
    exact ⟨ret_bool E.out.symm, (Below.refl _ _).alloc (Nat.le_refl _) _⟩
   ·have fv : ((v : Int) != 0) = true := by rw [bne_iff_ne]; omega
    clear zy zu zv h
    go_enter Tryz.func82, Tryz.ntmps82
    go_wp2_with fail
    go_ret
    exact ⟨ret_bool E.out.symm, (Below.refl _ _).alloc (Nat.le_refl _) _⟩
  ·have fu : ((u : Int) != 0) = true := by rw [bne_iff_ne]; omega
   clear zy zu h
   go_enter Tryz.func82, Tryz.ntmps82
   go_wp2_with fail
   go_ret
   exact ⟨ret_bool E.out.symm, (Below.refl _ _).alloc (Nat.le_refl _) _⟩
 ·have fy : ((y : Int) != 0) = true := by rw [bne_iff_ne]; omega
  clear zy h
  go_enter Tryz.func82, Tryz.ntmps82
  go_wp2_with fail
  go_ret
  exact ⟨ret_bool E.out.symm, (Below.refl _ _).alloc (Nat.le_refl _) _⟩
theorem refMay_death (s y u v x : Nat) (zy : y = 0) (zu : u = 0) (zv : v = 0) (zx : x = 0) (w : World) :
  Calls Tryz.prog 82 #[.agg #[.int .i64 2, .int .u64 (s : Int), .int .u64 (y : Int), .int .u64 (u : Int), .int .u64 (v : Int), .int .u64 (x : Int)]] w (Kept w (.bool (Ent.mk 2 s y u v x).mayB)) := by
 have E : Hid ((Ent.mk 2 s y u v x).mayB = stampB s) := Lib.hid (by rw [zy, zu, zv, zx]; exact Ent.mayB_death s)
 have HS := fun w => eRefStamp_any s w
 generalize stampB s = b1 at *
 have fy : ((y : Int) != 0) = false := nat_ne0 zy
 have fu : ((u : Int) != 0) = false := nat_ne0 zu
 have fv : ((v : Int) != 0) = false := nat_ne0 zv
 have fx : ((x : Int) != 0) = false := nat_ne0 zx
 clear zy zu zv zx
 cases b1
 all_goals
  go_enter Tryz.func82, Tryz.ntmps82
  go_wp2_with (go_at_call 133; (with_reducible refine (HS _).mono ?_); rintro e w' ⟨rfl, rfl⟩)
  go_ret
  exact ⟨ret_bool E.out.symm, (Below.refl _ _).alloc (Nat.le_refl _) _⟩
theorem refMay_head (s y u v x : Nat) (zy : y = 0) (zu : u = 0) (zv : v = 0) (zx : x = 0) (w : World) :
  Calls Tryz.prog 82 #[.agg #[.int .i64 3, .int .u64 (s : Int), .int .u64 (y : Int), .int .u64 (u : Int), .int .u64 (v : Int), .int .u64 (x : Int)]] w (Kept w (.bool (Ent.mk 3 s y u v x).mayB)) := by
 obtain ⟨b1, hb1⟩ : ∃ b, decide ((s : Int) ≤ 65536) = b := ⟨_, rfl⟩
 have E : Hid ((Ent.mk 3 s y u v x).mayB = b1) := Lib.hid (by rw [zy, zu, zv, zx, Ent.mayB_head s, ← hb1]; exact decide_eq_decide.2 (by omega))
 have fy : ((y : Int) != 0) = false := nat_ne0 zy
 have fu : ((u : Int) != 0) = false := nat_ne0 zu
 have fv : ((v : Int) != 0) = false := nat_ne0 zv
 have fx : ((x : Int) != 0) = false := nat_ne0 zx
 clear zy zu zv zx
 cases b1
 all_goals
  go_enter Tryz.func82, Tryz.ntmps82
  go_wp2_with fail
  go_ret
  exact ⟨ret_bool E.out.symm, (Below.refl _ _).alloc (Nat.le_refl _) _⟩
theorem refMay_else (k : Int) (s y u v x : Nat) (k1 : k ≠ 1) (k2 : k ≠ 2) (k3 : k ≠ 3) (zy : y = 0) (zu : u = 0) (zv : v = 0) (zx : x = 0) (w : World) :
  Calls Tryz.prog 82 #[.agg #[.int .i64 k, .int .u64 (s : Int), .int .u64 (y : Int), .int .u64 (u : Int), .int .u64 (v : Int), .int .u64 (x : Int)]] w (Kept w (.bool (Ent.mk k s y u v x).mayB)) := by
 have E := Lib.hid (Ent.mayB_else k s y u v x k1 k2 k3)
 have d1 : (k == 1) = false := by rw [beq_eq_false_iff_ne]; exact k1
 have d2 : (k == 2) = false := by rw [beq_eq_false_iff_ne]; exact k2
 have d3 : (k == 3) = false := by rw [beq_eq_false_iff_ne]; exact k3
 have fy : ((y : Int) != 0) = false := nat_ne0 zy
 have fu : ((u : Int) != 0) = false := nat_ne0 zu
 have fv : ((v : Int) != 0) = false := nat_ne0 zv
 have fx : ((x : Int) != 0) = false := nat_ne0 zx
 clear zy zu zv zx k1 k2 k3
 go_enter Tryz.func82, Tryz.ntmps82
 go_wp2_with fail
 go_ret
 exact ⟨ret_bool E.out.symm, (Below.refl _ _).alloc (Nat.le_refl _) _⟩
theorem refMay_any (k : Int) (s y u v x : Nat) (hy : y < 18446744073709551616) (w : World) :
  Calls Tryz.prog 82 #[.agg #[.int .i64 k, .int .u64 (s : Int), .int .u64 (y : Int), .int .u64 (u : Int), .int .u64 (v : Int), .int .u64 (x : Int)]] w (Kept w (.bool (Ent.mk k s y u v x).mayB)) := by
 by_cases k1 : k = 1
 ·subst k1; exact refMay_birth s y u v x hy w
 ·by_cases h : y = 0 ∧ u = 0 ∧ v = 0 ∧ x = 0
  ·by_cases k2 : k = 2
   ·subst k2; exact refMay_death s y u v x h.1 h.2.1 h.2.2.1 h.2.2.2 w
   ·by_cases k3 : k = 3
    ·subst k3; exact refMay_head s y u v x h.1 h.2.1 h.2.2.1 h.2.2.2 w
    ·exact refMay_else k s y u v x k1 k2 k3 h.1 h.2.1 h.2.2.1 h.2.2.2 w
  ·exact refMay_more k s y u v x k1 h w
end Go.Proofs.YtibpfkcackdbgaaGreatDoor
namespace Go.Proofs.YtibpfkcackdbgaaGreatDoor
open Go.ChangeShapes Go.WideShapes Go.ChangeAt Go.RowKit
set_option linter.unusedVariables false
set_option maxRecDepth 100000
set_option maxHeartbeats 1000000 in
theorem eight_any (x : Nat) (hx : x < 18446744073709551616) (w : World) :
  Calls Tryz.prog 210 #[.int .u64 (x : Int)] w (OwnPost w w.heap.size 8 (leN 8 x)) := by
 go_enter Tryz.func210, Tryz.ntmps210
 go_wp2_with fail
 go_loopw [0, 3, 4] (fun y u i wr => ∃ k : Nat, k ≤ 8 ∧ i = .int .i64 k ∧ y = .int .u64 ((shN k x : Nat) : Int) ∧ LayRel w w.heap.size 0 [] x wr u k) (fun _ _ i _ => 8 - (intOf i).toNat)
 case atStart => exact ⟨0, Nat.zero_le _, rfl, by rw [shN_zero], by show Own _ _ _ 0 []; exact ⟨fun x hx => by simp at hx, World.ownsRow_nil _ _ _ _⟩, Below.refl _ _⟩
 case round =>
  obtain ⟨k, hk, rfl, rfl, hrel⟩ := hrel
  have HR := Lib.hid hrel
  have hsz := hrel.2.size
  clear hrel
  by_cases hlt : k < 8
  ·have hs := shN_le k x
   have hs2 := Lib.hid (shN_succ k x)
   have S1 : Hid (Own wr w.heap.size u3 (0 + k) ([] ++ leN k x)) := Lib.hid HR.out.1
   generalize hq : shN k x = q at *
   have hq' := Lib.hid hq
   clear hq
   go_wp2_with (at_builtin; (refine wpList_append_bytes (by rfl) (.tmp 9) (.tmp 13) (by rfl) w.heap.size u3 (0 + k) ([] ++ leN k x) (by rfl) (Own.alloc S1.out _) (some ⟨wr.heap.size, 0, none⟩) 1 1 [q % 256] (by rfl) (AtB.one (by omega) (by simp)) (by omega) (by simp; omega) ?_); (intro v' w' hown' hgrow'; have S := Lib.hid (HR.out.step (Nat.le_refl _) (by rw [hq'.out]; exact hown') hgrow'); clear hown' hgrow'))
   go_roundw
   case rel => exact ⟨k + 1, by omega, by go_num, by rw [hs2.out]; go_num, S.out⟩
   case measure => simp [intOf]; omega
  ·obtain rfl : k = 8 := by omega
   go_wp2_with fail
   go_ret
   exact ⟨u3, rfl, HR.out.1, HR.out.2⟩
end Go.Proofs.YtibpfkcackdbgaaGreatDoor
namespace Go.Proofs.YtibpfkcackdbgaaGreatDoor
open Go.ChangeShapes Go.WideShapes Go.ChangeAt Go.RowKit
set_option linter.unusedVariables false
set_option maxRecDepth 100000
theorem refEncode_no (k : Int) (s y u v x : Nat) (hy : y < 18446744073709551616) (h : (Ent.mk k s y u v x).mayB = false) (w : World) :
  Calls Tryz.prog 204 #[.agg #[.int .i64 k, .int .u64 (s : Int), .int .u64 (y : Int), .int .u64 (u : Int), .int .u64 (v : Int), .int .u64 (x : Int)]] w (Kept w (.tuple #[.slice none 0 0, .int .i64 1])) := by
 have HM := fun w => refMay_any k s y u v x hy w
 rw [h] at HM
 have H := Lib.hid h
 clear h
 go_enter Tryz.func204, Tryz.ntmps204
 go_wp2_with (go_at_call 82; (with_reducible refine (HM _).mono ?_); rintro e w1 ⟨rfl, hb1⟩; have HB1 := Lib.hid (below_box hb1); clear hb1)
 go_ret2
 exact ⟨rfl, HB1.out⟩
theorem lit_kept {w w2 : World} {c : Nat} (hc : c < 256) (hb : Below (w.alloc (.cells #[.int .u8 (c : Int)] 5)).heap.size (w.alloc (.cells #[.int .u8 (c : Int)] 5)) w2) : Own w2 w.heap.size (.slice (some ⟨w.heap.size, 0, none⟩) 1 1) 1 [c] :=
 (Own.lit w [c] (fun z hz => by simp at hz; omega) (by simp; unfold maxLen; omega)).later hb
theorem lit_kept' {w w2 : World} {c : Nat} (hc : c < 256) (hb : Below (w.alloc (.cells #[.int .u8 (c : Int)] 5)).drew.heap.size (w.alloc (.cells #[.int .u8 (c : Int)] 5)).drew w2) : Own w2 w.heap.size (.slice (some ⟨w.heap.size, 0, none⟩) 1 1) 1 [c] :=
 Own.later (w := (w.alloc (.cells #[.int .u8 (c : Int)] 5)).drew) (Own.lit w [c] (fun z hz => by simp at hz; omega) (by simp; unfold maxLen; omega)) hb
set_option maxHeartbeats 2000000 in
theorem refEncode_birth (s y u v x : Nat) (hs : s < 18446744073709551616) (hy : y < 18446744073709551616) (hu : u < 18446744073709551616) (hv : v < 18446744073709551616) (hx : x < 18446744073709551616) (h : (Ent.mk 1 s y u v x).mayB = true) (w : World) :
  Calls Tryz.prog 204 #[.agg #[.int .i64 1, .int .u64 (s : Int), .int .u64 (y : Int), .int .u64 (u : Int), .int .u64 (v : Int), .int .u64 (x : Int)]] w (EncPost w 41 (1 :: (leN 8 s ++ leN 8 y ++ leN 8 u ++ leN 8 v ++ leN 8 x))) := by
 have HM := fun w => refMay_any 1 s y u v x hy w
 rw [h] at HM
 have H := Lib.hid h
 clear h
 go_enter Tryz.func204, Tryz.ntmps204
 go_wp2_with (go_at_call 82; (with_reducible refine (HM _).mono ?_); rintro e w1 ⟨rfl, hb1⟩; have HB1 := Lib.hid (below_box hb1); have HE1 := Lib.hid ((EntAt.box w 1 s y u v x).below hb1); have HZ1 := Lib.hid (HE1.out.1); clear hb1)
 have hC0 : ∀ w', Below w1.heap.size w1 w' → w'.cell? ⟨w.heap.size, 0, none⟩ = some (.int .i64 1) := fun w' hb => (HE1.out.below hb).2.1
 have hC1 : ∀ w', Below w1.heap.size w1 w' → w'.cell? ⟨w.heap.size, 1, none⟩ = some (.int .u64 (s : Int)) := fun w' hb => (HE1.out.below hb).2.2.1
 have HN := fun w => eight_any s hs w
 clear HM
 generalize hbz : w.heap.size = b0 at *
 have HBZ := Lib.hid hbz
 clear hbz
 go_region_held3 (fun w' => Below w1.heap.size w1 w') (first | assumption | (exact Below.drew (Below.refl _ _)) | (exact Below.drew (by assumption)) | (exact (fun h => Below.alloc h h.size _) (by assumption)))
  (first
   | (refine step_append_below (w0 := w1) (by assumption) (by rfl) (.tmp 13) (.tmp 16) (by rfl) _ 1 [1] (by rfl) HO2.out A2 8 k2 (leN 8 s) (by rfl) HA2.out (by omega) ?_; intro v4 w4 hown4 hB4; have HO4 := Lib.hid hown4; clear hown4)
   | (refine step_append_below (w0 := w1) (by assumption) (by rfl) (.tmp 13) (.tmp 16) (by rfl) _ 1 [1] (by rfl) (Own.lower (Own.lit w2 [1] (fun z hz => by simp at hz; omega) (by simp; unfold maxLen; omega)) hB2.size) A2 8 k2 (leN 8 s) (by rfl) (AtB.later HA2 (below_al (Below.refl _ _))) (by omega) ?_; intro v4 w4 hown4 hB4; have HO4 := Lib.hid hown4; clear hown4)
   | (go_at_call 210; (with_reducible refine (HN _).mono ?_); rintro e w2 ⟨v2, rfl, hO2, hb2⟩; have hB2 : Below w1.heap.size w1 w2 := below_step hb2 (by first | assumption | (exact Below.drew (Below.refl _ _)) | (exact Below.drew (by assumption))); (first | (with_reducible have hA := lit_kept (c := 1) (by omega) hb2) | (with_reducible have hA := lit_kept' (c := 1) (by omega) hb2)); have hR2 : Own w2 w1.heap.size (.slice (some ⟨w1.heap.size, 0, none⟩) 1 1) 1 [1] := hA; have HO2 := Lib.hid hR2; obtain ⟨A2, k2, rfl, hk2, hat2⟩ := hO2.at_ (by omega); have HA2 := Lib.hid hat2; clear hA hb2 hR2 hO2 hat2)
   | (go_at_call 210; (with_reducible refine (HN _).mono ?_); rintro e w2 ⟨v2, rfl, hO2, hb2⟩; have hB2 : Below w1.heap.size w1 w2 := below_step hb2 (by first | assumption | (exact Below.drew (Below.refl _ _)) | (exact Below.drew (by assumption))); obtain ⟨A2, k2, rfl, hk2, hat2⟩ := hO2.at_ (by omega); have HA2 := Lib.hid hat2; clear hb2 hO2 hat2))
 all_goals
  have HW : Hid (Below b0 w w4) := Lib.hid (HB1.out.trans (hB4.mono (by have := HZ1.out; omega)))
  have HE4 := Lib.hid (HE1.out.below hB4)
  have HS4 := hB4.size
  clear hB4 hC0 hC1 HN HB1 HE1 HA2
  obtain ⟨hz4, hc0, hc1, hc2, hc3, hc4, hc5⟩ := HE4.out
  go_wp2_with fail
  (with_reducible refine (eight_any y hy _).mono ?_)
  rintro e we5 ⟨ve5, rfl, hO, hb⟩
  obtain ⟨Ae5, ke5, rfl, hke5, hat⟩ := hO.at_ (by omega)
  have HAe5 := Lib.hid hat
  have HBe5 := Lib.hid hb
  have HOe5 := Lib.hid (HO4.out.later hb)
  have HSe5 := hb.size
  clear hO hb hat hz4 hc0 hc1 hc2 hc3 hc4 hc5
  obtain ⟨hze5, hc0, hc1, hc2, hc3, hc4, hc5⟩ := HE4.out.below HBe5.out
  go_wp2_with (at_builtin; (refine wpList_append_bytes (by rfl) (.tmp 21) (.tmp 24) (by rfl) w1.heap.size v4 9 ([1] ++ leN 8 s) (by rfl) HOe5.out Ae5 8 ke5 (leN 8 y) (by rfl) HAe5.out (by omega) (by omega) ?_); (intro v5 w5 hown hgrow; have HO5 : Hid (Own w5 w1.heap.size v5 (9 + 8) (([1] ++ leN 8 s) ++ leN 8 y)) := Lib.hid hown; have HV5 : Hid (Below w1.heap.size w4 w5) := Lib.hid ((HBe5.out.mono HS4).grown hgrow (by omega) (fun k hk => (HOe5.out.2.lt k hk).1)); have HS5 := HV5.out.size; have hq := HS5; have HE5 : Hid (EntAt w5 b0 1 s y u v x) := Lib.hid (by obtain ⟨q0, q1, q2, q3, q4, q5, q6⟩ := HE4.out; have kk := fun o => HV5.out.cell (p := ⟨b0, o, none⟩) HZ1.out; exact ⟨by omega, (kk 0).trans q1, (kk 1).trans q2, (kk 2).trans q3, (kk 3).trans q4, (kk 4).trans q5, (kk 5).trans q6⟩); clear hown hgrow hq; clear hc0 hc1 hc2 hc3 hc4 hc5; obtain ⟨hz5, hc0, hc1, hc2, hc3, hc4, hc5⟩ := HE5.out))
  replace HS5 : w1.heap.size ≤ w5.heap.size := by omega
  have HW : Hid (Below b0 w w5) := Lib.hid (HW.out.trans (HV5.out.mono (by have := HZ1.out; omega)))
  (with_reducible refine (eight_any u hu _).mono ?_)
  rintro e we6 ⟨ve6, rfl, hO, hb⟩
  obtain ⟨Ae6, ke6, rfl, hke6, hat⟩ := hO.at_ (by omega)
  have HAe6 := Lib.hid hat
  have HBe6 := Lib.hid hb
  have HOe6 := Lib.hid (HO5.out.later hb)
  have HSe6 := hb.size
  clear hO hb hat hz5 hc0 hc1 hc2 hc3 hc4 hc5
  obtain ⟨hze6, hc0, hc1, hc2, hc3, hc4, hc5⟩ := HE5.out.below HBe6.out
  go_wp2_with (at_builtin; (refine wpList_append_bytes (by rfl) (.tmp 26) (.tmp 29) (by rfl) w1.heap.size v5 (9 + 8) (([1] ++ leN 8 s) ++ leN 8 y) (by rfl) HOe6.out Ae6 8 ke6 (leN 8 u) (by rfl) HAe6.out (by omega) (by omega) ?_); (intro v6 w6 hown hgrow; have HO6 : Hid (Own w6 w1.heap.size v6 ((9 + 8) + 8) ((([1] ++ leN 8 s) ++ leN 8 y) ++ leN 8 u)) := Lib.hid hown; have HV6 : Hid (Below w1.heap.size w5 w6) := Lib.hid ((HBe6.out.mono HS5).grown hgrow (by omega) (fun k hk => (HOe6.out.2.lt k hk).1)); have HS6 := HV6.out.size; have hq := HS6; have HE6 : Hid (EntAt w6 b0 1 s y u v x) := Lib.hid (by obtain ⟨q0, q1, q2, q3, q4, q5, q6⟩ := HE5.out; have kk := fun o => HV6.out.cell (p := ⟨b0, o, none⟩) HZ1.out; exact ⟨by omega, (kk 0).trans q1, (kk 1).trans q2, (kk 2).trans q3, (kk 3).trans q4, (kk 4).trans q5, (kk 5).trans q6⟩); clear hown hgrow hq; clear hc0 hc1 hc2 hc3 hc4 hc5; obtain ⟨hz6, hc0, hc1, hc2, hc3, hc4, hc5⟩ := HE6.out))
  replace HS6 : w1.heap.size ≤ w6.heap.size := by omega
  have HW : Hid (Below b0 w w6) := Lib.hid (HW.out.trans (HV6.out.mono (by have := HZ1.out; omega)))
  (with_reducible refine (eight_any v hv _).mono ?_)
  rintro e we7 ⟨ve7, rfl, hO, hb⟩
  obtain ⟨Ae7, ke7, rfl, hke7, hat⟩ := hO.at_ (by omega)
  have HAe7 := Lib.hid hat
  have HBe7 := Lib.hid hb
  have HOe7 := Lib.hid (HO6.out.later hb)
  have HSe7 := hb.size
  clear hO hb hat hz6 hc0 hc1 hc2 hc3 hc4 hc5
  obtain ⟨hze7, hc0, hc1, hc2, hc3, hc4, hc5⟩ := HE6.out.below HBe7.out
  go_wp2_with (at_builtin; (refine wpList_append_bytes (by rfl) (.tmp 31) (.tmp 34) (by rfl) w1.heap.size v6 ((9 + 8) + 8) ((([1] ++ leN 8 s) ++ leN 8 y) ++ leN 8 u) (by rfl) HOe7.out Ae7 8 ke7 (leN 8 v) (by rfl) HAe7.out (by omega) (by omega) ?_); (intro v7 w7 hown hgrow; have HO7 : Hid (Own w7 w1.heap.size v7 (((9 + 8) + 8) + 8) (((([1] ++ leN 8 s) ++ leN 8 y) ++ leN 8 u) ++ leN 8 v)) := Lib.hid hown; have HV7 : Hid (Below w1.heap.size w6 w7) := Lib.hid ((HBe7.out.mono HS6).grown hgrow (by omega) (fun k hk => (HOe7.out.2.lt k hk).1)); have HS7 := HV7.out.size; have hq := HS7; have HE7 : Hid (EntAt w7 b0 1 s y u v x) := Lib.hid (by obtain ⟨q0, q1, q2, q3, q4, q5, q6⟩ := HE6.out; have kk := fun o => HV7.out.cell (p := ⟨b0, o, none⟩) HZ1.out; exact ⟨by omega, (kk 0).trans q1, (kk 1).trans q2, (kk 2).trans q3, (kk 3).trans q4, (kk 4).trans q5, (kk 5).trans q6⟩); clear hown hgrow hq; clear hc0 hc1 hc2 hc3 hc4 hc5; obtain ⟨hz7, hc0, hc1, hc2, hc3, hc4, hc5⟩ := HE7.out))
  replace HS7 : w1.heap.size ≤ w7.heap.size := by omega
  have HW : Hid (Below b0 w w7) := Lib.hid (HW.out.trans (HV7.out.mono (by have := HZ1.out; omega)))
  (with_reducible refine (eight_any x hx _).mono ?_)
  rintro e we8 ⟨ve8, rfl, hO, hb⟩
  obtain ⟨Ae8, ke8, rfl, hke8, hat⟩ := hO.at_ (by omega)
  have HAe8 := Lib.hid hat
  have HBe8 := Lib.hid hb
  have HOe8 := Lib.hid (HO7.out.later hb)
  have HSe8 := hb.size
  clear hO hb hat hz7 hc0 hc1 hc2 hc3 hc4 hc5
  obtain ⟨hze8, hc0, hc1, hc2, hc3, hc4, hc5⟩ := HE7.out.below HBe8.out
  go_wp2_with (at_builtin; (refine wpList_append_bytes (by rfl) (.tmp 36) (.tmp 39) (by rfl) w1.heap.size v7 (((9 + 8) + 8) + 8) (((([1] ++ leN 8 s) ++ leN 8 y) ++ leN 8 u) ++ leN 8 v) (by rfl) HOe8.out Ae8 8 ke8 (leN 8 x) (by rfl) HAe8.out (by omega) (by omega) ?_); (intro v8 w8 hown hgrow; have HO8 : Hid (Own w8 w1.heap.size v8 ((((9 + 8) + 8) + 8) + 8) ((((([1] ++ leN 8 s) ++ leN 8 y) ++ leN 8 u) ++ leN 8 v) ++ leN 8 x)) := Lib.hid hown; have HV8 : Hid (Below w1.heap.size w7 w8) := Lib.hid ((HBe8.out.mono HS7).grown hgrow (by omega) (fun k hk => (HOe8.out.2.lt k hk).1)); have HS8 := HV8.out.size; have hq := HS8; have HE8 : Hid (EntAt w8 b0 1 s y u v x) := Lib.hid (by obtain ⟨q0, q1, q2, q3, q4, q5, q6⟩ := HE7.out; have kk := fun o => HV8.out.cell (p := ⟨b0, o, none⟩) HZ1.out; exact ⟨by omega, (kk 0).trans q1, (kk 1).trans q2, (kk 2).trans q3, (kk 3).trans q4, (kk 4).trans q5, (kk 5).trans q6⟩); clear hown hgrow hq; clear hc0 hc1 hc2 hc3 hc4 hc5; obtain ⟨hz8, hc0, hc1, hc2, hc3, hc4, hc5⟩ := HE8.out))
  replace HS8 : w1.heap.size ≤ w8.heap.size := by omega
  have HW : Hid (Below b0 w w8) := Lib.hid (HW.out.trans (HV8.out.mono (by have := HZ1.out; omega)))
  go_ret2
  have hfin := HO8.out
  have e41 : [1] ++ leN 8 s ++ leN 8 y ++ leN 8 u ++ leN 8 v ++ leN 8 x = 1 :: (leN 8 s ++ leN 8 y ++ leN 8 u ++ leN 8 v ++ leN 8 x) := by simp
  rw [e41] at hfin
  exact ⟨v8, rfl, hfin.lower (by have h1 := HBZ.out; have h2 := HZ1.out; omega), by have h2 := HBZ.out; rw [h2]; exact HW.out⟩
set_option maxHeartbeats 2000000 in
theorem refEncode_death (s y u v x : Nat) (hs : s < 18446744073709551616) (hy : y < 18446744073709551616) (h : (Ent.mk 2 s y u v x).mayB = true) (w : World) :
  Calls Tryz.prog 204 #[.agg #[.int .i64 2, .int .u64 (s : Int), .int .u64 (y : Int), .int .u64 (u : Int), .int .u64 (v : Int), .int .u64 (x : Int)]] w (EncPost w 9 (2 :: leN 8 s)) := by
 have HM := fun w => refMay_any 2 s y u v x hy w
 rw [h] at HM
 have H := Lib.hid h
 clear h
 go_enter Tryz.func204, Tryz.ntmps204
 go_wp2_with (go_at_call 82; (with_reducible refine (HM _).mono ?_); rintro e w1 ⟨rfl, hb1⟩; have HB1 := Lib.hid (below_box hb1); have HE1 := Lib.hid ((EntAt.box w 2 s y u v x).below hb1); have HZ1 := Lib.hid (HE1.out.1); clear hb1)
 have hC0 : ∀ w', Below w1.heap.size w1 w' → w'.cell? ⟨w.heap.size, 0, none⟩ = some (.int .i64 2) := fun w' hb => (HE1.out.below hb).2.1
 have hC1 : ∀ w', Below w1.heap.size w1 w' → w'.cell? ⟨w.heap.size, 1, none⟩ = some (.int .u64 (s : Int)) := fun w' hb => (HE1.out.below hb).2.2.1
 have HN := fun w => eight_any s hs w
 clear HM
 generalize hbz : w.heap.size = b0 at *
 have HBZ := Lib.hid hbz
 clear hbz
 go_region_held3 (fun w' => Below w1.heap.size w1 w') (first | assumption | (exact Below.drew (Below.refl _ _)) | (exact Below.drew (by assumption)) | (exact (fun h => Below.alloc h h.size _) (by assumption)))
  (first
   | (refine step_append_below (w0 := w1) (by assumption) (by rfl) (.tmp 13) (.tmp 16) (by rfl) _ 1 [2] (by rfl) HO2.out A2 8 k2 (leN 8 s) (by rfl) HA2.out (by omega) ?_; intro v4 w4 hown4 hB4; have HO4 := Lib.hid hown4; clear hown4)
   | (refine step_append_below (w0 := w1) (by assumption) (by rfl) (.tmp 13) (.tmp 16) (by rfl) _ 1 [2] (by rfl) (Own.lower (Own.lit w2 [2] (fun z hz => by simp at hz; omega) (by simp; unfold maxLen; omega)) hB2.size) A2 8 k2 (leN 8 s) (by rfl) (AtB.later HA2 (below_al (Below.refl _ _))) (by omega) ?_; intro v4 w4 hown4 hB4; have HO4 := Lib.hid hown4; clear hown4)
   | (go_at_call 210; (with_reducible refine (HN _).mono ?_); rintro e w2 ⟨v2, rfl, hO2, hb2⟩; have hB2 : Below w1.heap.size w1 w2 := below_step hb2 (by first | assumption | (exact Below.drew (Below.refl _ _)) | (exact Below.drew (by assumption))); (first | (with_reducible have hA := lit_kept (c := 2) (by omega) hb2) | (with_reducible have hA := lit_kept' (c := 2) (by omega) hb2)); have hR2 : Own w2 w1.heap.size (.slice (some ⟨w1.heap.size, 0, none⟩) 1 1) 1 [2] := hA; have HO2 := Lib.hid hR2; obtain ⟨A2, k2, rfl, hk2, hat2⟩ := hO2.at_ (by omega); have HA2 := Lib.hid hat2; clear hA hb2 hR2 hO2 hat2)
   | (go_at_call 210; (with_reducible refine (HN _).mono ?_); rintro e w2 ⟨v2, rfl, hO2, hb2⟩; have hB2 : Below w1.heap.size w1 w2 := below_step hb2 (by first | assumption | (exact Below.drew (Below.refl _ _)) | (exact Below.drew (by assumption))); obtain ⟨A2, k2, rfl, hk2, hat2⟩ := hO2.at_ (by omega); have HA2 := Lib.hid hat2; clear hb2 hO2 hat2))
 all_goals
  have HW : Hid (Below b0 w w4) := Lib.hid (HB1.out.trans (hB4.mono (by have := HZ1.out; omega)))
  have HE4 := Lib.hid (HE1.out.below hB4)
  have HS4 := hB4.size
  clear hB4 hC0 hC1 HN HB1 HE1 HA2
  obtain ⟨hz4, hc0, hc1, hc2, hc3, hc4, hc5⟩ := HE4.out
  go_wp2_with fail
  go_ret2
  exact ⟨v4, rfl, HO4.out.lower (by have h1 := HBZ.out; have h2 := HZ1.out; omega), by have h2 := HBZ.out; rw [h2]; exact HW.out⟩
set_option maxHeartbeats 2000000 in
theorem refEncode_head (s y u v x : Nat) (hs : s < 18446744073709551616) (hy : y < 18446744073709551616) (h : (Ent.mk 3 s y u v x).mayB = true) (w : World) :
  Calls Tryz.prog 204 #[.agg #[.int .i64 3, .int .u64 (s : Int), .int .u64 (y : Int), .int .u64 (u : Int), .int .u64 (v : Int), .int .u64 (x : Int)]] w (EncPost w 9 (3 :: leN 8 s)) := by
 have HM := fun w => refMay_any 3 s y u v x hy w
 rw [h] at HM
 have H := Lib.hid h
 clear h
 go_enter Tryz.func204, Tryz.ntmps204
 go_wp2_with (go_at_call 82; (with_reducible refine (HM _).mono ?_); rintro e w1 ⟨rfl, hb1⟩; have HB1 := Lib.hid (below_box hb1); have HE1 := Lib.hid ((EntAt.box w 3 s y u v x).below hb1); have HZ1 := Lib.hid (HE1.out.1); clear hb1)
 have hC0 : ∀ w', Below w1.heap.size w1 w' → w'.cell? ⟨w.heap.size, 0, none⟩ = some (.int .i64 3) := fun w' hb => (HE1.out.below hb).2.1
 have hC1 : ∀ w', Below w1.heap.size w1 w' → w'.cell? ⟨w.heap.size, 1, none⟩ = some (.int .u64 (s : Int)) := fun w' hb => (HE1.out.below hb).2.2.1
 have HN := fun w => eight_any s hs w
 clear HM
 generalize hbz : w.heap.size = b0 at *
 have HBZ := Lib.hid hbz
 clear hbz
 go_region_held3 (fun w' => Below w1.heap.size w1 w') (first | assumption | (exact Below.drew (Below.refl _ _)) | (exact Below.drew (by assumption)) | (exact (fun h => Below.alloc h h.size _) (by assumption)))
  (first
   | (refine step_append_below (w0 := w1) (by assumption) (by rfl) (.tmp 13) (.tmp 16) (by rfl) _ 1 [3] (by rfl) HO2.out A2 8 k2 (leN 8 s) (by rfl) HA2.out (by omega) ?_; intro v4 w4 hown4 hB4; have HO4 := Lib.hid hown4; clear hown4)
   | (refine step_append_below (w0 := w1) (by assumption) (by rfl) (.tmp 13) (.tmp 16) (by rfl) _ 1 [3] (by rfl) (Own.lower (Own.lit w2 [3] (fun z hz => by simp at hz; omega) (by simp; unfold maxLen; omega)) hB2.size) A2 8 k2 (leN 8 s) (by rfl) (AtB.later HA2 (below_al (Below.refl _ _))) (by omega) ?_; intro v4 w4 hown4 hB4; have HO4 := Lib.hid hown4; clear hown4)
   | (go_at_call 210; (with_reducible refine (HN _).mono ?_); rintro e w2 ⟨v2, rfl, hO2, hb2⟩; have hB2 : Below w1.heap.size w1 w2 := below_step hb2 (by first | assumption | (exact Below.drew (Below.refl _ _)) | (exact Below.drew (by assumption))); (first | (with_reducible have hA := lit_kept (c := 3) (by omega) hb2) | (with_reducible have hA := lit_kept' (c := 3) (by omega) hb2)); have hR2 : Own w2 w1.heap.size (.slice (some ⟨w1.heap.size, 0, none⟩) 1 1) 1 [3] := hA; have HO2 := Lib.hid hR2; obtain ⟨A2, k2, rfl, hk2, hat2⟩ := hO2.at_ (by omega); have HA2 := Lib.hid hat2; clear hA hb2 hR2 hO2 hat2)
   | (go_at_call 210; (with_reducible refine (HN _).mono ?_); rintro e w2 ⟨v2, rfl, hO2, hb2⟩; have hB2 : Below w1.heap.size w1 w2 := below_step hb2 (by first | assumption | (exact Below.drew (Below.refl _ _)) | (exact Below.drew (by assumption))); obtain ⟨A2, k2, rfl, hk2, hat2⟩ := hO2.at_ (by omega); have HA2 := Lib.hid hat2; clear hb2 hO2 hat2))
 all_goals
  have HW : Hid (Below b0 w w4) := Lib.hid (HB1.out.trans (hB4.mono (by have := HZ1.out; omega)))
  have HE4 := Lib.hid (HE1.out.below hB4)
  have HS4 := hB4.size
  clear hB4 hC0 hC1 HN HB1 HE1 HA2
  obtain ⟨hz4, hc0, hc1, hc2, hc3, hc4, hc5⟩ := HE4.out
  go_wp2_with fail
  go_ret2
  exact ⟨v4, rfl, HO4.out.lower (by have h1 := HBZ.out; have h2 := HZ1.out; omega), by have h2 := HBZ.out; rw [h2]; exact HW.out⟩
theorem refEncode_yes (k : Int) (s y u v x : Nat) (hf : (Ent.mk k s y u v x).fit) (h : (Ent.mk k s y u v x).mayB = true) (n : Nat) (ys : List Nat) (hn : (Ent.mk k s y u v x).bytes.length = n) (hy : (Ent.mk k s y u v x).bytes = ys) (w : World) :
  Calls Tryz.prog 204 #[.agg #[.int .i64 k, .int .u64 (s : Int), .int .u64 (y : Int), .int .u64 (u : Int), .int .u64 (v : Int), .int .u64 (x : Int)]] w (EncPost w n ys) := by
 obtain ⟨f1, f2, f3, f4, f5⟩ := hf
 have hm : (Ent.mk k s y u v x).may := of_decide_eq_true h
 subst hn hy
 rw [Ent.bytes_length]
 rcases Ent.kinds hm with h1 | h1 | h1
 ·simp only at h1
  subst h1
  exact refEncode_birth s y u v x f1 f2 f3 f4 f5 h w
 ·simp only at h1
  subst h1
  exact refEncode_death s y u v x f1 f2 h w
 ·simp only at h1
  subst h1
  exact refEncode_head s y u v x f1 f2 h w
end Go.Proofs.YtibpfkcackdbgaaGreatDoor
