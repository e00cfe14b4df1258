/-
  The contracts of the document's own answer for layer 5 (entries): which may be; numbers as eight bytes.
-/
import Derived.Test.YtioheffdolnciaaEntDec
namespace Go.Proofs.Ytioheffdolnciaa
open Go.ChangeShapes Go.WideShapes Go.ChangeAt Go.RowKit
set_option linter.unusedVariables false

set_option maxHeartbeats 1000000 in
theorem refMay_birth (s y u v x : Nat) (hy : y < 18446744073709551616) (w : World) :
    Calls Try.prog 13 #[.agg #[.int .i64 1, .int .u64 (s : Int), .int .u64 (y : Int), .int .u64 (u : Int), .int .u64 (v : Int), .int .u64 (x : Int)]] w (Kept w (.bool (Ent.mk 1 s y u v x).mayB)) := by
  have E0 := Ent.mayB_birth s y u v x
  have HS := fun w => refStamp_any s w
  have HR := fun w => refRight_any y hy w
  have HU := fun w => refStamp_any u w
  have HV := fun w => refStamp_any v w
  by_cases h0 : y % 2147483648 = 0
  · have d0 : ((y : Int) % 2147483648 == 0) = true := by rw [beq_iff_eq]; omega
    rw [ends_vertex h0] at E0
    have E := Lib.hid E0
    have e1 := nat_eq0 u
    have e2 := nat_eq0 v
    clear E0 h0 HU HV
    generalize decide (u = 0) = b3 at *
    generalize decide (v = 0) = b4 at *
    generalize stampB s = b1 at *
    generalize rightB y = b2 at *
    cases b1 <;> cases b2 <;> cases b3 <;> cases b4
    all_goals
      go_enter Try.func13, Try.ntmps13
      go_wp2_with (first
      | (go_at_call 24; (with_reducible refine (HR _).mono ?_); rintro e w' ⟨rfl, rfl⟩)
      | (go_at_call 25; (with_reducible refine (HS _).mono ?_); rintro e w' ⟨rfl, rfl⟩)
      | (go_at_call 25; (with_reducible refine (HU _).mono ?_); rintro e w' ⟨rfl, rfl⟩)
      | (go_at_call 25; (with_reducible refine (HV _).mono ?_); rintro e w' ⟨rfl, rfl⟩))
      go_ret
      exact ⟨ret_bool E.out.symm, (Below.refl _ _).alloc (Nat.le_refl _) _⟩
  · have d0 : ((y : Int) % 2147483648 == 0) = false := by rw [beq_eq_false_iff_ne]; omega
    rw [ends_edge h0] at E0
    have E := Lib.hid E0
    clear E0 h0
    generalize stampB u = b3 at *
    generalize stampB v = b4 at *
    generalize stampB s = b1 at *
    generalize rightB y = b2 at *
    cases b1 <;> cases b2 <;> cases b3 <;> cases b4
    all_goals
      go_enter Try.func13, Try.ntmps13
      go_wp2_with (first
      | (go_at_call 24; (with_reducible refine (HR _).mono ?_); rintro e w' ⟨rfl, rfl⟩)
      | (go_at_call 25; (with_reducible refine (HS _).mono ?_); rintro e w' ⟨rfl, rfl⟩)
      | (go_at_call 25; (with_reducible refine (HU _).mono ?_); rintro e w' ⟨rfl, rfl⟩)
      | (go_at_call 25; (with_reducible refine (HV _).mono ?_); rintro e w' ⟨rfl, rfl⟩))
      go_ret
      exact ⟨ret_bool E.out.symm, (Below.refl _ _).alloc (Nat.le_refl _) _⟩
set_option maxHeartbeats 1000000 in
theorem refMay_more (k : Int) (s y u v x : Nat) (hk : k ≠ 1) (h : ¬ (y = 0 ∧ u = 0 ∧ v = 0 ∧ x = 0)) (w : World) :
    Calls Try.prog 13 #[.agg #[.int .i64 k, .int .u64 (s : Int), .int .u64 (y : Int), .int .u64 (u : Int), .int .u64 (v : Int), .int .u64 (x : Int)]] w (Kept w (.bool (Ent.mk k s y u v x).mayB)) := by
  have E := Lib.hid (Ent.mayB_more k s y u v x hk h)
  have d1 : (k == 1) = false := by rw [beq_eq_false_iff_ne]; exact hk
  clear hk
  by_cases zy : y = 0
  · have fy : ((y : Int) != 0) = false := nat_ne0 zy
    by_cases zu : u = 0
    · have fu : ((u : Int) != 0) = false := nat_ne0 zu
      by_cases zv : v = 0
      · have fv : ((v : Int) != 0) = false := nat_ne0 zv
        have fx : ((x : Int) != 0) = true := by rw [bne_iff_ne]; intro hx; exact h ⟨zy, zu, zv, by omega⟩
        clear zy zu zv h
        go_enter Try.func13, Try.ntmps13
        go_wp2_with fail
        go_ret
        exact ⟨ret_bool E.out.symm, (Below.refl _ _).alloc (Nat.le_refl _) _⟩
      · have fv : ((v : Int) != 0) = true := by rw [bne_iff_ne]; omega
        clear zy zu zv h
        go_enter Try.func13, Try.ntmps13
        go_wp2_with fail
        go_ret
        exact ⟨ret_bool E.out.symm, (Below.refl _ _).alloc (Nat.le_refl _) _⟩
    · have fu : ((u : Int) != 0) = true := by rw [bne_iff_ne]; omega
      clear zy zu h
      go_enter Try.func13, Try.ntmps13
      go_wp2_with fail
      go_ret
      exact ⟨ret_bool E.out.symm, (Below.refl _ _).alloc (Nat.le_refl _) _⟩
  · have fy : ((y : Int) != 0) = true := by rw [bne_iff_ne]; omega
    clear zy h
    go_enter Try.func13, Try.ntmps13
    go_wp2_with fail
    go_ret
    exact ⟨ret_bool E.out.symm, (Below.refl _ _).alloc (Nat.le_refl _) _⟩
theorem refMay_death (s y u v x : Nat) (zy : y = 0) (zu : u = 0) (zv : v = 0) (zx : x = 0) (w : World) :
    Calls Try.prog 13 #[.agg #[.int .i64 2, .int .u64 (s : Int), .int .u64 (y : Int), .int .u64 (u : Int), .int .u64 (v : Int), .int .u64 (x : Int)]] w (Kept w (.bool (Ent.mk 2 s y u v x).mayB)) := by
  have E : Hid ((Ent.mk 2 s y u v x).mayB = stampB s) := Lib.hid (by rw [zy, zu, zv, zx]; exact Ent.mayB_death s)
  have HS := fun w => refStamp_any s w
  generalize stampB s = b1 at *
  have fy : ((y : Int) != 0) = false := nat_ne0 zy
  have fu : ((u : Int) != 0) = false := nat_ne0 zu
  have fv : ((v : Int) != 0) = false := nat_ne0 zv
  have fx : ((x : Int) != 0) = false := nat_ne0 zx
  clear zy zu zv zx
  cases b1
  all_goals
    go_enter Try.func13, Try.ntmps13
    go_wp2_with (go_at_call 25; (with_reducible refine (HS _).mono ?_); rintro e w' ⟨rfl, rfl⟩)
    go_ret
    exact ⟨ret_bool E.out.symm, (Below.refl _ _).alloc (Nat.le_refl _) _⟩
theorem refMay_head (s y u v x : Nat) (zy : y = 0) (zu : u = 0) (zv : v = 0) (zx : x = 0) (w : World) :
    Calls Try.prog 13 #[.agg #[.int .i64 3, .int .u64 (s : Int), .int .u64 (y : Int), .int .u64 (u : Int), .int .u64 (v : Int), .int .u64 (x : Int)]] w (Kept w (.bool (Ent.mk 3 s y u v x).mayB)) := by
  obtain ⟨b1, hb1⟩ : ∃ b, decide ((s : Int) ≤ 65536) = b := ⟨_, rfl⟩
  have E : Hid ((Ent.mk 3 s y u v x).mayB = b1) := Lib.hid (by rw [zy, zu, zv, zx, Ent.mayB_head s, ← hb1]; exact decide_eq_decide.2 (by omega))
  have fy : ((y : Int) != 0) = false := nat_ne0 zy
  have fu : ((u : Int) != 0) = false := nat_ne0 zu
  have fv : ((v : Int) != 0) = false := nat_ne0 zv
  have fx : ((x : Int) != 0) = false := nat_ne0 zx
  clear zy zu zv zx
  cases b1
  all_goals
    go_enter Try.func13, Try.ntmps13
    go_wp2_with fail
    go_ret
    exact ⟨ret_bool E.out.symm, (Below.refl _ _).alloc (Nat.le_refl _) _⟩
theorem refMay_else (k : Int) (s y u v x : Nat) (k1 : k ≠ 1) (k2 : k ≠ 2) (k3 : k ≠ 3) (zy : y = 0) (zu : u = 0) (zv : v = 0) (zx : x = 0) (w : World) :
    Calls Try.prog 13 #[.agg #[.int .i64 k, .int .u64 (s : Int), .int .u64 (y : Int), .int .u64 (u : Int), .int .u64 (v : Int), .int .u64 (x : Int)]] w (Kept w (.bool (Ent.mk k s y u v x).mayB)) := by
  have E := Lib.hid (Ent.mayB_else k s y u v x k1 k2 k3)
  have d1 : (k == 1) = false := by rw [beq_eq_false_iff_ne]; exact k1
  have d2 : (k == 2) = false := by rw [beq_eq_false_iff_ne]; exact k2
  have d3 : (k == 3) = false := by rw [beq_eq_false_iff_ne]; exact k3
  have fy : ((y : Int) != 0) = false := nat_ne0 zy
  have fu : ((u : Int) != 0) = false := nat_ne0 zu
  have fv : ((v : Int) != 0) = false := nat_ne0 zv
  have fx : ((x : Int) != 0) = false := nat_ne0 zx
  clear zy zu zv zx k1 k2 k3
  go_enter Try.func13, Try.ntmps13
  go_wp2_with fail
  go_ret
  exact ⟨ret_bool E.out.symm, (Below.refl _ _).alloc (Nat.le_refl _) _⟩
theorem refMay_any (k : Int) (s y u v x : Nat) (hy : y < 18446744073709551616) (w : World) :
    Calls Try.prog 13 #[.agg #[.int .i64 k, .int .u64 (s : Int), .int .u64 (y : Int), .int .u64 (u : Int), .int .u64 (v : Int), .int .u64 (x : Int)]] w (Kept w (.bool (Ent.mk k s y u v x).mayB)) := by
  by_cases k1 : k = 1
  · subst k1; exact refMay_birth s y u v x hy w
  · by_cases h : y = 0 ∧ u = 0 ∧ v = 0 ∧ x = 0
    · by_cases k2 : k = 2
      · subst k2; exact refMay_death s y u v x h.1 h.2.1 h.2.2.1 h.2.2.2 w
      · by_cases k3 : k = 3
        · subst k3; exact refMay_head s y u v x h.1 h.2.1 h.2.2.1 h.2.2.2 w
        · exact refMay_else k s y u v x k1 k2 k3 h.1 h.2.1 h.2.2.1 h.2.2.2 w
    · exact refMay_more k s y u v x k1 h w
end Go.Proofs.Ytioheffdolnciaa
