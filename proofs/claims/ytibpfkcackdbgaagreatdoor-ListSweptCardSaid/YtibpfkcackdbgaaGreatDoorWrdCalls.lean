/- WrdCalls -/
import Derived.Test.YtibpfkcackdbgaaGreatDoorRows
import Derived.WalkKit
import Derived.ProofKit
import Derived.OpenShut
import Derived.Lib.Hide
import Derived.Laws.BitsAllLaws
import Derived.BigQuiet
import Derived.Deep.QuietTactic
import Derived.Outline
namespace Go.Proofs.YtibpfkcackdbgaaGreatDoor
open Go.ChangeShapes Go.WideShapes Go.ChangeAt Go.RowKit
set_option linter.unusedVariables false
set_option maxRecDepth 100000
theorem ret_boolw {a b : Bool} (h : a = b) : Ending.returned (.bool a) = .returned (.bool b) := by rw [h]
def linkN (r : Nat) (m : Bool) : Nat := 2 * r + (if m then 1 else 0)
def refN (w : Nat) : Nat := w / 2 % 1048576
def markB (w : Nat) : Bool := decide (w % 2 = 1)
def bitsN (b : Int) : Nat := (b % 4).toNat
def flagN (s : Nat) (b : Int) : Nat := s % 4611686018427387904 * 4 + bitsN b
def stampN (w : Nat) : Nat := w / 4
def hasF (w : Nat) (b : Int) : Bool := decide ((bitsN b % 2 = 0 ∨ w % 2 = 1) ∧ (bitsN b < 2 ∨ w / 2 % 2 = 1))
def topN (r t : Nat) : Nat := r + t % 17592186044416 * 1048576
def firstN (w : Nat) : Nat := w % 1048576
def tagN (w : Nat) : Nat := w / 1048576
def secondN (w : Nat) : Nat := w / 1048576 % 1048576
theorem ret_u64 {a b : Int} (h : a = b) : Ending.returned (.int .u64 a) = .returned (.int .u64 b) := by rw [h]
theorem ret_i64 {a b : Int} (h : a = b) : Ending.returned (.int .i64 a) = .returned (.int .i64 b) := by rw [h]
theorem bitsN_lt (b : Int) : bitsN b < 4 := by unfold bitsN; omega
theorem and_mask {x : Int} (n : Nat) (m : Int) (hm : m = ((2 ^ n - 1 : Nat) : Int)) (h0 : 0 ≤ x) (h1 : x < 18446744073709551616) (hn : 2 ^ n ≤ 18446744073709551616) :
  bits .and .u64 x m = ((x.toNat % 2 ^ n : Nat) : Int) := by
 subst hm
 have : 0 < 2 ^ n := Nat.two_pow_pos n
 rw [u64_and x _ h0 h1 (by omega) (by omega), Int.toNat_natCast, Nat.and_two_pow_sub_one_eq_mod]
theorem and_1 (x : Nat) (h : x < 18446744073709551616) : bits .and .u64 (x : Int) 1 = ((x % 2 : Nat) : Int) := by
 rw [and_mask 1 1 (by decide) (by omega) (by omega) (by decide)]; rfl
theorem and_3 (x : Nat) (h : x < 18446744073709551616) : bits .and .u64 (x : Int) 3 = ((x % 4 : Nat) : Int) := by
 rw [and_mask 2 3 (by decide) (by omega) (by omega) (by decide)]; rfl
theorem and_2 (x : Nat) (h : x < 18446744073709551616) : bits .and .u64 (x : Int) 2 = ((2 * (x / 2 % 2) : Nat) : Int) := by
 rw [show (2 : Int) = ((2 : Nat) : Int) from rfl, u64_and_nat x 2 h (by decide)]
 have h1 : x &&& 2 = 2 * (x / 2 % 2) := by
  have h2 := Nat.and_div_two_pow (a := x) (b := 2) (n := 1)
  have h3 : (x &&& 2) % 2 = 0 := by
   have := Nat.and_mod_two_pow (a := x) (b := 2) (n := 1)
   simpa using this
  have h4 : x / 2 &&& 1 = x / 2 % 2 := Nat.and_one_is_mod _
  have h5 : (x &&& 2) / 2 = x / 2 &&& 1 := by simpa using h2
  omega
 rw [h1]
theorem and_0 (x : Nat) (h : x < 18446744073709551616) : bits .and .u64 (x : Int) 0 = 0 := by
 rw [and_mask 0 0 (by decide) (by omega) (by omega) (by decide)]; omega
theorem and_refs (x : Nat) (h : x < 18446744073709551616) : bits .and .u64 (x : Int) 1048575 = ((x % 1048576 : Nat) : Int) := by
 rw [and_mask 20 1048575 (by decide) (by omega) (by omega) (by decide)]; rfl
theorem refAt_1 (x : Nat) (h : x < 18446744073709551616) (w : World) :
  Calls Tryz.prog 94 #[.int .u64 (x : Int), .int .i64 1] w fun e w' => e = .returned (.int .i64 (refN x : Nat)) ∧ w = w' := by
 have hm : bits .and .u64 ((x : Int) / 2) 1048575 = ((x / 2 % 1048576 : Nat) : Int) := by
  have := and_refs (x / 2) (by omega)
  rw [← this]
  first | done | (congr 1)
 go_enter Tryz.func94, Tryz.ntmps94
 go_wp2_with fail
 go_ret
 exact ⟨ret_i64 (by first | rfl | (unfold firstN; omega) | (unfold secondN; omega) | (unfold refN; omega)), rfl⟩
theorem ref_any (x : Nat) (h : x < 18446744073709551616) (w : World) :
  Calls Tryz.prog 59 #[.int .u64 (x : Int)] w fun e w' => e = .returned (.int .i64 (refN x : Nat)) ∧ w = w' := by
 go_enter Tryz.func59, Tryz.ntmps59
 go_wp2_with (go_at_call 94; refine (refAt_1 x h _).mono ?_; rintro e w' ⟨rfl, rfl⟩)
 go_ret
 exact ⟨rfl, rfl⟩
theorem link_any (r : Nat) (m : Bool) (h : r < 9223372036854775808) (w : World) :
  Calls Tryz.prog 51 #[.int .i64 (r : Int), .bool m] w fun e w' => e = .returned (.int .u64 (linkN r m : Nat)) ∧ w = w' := by
 cases m
 all_goals
  go_enter Tryz.func51, Tryz.ntmps51
  go_wp2_with fail
  go_ret
  exact ⟨ret_u64 (by simp [linkN]; omega), rfl⟩
theorem mark_any (x : Nat) (h : x < 18446744073709551616) (w : World) :
  Calls Tryz.prog 54 #[.int .u64 (x : Int)] w fun e w' => e = .returned (.bool (markB x)) ∧ w = w' := by
 have hm := and_1 x h
 have L : Hid (markB x = (((x % 2 : Nat) : Int) == 1)) := Lib.hid (by unfold markB; rw [Bool.eq_iff_iff]; simp; omega)
 go_enter Tryz.func54, Tryz.ntmps54
 go_wp2_with fail
 go_ret
 exact ⟨ret_boolw L.out.symm, rfl⟩
theorem flagBits_any (b : Int) (w : World) :
  Calls Tryz.prog 139 #[.int .i64 b] w fun e w' => e = .returned (.int .u64 (bitsN b : Nat)) ∧ w = w' := by
 have hm : bits .and .u64 (IntKind.u64.wrap b) 3 = ((bitsN b : Nat) : Int) := by
  rw [IntKind.wrap_u64, and_mask 2 3 (by decide) (by omega) (by omega) (by decide)]
  unfold bitsN; omega
 go_enter Tryz.func139, Tryz.ntmps139
 go_wp2_with fail
 go_ret
 exact ⟨rfl, rfl⟩
theorem flag_any (s : Nat) (b : Int) (w : World) :
  Calls Tryz.prog 138 #[.int .u64 (s : Int), .int .i64 b] w fun e w' => e = .returned (.int .u64 (flagN s b : Nat)) ∧ w = w' := by
 have hb := bitsN_lt b
 have L : Hid (IntKind.u64.wrap (IntKind.u64.wrap ((s : Int) * 4) + (bitsN b : Int)) = ((flagN s b : Nat) : Int)) := Lib.hid (by
  rw [IntKind.wrap_u64, IntKind.wrap_u64]; unfold flagN; omega)
 go_enter Tryz.func138, Tryz.ntmps138
 go_wp2_with (go_at_call 139; refine (flagBits_any b _).mono ?_; rintro e w' ⟨rfl, rfl⟩)
 go_ret
 exact ⟨ret_u64 L.out, rfl⟩
theorem stamp_any (x : Nat) (w : World) :
  Calls Tryz.prog 148 #[.int .u64 (x : Int)] w fun e w' => e = .returned (.int .u64 (stampN x : Nat)) ∧ w = w' := by
 go_enter Tryz.func148, Tryz.ntmps148
 go_wp2_with fail
 go_ret
 exact ⟨ret_u64 (by unfold stampN; omega), rfl⟩
theorem has_at (x b : Nat) (hx : x < 18446744073709551616) (hb : b < 4) : (bits .and .u64 (x : Int) (b : Int) == (b : Int)) = decide ((b % 2 = 0 ∨ x % 2 = 1) ∧ (b < 2 ∨ x / 2 % 2 = 1)) := by
 have h4 : b = 0 ∨ b = 1 ∨ b = 2 ∨ b = 3 := by omega
 rw [Bool.eq_iff_iff, beq_iff_eq, decide_eq_true_iff]
 rcases h4 with rfl | rfl | rfl | rfl
 ·have := and_0 x hx; rw [show ((0 : Nat) : Int) = 0 from rfl, this]; omega
 ·have := and_1 x hx; rw [show ((1 : Nat) : Int) = 1 from rfl, this]; omega
 ·have := and_2 x hx; rw [show ((2 : Nat) : Int) = 2 from rfl, this]; omega
 ·have := and_3 x hx; rw [show ((3 : Nat) : Int) = 3 from rfl, this]; omega
theorem has_any (x : Nat) (b : Int) (h : x < 18446744073709551616) (w : World) :
  Calls Tryz.prog 93 #[.int .u64 (x : Int), .int .i64 b] w fun e w' => e = .returned (.bool (hasF x b)) ∧ w = w' := by
 have L : Hid ((bits .and .u64 (x : Int) ((bitsN b : Nat) : Int) == ((bitsN b : Nat) : Int)) = hasF x b) := Lib.hid (has_at x (bitsN b) h (bitsN_lt b))
 go_enter Tryz.func93, Tryz.ntmps93
 go_wp2_with (go_at_call 139; refine (flagBits_any b _).mono ?_; rintro e w' ⟨rfl, rfl⟩)
 go_ret
 exact ⟨ret_boolw L.out, rfl⟩
theorem ref_link {r : Nat} (m : Bool) (h : r < 1048576) : refN (linkN r m) = r := by unfold refN linkN; cases m <;> simp <;> omega
theorem first_lt (x : Nat) : firstN x < 1048576 := Nat.mod_lt _ (by decide)
end Go.Proofs.YtibpfkcackdbgaaGreatDoor
