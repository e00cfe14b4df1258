/-
  The contract of the document's examples of layer 2: the function that asks them answers yes, and lays at most new memory.
-/
import Derived.Test.YtalhliickoflaaaRowsCalls
import Derived.RowKit3
import Derived.Below
namespace Go.Proofs.Ytalhliickoflaaa
open Go.ChangeShapes Go.WideShapes Go.ChangeAt Go.RowKit
set_option linter.unusedVariables false

theorem kind_is (n v : Int) (w : World) (h0 : 0 ≤ n) (h1 : n < 18446744073709551616) (h : kindI n = v) :
    Calls Try.prog 14 #[.int .u64 n] w fun e w' => e = .returned (.int .i64 v) ∧ w = w' := by
  rw [← h]; exact kind_any n w h0 h1
theorem less_is (a b : Int) (v : Bool) (w : World) (h0 : 0 ≤ a) (h1 : a < 18446744073709551616) (h2 : 0 ≤ b) (h3 : b < 18446744073709551616) (h : lessB a b = v) :
    Calls Try.prog 16 #[.int .u64 a, .int .u64 b] w fun e w' => e = .returned (.bool v) ∧ w = w' := by
  rw [← h]; exact less_any a b w h0 h1 h2 h3
theorem of_is (a : Int) (n : Nat) (w : World) (h : a.toNat = n) :
    Calls Try.prog 19 #[.int .u64 a] w fun e w' => e = .returned (.float .f64 n) ∧ w = w' := by
  rw [← h]; exact of_any a w
theorem bits_is (b : Nat) (v : Int) (w : World) (h : (b : Int) = v) :
    Calls Try.prog 18 #[.float .f64 b] w fun e w' => e = .returned (.int .u64 v) ∧ w = w' := by
  rw [← h]; exact bits_any b w

theorem greatest3 (b : Nat) (x y z v : Int) (w : World) (hx0 : 0 ≤ x) (hx1 : x < 18446744073709551616) (hy0 : 0 ≤ y) (hy1 : y < 18446744073709551616) (hz0 : 0 ≤ z) (hz1 : z < 18446744073709551616)
    (h0 : w.cell? ⟨b, 0, none⟩ = some (.int .u64 x)) (h1 : w.cell? ⟨b, 1, none⟩ = some (.int .u64 y)) (h2 : w.cell? ⟨b, 2, none⟩ = some (.int .u64 z)) (h : greI [x, y, z] = v) :
    Calls Try.prog 12 #[.slice (some ⟨b, 0, none⟩) 3 3] w fun e w' => e = .returned (.tuple #[.int .u64 v, .bool true]) ∧ w = w' := by
  rw [← h]
  refine greatest_any b 0 3 3 [x, y, z] w (Nat.le_refl 3) (by omega) ?_ ?_
  · intro q hq
    simp only [List.mem_cons, List.not_mem_nil, or_false] at hq
    rcases hq with rfl | rfl | rfl <;> omega
  · intro j hj
    have hj' : j < 3 := hj
    have : j = 0 ∨ j = 1 ∨ j = 2 := by omega
    rcases this with rfl | rfl | rfl
    · exact h0
    · exact h1
    · exact h2

/-- What the examples' asking leaves: yes, and one new block. -/
def ShownPost (w : World) (e : Ending) (w' : World) : Prop := e = .returned (.bool true) ∧ ∃ c t, w' = w.alloc (.cells c t)

set_option maxRecDepth 100000 in
theorem shown_post (w : World) :
    Calls Try.prog 11 #[] w (ShownPost w) := by
  have o2 : (FloatKind.f64.format.order 4611686018427387904 4611686018427387904 == some Ordering.eq) = true := by decide
  go_enter Try.func11, Try.ntmps11
  go_wp2_with fail
  refine (greatest3 w.heap.size 0 9223372036854775808 4607182418800017408 4607182418800017408 _ (by omega) (by omega) (by omega) (by omega) (by omega) (by omega) (by simp) (by simp) (by simp) (by decide)).mono ?_
  rintro e w' ⟨rfl, rfl⟩
  go_wp2_with fail
  refine (greatest_empty _ _ _).mono ?_
  rintro e w' ⟨rfl, rfl⟩
  go_wp2_with fail
  refine (bits_is _ 4607182418800017408 _ (by rfl)).mono ?_
  rintro e w' ⟨rfl, rfl⟩
  go_wp2_with fail
  refine (of_is _ 4611686018427387904 _ (by rfl)).mono ?_
  rintro e w' ⟨rfl, rfl⟩
  go_wp2_with fail
  refine (less_is _ _ true _ (by omega) (by omega) (by omega) (by omega) (by decide)).mono ?_
  rintro e w' ⟨rfl, rfl⟩
  go_wp2_with fail
  refine (less_is _ _ false _ (by omega) (by omega) (by omega) (by omega) (by decide)).mono ?_
  rintro e w' ⟨rfl, rfl⟩
  go_wp2_with fail
  refine (kind_is _ 0 _ (by omega) (by omega) (by decide)).mono ?_
  rintro e w' ⟨rfl, rfl⟩
  go_wp2_with fail
  refine (kind_is _ 1 _ (by omega) (by omega) (by decide)).mono ?_
  rintro e w' ⟨rfl, rfl⟩
  go_wp2_with fail
  refine (bits_is _ 4607182418800017408 _ (by rfl)).mono ?_
  rintro e w' ⟨rfl, rfl⟩
  go_wp2_with fail
  refine (kind_is _ 2 _ (by omega) (by omega) (by decide)).mono ?_
  rintro e w' ⟨rfl, rfl⟩
  go_wp2_with fail
  refine (kind_is _ 3 _ (by omega) (by omega) (by decide)).mono ?_
  rintro e w' ⟨rfl, rfl⟩
  go_wp2_with fail
  refine (kind_is _ 4 _ (by omega) (by omega) (by decide)).mono ?_
  rintro e w' ⟨rfl, rfl⟩
  go_wp2_with fail
  go_ret
  exact ⟨rfl, _, _, rfl⟩

theorem shown_any (w : World) :
    Calls Try.prog 11 #[] w fun e w' => e = .returned (.bool true) ∧ Grown w w' :=
  (shown_post w).mono fun e w' ⟨he, c, t, hw⟩ => ⟨he, hw ▸ (Grown.refl _).alloc _ _⟩

theorem shown_below (w : World) :
    Calls Try.prog 11 #[] w fun e w' => e = .returned (.bool true) ∧ Below w.heap.size w w' :=
  (shown_post w).mono fun e w' ⟨he, c, t, hw⟩ => ⟨he, hw ▸ (Below.refl _ _).alloc (Nat.le_refl _) _⟩
end Go.Proofs.Ytalhliickoflaaa
