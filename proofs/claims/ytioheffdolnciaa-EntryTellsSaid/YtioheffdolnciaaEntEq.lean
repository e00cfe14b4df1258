/-
  Two entries compared, and two texts.
-/
import Derived.Test.YtioheffdolnciaaEntShown
import Derived.Test.YtioheffdolnciaaLaw
import Derived.Test.YtioheffdolnciaaEntOpen
namespace Go.Proofs.Ytioheffdolnciaa
open Go.ChangeShapes Go.WideShapes Go.ChangeAt Go.RowKit
set_option linter.unusedVariables false
theorem cast_eq (a b : Nat) : ((a : Int) == (b : Int)) = decide (a = b) := by
  by_cases h : a = b
  · subst h; simp
  · rw [decide_eq_false h, beq_eq_false_iff_ne]; omega
theorem run_eq_ent (k s y u v x : _) (k' s' y' u' v' x' : _) (W : World) :
    (binOp .eql 24 (.agg #[.int .i64 k, .int .u64 ((s : Nat) : Int), .int .u64 ((y : Nat) : Int), .int .u64 ((u : Nat) : Int), .int .u64 ((v : Nat) : Int), .int .u64 ((x : Nat) : Int)])
      (.agg #[.int .i64 k', .int .u64 ((s' : Nat) : Int), .int .u64 ((y' : Nat) : Int), .int .u64 ((u' : Nat) : Int), .int .u64 ((v' : Nat) : Int), .int .u64 ((x' : Nat) : Int)])).run Try.prog W =
    .ok (.bool (decide (Ent.mk k s y u v x = Ent.mk k' s' y' u' v' x'))) W := by
  by_cases h0 : k = k'
  · subst h0
    by_cases h1 : s = s'
    · subst h1
      by_cases h2 : y = y'
      · subst h2
        by_cases h3 : u = u'
        · subst h3
          by_cases h4 : v = v'
          · subst h4
            by_cases h5 : x = x'
            · subst h5
              go_simp
            · have e := cast_eq x x'
              rw [decide_eq_false h5] at e
              go_simp
          · have e := cast_eq v v'
            rw [decide_eq_false h4] at e
            go_simp
        · have e := cast_eq u u'
          rw [decide_eq_false h3] at e
          go_simp
      · have e := cast_eq y y'
        rw [decide_eq_false h2] at e
        go_simp
    · have e := cast_eq s s'
      rw [decide_eq_false h1] at e
      go_simp
  · have e : (k == k') = false := by rw [beq_eq_false_iff_ne]; exact h0
    go_simp
/-- Two texts are the same just if their bytes are. -/
theorem strN_nums {xs : List Nat} (hx : Bytes xs) : (strN xs).data.toList.map UInt8.toNat = xs := by
  unfold strN
  rw [strOfNums_data, List.map_map, List.map_map]
  have : ∀ z ∈ xs, ((UInt8.toNat ∘ fun n : Int => UInt8.ofNat n.toNat) ∘ fun n : Nat => (n : Int)) z = id z := fun z hz => by
    have := hx z hz
    simp; omega
  rw [List.map_congr_left this, List.map_id]
theorem strN_inj {xs ys : List Nat} (hx : Bytes xs) (hy : Bytes ys) (h : strN xs = strN ys) : xs = ys := by
  rw [← strN_nums hx, ← strN_nums hy, h]
theorem strN_ne {xs ys : List Nat} (hx : Bytes xs) (hy : Bytes ys) (h : xs ≠ ys) : (strN xs == strN ys) = false ∧ ((strN xs).toList == (strN ys).toList) = false := by
  have h2 : ((strN xs).toList == (strN ys).toList) = false := by
    rw [beq_eq_false_iff_ne]
    intro e
    rw [ByteArray.toList_eq, ByteArray.toList_eq] at e
    exact h (by rw [← strN_nums hx, ← strN_nums hy, e])
  exact ⟨by rw [beq_toListBytes]; exact h2, h2⟩
end Go.Proofs.Ytioheffdolnciaa
