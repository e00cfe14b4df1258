/-
  The contracts of the document's own answer for layer 3 (checks).
-/
import Derived.Test.YtalfjdlpmhmjkaaDoorCrcCalls
namespace Go.Proofs.YtalfjdlpmhmjkaaDoor
open Go.ChangeShapes Go.WideShapes Go.ChangeAt Go.RowKit
set_option linter.unusedVariables false

def iterN : Nat → Nat → Nat
  | 0, s => s
  | n + 1, s => stepN (iterN n s)
theorem iter_lt {n s : Nat} (h : s < 4294967296) : iterN n s < 4294967296 := by
  induction n with
  | zero => exact h
  | succ n ih => exact step_lt ih
theorem iter_even {n s : Nat} (h : iterN n s % 2 = 0) : iterN (n + 1) s = iterN n s / 2 := by
  show stepN _ = _; unfold stepN; rw [if_neg (by omega)]
theorem iter_odd {n s : Nat} (h : iterN n s % 2 = 1) : iterN (n + 1) s = iterN n s / 2 ^^^ 3988292384 := by
  show stepN _ = _; unfold stepN; rw [if_pos h]
theorem fold_take8 (s : Nat) (xs : List Nat) (k : Nat) (h : k < xs.length) : foldN s (xs.take (k + 1)) = iterN 8 (foldN s (xs.take k) ^^^ xs.getD k 0) := by
  rw [take_snoc xs k h, fold_append]; rfl

theorem refMore_some (s : Nat) (hs : s < 4294967296) (b off len cap : Nat) (xs : List Nat) (w : World) (hl : xs.length = len) (hbig : len ≤ 9223372036854775807) (hB : Hid (Bytes xs))
    (hc : Hid (∀ j, j < len → w.cell? ⟨b, off + j, none⟩ = some (.int .u8 ((xs.getD j 0 : Nat) : Int)))) :
    Calls Tryd.prog 21 #[.int .u32 (s : Int), .slice (some ⟨b, off, none⟩) len cap] w fun e w' => e = .returned (.int .u32 ((moreN s xs : Nat) : Int)) ∧ w = w' := by
  have HL := Lib.hid hl
  have HF : Hid (moreN s xs = 4294967295 - foldN (4294967295 - s) xs) := Lib.hid rfl
  clear hl
  go_enter Tryd.func21, Tryd.ntmps21
  go_wp2_with fail
  go_loop [5, 6] (fun t i => ∃ k : Nat, k ≤ len ∧ i = .int .i64 k ∧ t = .int .u32 ((foldN (4294967295 - s) (xs.take k) : Nat) : Int)) (fun _ i => len - (intOf i).toNat)
  case atStart => exact ⟨0, Nat.zero_le _, rfl, by rw [List.take_zero]; show _ = Value.int .u32 ((4294967295 - s : Nat) : Int); go_num⟩
  case round =>
    obtain ⟨k, hk, rfl, rfl⟩ := hrel
    have hf := fold_lt (s := 4294967295 - s) (by omega) (hB.out.take k)
    by_cases hlt : k < len
    · have hcell := hc.out k hlt
      have hy := hB.out.getD k
      have T := Lib.hid (fold_take8 (4294967295 - s) xs k (by rw [HL.out]; exact hlt))
      generalize xs.getD k 0 = y at *
      generalize foldN (4294967295 - s) (xs.take k) = f at *
      have e1 : bits .xor .u32 (f : Int) (y : Int) = ((f ^^^ y : Nat) : Int) := u32_xor_nat f y hf (by omega)
      have hx : f ^^^ y < 4294967296 := Nat.xor_lt_two_pow (n := 32) (by omega) (by omega)
      generalize f ^^^ y = x at *
      go_wp2_with fail
      go_loop [5, 7] (fun t i => ∃ n : Nat, n ≤ 8 ∧ i = .int .i64 n ∧ t = .int .u32 ((iterN n x : Nat) : Int)) (fun _ i => 8 - (intOf i).toNat)
      case atStart => exact ⟨0, Nat.zero_le _, rfl, rfl⟩
      case round =>
        obtain ⟨n, hn, rfl, rfl⟩ := hrel
        by_cases h8 : n < 8
        · have hi := iter_lt (n := n) hx
          have P0 : Hid (iterN n x % 2 = 0 → iterN (n + 1) x = iterN n x / 2) := Lib.hid iter_even
          have P1 : Hid (iterN n x % 2 = 1 → iterN (n + 1) x = iterN n x / 2 ^^^ 3988292384) := Lib.hid iter_odd
          clear e1
          by_cases hp : iterN n x % 2 = 1
          · have p1 := Lib.hid (P1.out hp)
            have q : ((iterN n x : Int) % 2 == 1) = true := by rw [beq_iff_eq]; omega
            generalize iterN n x = z at *
            have e2 : bits .xor .u32 ((z : Int) / 2) 3988292384 = ((z / 2 ^^^ 3988292384 : Nat) : Int) := u32_xor_nat (z / 2) 3988292384 (by omega) (by omega)
            clear P0 P1
            go_wp2_with fail
            go_round
            case rel => exact ⟨n + 1, by omega, by go_num, by rw [p1.out]⟩
            case measure => simp [intOf]; omega
          · have p1 := Lib.hid (P0.out (by omega))
            have q : ((iterN n x : Int) % 2 == 1) = false := by rw [beq_eq_false_iff_ne]; omega
            generalize iterN n x = z at *
            clear P0 P1
            go_wp2_with fail
            go_round
            case rel => exact ⟨n + 1, by omega, by go_num, by rw [p1.out]; go_num⟩
            case measure => simp [intOf]; omega
        · have hn8 : n = 8 := by omega
          subst hn8
          clear e1
          go_wp2_with fail
          go_round
          case rel => exact ⟨k + 1, by omega, by go_num, by rw [T.out]⟩
          case measure => simp [intOf]; omega
    · have hkl : k = len := by omega
      subst hkl
      rw [List.take_of_length_le (by rw [HL.out]; exact Nat.le_refl _)] at hf ⊢
      generalize foldN (4294967295 - s) xs = f at *
      go_wp2_with fail
      have ec : ((4294967295 - f : Nat) : Int) = 4294967295 - (f : Int) := by omega
      rw [HF.out, ec]
      go_ret
      exact ⟨rfl, rfl⟩

theorem refMore_empty (s : Nat) (hs : s < 4294967296) (a : Option Addr) (cap : Nat) (w : World) :
    Calls Tryd.prog 21 #[.int .u32 (s : Int), .slice a 0 cap] w fun e w' => e = .returned (.int .u32 (s : Int)) ∧ w = w' := by
  go_enter Tryd.func21, Tryd.ntmps21
  go_wp2_with fail
  go_loop [5, 6] (fun t i => i = .int .i64 0 ∧ t = .int .u32 (4294967295 - (s : Int))) (fun _ _ => 0)
  case atStart => exact ⟨rfl, rfl⟩
  case round =>
    obtain ⟨rfl, rfl⟩ := hrel
    have ec : 4294967295 - (4294967295 - (s : Int)) = (s : Int) := by omega
    go_wp2_with fail
    go_ret
    exact ⟨rfl, rfl⟩

theorem refMore_at (s : Nat) (hs : s < 4294967296) (a : Option Addr) (len cap : Nat) (xs : List Nat) (w : World) (h : AtB w a len xs) :
    Calls Tryd.prog 21 #[.int .u32 (s : Int), .slice a len cap] w fun e w' => e = .returned (.int .u32 ((moreN s xs : Nat) : Int)) ∧ w = w' := by
  obtain ⟨h1, h2, h3, h4⟩ := h
  by_cases hp : 0 < len
  · obtain ⟨b, off, rfl, _, hc⟩ := h4 hp
    exact refMore_some s hs b off len cap xs w h1 h3 (Lib.hid h2) (Lib.hid hc)
  · obtain rfl : len = 0 := by omega
    have : xs = [] := by simpa using h1
    subst this
    rw [more_nil s hs]
    exact refMore_empty s hs a cap w

theorem refSum_at (a : Option Addr) (len cap : Nat) (xs : List Nat) (w : World) (h : AtB w a len xs) :
    Calls Tryd.prog 17 #[.slice a len cap] w fun e w' => e = .returned (.int .u32 ((moreN 0 xs : Nat) : Int)) ∧ w = w' := by
  have HM := Lib.hid (refMore_at 0 (by omega) a len cap xs w h)
  clear h
  go_enter Tryd.func17, Tryd.ntmps17
  go_wp2_with fail
  refine HM.out.mono ?_
  rintro e w' ⟨rfl, rfl⟩
  go_wp2_with fail
  go_ret
  exact ⟨rfl, rfl⟩
end Go.Proofs.YtalfjdlpmhmjkaaDoor
