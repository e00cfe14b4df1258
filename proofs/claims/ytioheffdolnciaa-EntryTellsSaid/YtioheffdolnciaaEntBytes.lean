/-
  The contracts of the functions of package entry (layer 5) that lay and read numbers of eight bytes; and of the document's own answer.
-/
import Derived.Test.YtioheffdolnciaaOwns
import Derived.Test.YtioheffdolnciaaEnt
namespace Go.Proofs.Ytioheffdolnciaa
open Go.ChangeShapes Go.WideShapes Go.ChangeAt Go.RowKit
set_option linter.unusedVariables false

set_option maxHeartbeats 1000000 in
theorem lay8_any (v : Value) (base m : Nat) (xs : List Nat) (x : Nat) (hx : x < 18446744073709551616) (w : World) (hown : Hid (Own w base v m xs)) (hbase : base ≤ w.heap.size) (hb : m + 8 ≤ 140737488355328) :
    Calls Try.prog 16 #[v, .int .u64 (x : Int)] w (OwnPost w base (m + 8) (xs ++ leN 8 x)) := by
  go_enter Try.func16, Try.ntmps16
  go_wp2_with fail
  go_loopw [0, 1, 5] (fun u y i wr => ∃ k : Nat, k ≤ 8 ∧ i = .int .i64 k ∧ y = .int .u64 ((shN k x : Nat) : Int) ∧ LayRel w base m xs x wr u k) (fun _ _ i _ => 8 - (intOf i).toNat)
  case atStart => exact ⟨0, Nat.zero_le _, rfl, by rw [shN_zero], by show Own _ _ _ (m + 0) (xs ++ []); rw [List.append_nil]; exact hown.out, Below.refl _ _⟩
  case round =>
    obtain ⟨k, hk, rfl, rfl, hrel⟩ := hrel
    have HR := Lib.hid hrel
    have hsz := hrel.2.size
    clear hrel hown
    by_cases hlt : k < 8
    · have hs := shN_le k x
      have hs2 := Lib.hid (shN_succ k x)
      have S1 : Hid (Own wr base u0 (m + k) (xs ++ leN k x)) := Lib.hid HR.out.1
      generalize hq : shN k x = q at *
      have hq' := Lib.hid hq
      clear hq
      go_wp2_with (at_builtin; (refine wpList_append_bytes (by rfl) (.tmp 7) (.tmp 10) (by rfl) base u0 (m + k) (xs ++ leN k x) (by rfl) (Own.alloc S1.out _) (some ⟨wr.heap.size, 0, none⟩) 1 1 [q % 256] (by rfl) (AtB.one (by omega) (by simp)) (by omega) (by simp; omega) ?_); (intro v' w' hown' hgrow'; have S := Lib.hid (HR.out.step hbase (by rw [hq'.out]; exact hown') hgrow'); clear hown' hgrow'))
      go_roundw
      case rel => exact ⟨k + 1, by omega, by go_num, by rw [hs2.out]; go_num, S.out⟩
      case measure => simp [intOf]; omega
    · obtain rfl : k = 8 := by omega
      go_wp2_with fail
      go_ret
      exact ⟨u0, rfl, HR.out.1, HR.out.2⟩

theorem or_at64 {f y m : Nat} (i : Nat) (hm : m = 2 ^ i) (hf : f < m) (hb : f < 18446744073709551616) (hy : m * y < 18446744073709551616) : bits .or .u64 (f : Int) ((y : Int) * (m : Int)) = ((f + m * y : Nat) : Int) := by
  have := u64_or_nat f (m * y) hb hy
  rw [hm, or_beside y (by rw [← hm]; exact hf), ← hm] at this
  rw [← this]
  congr 1
  rw [Int.natCast_mul, Int.mul_comm]
set_option maxHeartbeats 1000000 in
theorem number8_some (b off len cap : Nat) (xs : List Nat) (w : World) (hl : xs.length = len) (h8 : len ≤ 8) (hB : Hid (Bytes xs))
    (hc : Hid (∀ j, j < len → w.cell? ⟨b, off + j, none⟩ = some (.int .u8 ((xs.getD j 0 : Nat) : Int)))) :
    Calls Try.prog 18 #[.slice (some ⟨b, off, none⟩) len cap] w fun e w' => e = .returned (.int .u64 ((numN xs : Nat) : Int)) ∧ w = w' := by
  have HL := Lib.hid hl
  clear hl
  go_enter Try.func18, Try.ntmps18
  go_wp2_with fail
  go_loop [3, 8] (fun t i => ∃ k : Nat, k ≤ len ∧ i = .int .i64 k ∧ t = .int .u64 ((numN (xs.take k) : Nat) : Int)) (fun _ i => len - (intOf i).toNat)
  case atStart => exact ⟨0, Nat.zero_le _, rfl, rfl⟩
  case round =>
    obtain ⟨k, hk, rfl, rfl⟩ := hrel
    by_cases hlt : k < len
    · have hcell := hc.out k hlt
      have hy := hB.out.getD k
      have hf := num_lt_take hB.out k (by rw [HL.out]; exact hk)
      have T := Lib.hid (num_take xs k (by rw [HL.out]; exact hlt))
      generalize xs.getD k 0 = y at *
      generalize numN (xs.take k) = f at *
      have hk8 : k = 0 ∨ k = 1 ∨ k = 2 ∨ k = 3 ∨ k = 4 ∨ k = 5 ∨ k = 6 ∨ k = 7 := by omega
      rcases hk8 with rfl | rfl | rfl | rfl | rfl | rfl | rfl | rfl
      · have E : Hid (bits .or .u64 (f : Int) (y : Int) = ((f + 256 ^ 0 * y : Nat) : Int)) := Lib.hid (by simpa using or_at64 (f := f) (y := y) (m := 1) 0 rfl (by simpa using hf) (by omega) (by omega))
        clear hf
        simp only [Nat.add_zero] at hcell
        go_wp2_with fail
        go_round
        case rel => exact ⟨1, by omega, by go_num, by rw [T.out, E.out]⟩
        case measure => simp [intOf]; omega
      · have E : Hid (bits .or .u64 (f : Int) ((y : Int) * 256) = ((f + 256 ^ 1 * y : Nat) : Int)) := Lib.hid (by simpa using or_at64 (f := f) (y := y) (m := 256) 8 rfl (by simpa using hf) (by omega) (by omega))
        clear hf
        go_wp2_with fail
        go_round
        case rel => exact ⟨2, by omega, by go_num, by rw [T.out, E.out]⟩
        case measure => simp [intOf]; omega
      · have E : Hid (bits .or .u64 (f : Int) ((y : Int) * 65536) = ((f + 256 ^ 2 * y : Nat) : Int)) := Lib.hid (by simpa using or_at64 (f := f) (y := y) (m := 65536) 16 rfl (by simpa using hf) (by omega) (by omega))
        clear hf
        go_wp2_with fail
        go_round
        case rel => exact ⟨3, by omega, by go_num, by rw [T.out, E.out]⟩
        case measure => simp [intOf]; omega
      · have E : Hid (bits .or .u64 (f : Int) ((y : Int) * 16777216) = ((f + 256 ^ 3 * y : Nat) : Int)) := Lib.hid (by simpa using or_at64 (f := f) (y := y) (m := 16777216) 24 rfl (by simpa using hf) (by omega) (by omega))
        clear hf
        go_wp2_with fail
        go_round
        case rel => exact ⟨4, by omega, by go_num, by rw [T.out, E.out]⟩
        case measure => simp [intOf]; omega
      · have E : Hid (bits .or .u64 (f : Int) ((y : Int) * 4294967296) = ((f + 256 ^ 4 * y : Nat) : Int)) := Lib.hid (by simpa using or_at64 (f := f) (y := y) (m := 4294967296) 32 rfl (by simpa using hf) (by omega) (by omega))
        clear hf
        go_wp2_with fail
        go_round
        case rel => exact ⟨5, by omega, by go_num, by rw [T.out, E.out]⟩
        case measure => simp [intOf]; omega
      · have E : Hid (bits .or .u64 (f : Int) ((y : Int) * 1099511627776) = ((f + 256 ^ 5 * y : Nat) : Int)) := Lib.hid (by simpa using or_at64 (f := f) (y := y) (m := 1099511627776) 40 rfl (by simpa using hf) (by omega) (by omega))
        clear hf
        go_wp2_with fail
        go_round
        case rel => exact ⟨6, by omega, by go_num, by rw [T.out, E.out]⟩
        case measure => simp [intOf]; omega
      · have E : Hid (bits .or .u64 (f : Int) ((y : Int) * 281474976710656) = ((f + 256 ^ 6 * y : Nat) : Int)) := Lib.hid (by simpa using or_at64 (f := f) (y := y) (m := 281474976710656) 48 rfl (by simpa using hf) (by omega) (by omega))
        clear hf
        go_wp2_with fail
        go_round
        case rel => exact ⟨7, by omega, by go_num, by rw [T.out, E.out]⟩
        case measure => simp [intOf]; omega
      · have E : Hid (bits .or .u64 (f : Int) ((y : Int) * 72057594037927936) = ((f + 256 ^ 7 * y : Nat) : Int)) := Lib.hid (by simpa using or_at64 (f := f) (y := y) (m := 72057594037927936) 56 rfl (by simpa using hf) (by omega) (by omega))
        clear hf
        go_wp2_with fail
        go_round
        case rel => exact ⟨8, by omega, by go_num, by rw [T.out, E.out]⟩
        case measure => simp [intOf]; omega
    · obtain rfl : k = len := by omega
      rw [List.take_of_length_le (by rw [HL.out]; exact Nat.le_refl _)]
      go_wp2_with fail
      go_ret
      exact ⟨rfl, rfl⟩
theorem number8_at (a : Option Addr) (cap : Nat) (xs : List Nat) (w : World) (h : AtB w a 8 xs) :
    Calls Try.prog 18 #[.slice a 8 cap] w fun e w' => e = .returned (.int .u64 ((numN xs : Nat) : Int)) ∧ w = w' := by
  obtain ⟨h1, h2, h3, hc⟩ := h
  obtain ⟨b, off, rfl, _, hc⟩ := hc (by omega)
  exact number8_some b off 8 cap xs w h1 (by omega) (Lib.hid h2) (Lib.hid hc)
end Go.Proofs.Ytioheffdolnciaa
