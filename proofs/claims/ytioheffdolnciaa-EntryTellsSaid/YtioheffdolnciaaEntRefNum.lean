/-
  The contracts of the document's own answer for layer 5 (entries): numbers as eight bytes, laid and read.
-/
import Derived.Test.YtioheffdolnciaaEntBytes
namespace Go.Proofs.Ytioheffdolnciaa
open Go.ChangeShapes Go.WideShapes Go.ChangeAt Go.RowKit
set_option linter.unusedVariables false

set_option maxHeartbeats 1000000 in
theorem eight_any (x : Nat) (hx : x < 18446744073709551616) (w : World) :
    Calls Try.prog 17 #[.int .u64 (x : Int)] w (OwnPost w w.heap.size 8 (leN 8 x)) := by
  go_enter Try.func17, Try.ntmps17
  go_wp2_with fail
  go_loopw [0, 3, 4] (fun y u i wr => ∃ k : Nat, k ≤ 8 ∧ i = .int .i64 k ∧ y = .int .u64 ((shN k x : Nat) : Int) ∧ LayRel w w.heap.size 0 [] x wr u k) (fun _ _ i _ => 8 - (intOf i).toNat)
  case atStart => exact ⟨0, Nat.zero_le _, rfl, by rw [shN_zero], by show Own _ _ _ 0 []; exact ⟨fun x hx => by simp at hx, World.ownsRow_nil _ _ _ _⟩, Below.refl _ _⟩
  case round =>
    obtain ⟨k, hk, rfl, rfl, hrel⟩ := hrel
    have HR := Lib.hid hrel
    have hsz := hrel.2.size
    clear hrel
    by_cases hlt : k < 8
    · have hs := shN_le k x
      have hs2 := Lib.hid (shN_succ k x)
      have S1 : Hid (Own wr w.heap.size u3 (0 + k) ([] ++ leN k x)) := Lib.hid HR.out.1
      generalize hq : shN k x = q at *
      have hq' := Lib.hid hq
      clear hq
      go_wp2_with (at_builtin; (refine wpList_append_bytes (by rfl) (.tmp 9) (.tmp 13) (by rfl) w.heap.size u3 (0 + k) ([] ++ leN k x) (by rfl) (Own.alloc S1.out _) (some ⟨wr.heap.size, 0, none⟩) 1 1 [q % 256] (by rfl) (AtB.one (by omega) (by simp)) (by omega) (by simp; omega) ?_); (intro v' w' hown' hgrow'; have S := Lib.hid (HR.out.step (Nat.le_refl _) (by rw [hq'.out]; exact hown') hgrow'); clear hown' hgrow'))
      go_roundw
      case rel => exact ⟨k + 1, by omega, by go_num, by rw [hs2.out]; go_num, S.out⟩
      case measure => simp [intOf]; omega
    · obtain rfl : k = 8 := by omega
      go_wp2_with fail
      go_ret
      exact ⟨u3, rfl, HR.out.1, HR.out.2⟩

/-- The number of the bytes from the m-th on. -/
def tailN (l : List Nat) (m : Nat) : Nat := numN (l.drop m)
theorem tailN_step (l : List Nat) (m : Nat) (h : m < l.length) : tailN l m = l.getD m 0 + 256 * tailN l (m + 1) := by
  unfold tailN
  rw [List.drop_eq_getElem_cons h, numN, List.getD_eq_getElem?_getD, List.getElem?_eq_getElem h]
  rfl
theorem tailN_end (l : List Nat) : tailN l l.length = 0 := by unfold tailN; rw [List.drop_length]; rfl
theorem tailN_lt {l : List Nat} (h : Bytes l) (hl : l.length = 8) (m : Nat) (hm : 1 ≤ m) : tailN l m < 72057594037927936 := by
  unfold tailN
  have := num_lt (h.drop' m)
  have h2 : 256 ^ (l.drop m).length ≤ 256 ^ 7 := Nat.pow_le_pow_right (by omega) (by simp; omega)
  omega
set_option maxHeartbeats 1000000 in
theorem refNumber_some (b off len cap at_ : Nat) (l : List Nat) (w : World) (hlen : at_ + 8 ≤ len) (hbig : len ≤ 9223372036854775807) (hl : Hid (l.length = 8)) (hB : Hid (Bytes l))
    (hc : Hid (∀ j, j < 8 → w.cell? ⟨b, off + (at_ + j), none⟩ = some (.int .u8 ((l.getD j 0 : Nat) : Int)))) :
    Calls Try.prog 20 #[.slice (some ⟨b, off, none⟩) len cap, .int .i64 (at_ : Int)] w fun e w' => e = .returned (.int .u64 ((numN l : Nat) : Int)) ∧ w = w' := by
  go_enter Try.func20, Try.ntmps20
  go_wp2_with fail
  go_loop [5, 6] (fun t i => ∃ m : Nat, m ≤ 8 ∧ i = .int .i64 ((m : Int) - 1) ∧ t = .int .u64 ((tailN l m : Nat) : Int)) (fun _ i => (intOf i + 1).toNat)
  case atStart => exact ⟨8, by omega, rfl, by rw [← hl.out, tailN_end]; rfl⟩
  case round =>
    obtain ⟨m, hm, rfl, rfl⟩ := hrel
    have hm8 : m = 0 ∨ m = 1 ∨ m = 2 ∨ m = 3 ∨ m = 4 ∨ m = 5 ∨ m = 6 ∨ m = 7 ∨ m = 8 := by omega
    rcases hm8 with rfl | rfl | rfl | rfl | rfl | rfl | rfl | rfl | rfl
    · go_wp2_with fail
      go_ret
      exact ⟨rfl, rfl⟩
    · have hcell := hc.out 0 (by omega)
      simp only [Nat.add_zero] at hcell
      have hy := hB.out.getD 0
      have hf := tailN_lt hB.out hl.out 1 (by omega)
      have T := Lib.hid (tailN_step l 0 (by rw [hl.out]; omega))
      have i1 : (0 : Int) ≤ (at_ : Int) := by omega
      have i2 : (at_ : Int) < (len : Int) := by omega
      generalize l.getD 0 0 = y at *
      generalize tailN l 1 = f at *
      go_wp2_with fail
      go_round
      case rel => exact ⟨0, by omega, by first | rfl | go_num, by rw [T.out]; first | (congr 1; omega) | (go_num; omega) | (congr 1; simp; omega)⟩
      case measure => simp [intOf]
    · have hcell := hc.out 1 (by omega)
      have hy := hB.out.getD 1
      have hf := tailN_lt hB.out hl.out 2 (by omega)
      have T := Lib.hid (tailN_step l 1 (by rw [hl.out]; omega))
      have i1 : (0 : Int) ≤ (at_ : Int) + 1 := by omega
      have i2 : (at_ : Int) + 1 < (len : Int) := by omega
      generalize l.getD 1 0 = y at *
      generalize tailN l 2 = f at *
      go_wp2_with fail
      go_round
      case rel => exact ⟨1, by omega, by first | rfl | go_num, by rw [T.out]; first | (congr 1; omega) | (go_num; omega) | (congr 1; simp; omega)⟩
      case measure => simp [intOf]
    · have hcell := hc.out 2 (by omega)
      have hy := hB.out.getD 2
      have hf := tailN_lt hB.out hl.out 3 (by omega)
      have T := Lib.hid (tailN_step l 2 (by rw [hl.out]; omega))
      have i1 : (0 : Int) ≤ (at_ : Int) + 2 := by omega
      have i2 : (at_ : Int) + 2 < (len : Int) := by omega
      generalize l.getD 2 0 = y at *
      generalize tailN l 3 = f at *
      go_wp2_with fail
      go_round
      case rel => exact ⟨2, by omega, by first | rfl | go_num, by rw [T.out]; first | (congr 1; omega) | (go_num; omega) | (congr 1; simp; omega)⟩
      case measure => simp [intOf]
    · have hcell := hc.out 3 (by omega)
      have hy := hB.out.getD 3
      have hf := tailN_lt hB.out hl.out 4 (by omega)
      have T := Lib.hid (tailN_step l 3 (by rw [hl.out]; omega))
      have i1 : (0 : Int) ≤ (at_ : Int) + 3 := by omega
      have i2 : (at_ : Int) + 3 < (len : Int) := by omega
      generalize l.getD 3 0 = y at *
      generalize tailN l 4 = f at *
      go_wp2_with fail
      go_round
      case rel => exact ⟨3, by omega, by first | rfl | go_num, by rw [T.out]; first | (congr 1; omega) | (go_num; omega) | (congr 1; simp; omega)⟩
      case measure => simp [intOf]
    · have hcell := hc.out 4 (by omega)
      have hy := hB.out.getD 4
      have hf := tailN_lt hB.out hl.out 5 (by omega)
      have T := Lib.hid (tailN_step l 4 (by rw [hl.out]; omega))
      have i1 : (0 : Int) ≤ (at_ : Int) + 4 := by omega
      have i2 : (at_ : Int) + 4 < (len : Int) := by omega
      generalize l.getD 4 0 = y at *
      generalize tailN l 5 = f at *
      go_wp2_with fail
      go_round
      case rel => exact ⟨4, by omega, by first | rfl | go_num, by rw [T.out]; first | (congr 1; omega) | (go_num; omega) | (congr 1; simp; omega)⟩
      case measure => simp [intOf]
    · have hcell := hc.out 5 (by omega)
      have hy := hB.out.getD 5
      have hf := tailN_lt hB.out hl.out 6 (by omega)
      have T := Lib.hid (tailN_step l 5 (by rw [hl.out]; omega))
      have i1 : (0 : Int) ≤ (at_ : Int) + 5 := by omega
      have i2 : (at_ : Int) + 5 < (len : Int) := by omega
      generalize l.getD 5 0 = y at *
      generalize tailN l 6 = f at *
      go_wp2_with fail
      go_round
      case rel => exact ⟨5, by omega, by first | rfl | go_num, by rw [T.out]; first | (congr 1; omega) | (go_num; omega) | (congr 1; simp; omega)⟩
      case measure => simp [intOf]
    · have hcell := hc.out 6 (by omega)
      have hy := hB.out.getD 6
      have hf := tailN_lt hB.out hl.out 7 (by omega)
      have T := Lib.hid (tailN_step l 6 (by rw [hl.out]; omega))
      have i1 : (0 : Int) ≤ (at_ : Int) + 6 := by omega
      have i2 : (at_ : Int) + 6 < (len : Int) := by omega
      generalize l.getD 6 0 = y at *
      generalize tailN l 7 = f at *
      go_wp2_with fail
      go_round
      case rel => exact ⟨6, by omega, by first | rfl | go_num, by rw [T.out]; first | (congr 1; omega) | (go_num; omega) | (congr 1; simp; omega)⟩
      case measure => simp [intOf]
    · have hcell := hc.out 7 (by omega)
      have hy := hB.out.getD 7
      have hf := tailN_lt hB.out hl.out 8 (by omega)
      have T := Lib.hid (tailN_step l 7 (by rw [hl.out]; omega))
      have i1 : (0 : Int) ≤ (at_ : Int) + 7 := by omega
      have i2 : (at_ : Int) + 7 < (len : Int) := by omega
      generalize l.getD 7 0 = y at *
      generalize tailN l 8 = f at *
      go_wp2_with fail
      go_round
      case rel => exact ⟨7, by omega, by first | rfl | go_num, by rw [T.out]; first | (congr 1; omega) | (go_num; omega) | (congr 1; simp; omega)⟩
      case measure => simp [intOf]
theorem refNumber_at (A : Option Addr) (len cap at_ : Nat) (xs : List Nat) (w : World) (hlen : at_ + 8 ≤ len) (h : AtB w A len xs) :
    Calls Try.prog 20 #[.slice A len cap, .int .i64 (at_ : Int)] w fun e w' => e = .returned (.int .u64 ((numN ((xs.drop at_).take 8) : Nat) : Int)) ∧ w = w' := by
  obtain ⟨h1, h2, h3, hc⟩ := h
  obtain ⟨b, off, rfl, _, hc⟩ := hc (by omega)
  refine refNumber_some b off len cap at_ _ w hlen h3 (Lib.hid (by simp; omega)) (Lib.hid ((h2.drop' _).take 8)) (Lib.hid fun j hj => ?_)
  rw [hc (at_ + j) (by omega)]
  simp [List.getD_eq_getElem?_getD, hj]
end Go.Proofs.Ytioheffdolnciaa
