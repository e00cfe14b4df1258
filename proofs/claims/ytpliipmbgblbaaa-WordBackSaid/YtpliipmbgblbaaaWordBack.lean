/-
  WordBack: for every two numbers, a mark, a number of 64 bits and bits, what is put in comes out again, and two words that are the same hold the same. No condition.
-/
import Derived.Test.YtpliipmbgblbaaaWrdShown
import Derived.Test.YtpliipmbgblbaaaLaw
import Derived.Test.YtpliipmbgblbaaaFields
namespace Go.Proofs.Ytpliipmbgblbaaa.wordBack
open Go.ChangeShapes Go.WideShapes Go.ChangeAt Go.RowKit Go.Deep
set_option linter.unusedVariables false
theorem own : ownKnob Try.prog.godebug = none := by kernel_rfl

set_option maxRecDepth 100000 in
set_option maxHeartbeats 4000000 in
theorem walk0 (r o n b s g l l2 l3 f t E : Nat) (m p : Bool) (hr : isRef (r : Int)) (ho : isRef (o : Int)) (hb0 : b < 256) (hn : n < 18446744073709551616)
    (hx : (b : Int) % 4 = 0) (hs : (n : Int) / 4 = (s : Int)) (hg : (n : Int) / 1048576 = (g : Int))
    (hl : ((l2 : Int) == (l : Int)) = p) (ho2 : ((o : Int) == (r : Int)) = p) (hl3 : ((l3 : Int) != (l : Int)) = true)
    (c1 : ∀ w, Calls Try.prog 12 #[.int .i64 (r : Int), .bool m] w (fun e w' => e = .returned (.int .u64 (l : Int)) ∧ w = w'))
    (c2 : ∀ w, Calls Try.prog 18 #[.int .u64 (s : Int), .int .i64 0] w (fun e w' => e = .returned (.int .u64 (f : Int)) ∧ w = w'))
    (c3 : ∀ w, Calls Try.prog 24 #[.int .i64 (r : Int), .int .u64 (g : Int)] w (fun e w' => e = .returned (.int .u64 (t : Int)) ∧ w = w'))
    (c4 : ∀ w, Calls Try.prog 30 #[.int .i64 (r : Int), .int .i64 (o : Int)] w (fun e w' => e = .returned (.int .u64 (E : Int)) ∧ w = w'))
    (c5 : ∀ w, Calls Try.prog 10 #[.int .u64 (E : Int)] w (fun e w' => e = .returned (.tuple #[.int .i64 (r : Int), .int .i64 (o : Int)]) ∧ w = w'))
    (h0 : ∀ w, Calls Try.prog 22 #[.int .u64 (f : Int), .int .i64 0] w (fun e w' => e = .returned (.bool true) ∧ w = w'))
    (h1 : ∀ w, Calls Try.prog 22 #[.int .u64 (f : Int), .int .i64 1] w (fun e w' => e = .returned (.bool false) ∧ w = w'))
    (h2 : ∀ w, Calls Try.prog 22 #[.int .u64 (f : Int), .int .i64 2] w (fun e w' => e = .returned (.bool false) ∧ w = w'))
    (h3 : ∀ w, Calls Try.prog 22 #[.int .u64 (f : Int), .int .i64 3] w (fun e w' => e = .returned (.bool false) ∧ w = w'))
    (c6 : ∀ w, Calls Try.prog 14 #[.int .u64 (l : Int)] w (fun e w' => e = .returned (.int .i64 (r : Int)) ∧ w = w'))
    (c7 : ∀ w, Calls Try.prog 16 #[.int .u64 (l : Int)] w (fun e w' => e = .returned (.bool m) ∧ w = w'))
    (c8 : ∀ w, Calls Try.prog 20 #[.int .u64 (f : Int)] w (fun e w' => e = .returned (.int .u64 (s : Int)) ∧ w = w'))
    (c9 : ∀ w, Calls Try.prog 26 #[.int .u64 (t : Int)] w (fun e w' => e = .returned (.int .i64 (r : Int)) ∧ w = w'))
    (d1 : ∀ w, Calls Try.prog 28 #[.int .u64 (t : Int)] w (fun e w' => e = .returned (.int .u64 (g : Int)) ∧ w = w'))
    (d2 : ∀ w, Calls Try.prog 12 #[.int .i64 (o : Int), .bool m] w (fun e w' => e = .returned (.int .u64 (l2 : Int)) ∧ w = w'))
    (d3 : ∀ w, Calls Try.prog 12 #[.int .i64 (r : Int), .bool !m] w (fun e w' => e = .returned (.int .u64 (l3 : Int)) ∧ w = w')) (w : World) :
    Calls Try.prog 4 #[.agg #[.int .i64 (r : Int), .int .i64 (o : Int), .bool m, .int .u64 (n : Int), .int .u8 (b : Int)]] w fun e w' => e = .returned (.bool true) ∧ Below w.heap.size w w' := by
  have H1 := Lib.hid hl
  have H2 := Lib.hid ho2
  have H3 := Lib.hid hl3
  clear hl ho2 hl3
  go_enter Try.func4, Try.ntmps4
  go_wp2_with (first | (go_at_call 8; (with_reducible refine (shown_any _).mono ?_); rintro e w' ⟨rfl, rfl⟩) | (go_at_call 9; (with_reducible refine (refIs_yes _ _ hr).mono ?_); rintro e w' ⟨rfl, rfl⟩) | (go_at_call 9; (with_reducible refine (refIs_yes _ _ ho).mono ?_); rintro e w' ⟨rfl, rfl⟩) | (go_at_call 12; (with_reducible refine (c1 _).mono ?_); rintro e w' ⟨rfl, rfl⟩) | (go_at_call 18; (with_reducible refine (c2 _).mono ?_); rintro e w' ⟨rfl, rfl⟩) | (go_at_call 24; (with_reducible refine (c3 _).mono ?_); rintro e w' ⟨rfl, rfl⟩) | (go_at_call 30; (with_reducible refine (c4 _).mono ?_); rintro e w' ⟨rfl, rfl⟩) | (go_at_call 10; (with_reducible refine (c5 _).mono ?_); rintro e w' ⟨rfl, rfl⟩) | (go_at_call 14; (with_reducible refine (c6 _).mono ?_); rintro e w' ⟨rfl, rfl⟩) | (go_at_call 16; (with_reducible refine (c7 _).mono ?_); rintro e w' ⟨rfl, rfl⟩) | (go_at_call 20; (with_reducible refine (c8 _).mono ?_); rintro e w' ⟨rfl, rfl⟩) | (go_at_call 26; (with_reducible refine (c9 _).mono ?_); rintro e w' ⟨rfl, rfl⟩) | (go_at_call 28; (with_reducible refine (d1 _).mono ?_); rintro e w' ⟨rfl, rfl⟩) | (go_at_call 12; (with_reducible refine (d2 _).mono ?_); rintro e w' ⟨rfl, rfl⟩) | (go_at_call 12; (with_reducible refine (d3 _).mono ?_); rintro e w' ⟨rfl, rfl⟩))
  go_loop [17] (fun k => ∃ j : Nat, j ≤ 4 ∧ k = .int .i64 j) (fun k => 4 - (intOf k).toNat)
  case atStart => exact ⟨0, by omega, rfl⟩
  case round =>
    obtain ⟨j, hj, rfl⟩ := hrel
    obtain rfl | rfl | rfl | rfl | rfl : j = 0 ∨ j = 1 ∨ j = 2 ∨ j = 3 ∨ j = 4 := by omega
    · rw [show ((0 : Nat) : Int) = 0 from rfl]
      go_wp2_with (first | (go_at_call 22; (with_reducible refine (h0 _).mono ?_); rintro e w' ⟨rfl, rfl⟩))
      go_round
      case rel => exact ⟨0 + 1, by omega, by first | rfl | go_num⟩
      case measure => simp [intOf]
    · rw [show ((1 : Nat) : Int) = 1 from rfl]
      go_wp2_with (first | (go_at_call 22; (with_reducible refine (h1 _).mono ?_); rintro e w' ⟨rfl, rfl⟩))
      go_round
      case rel => exact ⟨1 + 1, by omega, by first | rfl | go_num⟩
      case measure => simp [intOf]
    · rw [show ((2 : Nat) : Int) = 2 from rfl]
      go_wp2_with (first | (go_at_call 22; (with_reducible refine (h2 _).mono ?_); rintro e w' ⟨rfl, rfl⟩))
      go_round
      case rel => exact ⟨2 + 1, by omega, by first | rfl | go_num⟩
      case measure => simp [intOf]
    · rw [show ((3 : Nat) : Int) = 3 from rfl]
      go_wp2_with (first | (go_at_call 22; (with_reducible refine (h3 _).mono ?_); rintro e w' ⟨rfl, rfl⟩))
      go_round
      case rel => exact ⟨3 + 1, by omega, by first | rfl | go_num⟩
      case measure => simp [intOf]
    · rw [show ((4 : Nat) : Int) = 4 from rfl]
      have hl := H1.out
      have ho2 := H2.out
      have hl3 := H3.out
      go_wp2_with (first | (go_at_call 8; (with_reducible refine (shown_any _).mono ?_); rintro e w' ⟨rfl, rfl⟩) | (go_at_call 9; (with_reducible refine (refIs_yes _ _ hr).mono ?_); rintro e w' ⟨rfl, rfl⟩) | (go_at_call 9; (with_reducible refine (refIs_yes _ _ ho).mono ?_); rintro e w' ⟨rfl, rfl⟩) | (go_at_call 12; (with_reducible refine (c1 _).mono ?_); rintro e w' ⟨rfl, rfl⟩) | (go_at_call 18; (with_reducible refine (c2 _).mono ?_); rintro e w' ⟨rfl, rfl⟩) | (go_at_call 24; (with_reducible refine (c3 _).mono ?_); rintro e w' ⟨rfl, rfl⟩) | (go_at_call 30; (with_reducible refine (c4 _).mono ?_); rintro e w' ⟨rfl, rfl⟩) | (go_at_call 10; (with_reducible refine (c5 _).mono ?_); rintro e w' ⟨rfl, rfl⟩) | (go_at_call 14; (with_reducible refine (c6 _).mono ?_); rintro e w' ⟨rfl, rfl⟩) | (go_at_call 16; (with_reducible refine (c7 _).mono ?_); rintro e w' ⟨rfl, rfl⟩) | (go_at_call 20; (with_reducible refine (c8 _).mono ?_); rintro e w' ⟨rfl, rfl⟩) | (go_at_call 26; (with_reducible refine (c9 _).mono ?_); rintro e w' ⟨rfl, rfl⟩) | (go_at_call 28; (with_reducible refine (d1 _).mono ?_); rintro e w' ⟨rfl, rfl⟩) | (go_at_call 12; (with_reducible refine (d2 _).mono ?_); rintro e w' ⟨rfl, rfl⟩) | (go_at_call 12; (with_reducible refine (d3 _).mono ?_); rintro e w' ⟨rfl, rfl⟩))
      go_ret
      exact ⟨rfl, by first | exact Below.refl _ _ | exact (Below.refl _ w).alloc (Nat.le_refl _) _ | exact Below.drew ((Below.refl _ w).alloc (Nat.le_refl _) _) | exact ((Below.refl _ w).alloc (Nat.le_refl _) _).alloc (by simp) _ | exact (((Below.refl _ w).alloc (Nat.le_refl _) _).alloc (by simp) _).alloc (by simp; omega) _⟩

set_option maxRecDepth 100000 in
set_option maxHeartbeats 4000000 in
theorem walk1 (r o n b s g l l2 l3 f t E : Nat) (m p : Bool) (hr : isRef (r : Int)) (ho : isRef (o : Int)) (hb0 : b < 256) (hn : n < 18446744073709551616)
    (hx : (b : Int) % 4 = 1) (hs : (n : Int) / 4 = (s : Int)) (hg : (n : Int) / 1048576 = (g : Int))
    (hl : ((l2 : Int) == (l : Int)) = p) (ho2 : ((o : Int) == (r : Int)) = p) (hl3 : ((l3 : Int) != (l : Int)) = true)
    (c1 : ∀ w, Calls Try.prog 12 #[.int .i64 (r : Int), .bool m] w (fun e w' => e = .returned (.int .u64 (l : Int)) ∧ w = w'))
    (c2 : ∀ w, Calls Try.prog 18 #[.int .u64 (s : Int), .int .i64 1] w (fun e w' => e = .returned (.int .u64 (f : Int)) ∧ w = w'))
    (c3 : ∀ w, Calls Try.prog 24 #[.int .i64 (r : Int), .int .u64 (g : Int)] w (fun e w' => e = .returned (.int .u64 (t : Int)) ∧ w = w'))
    (c4 : ∀ w, Calls Try.prog 30 #[.int .i64 (r : Int), .int .i64 (o : Int)] w (fun e w' => e = .returned (.int .u64 (E : Int)) ∧ w = w'))
    (c5 : ∀ w, Calls Try.prog 10 #[.int .u64 (E : Int)] w (fun e w' => e = .returned (.tuple #[.int .i64 (r : Int), .int .i64 (o : Int)]) ∧ w = w'))
    (h0 : ∀ w, Calls Try.prog 22 #[.int .u64 (f : Int), .int .i64 0] w (fun e w' => e = .returned (.bool true) ∧ w = w'))
    (h1 : ∀ w, Calls Try.prog 22 #[.int .u64 (f : Int), .int .i64 1] w (fun e w' => e = .returned (.bool true) ∧ w = w'))
    (h2 : ∀ w, Calls Try.prog 22 #[.int .u64 (f : Int), .int .i64 2] w (fun e w' => e = .returned (.bool false) ∧ w = w'))
    (h3 : ∀ w, Calls Try.prog 22 #[.int .u64 (f : Int), .int .i64 3] w (fun e w' => e = .returned (.bool false) ∧ w = w'))
    (c6 : ∀ w, Calls Try.prog 14 #[.int .u64 (l : Int)] w (fun e w' => e = .returned (.int .i64 (r : Int)) ∧ w = w'))
    (c7 : ∀ w, Calls Try.prog 16 #[.int .u64 (l : Int)] w (fun e w' => e = .returned (.bool m) ∧ w = w'))
    (c8 : ∀ w, Calls Try.prog 20 #[.int .u64 (f : Int)] w (fun e w' => e = .returned (.int .u64 (s : Int)) ∧ w = w'))
    (c9 : ∀ w, Calls Try.prog 26 #[.int .u64 (t : Int)] w (fun e w' => e = .returned (.int .i64 (r : Int)) ∧ w = w'))
    (d1 : ∀ w, Calls Try.prog 28 #[.int .u64 (t : Int)] w (fun e w' => e = .returned (.int .u64 (g : Int)) ∧ w = w'))
    (d2 : ∀ w, Calls Try.prog 12 #[.int .i64 (o : Int), .bool m] w (fun e w' => e = .returned (.int .u64 (l2 : Int)) ∧ w = w'))
    (d3 : ∀ w, Calls Try.prog 12 #[.int .i64 (r : Int), .bool !m] w (fun e w' => e = .returned (.int .u64 (l3 : Int)) ∧ w = w')) (w : World) :
    Calls Try.prog 4 #[.agg #[.int .i64 (r : Int), .int .i64 (o : Int), .bool m, .int .u64 (n : Int), .int .u8 (b : Int)]] w fun e w' => e = .returned (.bool true) ∧ Below w.heap.size w w' := by
  have H1 := Lib.hid hl
  have H2 := Lib.hid ho2
  have H3 := Lib.hid hl3
  clear hl ho2 hl3
  go_enter Try.func4, Try.ntmps4
  go_wp2_with (first | (go_at_call 8; (with_reducible refine (shown_any _).mono ?_); rintro e w' ⟨rfl, rfl⟩) | (go_at_call 9; (with_reducible refine (refIs_yes _ _ hr).mono ?_); rintro e w' ⟨rfl, rfl⟩) | (go_at_call 9; (with_reducible refine (refIs_yes _ _ ho).mono ?_); rintro e w' ⟨rfl, rfl⟩) | (go_at_call 12; (with_reducible refine (c1 _).mono ?_); rintro e w' ⟨rfl, rfl⟩) | (go_at_call 18; (with_reducible refine (c2 _).mono ?_); rintro e w' ⟨rfl, rfl⟩) | (go_at_call 24; (with_reducible refine (c3 _).mono ?_); rintro e w' ⟨rfl, rfl⟩) | (go_at_call 30; (with_reducible refine (c4 _).mono ?_); rintro e w' ⟨rfl, rfl⟩) | (go_at_call 10; (with_reducible refine (c5 _).mono ?_); rintro e w' ⟨rfl, rfl⟩) | (go_at_call 14; (with_reducible refine (c6 _).mono ?_); rintro e w' ⟨rfl, rfl⟩) | (go_at_call 16; (with_reducible refine (c7 _).mono ?_); rintro e w' ⟨rfl, rfl⟩) | (go_at_call 20; (with_reducible refine (c8 _).mono ?_); rintro e w' ⟨rfl, rfl⟩) | (go_at_call 26; (with_reducible refine (c9 _).mono ?_); rintro e w' ⟨rfl, rfl⟩) | (go_at_call 28; (with_reducible refine (d1 _).mono ?_); rintro e w' ⟨rfl, rfl⟩) | (go_at_call 12; (with_reducible refine (d2 _).mono ?_); rintro e w' ⟨rfl, rfl⟩) | (go_at_call 12; (with_reducible refine (d3 _).mono ?_); rintro e w' ⟨rfl, rfl⟩))
  go_loop [17] (fun k => ∃ j : Nat, j ≤ 4 ∧ k = .int .i64 j) (fun k => 4 - (intOf k).toNat)
  case atStart => exact ⟨0, by omega, rfl⟩
  case round =>
    obtain ⟨j, hj, rfl⟩ := hrel
    obtain rfl | rfl | rfl | rfl | rfl : j = 0 ∨ j = 1 ∨ j = 2 ∨ j = 3 ∨ j = 4 := by omega
    · rw [show ((0 : Nat) : Int) = 0 from rfl]
      go_wp2_with (first | (go_at_call 22; (with_reducible refine (h0 _).mono ?_); rintro e w' ⟨rfl, rfl⟩))
      go_round
      case rel => exact ⟨0 + 1, by omega, by first | rfl | go_num⟩
      case measure => simp [intOf]
    · rw [show ((1 : Nat) : Int) = 1 from rfl]
      go_wp2_with (first | (go_at_call 22; (with_reducible refine (h1 _).mono ?_); rintro e w' ⟨rfl, rfl⟩))
      go_round
      case rel => exact ⟨1 + 1, by omega, by first | rfl | go_num⟩
      case measure => simp [intOf]
    · rw [show ((2 : Nat) : Int) = 2 from rfl]
      go_wp2_with (first | (go_at_call 22; (with_reducible refine (h2 _).mono ?_); rintro e w' ⟨rfl, rfl⟩))
      go_round
      case rel => exact ⟨2 + 1, by omega, by first | rfl | go_num⟩
      case measure => simp [intOf]
    · rw [show ((3 : Nat) : Int) = 3 from rfl]
      go_wp2_with (first | (go_at_call 22; (with_reducible refine (h3 _).mono ?_); rintro e w' ⟨rfl, rfl⟩))
      go_round
      case rel => exact ⟨3 + 1, by omega, by first | rfl | go_num⟩
      case measure => simp [intOf]
    · rw [show ((4 : Nat) : Int) = 4 from rfl]
      have hl := H1.out
      have ho2 := H2.out
      have hl3 := H3.out
      go_wp2_with (first | (go_at_call 8; (with_reducible refine (shown_any _).mono ?_); rintro e w' ⟨rfl, rfl⟩) | (go_at_call 9; (with_reducible refine (refIs_yes _ _ hr).mono ?_); rintro e w' ⟨rfl, rfl⟩) | (go_at_call 9; (with_reducible refine (refIs_yes _ _ ho).mono ?_); rintro e w' ⟨rfl, rfl⟩) | (go_at_call 12; (with_reducible refine (c1 _).mono ?_); rintro e w' ⟨rfl, rfl⟩) | (go_at_call 18; (with_reducible refine (c2 _).mono ?_); rintro e w' ⟨rfl, rfl⟩) | (go_at_call 24; (with_reducible refine (c3 _).mono ?_); rintro e w' ⟨rfl, rfl⟩) | (go_at_call 30; (with_reducible refine (c4 _).mono ?_); rintro e w' ⟨rfl, rfl⟩) | (go_at_call 10; (with_reducible refine (c5 _).mono ?_); rintro e w' ⟨rfl, rfl⟩) | (go_at_call 14; (with_reducible refine (c6 _).mono ?_); rintro e w' ⟨rfl, rfl⟩) | (go_at_call 16; (with_reducible refine (c7 _).mono ?_); rintro e w' ⟨rfl, rfl⟩) | (go_at_call 20; (with_reducible refine (c8 _).mono ?_); rintro e w' ⟨rfl, rfl⟩) | (go_at_call 26; (with_reducible refine (c9 _).mono ?_); rintro e w' ⟨rfl, rfl⟩) | (go_at_call 28; (with_reducible refine (d1 _).mono ?_); rintro e w' ⟨rfl, rfl⟩) | (go_at_call 12; (with_reducible refine (d2 _).mono ?_); rintro e w' ⟨rfl, rfl⟩) | (go_at_call 12; (with_reducible refine (d3 _).mono ?_); rintro e w' ⟨rfl, rfl⟩))
      go_ret
      exact ⟨rfl, by first | exact Below.refl _ _ | exact (Below.refl _ w).alloc (Nat.le_refl _) _ | exact Below.drew ((Below.refl _ w).alloc (Nat.le_refl _) _) | exact ((Below.refl _ w).alloc (Nat.le_refl _) _).alloc (by simp) _ | exact (((Below.refl _ w).alloc (Nat.le_refl _) _).alloc (by simp) _).alloc (by simp; omega) _⟩

set_option maxRecDepth 100000 in
set_option maxHeartbeats 4000000 in
theorem walk2 (r o n b s g l l2 l3 f t E : Nat) (m p : Bool) (hr : isRef (r : Int)) (ho : isRef (o : Int)) (hb0 : b < 256) (hn : n < 18446744073709551616)
    (hx : (b : Int) % 4 = 2) (hs : (n : Int) / 4 = (s : Int)) (hg : (n : Int) / 1048576 = (g : Int))
    (hl : ((l2 : Int) == (l : Int)) = p) (ho2 : ((o : Int) == (r : Int)) = p) (hl3 : ((l3 : Int) != (l : Int)) = true)
    (c1 : ∀ w, Calls Try.prog 12 #[.int .i64 (r : Int), .bool m] w (fun e w' => e = .returned (.int .u64 (l : Int)) ∧ w = w'))
    (c2 : ∀ w, Calls Try.prog 18 #[.int .u64 (s : Int), .int .i64 2] w (fun e w' => e = .returned (.int .u64 (f : Int)) ∧ w = w'))
    (c3 : ∀ w, Calls Try.prog 24 #[.int .i64 (r : Int), .int .u64 (g : Int)] w (fun e w' => e = .returned (.int .u64 (t : Int)) ∧ w = w'))
    (c4 : ∀ w, Calls Try.prog 30 #[.int .i64 (r : Int), .int .i64 (o : Int)] w (fun e w' => e = .returned (.int .u64 (E : Int)) ∧ w = w'))
    (c5 : ∀ w, Calls Try.prog 10 #[.int .u64 (E : Int)] w (fun e w' => e = .returned (.tuple #[.int .i64 (r : Int), .int .i64 (o : Int)]) ∧ w = w'))
    (h0 : ∀ w, Calls Try.prog 22 #[.int .u64 (f : Int), .int .i64 0] w (fun e w' => e = .returned (.bool true) ∧ w = w'))
    (h1 : ∀ w, Calls Try.prog 22 #[.int .u64 (f : Int), .int .i64 1] w (fun e w' => e = .returned (.bool false) ∧ w = w'))
    (h2 : ∀ w, Calls Try.prog 22 #[.int .u64 (f : Int), .int .i64 2] w (fun e w' => e = .returned (.bool true) ∧ w = w'))
    (h3 : ∀ w, Calls Try.prog 22 #[.int .u64 (f : Int), .int .i64 3] w (fun e w' => e = .returned (.bool false) ∧ w = w'))
    (c6 : ∀ w, Calls Try.prog 14 #[.int .u64 (l : Int)] w (fun e w' => e = .returned (.int .i64 (r : Int)) ∧ w = w'))
    (c7 : ∀ w, Calls Try.prog 16 #[.int .u64 (l : Int)] w (fun e w' => e = .returned (.bool m) ∧ w = w'))
    (c8 : ∀ w, Calls Try.prog 20 #[.int .u64 (f : Int)] w (fun e w' => e = .returned (.int .u64 (s : Int)) ∧ w = w'))
    (c9 : ∀ w, Calls Try.prog 26 #[.int .u64 (t : Int)] w (fun e w' => e = .returned (.int .i64 (r : Int)) ∧ w = w'))
    (d1 : ∀ w, Calls Try.prog 28 #[.int .u64 (t : Int)] w (fun e w' => e = .returned (.int .u64 (g : Int)) ∧ w = w'))
    (d2 : ∀ w, Calls Try.prog 12 #[.int .i64 (o : Int), .bool m] w (fun e w' => e = .returned (.int .u64 (l2 : Int)) ∧ w = w'))
    (d3 : ∀ w, Calls Try.prog 12 #[.int .i64 (r : Int), .bool !m] w (fun e w' => e = .returned (.int .u64 (l3 : Int)) ∧ w = w')) (w : World) :
    Calls Try.prog 4 #[.agg #[.int .i64 (r : Int), .int .i64 (o : Int), .bool m, .int .u64 (n : Int), .int .u8 (b : Int)]] w fun e w' => e = .returned (.bool true) ∧ Below w.heap.size w w' := by
  have H1 := Lib.hid hl
  have H2 := Lib.hid ho2
  have H3 := Lib.hid hl3
  clear hl ho2 hl3
  go_enter Try.func4, Try.ntmps4
  go_wp2_with (first | (go_at_call 8; (with_reducible refine (shown_any _).mono ?_); rintro e w' ⟨rfl, rfl⟩) | (go_at_call 9; (with_reducible refine (refIs_yes _ _ hr).mono ?_); rintro e w' ⟨rfl, rfl⟩) | (go_at_call 9; (with_reducible refine (refIs_yes _ _ ho).mono ?_); rintro e w' ⟨rfl, rfl⟩) | (go_at_call 12; (with_reducible refine (c1 _).mono ?_); rintro e w' ⟨rfl, rfl⟩) | (go_at_call 18; (with_reducible refine (c2 _).mono ?_); rintro e w' ⟨rfl, rfl⟩) | (go_at_call 24; (with_reducible refine (c3 _).mono ?_); rintro e w' ⟨rfl, rfl⟩) | (go_at_call 30; (with_reducible refine (c4 _).mono ?_); rintro e w' ⟨rfl, rfl⟩) | (go_at_call 10; (with_reducible refine (c5 _).mono ?_); rintro e w' ⟨rfl, rfl⟩) | (go_at_call 14; (with_reducible refine (c6 _).mono ?_); rintro e w' ⟨rfl, rfl⟩) | (go_at_call 16; (with_reducible refine (c7 _).mono ?_); rintro e w' ⟨rfl, rfl⟩) | (go_at_call 20; (with_reducible refine (c8 _).mono ?_); rintro e w' ⟨rfl, rfl⟩) | (go_at_call 26; (with_reducible refine (c9 _).mono ?_); rintro e w' ⟨rfl, rfl⟩) | (go_at_call 28; (with_reducible refine (d1 _).mono ?_); rintro e w' ⟨rfl, rfl⟩) | (go_at_call 12; (with_reducible refine (d2 _).mono ?_); rintro e w' ⟨rfl, rfl⟩) | (go_at_call 12; (with_reducible refine (d3 _).mono ?_); rintro e w' ⟨rfl, rfl⟩))
  go_loop [17] (fun k => ∃ j : Nat, j ≤ 4 ∧ k = .int .i64 j) (fun k => 4 - (intOf k).toNat)
  case atStart => exact ⟨0, by omega, rfl⟩
  case round =>
    obtain ⟨j, hj, rfl⟩ := hrel
    obtain rfl | rfl | rfl | rfl | rfl : j = 0 ∨ j = 1 ∨ j = 2 ∨ j = 3 ∨ j = 4 := by omega
    · rw [show ((0 : Nat) : Int) = 0 from rfl]
      go_wp2_with (first | (go_at_call 22; (with_reducible refine (h0 _).mono ?_); rintro e w' ⟨rfl, rfl⟩))
      go_round
      case rel => exact ⟨0 + 1, by omega, by first | rfl | go_num⟩
      case measure => simp [intOf]
    · rw [show ((1 : Nat) : Int) = 1 from rfl]
      go_wp2_with (first | (go_at_call 22; (with_reducible refine (h1 _).mono ?_); rintro e w' ⟨rfl, rfl⟩))
      go_round
      case rel => exact ⟨1 + 1, by omega, by first | rfl | go_num⟩
      case measure => simp [intOf]
    · rw [show ((2 : Nat) : Int) = 2 from rfl]
      go_wp2_with (first | (go_at_call 22; (with_reducible refine (h2 _).mono ?_); rintro e w' ⟨rfl, rfl⟩))
      go_round
      case rel => exact ⟨2 + 1, by omega, by first | rfl | go_num⟩
      case measure => simp [intOf]
    · rw [show ((3 : Nat) : Int) = 3 from rfl]
      go_wp2_with (first | (go_at_call 22; (with_reducible refine (h3 _).mono ?_); rintro e w' ⟨rfl, rfl⟩))
      go_round
      case rel => exact ⟨3 + 1, by omega, by first | rfl | go_num⟩
      case measure => simp [intOf]
    · rw [show ((4 : Nat) : Int) = 4 from rfl]
      have hl := H1.out
      have ho2 := H2.out
      have hl3 := H3.out
      go_wp2_with (first | (go_at_call 8; (with_reducible refine (shown_any _).mono ?_); rintro e w' ⟨rfl, rfl⟩) | (go_at_call 9; (with_reducible refine (refIs_yes _ _ hr).mono ?_); rintro e w' ⟨rfl, rfl⟩) | (go_at_call 9; (with_reducible refine (refIs_yes _ _ ho).mono ?_); rintro e w' ⟨rfl, rfl⟩) | (go_at_call 12; (with_reducible refine (c1 _).mono ?_); rintro e w' ⟨rfl, rfl⟩) | (go_at_call 18; (with_reducible refine (c2 _).mono ?_); rintro e w' ⟨rfl, rfl⟩) | (go_at_call 24; (with_reducible refine (c3 _).mono ?_); rintro e w' ⟨rfl, rfl⟩) | (go_at_call 30; (with_reducible refine (c4 _).mono ?_); rintro e w' ⟨rfl, rfl⟩) | (go_at_call 10; (with_reducible refine (c5 _).mono ?_); rintro e w' ⟨rfl, rfl⟩) | (go_at_call 14; (with_reducible refine (c6 _).mono ?_); rintro e w' ⟨rfl, rfl⟩) | (go_at_call 16; (with_reducible refine (c7 _).mono ?_); rintro e w' ⟨rfl, rfl⟩) | (go_at_call 20; (with_reducible refine (c8 _).mono ?_); rintro e w' ⟨rfl, rfl⟩) | (go_at_call 26; (with_reducible refine (c9 _).mono ?_); rintro e w' ⟨rfl, rfl⟩) | (go_at_call 28; (with_reducible refine (d1 _).mono ?_); rintro e w' ⟨rfl, rfl⟩) | (go_at_call 12; (with_reducible refine (d2 _).mono ?_); rintro e w' ⟨rfl, rfl⟩) | (go_at_call 12; (with_reducible refine (d3 _).mono ?_); rintro e w' ⟨rfl, rfl⟩))
      go_ret
      exact ⟨rfl, by first | exact Below.refl _ _ | exact (Below.refl _ w).alloc (Nat.le_refl _) _ | exact Below.drew ((Below.refl _ w).alloc (Nat.le_refl _) _) | exact ((Below.refl _ w).alloc (Nat.le_refl _) _).alloc (by simp) _ | exact (((Below.refl _ w).alloc (Nat.le_refl _) _).alloc (by simp) _).alloc (by simp; omega) _⟩

set_option maxRecDepth 100000 in
set_option maxHeartbeats 4000000 in
theorem walk3 (r o n b s g l l2 l3 f t E : Nat) (m p : Bool) (hr : isRef (r : Int)) (ho : isRef (o : Int)) (hb0 : b < 256) (hn : n < 18446744073709551616)
    (hx : (b : Int) % 4 = 3) (hs : (n : Int) / 4 = (s : Int)) (hg : (n : Int) / 1048576 = (g : Int))
    (hl : ((l2 : Int) == (l : Int)) = p) (ho2 : ((o : Int) == (r : Int)) = p) (hl3 : ((l3 : Int) != (l : Int)) = true)
    (c1 : ∀ w, Calls Try.prog 12 #[.int .i64 (r : Int), .bool m] w (fun e w' => e = .returned (.int .u64 (l : Int)) ∧ w = w'))
    (c2 : ∀ w, Calls Try.prog 18 #[.int .u64 (s : Int), .int .i64 3] w (fun e w' => e = .returned (.int .u64 (f : Int)) ∧ w = w'))
    (c3 : ∀ w, Calls Try.prog 24 #[.int .i64 (r : Int), .int .u64 (g : Int)] w (fun e w' => e = .returned (.int .u64 (t : Int)) ∧ w = w'))
    (c4 : ∀ w, Calls Try.prog 30 #[.int .i64 (r : Int), .int .i64 (o : Int)] w (fun e w' => e = .returned (.int .u64 (E : Int)) ∧ w = w'))
    (c5 : ∀ w, Calls Try.prog 10 #[.int .u64 (E : Int)] w (fun e w' => e = .returned (.tuple #[.int .i64 (r : Int), .int .i64 (o : Int)]) ∧ w = w'))
    (h0 : ∀ w, Calls Try.prog 22 #[.int .u64 (f : Int), .int .i64 0] w (fun e w' => e = .returned (.bool true) ∧ w = w'))
    (h1 : ∀ w, Calls Try.prog 22 #[.int .u64 (f : Int), .int .i64 1] w (fun e w' => e = .returned (.bool true) ∧ w = w'))
    (h2 : ∀ w, Calls Try.prog 22 #[.int .u64 (f : Int), .int .i64 2] w (fun e w' => e = .returned (.bool true) ∧ w = w'))
    (h3 : ∀ w, Calls Try.prog 22 #[.int .u64 (f : Int), .int .i64 3] w (fun e w' => e = .returned (.bool true) ∧ w = w'))
    (c6 : ∀ w, Calls Try.prog 14 #[.int .u64 (l : Int)] w (fun e w' => e = .returned (.int .i64 (r : Int)) ∧ w = w'))
    (c7 : ∀ w, Calls Try.prog 16 #[.int .u64 (l : Int)] w (fun e w' => e = .returned (.bool m) ∧ w = w'))
    (c8 : ∀ w, Calls Try.prog 20 #[.int .u64 (f : Int)] w (fun e w' => e = .returned (.int .u64 (s : Int)) ∧ w = w'))
    (c9 : ∀ w, Calls Try.prog 26 #[.int .u64 (t : Int)] w (fun e w' => e = .returned (.int .i64 (r : Int)) ∧ w = w'))
    (d1 : ∀ w, Calls Try.prog 28 #[.int .u64 (t : Int)] w (fun e w' => e = .returned (.int .u64 (g : Int)) ∧ w = w'))
    (d2 : ∀ w, Calls Try.prog 12 #[.int .i64 (o : Int), .bool m] w (fun e w' => e = .returned (.int .u64 (l2 : Int)) ∧ w = w'))
    (d3 : ∀ w, Calls Try.prog 12 #[.int .i64 (r : Int), .bool !m] w (fun e w' => e = .returned (.int .u64 (l3 : Int)) ∧ w = w')) (w : World) :
    Calls Try.prog 4 #[.agg #[.int .i64 (r : Int), .int .i64 (o : Int), .bool m, .int .u64 (n : Int), .int .u8 (b : Int)]] w fun e w' => e = .returned (.bool true) ∧ Below w.heap.size w w' := by
  have H1 := Lib.hid hl
  have H2 := Lib.hid ho2
  have H3 := Lib.hid hl3
  clear hl ho2 hl3
  go_enter Try.func4, Try.ntmps4
  go_wp2_with (first | (go_at_call 8; (with_reducible refine (shown_any _).mono ?_); rintro e w' ⟨rfl, rfl⟩) | (go_at_call 9; (with_reducible refine (refIs_yes _ _ hr).mono ?_); rintro e w' ⟨rfl, rfl⟩) | (go_at_call 9; (with_reducible refine (refIs_yes _ _ ho).mono ?_); rintro e w' ⟨rfl, rfl⟩) | (go_at_call 12; (with_reducible refine (c1 _).mono ?_); rintro e w' ⟨rfl, rfl⟩) | (go_at_call 18; (with_reducible refine (c2 _).mono ?_); rintro e w' ⟨rfl, rfl⟩) | (go_at_call 24; (with_reducible refine (c3 _).mono ?_); rintro e w' ⟨rfl, rfl⟩) | (go_at_call 30; (with_reducible refine (c4 _).mono ?_); rintro e w' ⟨rfl, rfl⟩) | (go_at_call 10; (with_reducible refine (c5 _).mono ?_); rintro e w' ⟨rfl, rfl⟩) | (go_at_call 14; (with_reducible refine (c6 _).mono ?_); rintro e w' ⟨rfl, rfl⟩) | (go_at_call 16; (with_reducible refine (c7 _).mono ?_); rintro e w' ⟨rfl, rfl⟩) | (go_at_call 20; (with_reducible refine (c8 _).mono ?_); rintro e w' ⟨rfl, rfl⟩) | (go_at_call 26; (with_reducible refine (c9 _).mono ?_); rintro e w' ⟨rfl, rfl⟩) | (go_at_call 28; (with_reducible refine (d1 _).mono ?_); rintro e w' ⟨rfl, rfl⟩) | (go_at_call 12; (with_reducible refine (d2 _).mono ?_); rintro e w' ⟨rfl, rfl⟩) | (go_at_call 12; (with_reducible refine (d3 _).mono ?_); rintro e w' ⟨rfl, rfl⟩))
  go_loop [17] (fun k => ∃ j : Nat, j ≤ 4 ∧ k = .int .i64 j) (fun k => 4 - (intOf k).toNat)
  case atStart => exact ⟨0, by omega, rfl⟩
  case round =>
    obtain ⟨j, hj, rfl⟩ := hrel
    obtain rfl | rfl | rfl | rfl | rfl : j = 0 ∨ j = 1 ∨ j = 2 ∨ j = 3 ∨ j = 4 := by omega
    · rw [show ((0 : Nat) : Int) = 0 from rfl]
      go_wp2_with (first | (go_at_call 22; (with_reducible refine (h0 _).mono ?_); rintro e w' ⟨rfl, rfl⟩))
      go_round
      case rel => exact ⟨0 + 1, by omega, by first | rfl | go_num⟩
      case measure => simp [intOf]
    · rw [show ((1 : Nat) : Int) = 1 from rfl]
      go_wp2_with (first | (go_at_call 22; (with_reducible refine (h1 _).mono ?_); rintro e w' ⟨rfl, rfl⟩))
      go_round
      case rel => exact ⟨1 + 1, by omega, by first | rfl | go_num⟩
      case measure => simp [intOf]
    · rw [show ((2 : Nat) : Int) = 2 from rfl]
      go_wp2_with (first | (go_at_call 22; (with_reducible refine (h2 _).mono ?_); rintro e w' ⟨rfl, rfl⟩))
      go_round
      case rel => exact ⟨2 + 1, by omega, by first | rfl | go_num⟩
      case measure => simp [intOf]
    · rw [show ((3 : Nat) : Int) = 3 from rfl]
      go_wp2_with (first | (go_at_call 22; (with_reducible refine (h3 _).mono ?_); rintro e w' ⟨rfl, rfl⟩))
      go_round
      case rel => exact ⟨3 + 1, by omega, by first | rfl | go_num⟩
      case measure => simp [intOf]
    · rw [show ((4 : Nat) : Int) = 4 from rfl]
      have hl := H1.out
      have ho2 := H2.out
      have hl3 := H3.out
      go_wp2_with (first | (go_at_call 8; (with_reducible refine (shown_any _).mono ?_); rintro e w' ⟨rfl, rfl⟩) | (go_at_call 9; (with_reducible refine (refIs_yes _ _ hr).mono ?_); rintro e w' ⟨rfl, rfl⟩) | (go_at_call 9; (with_reducible refine (refIs_yes _ _ ho).mono ?_); rintro e w' ⟨rfl, rfl⟩) | (go_at_call 12; (with_reducible refine (c1 _).mono ?_); rintro e w' ⟨rfl, rfl⟩) | (go_at_call 18; (with_reducible refine (c2 _).mono ?_); rintro e w' ⟨rfl, rfl⟩) | (go_at_call 24; (with_reducible refine (c3 _).mono ?_); rintro e w' ⟨rfl, rfl⟩) | (go_at_call 30; (with_reducible refine (c4 _).mono ?_); rintro e w' ⟨rfl, rfl⟩) | (go_at_call 10; (with_reducible refine (c5 _).mono ?_); rintro e w' ⟨rfl, rfl⟩) | (go_at_call 14; (with_reducible refine (c6 _).mono ?_); rintro e w' ⟨rfl, rfl⟩) | (go_at_call 16; (with_reducible refine (c7 _).mono ?_); rintro e w' ⟨rfl, rfl⟩) | (go_at_call 20; (with_reducible refine (c8 _).mono ?_); rintro e w' ⟨rfl, rfl⟩) | (go_at_call 26; (with_reducible refine (c9 _).mono ?_); rintro e w' ⟨rfl, rfl⟩) | (go_at_call 28; (with_reducible refine (d1 _).mono ?_); rintro e w' ⟨rfl, rfl⟩) | (go_at_call 12; (with_reducible refine (d2 _).mono ?_); rintro e w' ⟨rfl, rfl⟩) | (go_at_call 12; (with_reducible refine (d3 _).mono ?_); rintro e w' ⟨rfl, rfl⟩))
      go_ret
      exact ⟨rfl, by first | exact Below.refl _ _ | exact (Below.refl _ w).alloc (Nat.le_refl _) _ | exact Below.drew ((Below.refl _ w).alloc (Nat.le_refl _) _) | exact ((Below.refl _ w).alloc (Nat.le_refl _) _).alloc (by simp) _ | exact (((Below.refl _ w).alloc (Nat.le_refl _) _).alloc (by simp) _).alloc (by simp; omega) _⟩

theorem walkN1 (r o : Int) (n b : Nat) (m : Bool) (hr : ¬ isRef r) (w : World) :
    Calls Try.prog 4 #[.agg #[.int .i64 r, .int .i64 o, .bool m, .int .u64 (n : Int), .int .u8 (b : Int)]] w fun e w' => e = .returned (.bool true) ∧ Below w.heap.size w w' := by
  go_enter Try.func4, Try.ntmps4
  go_wp2_with (first | (go_at_call 8; (with_reducible refine (shown_any _).mono ?_); rintro e w' ⟨rfl, rfl⟩) | (go_at_call 9; (with_reducible refine (refIs_no _ _ hr).mono ?_); rintro e w' ⟨rfl, rfl⟩))
  go_ret
  exact ⟨rfl, by first | exact Below.refl _ _ | exact (Below.refl _ w).alloc (Nat.le_refl _) _ | exact Below.drew ((Below.refl _ w).alloc (Nat.le_refl _) _) | exact ((Below.refl _ w).alloc (Nat.le_refl _) _).alloc (by simp) _ | exact (((Below.refl _ w).alloc (Nat.le_refl _) _).alloc (by simp) _).alloc (by simp; omega) _⟩

theorem walkN2 (r o : Int) (n b : Nat) (m : Bool) (hr : isRef r) (ho : ¬ isRef o) (w : World) :
    Calls Try.prog 4 #[.agg #[.int .i64 r, .int .i64 o, .bool m, .int .u64 (n : Int), .int .u8 (b : Int)]] w fun e w' => e = .returned (.bool true) ∧ Below w.heap.size w w' := by
  go_enter Try.func4, Try.ntmps4
  go_wp2_with (first | (go_at_call 8; (with_reducible refine (shown_any _).mono ?_); rintro e w' ⟨rfl, rfl⟩) | (go_at_call 9; (with_reducible refine (refIs_yes _ _ hr).mono ?_); rintro e w' ⟨rfl, rfl⟩) | (go_at_call 9; (with_reducible refine (refIs_no _ _ ho).mono ?_); rintro e w' ⟨rfl, rfl⟩))
  go_ret
  exact ⟨rfl, by first | exact Below.refl _ _ | exact (Below.refl _ w).alloc (Nat.le_refl _) _ | exact Below.drew ((Below.refl _ w).alloc (Nat.le_refl _) _) | exact ((Below.refl _ w).alloc (Nat.le_refl _) _).alloc (by simp) _ | exact (((Below.refl _ w).alloc (Nat.le_refl _) _).alloc (by simp) _).alloc (by simp; omega) _⟩

theorem has_flag (s x k : Nat) (hs : s < 4611686018427387904) (hx : x < 4) (hk : k < 4) : hasB (flagN s (x : Int)) (k : Int) = ((k == 0) || (x == 3) || (x == k)) := by
  have e1 : bitsN (x : Int) = x := by unfold bitsN; omega
  have e2 : bitsN (k : Int) = k := by unfold bitsN; omega
  have e3 : flagN s (x : Int) = 4 * s + x := by unfold flagN; rw [e1]; omega
  unfold hasB
  rw [e2, e3, Bool.eq_iff_iff]
  simp only [Bool.and_eq_true, Bool.or_eq_true, beq_iff_eq, decide_eq_true_iff]
  omega
theorem fin0 (r o n b : Nat) (m : Bool) (hr : r < 1048576) (ho : o < 1048576) (hn : n < 18446744073709551616) (hb : b < 256) (hx : (b : Int) % 4 = 0) (w : World) :
    Calls Try.prog 4 #[.agg #[.int .i64 (r : Int), .int .i64 (o : Int), .bool m, .int .u64 (n : Int), .int .u8 (b : Int)]] w fun e w' => e = .returned (.bool true) ∧ Below w.heap.size w w' := by
  have hs : n / 4 < 4611686018427387904 := by omega
  refine walk0 r o n b (n / 4) (n / 1048576) (linkN r m) (linkN o m) (linkN r (!m)) (flagN (n / 4) 0) (topN r (n / 1048576)) (endsN r o) m (o == r) ⟨by omega, by omega⟩ ⟨by omega, by omega⟩ hb hn hx (by omega) (by omega) ?_ ?_ ?_
    (link_any r m (by omega)) (flag_any _ _) (top_any r _ hr) (ends_any r o hr ho) ?_ ?_ ?_ ?_ ?_ ?_ ?_ ?_ ?_ ?_ (link_any o m (by omega)) (link_any r (!m) (by omega)) w
  · rw [Bool.eq_iff_iff, beq_iff_eq, beq_iff_eq]; unfold linkN; omega
  · rw [Bool.eq_iff_iff, beq_iff_eq, beq_iff_eq]; omega
  · rw [bne_iff_ne]; unfold linkN; cases m <;> simp <;> omega
  · intro w
    have h := pair_any (endsN r o) (by have := ends_lt hr ho; omega) w
    rw [first_ends hr, second_ends hr ho] at h
    exact h
  · intro w
    have h := has_any (flagN (n / 4) 0) 0 (flag_lt _ _) w
    rw [show hasB (flagN (n / 4) 0) 0 = true from (has_flag (n / 4) 0 0 hs (by decide) (by decide)).trans (by decide)] at h
    exact h
  · intro w
    have h := has_any (flagN (n / 4) 0) 1 (flag_lt _ _) w
    rw [show hasB (flagN (n / 4) 0) 1 = false from (has_flag (n / 4) 0 1 hs (by decide) (by decide)).trans (by decide)] at h
    exact h
  · intro w
    have h := has_any (flagN (n / 4) 0) 2 (flag_lt _ _) w
    rw [show hasB (flagN (n / 4) 0) 2 = false from (has_flag (n / 4) 0 2 hs (by decide) (by decide)).trans (by decide)] at h
    exact h
  · intro w
    have h := has_any (flagN (n / 4) 0) 3 (flag_lt _ _) w
    rw [show hasB (flagN (n / 4) 0) 3 = false from (has_flag (n / 4) 0 3 hs (by decide) (by decide)).trans (by decide)] at h
    exact h
  · intro w
    have h := ref_any (linkN r m) (by have := link_lt m hr; omega) w
    rw [ref_link m hr] at h
    exact h
  · intro w
    have h := mark_any (linkN r m) (by have := link_lt m hr; omega) w
    rw [mark_link] at h
    exact h
  · intro w
    have h := stamp_any (flagN (n / 4) 0) w
    rw [stamp_flag _ hs] at h
    exact h
  · intro w
    have h := first_any (topN r (n / 1048576)) (top_lt _ hr) w
    rw [first_top _ hr] at h
    exact h
  · intro w
    have h := tag_any (topN r (n / 1048576)) w
    rw [tag_top hr (by omega)] at h
    exact h
theorem fin1 (r o n b : Nat) (m : Bool) (hr : r < 1048576) (ho : o < 1048576) (hn : n < 18446744073709551616) (hb : b < 256) (hx : (b : Int) % 4 = 1) (w : World) :
    Calls Try.prog 4 #[.agg #[.int .i64 (r : Int), .int .i64 (o : Int), .bool m, .int .u64 (n : Int), .int .u8 (b : Int)]] w fun e w' => e = .returned (.bool true) ∧ Below w.heap.size w w' := by
  have hs : n / 4 < 4611686018427387904 := by omega
  refine walk1 r o n b (n / 4) (n / 1048576) (linkN r m) (linkN o m) (linkN r (!m)) (flagN (n / 4) 1) (topN r (n / 1048576)) (endsN r o) m (o == r) ⟨by omega, by omega⟩ ⟨by omega, by omega⟩ hb hn hx (by omega) (by omega) ?_ ?_ ?_
    (link_any r m (by omega)) (flag_any _ _) (top_any r _ hr) (ends_any r o hr ho) ?_ ?_ ?_ ?_ ?_ ?_ ?_ ?_ ?_ ?_ (link_any o m (by omega)) (link_any r (!m) (by omega)) w
  · rw [Bool.eq_iff_iff, beq_iff_eq, beq_iff_eq]; unfold linkN; omega
  · rw [Bool.eq_iff_iff, beq_iff_eq, beq_iff_eq]; omega
  · rw [bne_iff_ne]; unfold linkN; cases m <;> simp <;> omega
  · intro w
    have h := pair_any (endsN r o) (by have := ends_lt hr ho; omega) w
    rw [first_ends hr, second_ends hr ho] at h
    exact h
  · intro w
    have h := has_any (flagN (n / 4) 1) 0 (flag_lt _ _) w
    rw [show hasB (flagN (n / 4) 1) 0 = true from (has_flag (n / 4) 1 0 hs (by decide) (by decide)).trans (by decide)] at h
    exact h
  · intro w
    have h := has_any (flagN (n / 4) 1) 1 (flag_lt _ _) w
    rw [show hasB (flagN (n / 4) 1) 1 = true from (has_flag (n / 4) 1 1 hs (by decide) (by decide)).trans (by decide)] at h
    exact h
  · intro w
    have h := has_any (flagN (n / 4) 1) 2 (flag_lt _ _) w
    rw [show hasB (flagN (n / 4) 1) 2 = false from (has_flag (n / 4) 1 2 hs (by decide) (by decide)).trans (by decide)] at h
    exact h
  · intro w
    have h := has_any (flagN (n / 4) 1) 3 (flag_lt _ _) w
    rw [show hasB (flagN (n / 4) 1) 3 = false from (has_flag (n / 4) 1 3 hs (by decide) (by decide)).trans (by decide)] at h
    exact h
  · intro w
    have h := ref_any (linkN r m) (by have := link_lt m hr; omega) w
    rw [ref_link m hr] at h
    exact h
  · intro w
    have h := mark_any (linkN r m) (by have := link_lt m hr; omega) w
    rw [mark_link] at h
    exact h
  · intro w
    have h := stamp_any (flagN (n / 4) 1) w
    rw [stamp_flag _ hs] at h
    exact h
  · intro w
    have h := first_any (topN r (n / 1048576)) (top_lt _ hr) w
    rw [first_top _ hr] at h
    exact h
  · intro w
    have h := tag_any (topN r (n / 1048576)) w
    rw [tag_top hr (by omega)] at h
    exact h
theorem fin2 (r o n b : Nat) (m : Bool) (hr : r < 1048576) (ho : o < 1048576) (hn : n < 18446744073709551616) (hb : b < 256) (hx : (b : Int) % 4 = 2) (w : World) :
    Calls Try.prog 4 #[.agg #[.int .i64 (r : Int), .int .i64 (o : Int), .bool m, .int .u64 (n : Int), .int .u8 (b : Int)]] w fun e w' => e = .returned (.bool true) ∧ Below w.heap.size w w' := by
  have hs : n / 4 < 4611686018427387904 := by omega
  refine walk2 r o n b (n / 4) (n / 1048576) (linkN r m) (linkN o m) (linkN r (!m)) (flagN (n / 4) 2) (topN r (n / 1048576)) (endsN r o) m (o == r) ⟨by omega, by omega⟩ ⟨by omega, by omega⟩ hb hn hx (by omega) (by omega) ?_ ?_ ?_
    (link_any r m (by omega)) (flag_any _ _) (top_any r _ hr) (ends_any r o hr ho) ?_ ?_ ?_ ?_ ?_ ?_ ?_ ?_ ?_ ?_ (link_any o m (by omega)) (link_any r (!m) (by omega)) w
  · rw [Bool.eq_iff_iff, beq_iff_eq, beq_iff_eq]; unfold linkN; omega
  · rw [Bool.eq_iff_iff, beq_iff_eq, beq_iff_eq]; omega
  · rw [bne_iff_ne]; unfold linkN; cases m <;> simp <;> omega
  · intro w
    have h := pair_any (endsN r o) (by have := ends_lt hr ho; omega) w
    rw [first_ends hr, second_ends hr ho] at h
    exact h
  · intro w
    have h := has_any (flagN (n / 4) 2) 0 (flag_lt _ _) w
    rw [show hasB (flagN (n / 4) 2) 0 = true from (has_flag (n / 4) 2 0 hs (by decide) (by decide)).trans (by decide)] at h
    exact h
  · intro w
    have h := has_any (flagN (n / 4) 2) 1 (flag_lt _ _) w
    rw [show hasB (flagN (n / 4) 2) 1 = false from (has_flag (n / 4) 2 1 hs (by decide) (by decide)).trans (by decide)] at h
    exact h
  · intro w
    have h := has_any (flagN (n / 4) 2) 2 (flag_lt _ _) w
    rw [show hasB (flagN (n / 4) 2) 2 = true from (has_flag (n / 4) 2 2 hs (by decide) (by decide)).trans (by decide)] at h
    exact h
  · intro w
    have h := has_any (flagN (n / 4) 2) 3 (flag_lt _ _) w
    rw [show hasB (flagN (n / 4) 2) 3 = false from (has_flag (n / 4) 2 3 hs (by decide) (by decide)).trans (by decide)] at h
    exact h
  · intro w
    have h := ref_any (linkN r m) (by have := link_lt m hr; omega) w
    rw [ref_link m hr] at h
    exact h
  · intro w
    have h := mark_any (linkN r m) (by have := link_lt m hr; omega) w
    rw [mark_link] at h
    exact h
  · intro w
    have h := stamp_any (flagN (n / 4) 2) w
    rw [stamp_flag _ hs] at h
    exact h
  · intro w
    have h := first_any (topN r (n / 1048576)) (top_lt _ hr) w
    rw [first_top _ hr] at h
    exact h
  · intro w
    have h := tag_any (topN r (n / 1048576)) w
    rw [tag_top hr (by omega)] at h
    exact h
theorem fin3 (r o n b : Nat) (m : Bool) (hr : r < 1048576) (ho : o < 1048576) (hn : n < 18446744073709551616) (hb : b < 256) (hx : (b : Int) % 4 = 3) (w : World) :
    Calls Try.prog 4 #[.agg #[.int .i64 (r : Int), .int .i64 (o : Int), .bool m, .int .u64 (n : Int), .int .u8 (b : Int)]] w fun e w' => e = .returned (.bool true) ∧ Below w.heap.size w w' := by
  have hs : n / 4 < 4611686018427387904 := by omega
  refine walk3 r o n b (n / 4) (n / 1048576) (linkN r m) (linkN o m) (linkN r (!m)) (flagN (n / 4) 3) (topN r (n / 1048576)) (endsN r o) m (o == r) ⟨by omega, by omega⟩ ⟨by omega, by omega⟩ hb hn hx (by omega) (by omega) ?_ ?_ ?_
    (link_any r m (by omega)) (flag_any _ _) (top_any r _ hr) (ends_any r o hr ho) ?_ ?_ ?_ ?_ ?_ ?_ ?_ ?_ ?_ ?_ (link_any o m (by omega)) (link_any r (!m) (by omega)) w
  · rw [Bool.eq_iff_iff, beq_iff_eq, beq_iff_eq]; unfold linkN; omega
  · rw [Bool.eq_iff_iff, beq_iff_eq, beq_iff_eq]; omega
  · rw [bne_iff_ne]; unfold linkN; cases m <;> simp <;> omega
  · intro w
    have h := pair_any (endsN r o) (by have := ends_lt hr ho; omega) w
    rw [first_ends hr, second_ends hr ho] at h
    exact h
  · intro w
    have h := has_any (flagN (n / 4) 3) 0 (flag_lt _ _) w
    rw [show hasB (flagN (n / 4) 3) 0 = true from (has_flag (n / 4) 3 0 hs (by decide) (by decide)).trans (by decide)] at h
    exact h
  · intro w
    have h := has_any (flagN (n / 4) 3) 1 (flag_lt _ _) w
    rw [show hasB (flagN (n / 4) 3) 1 = true from (has_flag (n / 4) 3 1 hs (by decide) (by decide)).trans (by decide)] at h
    exact h
  · intro w
    have h := has_any (flagN (n / 4) 3) 2 (flag_lt _ _) w
    rw [show hasB (flagN (n / 4) 3) 2 = true from (has_flag (n / 4) 3 2 hs (by decide) (by decide)).trans (by decide)] at h
    exact h
  · intro w
    have h := has_any (flagN (n / 4) 3) 3 (flag_lt _ _) w
    rw [show hasB (flagN (n / 4) 3) 3 = true from (has_flag (n / 4) 3 3 hs (by decide) (by decide)).trans (by decide)] at h
    exact h
  · intro w
    have h := ref_any (linkN r m) (by have := link_lt m hr; omega) w
    rw [ref_link m hr] at h
    exact h
  · intro w
    have h := mark_any (linkN r m) (by have := link_lt m hr; omega) w
    rw [mark_link] at h
    exact h
  · intro w
    have h := stamp_any (flagN (n / 4) 3) w
    rw [stamp_flag _ hs] at h
    exact h
  · intro w
    have h := first_any (topN r (n / 1048576)) (top_lt _ hr) w
    rw [first_top _ hr] at h
    exact h
  · intro w
    have h := tag_any (topN r (n / 1048576)) w
    rw [tag_top hr (by omega)] at h
    exact h
theorem walk (r o n b : Nat) (m : Bool) (hr : r < 1048576) (ho : o < 1048576) (hn : n < 18446744073709551616) (hb : b < 256) (w : World) :
    Calls Try.prog 4 #[.agg #[.int .i64 (r : Int), .int .i64 (o : Int), .bool m, .int .u64 (n : Int), .int .u8 (b : Int)]] w fun e w' => e = .returned (.bool true) ∧ Below w.heap.size w w' := by
  have hX : (b : Int) % 4 = 0 ∨ (b : Int) % 4 = 1 ∨ (b : Int) % 4 = 2 ∨ (b : Int) % 4 = 3 := by omega
  rcases hX with h | h | h | h
  · exact fin0 r o n b m hr ho hn hb h w
  · exact fin1 r o n b m hr ho hn hb h w
  · exact fin2 r o n b m hr ho hn hb h w
  · exact fin3 r o n b m hr ho hn hb h w
section
variable {H : Type} {enc : TypeId × Value → H} {w : World}
theorem open_p {v : Value} {d : DataW H} {ps : List MemPlace} {base : Nat} (hval : Value.okWide Try.prog w .any base 39 v) (h : DataW.Trod enc Try.prog w 0 (fun _ => true) true 39 v d ps) (hs : Sized Try.prog 39 d) (hlt : ∀ z ∈ ps, z.block < w.heap.size) :
    ∃ (pRef : Int) (pOther : Int) (pMark : Bool) (pN : Nat) (pBits : Nat), v = .agg #[.int .i64 pRef, .int .i64 pOther, .bool pMark, .int .u64 (pN : Int), .int .u8 (pBits : Int)] ∧ (-9223372036854775808 ≤ pRef ∧ pRef < 9223372036854775808) ∧ (-9223372036854775808 ≤ pOther ∧ pOther < 9223372036854775808) ∧ pN < 18446744073709551616 ∧ pBits < 256 := by
  obtain ⟨cs, rfl, hsz⟩ := okWide_struct Try.underlying39 hval
  obtain ⟨fuel, hf⟩ := h
  have hcs : (Value.agg cs).cells.toList = cs.toList := rfl
  rw [hcs] at hf
  have hcl : cs.toList.length = 5 := by rw [Array.length_toList, hsz]; kernel_rfl
  obtain ⟨c0, c1, c2, c3, c4, hL⟩ : ∃ c0 c1 c2 c3 c4, cs.toList = [c0, c1, c2, c3, c4] := ⟨_, _, _, _, _, cells_of hcl .nilIface⟩
  rw [hL] at hf
  rw [list_agg hL]
  clear hcl hL hsz hcs
  obtain ⟨y0, n0, g0, s0, q0⟩ := field_at Try.underlying39 hf 0 _ rfl 3 0 1 [c0] rfl rfl (by kernel_rfl) rfl hs hlt
  obtain ⟨pRef, e1, hpRef⟩ := leaf_i64 Try.underlying3 g0
  cases e1
  obtain ⟨y2, n2, g2, s2, q2⟩ := field_at Try.underlying39 hf 1 _ rfl 3 1 1 [c1] rfl rfl (by kernel_rfl) rfl hs hlt
  obtain ⟨pOther, e3, hpOther⟩ := leaf_i64 Try.underlying3 g2
  cases e3
  obtain ⟨y4, n4, g4, s4, q4⟩ := field_at Try.underlying39 hf 2 _ rfl 4 2 1 [c2] rfl rfl (by kernel_rfl) rfl hs hlt
  obtain ⟨pMark, e5⟩ := leaf_bool Try.underlying4 g4
  cases e5
  obtain ⟨y6, n6, g6, s6, q6⟩ := field_at Try.underlying39 hf 3 _ rfl 22 3 1 [c3] rfl rfl (by kernel_rfl) rfl hs hlt
  obtain ⟨pN, e7, hpN⟩ := leaf_u64 Try.underlying22 g6
  cases e7
  obtain ⟨y8, n8, g8, s8, q8⟩ := field_at Try.underlying39 hf 4 _ rfl 5 4 1 [c4] rfl rfl (by kernel_rfl) rfl hs hlt
  obtain ⟨pBits, e9, hpBits⟩ := leaf_u8 Try.underlying5 g8
  cases e9
  exact ⟨pRef, pOther, pMark, pN, pBits, rfl, hpRef, hpOther, hpN, hpBits⟩
end

set_option maxRecDepth 100000 in
theorem lifted (os : Os) (started : os.Started) (H : Type) (enc : TypeId × Value → H) :
    ReturnsInHanded {} Try.checked os 4 .any (Rows.wordBackSpec.pre6 enc Try.prog Try.f4 Rows.wordBackRow.domain false) (Rows.wordBackSpec.post enc Try.prog Try.f4 false true false false) := by
  refine law_lifted (C := Try.checked) own started (by kernel_rfl) Try.func4
    (ChangeSpec.witness6 (enc := enc) (C := Try.checked) false ⟨#[], #[.agg #[.int .i64 0, .int .i64 0, .bool false, .int .u64 0, .int .u8 0]], []⟩ 8 (by kernel_rfl) (by kernel_rfl) (by kernel_rfl) (by kernel_rfl))
    (by kernel_rfl) (by kernel_rfl) Try.underlying4 rfl (by kernel_rfl) ?_
  intro W base args ds before hval hA hwt hlt
  have hA' : DataW.TrodAll enc Try.prog W 0 (fun _ => true) true Try.f4.params.toList args.toList ds before := hA
  have hval' : ∀ (j : Nat) t v, Try.f4.params[j]? = some t → args[j]? = some v → Value.okWide Try.prog W .any base t v := hval
  have hwt' : (DataW.weightsEach Try.prog Try.f4.params.toList ds).all (· ≤ reachBytes) = true := hwt
  rw [Try.params4] at hA' hval' hwt'
  obtain ⟨v0, vs0, d0, ds0, p0, q0, hargs, rfl, rfl, k0, r0⟩ := trodAll_cons hA'
  obtain ⟨rfl, rfl, rfl⟩ := trodAll_nil r0
  obtain rfl : args = #[v0] := by cases args; simp_all
  obtain ⟨pRef, pOther, pMark, pN, pBits, rfl, hpRef, hpOther, hpN, hpBits⟩ := open_p (hval' 0 39 v0 rfl rfl) k0 (sized_of hwt' (j := 0) (t := 39) rfl rfl) (fun x hx => hlt x (by simp [hx]))
  refine ⟨rfl, ?_⟩
  by_cases hr : isRef pRef
  · by_cases ho : isRef pOther
    · obtain ⟨r0, r1⟩ := hr
      obtain ⟨o0, o1⟩ := ho
      obtain ⟨r, rfl⟩ := Int.eq_ofNat_of_zero_le r0
      obtain ⟨o, rfl⟩ := Int.eq_ofNat_of_zero_le o0
      exact walk r o pN pBits pMark (by omega) (by omega) hpN hpBits W
    · exact walkN2 pRef pOther pN pBits pMark hr ho W
  · exact walkN1 pRef pOther pN pBits pMark hr W

theorem over : Rows.wordBackRow.holds Try.pinned (OpenSpec.ofChange Rows.wordBackSpec) :=
  OpenClaim.holds_of_wide 4 Try.f4 rfl rfl rfl rfl rfl rfl rfl ⟨rfl, rfl, rfl, rfl, rfl⟩ rfl rfl rfl rfl rfl (by kernel_rfl) Try.func4 (by kernel_rfl)
    (of_decide_eq_true (by kernel_rfl)) (by unfold Func.isWrapper; first | (rw [if_pos (by decide +kernel)]; kernel_rfl) | (rw [if_neg (by decide +kernel)]; exact ⟨rfl, rfl⟩))
    (fun os started H enc _ => lifted os started H enc)

/-- The statement. -/
theorem proved : Rows.WordBackSaid :=
  over
#print axioms proved
end Go.Proofs.Ytpliipmbgblbaaa.wordBack
