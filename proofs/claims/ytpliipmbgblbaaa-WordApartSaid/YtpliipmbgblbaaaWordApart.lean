/-
  WordApart: for every four numbers and two numbers of 64 bits, two words of the same kind are the same just if they were put together of the same. No condition.
-/
import Derived.Test.YtpliipmbgblbaaaWrdShown
import Derived.Test.YtpliipmbgblbaaaLexFast
import Derived.Test.YtpliipmbgblbaaaLaw
import Derived.Test.YtpliipmbgblbaaaFields
import Derived.ChangeKeysEq
import Derived.BigQuiet
import Derived.Deep.QuietTactic
namespace Go.Proofs.Ytpliipmbgblbaaa.wordApart
open Go.ChangeShapes Go.WideShapes Go.ChangeAt Go.RowKit Go.Deep Go.BigFrame
set_option linter.unusedVariables false
theorem own : ownKnob Try.prog.godebug = none := by kernel_rfl

theorem Calls.quiet_sameW {P : Program} {f : FuncId} {args : Array Value} {w : World} {n : Nat} {v : Value}
    (h : Calls P f args (w.drewN n) fun e w' => e = .returned v ∧ w.drewN n = w') : Calls P f args (w.drewN n) fun e w'' => e = .returned v ∧ ∃ m, w'' = w.drewN m :=
  h.mono fun _ _ ⟨he, hm⟩ => ⟨he, n, hm.symm⟩
theorem below_quietW {B : Nat} {a w : World} (h : Below B a w) (n : Nat) : Below B a (w.drewN n) := ⟨h.os, h.tape, h.output, h.size, h.block⟩
set_option maxRecDepth 100000 in
set_option maxHeartbeats 4000000 in
theorem walk1ff (a0 a1 b0 b1 s0 s1 x y fa fb Ea Eb Ta Tb Fa Fb La Lb : Nat) (ma mb p e2 e3 : Bool) (k0 : isRef (a0 : Int)) (k1 : isRef (a1 : Int)) (k2 : isRef (b0 : Int)) (k3 : isRef (b1 : Int))
    (hx : (s0 : Int) / 1048576 = (x : Int)) (hy : (s1 : Int) / 1048576 = (y : Int)) (hfa : (a1 : Int) % 4 = (fa : Int)) (hfb : (b1 : Int) % 4 = (fb : Int)) (hma : ((a1 : Int) % 2 == 1) = ma) (hmb : ((b1 : Int) % 2 == 1) = mb)
    (kE : ∀ W, (binOp .eql 42 (.agg #[.int .i64 (a0 : Int), .int .i64 (a1 : Int)]) (.agg #[.int .i64 (b0 : Int), .int .i64 (b1 : Int)])).run Try.prog W = .ok (.bool p) W)
    (hE : ((Ea : Int) == (Eb : Int)) = p) (h0 : ((a0 : Int) == (b0 : Int)) = false) (h1 : ((x : Int) == (y : Int)) = false) (hT : ((Ta : Int) == (Tb : Int)) = (false && false)) (h2 : ((fa : Int) == (fb : Int)) = e2) (hF : ((Fa : Int) == (Fb : Int)) = (false && e2))
    (h3 : ((a1 : Int) % 2 == (b1 : Int) % 2) = e3) (hL : ((La : Int) == (Lb : Int)) = (false && e3))
    (c1 : ∀ w, Calls Try.prog 30 #[.int .i64 (a0 : Int), .int .i64 (a1 : Int)] w (fun e w' => e = .returned (.int .u64 (Ea : Int)) ∧ w = w'))
    (c2 : ∀ w, Calls Try.prog 30 #[.int .i64 (b0 : Int), .int .i64 (b1 : Int)] w (fun e w' => e = .returned (.int .u64 (Eb : Int)) ∧ w = w'))
    (c3 : ∀ w, Calls Try.prog 24 #[.int .i64 (a0 : Int), .int .u64 (x : Int)] w (fun e w' => e = .returned (.int .u64 (Ta : Int)) ∧ w = w'))
    (c4 : ∀ w, Calls Try.prog 24 #[.int .i64 (b0 : Int), .int .u64 (y : Int)] w (fun e w' => e = .returned (.int .u64 (Tb : Int)) ∧ w = w'))
    (c5 : ∀ w, Calls Try.prog 18 #[.int .u64 (x : Int), .int .i64 (fa : Int)] w (fun e w' => e = .returned (.int .u64 (Fa : Int)) ∧ w = w'))
    (c6 : ∀ w, Calls Try.prog 18 #[.int .u64 (y : Int), .int .i64 (fb : Int)] w (fun e w' => e = .returned (.int .u64 (Fb : Int)) ∧ w = w'))
    (c7 : ∀ w, Calls Try.prog 12 #[.int .i64 (a0 : Int), .bool ma] w (fun e w' => e = .returned (.int .u64 (La : Int)) ∧ w = w'))
    (c8 : ∀ w, Calls Try.prog 12 #[.int .i64 (b0 : Int), .bool mb] w (fun e w' => e = .returned (.int .u64 (Lb : Int)) ∧ w = w')) (w : World) :
    Calls Try.prog 5 #[.agg #[.int .i64 (a0 : Int), .int .i64 (a1 : Int)], .agg #[.int .i64 (b0 : Int), .int .i64 (b1 : Int)], .agg #[.int .u64 (s0 : Int), .int .u64 (s1 : Int)]] w fun e w' => e = .returned (.bool true) ∧ Below w.heap.size w w' := by
  obtain ⟨_, u0⟩ := k1
  obtain ⟨_, u1⟩ := k3
  have k1 : isRef (a1 : Int) := ⟨by omega, u0⟩
  have k3 : isRef (b1 : Int) := ⟨by omega, u1⟩
  go_enter Try.func5, Try.ntmps5
  go_wp2_with (first | (go_at_call 8; (with_reducible refine (shown_any _).mono ?_); rintro e w' ⟨rfl, rfl⟩) | (go_at_call 9; (with_reducible refine (refIs_yes _ _ k0).mono ?_); rintro e w' ⟨rfl, rfl⟩) | (go_at_call 9; (with_reducible refine (refIs_yes _ _ k1).mono ?_); rintro e w' ⟨rfl, rfl⟩) | (go_at_call 9; (with_reducible refine (refIs_yes _ _ k2).mono ?_); rintro e w' ⟨rfl, rfl⟩) | (go_at_call 9; (with_reducible refine (refIs_yes _ _ k3).mono ?_); rintro e w' ⟨rfl, rfl⟩) | (go_at_call 30; (with_reducible refine (c1 _).mono ?_); rintro e w' ⟨rfl, rfl⟩) | (go_at_call 30; (with_reducible refine (c2 _).mono ?_); rintro e w' ⟨rfl, rfl⟩) | (go_at_call 24; (with_reducible refine (c3 _).mono ?_); rintro e w' ⟨rfl, rfl⟩) | (go_at_call 24; (with_reducible refine (c4 _).mono ?_); rintro e w' ⟨rfl, rfl⟩) | (go_at_call 18; (with_reducible refine (c5 _).mono ?_); rintro e w' ⟨rfl, rfl⟩) | (go_at_call 18; (with_reducible refine (c6 _).mono ?_); rintro e w' ⟨rfl, rfl⟩) | (go_at_call 12; (with_reducible refine (c7 _).mono ?_); rintro e w' ⟨rfl, rfl⟩) | (go_at_call 12; (with_reducible refine (c8 _).mono ?_); rintro e w' ⟨rfl, rfl⟩))
  go_loop [8] (fun k => ∃ j : Nat, j ≤ 2 ∧ k = .int .i64 j) (fun k => 2 - (intOf k).toNat)
  case atStart => exact ⟨0, by omega, rfl⟩
  case round =>
    obtain ⟨j, hj, rfl⟩ := hrel
    obtain rfl | rfl | rfl : j = 0 ∨ j = 1 ∨ j = 2 := by omega
    · rw [show ((0 : Nat) : Int) = 0 from rfl]
      go_wp2_with (first | (go_at_call 8; (with_reducible refine (shown_any _).mono ?_); rintro e w' ⟨rfl, rfl⟩) | (go_at_call 9; (with_reducible refine (refIs_yes _ _ k0).mono ?_); rintro e w' ⟨rfl, rfl⟩) | (go_at_call 9; (with_reducible refine (refIs_yes _ _ k1).mono ?_); rintro e w' ⟨rfl, rfl⟩) | (go_at_call 9; (with_reducible refine (refIs_yes _ _ k2).mono ?_); rintro e w' ⟨rfl, rfl⟩) | (go_at_call 9; (with_reducible refine (refIs_yes _ _ k3).mono ?_); rintro e w' ⟨rfl, rfl⟩) | (go_at_call 30; (with_reducible refine (c1 _).mono ?_); rintro e w' ⟨rfl, rfl⟩) | (go_at_call 30; (with_reducible refine (c2 _).mono ?_); rintro e w' ⟨rfl, rfl⟩) | (go_at_call 24; (with_reducible refine (c3 _).mono ?_); rintro e w' ⟨rfl, rfl⟩) | (go_at_call 24; (with_reducible refine (c4 _).mono ?_); rintro e w' ⟨rfl, rfl⟩) | (go_at_call 18; (with_reducible refine (c5 _).mono ?_); rintro e w' ⟨rfl, rfl⟩) | (go_at_call 18; (with_reducible refine (c6 _).mono ?_); rintro e w' ⟨rfl, rfl⟩) | (go_at_call 12; (with_reducible refine (c7 _).mono ?_); rintro e w' ⟨rfl, rfl⟩) | (go_at_call 12; (with_reducible refine (c8 _).mono ?_); rintro e w' ⟨rfl, rfl⟩))
      go_round
      case rel => exact ⟨0 + 1, by omega, by first | rfl | go_num⟩
      case measure => simp [intOf]
    · rw [show ((1 : Nat) : Int) = 1 from rfl]
      go_wp2_with (first | (go_at_call 8; (with_reducible refine (shown_any _).mono ?_); rintro e w' ⟨rfl, rfl⟩) | (go_at_call 9; (with_reducible refine (refIs_yes _ _ k0).mono ?_); rintro e w' ⟨rfl, rfl⟩) | (go_at_call 9; (with_reducible refine (refIs_yes _ _ k1).mono ?_); rintro e w' ⟨rfl, rfl⟩) | (go_at_call 9; (with_reducible refine (refIs_yes _ _ k2).mono ?_); rintro e w' ⟨rfl, rfl⟩) | (go_at_call 9; (with_reducible refine (refIs_yes _ _ k3).mono ?_); rintro e w' ⟨rfl, rfl⟩) | (go_at_call 30; (with_reducible refine (c1 _).mono ?_); rintro e w' ⟨rfl, rfl⟩) | (go_at_call 30; (with_reducible refine (c2 _).mono ?_); rintro e w' ⟨rfl, rfl⟩) | (go_at_call 24; (with_reducible refine (c3 _).mono ?_); rintro e w' ⟨rfl, rfl⟩) | (go_at_call 24; (with_reducible refine (c4 _).mono ?_); rintro e w' ⟨rfl, rfl⟩) | (go_at_call 18; (with_reducible refine (c5 _).mono ?_); rintro e w' ⟨rfl, rfl⟩) | (go_at_call 18; (with_reducible refine (c6 _).mono ?_); rintro e w' ⟨rfl, rfl⟩) | (go_at_call 12; (with_reducible refine (c7 _).mono ?_); rintro e w' ⟨rfl, rfl⟩) | (go_at_call 12; (with_reducible refine (c8 _).mono ?_); rintro e w' ⟨rfl, rfl⟩))
      go_round
      case rel => exact ⟨1 + 1, by omega, by first | rfl | go_num⟩
      case measure => simp [intOf]
    · as_aux_lemma =>
      rw [show ((2 : Nat) : Int) = 2 from rfl]
      go_wp2_with fail
      refine wp_region_quiet_fast _ (by kernel_rfl) (by kernel_rfl) rfl (by kernel_rfl) ?_
      repeat (go_big_quiet_step ((first | (go_at_call 30; with_reducible exact Calls.quiet_sameW (c1 _)) | (go_at_call 30; with_reducible exact Calls.quiet_sameW (c2 _)) | (go_at_call 24; with_reducible exact Calls.quiet_sameW (c3 _)) | (go_at_call 24; with_reducible exact Calls.quiet_sameW (c4 _)) | (go_at_call 18; with_reducible exact Calls.quiet_sameW (c5 _)) | (go_at_call 18; with_reducible exact Calls.quiet_sameW (c6 _)) | (go_at_call 12; with_reducible exact Calls.quiet_sameW (c7 _)) | (go_at_call 12; with_reducible exact Calls.quiet_sameW (c8 _)))))
      refine wpQuiet_nil ?_
      intro _ hw'
      obtain ⟨nq, hw''⟩ := hw'
      subst hw''
      go_wp2_with fail
      go_ret
      exact ⟨rfl, by first | exact (((Below.refl _ w).alloc (Nat.le_refl _) _).alloc (by simp) _).alloc (by simp; omega) _ | exact below_quietW ((((Below.refl _ w).alloc (Nat.le_refl _) _).alloc (by simp) _).alloc (by simp; omega) _) _⟩
set_option maxRecDepth 100000 in
set_option maxHeartbeats 4000000 in
theorem walk1ft (a0 a1 b0 b1 s0 s1 x y fa fb Ea Eb Ta Tb Fa Fb La Lb : Nat) (ma mb p e2 e3 : Bool) (k0 : isRef (a0 : Int)) (k1 : isRef (a1 : Int)) (k2 : isRef (b0 : Int)) (k3 : isRef (b1 : Int))
    (hx : (s0 : Int) / 1048576 = (x : Int)) (hy : (s1 : Int) / 1048576 = (y : Int)) (hfa : (a1 : Int) % 4 = (fa : Int)) (hfb : (b1 : Int) % 4 = (fb : Int)) (hma : ((a1 : Int) % 2 == 1) = ma) (hmb : ((b1 : Int) % 2 == 1) = mb)
    (kE : ∀ W, (binOp .eql 42 (.agg #[.int .i64 (a0 : Int), .int .i64 (a1 : Int)]) (.agg #[.int .i64 (b0 : Int), .int .i64 (b1 : Int)])).run Try.prog W = .ok (.bool p) W)
    (hE : ((Ea : Int) == (Eb : Int)) = p) (h0 : ((a0 : Int) == (b0 : Int)) = false) (h1 : ((x : Int) == (y : Int)) = true) (hT : ((Ta : Int) == (Tb : Int)) = (false && true)) (h2 : ((fa : Int) == (fb : Int)) = e2) (hF : ((Fa : Int) == (Fb : Int)) = (true && e2))
    (h3 : ((a1 : Int) % 2 == (b1 : Int) % 2) = e3) (hL : ((La : Int) == (Lb : Int)) = (false && e3))
    (c1 : ∀ w, Calls Try.prog 30 #[.int .i64 (a0 : Int), .int .i64 (a1 : Int)] w (fun e w' => e = .returned (.int .u64 (Ea : Int)) ∧ w = w'))
    (c2 : ∀ w, Calls Try.prog 30 #[.int .i64 (b0 : Int), .int .i64 (b1 : Int)] w (fun e w' => e = .returned (.int .u64 (Eb : Int)) ∧ w = w'))
    (c3 : ∀ w, Calls Try.prog 24 #[.int .i64 (a0 : Int), .int .u64 (x : Int)] w (fun e w' => e = .returned (.int .u64 (Ta : Int)) ∧ w = w'))
    (c4 : ∀ w, Calls Try.prog 24 #[.int .i64 (b0 : Int), .int .u64 (y : Int)] w (fun e w' => e = .returned (.int .u64 (Tb : Int)) ∧ w = w'))
    (c5 : ∀ w, Calls Try.prog 18 #[.int .u64 (x : Int), .int .i64 (fa : Int)] w (fun e w' => e = .returned (.int .u64 (Fa : Int)) ∧ w = w'))
    (c6 : ∀ w, Calls Try.prog 18 #[.int .u64 (y : Int), .int .i64 (fb : Int)] w (fun e w' => e = .returned (.int .u64 (Fb : Int)) ∧ w = w'))
    (c7 : ∀ w, Calls Try.prog 12 #[.int .i64 (a0 : Int), .bool ma] w (fun e w' => e = .returned (.int .u64 (La : Int)) ∧ w = w'))
    (c8 : ∀ w, Calls Try.prog 12 #[.int .i64 (b0 : Int), .bool mb] w (fun e w' => e = .returned (.int .u64 (Lb : Int)) ∧ w = w')) (w : World) :
    Calls Try.prog 5 #[.agg #[.int .i64 (a0 : Int), .int .i64 (a1 : Int)], .agg #[.int .i64 (b0 : Int), .int .i64 (b1 : Int)], .agg #[.int .u64 (s0 : Int), .int .u64 (s1 : Int)]] w fun e w' => e = .returned (.bool true) ∧ Below w.heap.size w w' := by
  obtain ⟨_, u0⟩ := k1
  obtain ⟨_, u1⟩ := k3
  have k1 : isRef (a1 : Int) := ⟨by omega, u0⟩
  have k3 : isRef (b1 : Int) := ⟨by omega, u1⟩
  go_enter Try.func5, Try.ntmps5
  go_wp2_with (first | (go_at_call 8; (with_reducible refine (shown_any _).mono ?_); rintro e w' ⟨rfl, rfl⟩) | (go_at_call 9; (with_reducible refine (refIs_yes _ _ k0).mono ?_); rintro e w' ⟨rfl, rfl⟩) | (go_at_call 9; (with_reducible refine (refIs_yes _ _ k1).mono ?_); rintro e w' ⟨rfl, rfl⟩) | (go_at_call 9; (with_reducible refine (refIs_yes _ _ k2).mono ?_); rintro e w' ⟨rfl, rfl⟩) | (go_at_call 9; (with_reducible refine (refIs_yes _ _ k3).mono ?_); rintro e w' ⟨rfl, rfl⟩) | (go_at_call 30; (with_reducible refine (c1 _).mono ?_); rintro e w' ⟨rfl, rfl⟩) | (go_at_call 30; (with_reducible refine (c2 _).mono ?_); rintro e w' ⟨rfl, rfl⟩) | (go_at_call 24; (with_reducible refine (c3 _).mono ?_); rintro e w' ⟨rfl, rfl⟩) | (go_at_call 24; (with_reducible refine (c4 _).mono ?_); rintro e w' ⟨rfl, rfl⟩) | (go_at_call 18; (with_reducible refine (c5 _).mono ?_); rintro e w' ⟨rfl, rfl⟩) | (go_at_call 18; (with_reducible refine (c6 _).mono ?_); rintro e w' ⟨rfl, rfl⟩) | (go_at_call 12; (with_reducible refine (c7 _).mono ?_); rintro e w' ⟨rfl, rfl⟩) | (go_at_call 12; (with_reducible refine (c8 _).mono ?_); rintro e w' ⟨rfl, rfl⟩))
  go_loop [8] (fun k => ∃ j : Nat, j ≤ 2 ∧ k = .int .i64 j) (fun k => 2 - (intOf k).toNat)
  case atStart => exact ⟨0, by omega, rfl⟩
  case round =>
    obtain ⟨j, hj, rfl⟩ := hrel
    obtain rfl | rfl | rfl : j = 0 ∨ j = 1 ∨ j = 2 := by omega
    · rw [show ((0 : Nat) : Int) = 0 from rfl]
      go_wp2_with (first | (go_at_call 8; (with_reducible refine (shown_any _).mono ?_); rintro e w' ⟨rfl, rfl⟩) | (go_at_call 9; (with_reducible refine (refIs_yes _ _ k0).mono ?_); rintro e w' ⟨rfl, rfl⟩) | (go_at_call 9; (with_reducible refine (refIs_yes _ _ k1).mono ?_); rintro e w' ⟨rfl, rfl⟩) | (go_at_call 9; (with_reducible refine (refIs_yes _ _ k2).mono ?_); rintro e w' ⟨rfl, rfl⟩) | (go_at_call 9; (with_reducible refine (refIs_yes _ _ k3).mono ?_); rintro e w' ⟨rfl, rfl⟩) | (go_at_call 30; (with_reducible refine (c1 _).mono ?_); rintro e w' ⟨rfl, rfl⟩) | (go_at_call 30; (with_reducible refine (c2 _).mono ?_); rintro e w' ⟨rfl, rfl⟩) | (go_at_call 24; (with_reducible refine (c3 _).mono ?_); rintro e w' ⟨rfl, rfl⟩) | (go_at_call 24; (with_reducible refine (c4 _).mono ?_); rintro e w' ⟨rfl, rfl⟩) | (go_at_call 18; (with_reducible refine (c5 _).mono ?_); rintro e w' ⟨rfl, rfl⟩) | (go_at_call 18; (with_reducible refine (c6 _).mono ?_); rintro e w' ⟨rfl, rfl⟩) | (go_at_call 12; (with_reducible refine (c7 _).mono ?_); rintro e w' ⟨rfl, rfl⟩) | (go_at_call 12; (with_reducible refine (c8 _).mono ?_); rintro e w' ⟨rfl, rfl⟩))
      go_round
      case rel => exact ⟨0 + 1, by omega, by first | rfl | go_num⟩
      case measure => simp [intOf]
    · rw [show ((1 : Nat) : Int) = 1 from rfl]
      go_wp2_with (first | (go_at_call 8; (with_reducible refine (shown_any _).mono ?_); rintro e w' ⟨rfl, rfl⟩) | (go_at_call 9; (with_reducible refine (refIs_yes _ _ k0).mono ?_); rintro e w' ⟨rfl, rfl⟩) | (go_at_call 9; (with_reducible refine (refIs_yes _ _ k1).mono ?_); rintro e w' ⟨rfl, rfl⟩) | (go_at_call 9; (with_reducible refine (refIs_yes _ _ k2).mono ?_); rintro e w' ⟨rfl, rfl⟩) | (go_at_call 9; (with_reducible refine (refIs_yes _ _ k3).mono ?_); rintro e w' ⟨rfl, rfl⟩) | (go_at_call 30; (with_reducible refine (c1 _).mono ?_); rintro e w' ⟨rfl, rfl⟩) | (go_at_call 30; (with_reducible refine (c2 _).mono ?_); rintro e w' ⟨rfl, rfl⟩) | (go_at_call 24; (with_reducible refine (c3 _).mono ?_); rintro e w' ⟨rfl, rfl⟩) | (go_at_call 24; (with_reducible refine (c4 _).mono ?_); rintro e w' ⟨rfl, rfl⟩) | (go_at_call 18; (with_reducible refine (c5 _).mono ?_); rintro e w' ⟨rfl, rfl⟩) | (go_at_call 18; (with_reducible refine (c6 _).mono ?_); rintro e w' ⟨rfl, rfl⟩) | (go_at_call 12; (with_reducible refine (c7 _).mono ?_); rintro e w' ⟨rfl, rfl⟩) | (go_at_call 12; (with_reducible refine (c8 _).mono ?_); rintro e w' ⟨rfl, rfl⟩))
      go_round
      case rel => exact ⟨1 + 1, by omega, by first | rfl | go_num⟩
      case measure => simp [intOf]
    · as_aux_lemma =>
      rw [show ((2 : Nat) : Int) = 2 from rfl]
      go_wp2_with fail
      refine wp_region_quiet_fast _ (by kernel_rfl) (by kernel_rfl) rfl (by kernel_rfl) ?_
      repeat (go_big_quiet_step ((first | (go_at_call 30; with_reducible exact Calls.quiet_sameW (c1 _)) | (go_at_call 30; with_reducible exact Calls.quiet_sameW (c2 _)) | (go_at_call 24; with_reducible exact Calls.quiet_sameW (c3 _)) | (go_at_call 24; with_reducible exact Calls.quiet_sameW (c4 _)) | (go_at_call 18; with_reducible exact Calls.quiet_sameW (c5 _)) | (go_at_call 18; with_reducible exact Calls.quiet_sameW (c6 _)) | (go_at_call 12; with_reducible exact Calls.quiet_sameW (c7 _)) | (go_at_call 12; with_reducible exact Calls.quiet_sameW (c8 _)))))
      refine wpQuiet_nil ?_
      intro _ hw'
      obtain ⟨nq, hw''⟩ := hw'
      subst hw''
      go_wp2_with fail
      go_ret
      exact ⟨rfl, by first | exact (((Below.refl _ w).alloc (Nat.le_refl _) _).alloc (by simp) _).alloc (by simp; omega) _ | exact below_quietW ((((Below.refl _ w).alloc (Nat.le_refl _) _).alloc (by simp) _).alloc (by simp; omega) _) _⟩
set_option maxRecDepth 100000 in
set_option maxHeartbeats 4000000 in
theorem walk1tf (a0 a1 b0 b1 s0 s1 x y fa fb Ea Eb Ta Tb Fa Fb La Lb : Nat) (ma mb p e2 e3 : Bool) (k0 : isRef (a0 : Int)) (k1 : isRef (a1 : Int)) (k2 : isRef (b0 : Int)) (k3 : isRef (b1 : Int))
    (hx : (s0 : Int) / 1048576 = (x : Int)) (hy : (s1 : Int) / 1048576 = (y : Int)) (hfa : (a1 : Int) % 4 = (fa : Int)) (hfb : (b1 : Int) % 4 = (fb : Int)) (hma : ((a1 : Int) % 2 == 1) = ma) (hmb : ((b1 : Int) % 2 == 1) = mb)
    (kE : ∀ W, (binOp .eql 42 (.agg #[.int .i64 (a0 : Int), .int .i64 (a1 : Int)]) (.agg #[.int .i64 (b0 : Int), .int .i64 (b1 : Int)])).run Try.prog W = .ok (.bool p) W)
    (hE : ((Ea : Int) == (Eb : Int)) = p) (h0 : ((a0 : Int) == (b0 : Int)) = true) (h1 : ((x : Int) == (y : Int)) = false) (hT : ((Ta : Int) == (Tb : Int)) = (true && false)) (h2 : ((fa : Int) == (fb : Int)) = e2) (hF : ((Fa : Int) == (Fb : Int)) = (false && e2))
    (h3 : ((a1 : Int) % 2 == (b1 : Int) % 2) = e3) (hL : ((La : Int) == (Lb : Int)) = (true && e3))
    (c1 : ∀ w, Calls Try.prog 30 #[.int .i64 (a0 : Int), .int .i64 (a1 : Int)] w (fun e w' => e = .returned (.int .u64 (Ea : Int)) ∧ w = w'))
    (c2 : ∀ w, Calls Try.prog 30 #[.int .i64 (b0 : Int), .int .i64 (b1 : Int)] w (fun e w' => e = .returned (.int .u64 (Eb : Int)) ∧ w = w'))
    (c3 : ∀ w, Calls Try.prog 24 #[.int .i64 (a0 : Int), .int .u64 (x : Int)] w (fun e w' => e = .returned (.int .u64 (Ta : Int)) ∧ w = w'))
    (c4 : ∀ w, Calls Try.prog 24 #[.int .i64 (b0 : Int), .int .u64 (y : Int)] w (fun e w' => e = .returned (.int .u64 (Tb : Int)) ∧ w = w'))
    (c5 : ∀ w, Calls Try.prog 18 #[.int .u64 (x : Int), .int .i64 (fa : Int)] w (fun e w' => e = .returned (.int .u64 (Fa : Int)) ∧ w = w'))
    (c6 : ∀ w, Calls Try.prog 18 #[.int .u64 (y : Int), .int .i64 (fb : Int)] w (fun e w' => e = .returned (.int .u64 (Fb : Int)) ∧ w = w'))
    (c7 : ∀ w, Calls Try.prog 12 #[.int .i64 (a0 : Int), .bool ma] w (fun e w' => e = .returned (.int .u64 (La : Int)) ∧ w = w'))
    (c8 : ∀ w, Calls Try.prog 12 #[.int .i64 (b0 : Int), .bool mb] w (fun e w' => e = .returned (.int .u64 (Lb : Int)) ∧ w = w')) (w : World) :
    Calls Try.prog 5 #[.agg #[.int .i64 (a0 : Int), .int .i64 (a1 : Int)], .agg #[.int .i64 (b0 : Int), .int .i64 (b1 : Int)], .agg #[.int .u64 (s0 : Int), .int .u64 (s1 : Int)]] w fun e w' => e = .returned (.bool true) ∧ Below w.heap.size w w' := by
  obtain ⟨_, u0⟩ := k1
  obtain ⟨_, u1⟩ := k3
  have k1 : isRef (a1 : Int) := ⟨by omega, u0⟩
  have k3 : isRef (b1 : Int) := ⟨by omega, u1⟩
  go_enter Try.func5, Try.ntmps5
  go_wp2_with (first | (go_at_call 8; (with_reducible refine (shown_any _).mono ?_); rintro e w' ⟨rfl, rfl⟩) | (go_at_call 9; (with_reducible refine (refIs_yes _ _ k0).mono ?_); rintro e w' ⟨rfl, rfl⟩) | (go_at_call 9; (with_reducible refine (refIs_yes _ _ k1).mono ?_); rintro e w' ⟨rfl, rfl⟩) | (go_at_call 9; (with_reducible refine (refIs_yes _ _ k2).mono ?_); rintro e w' ⟨rfl, rfl⟩) | (go_at_call 9; (with_reducible refine (refIs_yes _ _ k3).mono ?_); rintro e w' ⟨rfl, rfl⟩) | (go_at_call 30; (with_reducible refine (c1 _).mono ?_); rintro e w' ⟨rfl, rfl⟩) | (go_at_call 30; (with_reducible refine (c2 _).mono ?_); rintro e w' ⟨rfl, rfl⟩) | (go_at_call 24; (with_reducible refine (c3 _).mono ?_); rintro e w' ⟨rfl, rfl⟩) | (go_at_call 24; (with_reducible refine (c4 _).mono ?_); rintro e w' ⟨rfl, rfl⟩) | (go_at_call 18; (with_reducible refine (c5 _).mono ?_); rintro e w' ⟨rfl, rfl⟩) | (go_at_call 18; (with_reducible refine (c6 _).mono ?_); rintro e w' ⟨rfl, rfl⟩) | (go_at_call 12; (with_reducible refine (c7 _).mono ?_); rintro e w' ⟨rfl, rfl⟩) | (go_at_call 12; (with_reducible refine (c8 _).mono ?_); rintro e w' ⟨rfl, rfl⟩))
  go_loop [8] (fun k => ∃ j : Nat, j ≤ 2 ∧ k = .int .i64 j) (fun k => 2 - (intOf k).toNat)
  case atStart => exact ⟨0, by omega, rfl⟩
  case round =>
    obtain ⟨j, hj, rfl⟩ := hrel
    obtain rfl | rfl | rfl : j = 0 ∨ j = 1 ∨ j = 2 := by omega
    · rw [show ((0 : Nat) : Int) = 0 from rfl]
      go_wp2_with (first | (go_at_call 8; (with_reducible refine (shown_any _).mono ?_); rintro e w' ⟨rfl, rfl⟩) | (go_at_call 9; (with_reducible refine (refIs_yes _ _ k0).mono ?_); rintro e w' ⟨rfl, rfl⟩) | (go_at_call 9; (with_reducible refine (refIs_yes _ _ k1).mono ?_); rintro e w' ⟨rfl, rfl⟩) | (go_at_call 9; (with_reducible refine (refIs_yes _ _ k2).mono ?_); rintro e w' ⟨rfl, rfl⟩) | (go_at_call 9; (with_reducible refine (refIs_yes _ _ k3).mono ?_); rintro e w' ⟨rfl, rfl⟩) | (go_at_call 30; (with_reducible refine (c1 _).mono ?_); rintro e w' ⟨rfl, rfl⟩) | (go_at_call 30; (with_reducible refine (c2 _).mono ?_); rintro e w' ⟨rfl, rfl⟩) | (go_at_call 24; (with_reducible refine (c3 _).mono ?_); rintro e w' ⟨rfl, rfl⟩) | (go_at_call 24; (with_reducible refine (c4 _).mono ?_); rintro e w' ⟨rfl, rfl⟩) | (go_at_call 18; (with_reducible refine (c5 _).mono ?_); rintro e w' ⟨rfl, rfl⟩) | (go_at_call 18; (with_reducible refine (c6 _).mono ?_); rintro e w' ⟨rfl, rfl⟩) | (go_at_call 12; (with_reducible refine (c7 _).mono ?_); rintro e w' ⟨rfl, rfl⟩) | (go_at_call 12; (with_reducible refine (c8 _).mono ?_); rintro e w' ⟨rfl, rfl⟩))
      go_round
      case rel => exact ⟨0 + 1, by omega, by first | rfl | go_num⟩
      case measure => simp [intOf]
    · rw [show ((1 : Nat) : Int) = 1 from rfl]
      go_wp2_with (first | (go_at_call 8; (with_reducible refine (shown_any _).mono ?_); rintro e w' ⟨rfl, rfl⟩) | (go_at_call 9; (with_reducible refine (refIs_yes _ _ k0).mono ?_); rintro e w' ⟨rfl, rfl⟩) | (go_at_call 9; (with_reducible refine (refIs_yes _ _ k1).mono ?_); rintro e w' ⟨rfl, rfl⟩) | (go_at_call 9; (with_reducible refine (refIs_yes _ _ k2).mono ?_); rintro e w' ⟨rfl, rfl⟩) | (go_at_call 9; (with_reducible refine (refIs_yes _ _ k3).mono ?_); rintro e w' ⟨rfl, rfl⟩) | (go_at_call 30; (with_reducible refine (c1 _).mono ?_); rintro e w' ⟨rfl, rfl⟩) | (go_at_call 30; (with_reducible refine (c2 _).mono ?_); rintro e w' ⟨rfl, rfl⟩) | (go_at_call 24; (with_reducible refine (c3 _).mono ?_); rintro e w' ⟨rfl, rfl⟩) | (go_at_call 24; (with_reducible refine (c4 _).mono ?_); rintro e w' ⟨rfl, rfl⟩) | (go_at_call 18; (with_reducible refine (c5 _).mono ?_); rintro e w' ⟨rfl, rfl⟩) | (go_at_call 18; (with_reducible refine (c6 _).mono ?_); rintro e w' ⟨rfl, rfl⟩) | (go_at_call 12; (with_reducible refine (c7 _).mono ?_); rintro e w' ⟨rfl, rfl⟩) | (go_at_call 12; (with_reducible refine (c8 _).mono ?_); rintro e w' ⟨rfl, rfl⟩))
      go_round
      case rel => exact ⟨1 + 1, by omega, by first | rfl | go_num⟩
      case measure => simp [intOf]
    · as_aux_lemma =>
      rw [show ((2 : Nat) : Int) = 2 from rfl]
      go_wp2_with fail
      refine wp_region_quiet_fast _ (by kernel_rfl) (by kernel_rfl) rfl (by kernel_rfl) ?_
      repeat (go_big_quiet_step ((first | (go_at_call 30; with_reducible exact Calls.quiet_sameW (c1 _)) | (go_at_call 30; with_reducible exact Calls.quiet_sameW (c2 _)) | (go_at_call 24; with_reducible exact Calls.quiet_sameW (c3 _)) | (go_at_call 24; with_reducible exact Calls.quiet_sameW (c4 _)) | (go_at_call 18; with_reducible exact Calls.quiet_sameW (c5 _)) | (go_at_call 18; with_reducible exact Calls.quiet_sameW (c6 _)) | (go_at_call 12; with_reducible exact Calls.quiet_sameW (c7 _)) | (go_at_call 12; with_reducible exact Calls.quiet_sameW (c8 _)))))
      refine wpQuiet_nil ?_
      intro _ hw'
      obtain ⟨nq, hw''⟩ := hw'
      subst hw''
      go_wp2_with fail
      go_ret
      exact ⟨rfl, by first | exact (((Below.refl _ w).alloc (Nat.le_refl _) _).alloc (by simp) _).alloc (by simp; omega) _ | exact below_quietW ((((Below.refl _ w).alloc (Nat.le_refl _) _).alloc (by simp) _).alloc (by simp; omega) _) _⟩
set_option maxRecDepth 100000 in
set_option maxHeartbeats 4000000 in
theorem walk1tt (a0 a1 b0 b1 s0 s1 x y fa fb Ea Eb Ta Tb Fa Fb La Lb : Nat) (ma mb p e2 e3 : Bool) (k0 : isRef (a0 : Int)) (k1 : isRef (a1 : Int)) (k2 : isRef (b0 : Int)) (k3 : isRef (b1 : Int))
    (hx : (s0 : Int) / 1048576 = (x : Int)) (hy : (s1 : Int) / 1048576 = (y : Int)) (hfa : (a1 : Int) % 4 = (fa : Int)) (hfb : (b1 : Int) % 4 = (fb : Int)) (hma : ((a1 : Int) % 2 == 1) = ma) (hmb : ((b1 : Int) % 2 == 1) = mb)
    (kE : ∀ W, (binOp .eql 42 (.agg #[.int .i64 (a0 : Int), .int .i64 (a1 : Int)]) (.agg #[.int .i64 (b0 : Int), .int .i64 (b1 : Int)])).run Try.prog W = .ok (.bool p) W)
    (hE : ((Ea : Int) == (Eb : Int)) = p) (h0 : ((a0 : Int) == (b0 : Int)) = true) (h1 : ((x : Int) == (y : Int)) = true) (hT : ((Ta : Int) == (Tb : Int)) = (true && true)) (h2 : ((fa : Int) == (fb : Int)) = e2) (hF : ((Fa : Int) == (Fb : Int)) = (true && e2))
    (h3 : ((a1 : Int) % 2 == (b1 : Int) % 2) = e3) (hL : ((La : Int) == (Lb : Int)) = (true && e3))
    (c1 : ∀ w, Calls Try.prog 30 #[.int .i64 (a0 : Int), .int .i64 (a1 : Int)] w (fun e w' => e = .returned (.int .u64 (Ea : Int)) ∧ w = w'))
    (c2 : ∀ w, Calls Try.prog 30 #[.int .i64 (b0 : Int), .int .i64 (b1 : Int)] w (fun e w' => e = .returned (.int .u64 (Eb : Int)) ∧ w = w'))
    (c3 : ∀ w, Calls Try.prog 24 #[.int .i64 (a0 : Int), .int .u64 (x : Int)] w (fun e w' => e = .returned (.int .u64 (Ta : Int)) ∧ w = w'))
    (c4 : ∀ w, Calls Try.prog 24 #[.int .i64 (b0 : Int), .int .u64 (y : Int)] w (fun e w' => e = .returned (.int .u64 (Tb : Int)) ∧ w = w'))
    (c5 : ∀ w, Calls Try.prog 18 #[.int .u64 (x : Int), .int .i64 (fa : Int)] w (fun e w' => e = .returned (.int .u64 (Fa : Int)) ∧ w = w'))
    (c6 : ∀ w, Calls Try.prog 18 #[.int .u64 (y : Int), .int .i64 (fb : Int)] w (fun e w' => e = .returned (.int .u64 (Fb : Int)) ∧ w = w'))
    (c7 : ∀ w, Calls Try.prog 12 #[.int .i64 (a0 : Int), .bool ma] w (fun e w' => e = .returned (.int .u64 (La : Int)) ∧ w = w'))
    (c8 : ∀ w, Calls Try.prog 12 #[.int .i64 (b0 : Int), .bool mb] w (fun e w' => e = .returned (.int .u64 (Lb : Int)) ∧ w = w')) (w : World) :
    Calls Try.prog 5 #[.agg #[.int .i64 (a0 : Int), .int .i64 (a1 : Int)], .agg #[.int .i64 (b0 : Int), .int .i64 (b1 : Int)], .agg #[.int .u64 (s0 : Int), .int .u64 (s1 : Int)]] w fun e w' => e = .returned (.bool true) ∧ Below w.heap.size w w' := by
  obtain ⟨_, u0⟩ := k1
  obtain ⟨_, u1⟩ := k3
  have k1 : isRef (a1 : Int) := ⟨by omega, u0⟩
  have k3 : isRef (b1 : Int) := ⟨by omega, u1⟩
  go_enter Try.func5, Try.ntmps5
  go_wp2_with (first | (go_at_call 8; (with_reducible refine (shown_any _).mono ?_); rintro e w' ⟨rfl, rfl⟩) | (go_at_call 9; (with_reducible refine (refIs_yes _ _ k0).mono ?_); rintro e w' ⟨rfl, rfl⟩) | (go_at_call 9; (with_reducible refine (refIs_yes _ _ k1).mono ?_); rintro e w' ⟨rfl, rfl⟩) | (go_at_call 9; (with_reducible refine (refIs_yes _ _ k2).mono ?_); rintro e w' ⟨rfl, rfl⟩) | (go_at_call 9; (with_reducible refine (refIs_yes _ _ k3).mono ?_); rintro e w' ⟨rfl, rfl⟩) | (go_at_call 30; (with_reducible refine (c1 _).mono ?_); rintro e w' ⟨rfl, rfl⟩) | (go_at_call 30; (with_reducible refine (c2 _).mono ?_); rintro e w' ⟨rfl, rfl⟩) | (go_at_call 24; (with_reducible refine (c3 _).mono ?_); rintro e w' ⟨rfl, rfl⟩) | (go_at_call 24; (with_reducible refine (c4 _).mono ?_); rintro e w' ⟨rfl, rfl⟩) | (go_at_call 18; (with_reducible refine (c5 _).mono ?_); rintro e w' ⟨rfl, rfl⟩) | (go_at_call 18; (with_reducible refine (c6 _).mono ?_); rintro e w' ⟨rfl, rfl⟩) | (go_at_call 12; (with_reducible refine (c7 _).mono ?_); rintro e w' ⟨rfl, rfl⟩) | (go_at_call 12; (with_reducible refine (c8 _).mono ?_); rintro e w' ⟨rfl, rfl⟩))
  go_loop [8] (fun k => ∃ j : Nat, j ≤ 2 ∧ k = .int .i64 j) (fun k => 2 - (intOf k).toNat)
  case atStart => exact ⟨0, by omega, rfl⟩
  case round =>
    obtain ⟨j, hj, rfl⟩ := hrel
    obtain rfl | rfl | rfl : j = 0 ∨ j = 1 ∨ j = 2 := by omega
    · rw [show ((0 : Nat) : Int) = 0 from rfl]
      go_wp2_with (first | (go_at_call 8; (with_reducible refine (shown_any _).mono ?_); rintro e w' ⟨rfl, rfl⟩) | (go_at_call 9; (with_reducible refine (refIs_yes _ _ k0).mono ?_); rintro e w' ⟨rfl, rfl⟩) | (go_at_call 9; (with_reducible refine (refIs_yes _ _ k1).mono ?_); rintro e w' ⟨rfl, rfl⟩) | (go_at_call 9; (with_reducible refine (refIs_yes _ _ k2).mono ?_); rintro e w' ⟨rfl, rfl⟩) | (go_at_call 9; (with_reducible refine (refIs_yes _ _ k3).mono ?_); rintro e w' ⟨rfl, rfl⟩) | (go_at_call 30; (with_reducible refine (c1 _).mono ?_); rintro e w' ⟨rfl, rfl⟩) | (go_at_call 30; (with_reducible refine (c2 _).mono ?_); rintro e w' ⟨rfl, rfl⟩) | (go_at_call 24; (with_reducible refine (c3 _).mono ?_); rintro e w' ⟨rfl, rfl⟩) | (go_at_call 24; (with_reducible refine (c4 _).mono ?_); rintro e w' ⟨rfl, rfl⟩) | (go_at_call 18; (with_reducible refine (c5 _).mono ?_); rintro e w' ⟨rfl, rfl⟩) | (go_at_call 18; (with_reducible refine (c6 _).mono ?_); rintro e w' ⟨rfl, rfl⟩) | (go_at_call 12; (with_reducible refine (c7 _).mono ?_); rintro e w' ⟨rfl, rfl⟩) | (go_at_call 12; (with_reducible refine (c8 _).mono ?_); rintro e w' ⟨rfl, rfl⟩))
      go_round
      case rel => exact ⟨0 + 1, by omega, by first | rfl | go_num⟩
      case measure => simp [intOf]
    · rw [show ((1 : Nat) : Int) = 1 from rfl]
      go_wp2_with (first | (go_at_call 8; (with_reducible refine (shown_any _).mono ?_); rintro e w' ⟨rfl, rfl⟩) | (go_at_call 9; (with_reducible refine (refIs_yes _ _ k0).mono ?_); rintro e w' ⟨rfl, rfl⟩) | (go_at_call 9; (with_reducible refine (refIs_yes _ _ k1).mono ?_); rintro e w' ⟨rfl, rfl⟩) | (go_at_call 9; (with_reducible refine (refIs_yes _ _ k2).mono ?_); rintro e w' ⟨rfl, rfl⟩) | (go_at_call 9; (with_reducible refine (refIs_yes _ _ k3).mono ?_); rintro e w' ⟨rfl, rfl⟩) | (go_at_call 30; (with_reducible refine (c1 _).mono ?_); rintro e w' ⟨rfl, rfl⟩) | (go_at_call 30; (with_reducible refine (c2 _).mono ?_); rintro e w' ⟨rfl, rfl⟩) | (go_at_call 24; (with_reducible refine (c3 _).mono ?_); rintro e w' ⟨rfl, rfl⟩) | (go_at_call 24; (with_reducible refine (c4 _).mono ?_); rintro e w' ⟨rfl, rfl⟩) | (go_at_call 18; (with_reducible refine (c5 _).mono ?_); rintro e w' ⟨rfl, rfl⟩) | (go_at_call 18; (with_reducible refine (c6 _).mono ?_); rintro e w' ⟨rfl, rfl⟩) | (go_at_call 12; (with_reducible refine (c7 _).mono ?_); rintro e w' ⟨rfl, rfl⟩) | (go_at_call 12; (with_reducible refine (c8 _).mono ?_); rintro e w' ⟨rfl, rfl⟩))
      go_round
      case rel => exact ⟨1 + 1, by omega, by first | rfl | go_num⟩
      case measure => simp [intOf]
    · as_aux_lemma =>
      rw [show ((2 : Nat) : Int) = 2 from rfl]
      go_wp2_with fail
      refine wp_region_quiet_fast _ (by kernel_rfl) (by kernel_rfl) rfl (by kernel_rfl) ?_
      repeat (go_big_quiet_step ((first | (go_at_call 30; with_reducible exact Calls.quiet_sameW (c1 _)) | (go_at_call 30; with_reducible exact Calls.quiet_sameW (c2 _)) | (go_at_call 24; with_reducible exact Calls.quiet_sameW (c3 _)) | (go_at_call 24; with_reducible exact Calls.quiet_sameW (c4 _)) | (go_at_call 18; with_reducible exact Calls.quiet_sameW (c5 _)) | (go_at_call 18; with_reducible exact Calls.quiet_sameW (c6 _)) | (go_at_call 12; with_reducible exact Calls.quiet_sameW (c7 _)) | (go_at_call 12; with_reducible exact Calls.quiet_sameW (c8 _)))))
      refine wpQuiet_nil ?_
      intro _ hw'
      obtain ⟨nq, hw''⟩ := hw'
      subst hw''
      go_wp2_with fail
      go_ret
      exact ⟨rfl, by first | exact (((Below.refl _ w).alloc (Nat.le_refl _) _).alloc (by simp) _).alloc (by simp; omega) _ | exact below_quietW ((((Below.refl _ w).alloc (Nat.le_refl _) _).alloc (by simp) _).alloc (by simp; omega) _) _⟩
set_option maxRecDepth 100000 in
set_option maxHeartbeats 4000000 in
theorem walkN0 (a0 a1 b0 b1 : Int) (s0 s1 : Nat) (k0 : ¬ isRef a0) (w : World) :
    Calls Try.prog 5 #[.agg #[.int .i64 a0, .int .i64 a1], .agg #[.int .i64 b0, .int .i64 b1], .agg #[.int .u64 (s0 : Int), .int .u64 (s1 : Int)]] w fun e w' => e = .returned (.bool true) ∧ Below w.heap.size w w' := by
  go_enter Try.func5, Try.ntmps5
  go_wp2_with (first | (go_at_call 8; (with_reducible refine (shown_any _).mono ?_); rintro e w' ⟨rfl, rfl⟩) | (go_at_call 9; (with_reducible refine (refIs_no _ _ k0).mono ?_); rintro e w' ⟨rfl, rfl⟩))
  go_loop [8] (fun k => ∃ j : Nat, j ≤ 0 ∧ k = .int .i64 j) (fun k => 0 - (intOf k).toNat)
  case atStart => exact ⟨0, by omega, rfl⟩
  case round =>
    obtain ⟨j, hj, rfl⟩ := hrel
    obtain rfl : j = 0 := by omega
    rw [show ((0 : Nat) : Int) = 0 from rfl]
    go_wp2_with (first | (go_at_call 8; (with_reducible refine (shown_any _).mono ?_); rintro e w' ⟨rfl, rfl⟩) | (go_at_call 9; (with_reducible refine (refIs_no _ _ k0).mono ?_); rintro e w' ⟨rfl, rfl⟩))
    go_ret
    exact ⟨rfl, (((Below.refl _ w).alloc (Nat.le_refl _) _).alloc (by simp) _).alloc (by simp; omega) _⟩
set_option maxRecDepth 100000 in
set_option maxHeartbeats 4000000 in
theorem walkN1 (a0 a1 b0 b1 : Int) (s0 s1 : Nat) (k0 : isRef a0) (k1 : ¬ isRef b0) (w : World) :
    Calls Try.prog 5 #[.agg #[.int .i64 a0, .int .i64 a1], .agg #[.int .i64 b0, .int .i64 b1], .agg #[.int .u64 (s0 : Int), .int .u64 (s1 : Int)]] w fun e w' => e = .returned (.bool true) ∧ Below w.heap.size w w' := by
  go_enter Try.func5, Try.ntmps5
  go_wp2_with (first | (go_at_call 8; (with_reducible refine (shown_any _).mono ?_); rintro e w' ⟨rfl, rfl⟩) | (go_at_call 9; (with_reducible refine (refIs_yes _ _ k0).mono ?_); rintro e w' ⟨rfl, rfl⟩) | (go_at_call 9; (with_reducible refine (refIs_no _ _ k1).mono ?_); rintro e w' ⟨rfl, rfl⟩))
  go_loop [8] (fun k => ∃ j : Nat, j ≤ 0 ∧ k = .int .i64 j) (fun k => 0 - (intOf k).toNat)
  case atStart => exact ⟨0, by omega, rfl⟩
  case round =>
    obtain ⟨j, hj, rfl⟩ := hrel
    obtain rfl : j = 0 := by omega
    rw [show ((0 : Nat) : Int) = 0 from rfl]
    go_wp2_with (first | (go_at_call 8; (with_reducible refine (shown_any _).mono ?_); rintro e w' ⟨rfl, rfl⟩) | (go_at_call 9; (with_reducible refine (refIs_yes _ _ k0).mono ?_); rintro e w' ⟨rfl, rfl⟩) | (go_at_call 9; (with_reducible refine (refIs_no _ _ k1).mono ?_); rintro e w' ⟨rfl, rfl⟩))
    go_ret
    exact ⟨rfl, (((Below.refl _ w).alloc (Nat.le_refl _) _).alloc (by simp) _).alloc (by simp; omega) _⟩
set_option maxRecDepth 100000 in
set_option maxHeartbeats 4000000 in
theorem walkN2 (a0 a1 b0 b1 : Int) (s0 s1 : Nat) (k0 : isRef a0) (k1 : isRef b0) (k2 : ¬ isRef a1) (w : World) :
    Calls Try.prog 5 #[.agg #[.int .i64 a0, .int .i64 a1], .agg #[.int .i64 b0, .int .i64 b1], .agg #[.int .u64 (s0 : Int), .int .u64 (s1 : Int)]] w fun e w' => e = .returned (.bool true) ∧ Below w.heap.size w w' := by
  go_enter Try.func5, Try.ntmps5
  go_wp2_with (first | (go_at_call 8; (with_reducible refine (shown_any _).mono ?_); rintro e w' ⟨rfl, rfl⟩) | (go_at_call 9; (with_reducible refine (refIs_yes _ _ k0).mono ?_); rintro e w' ⟨rfl, rfl⟩) | (go_at_call 9; (with_reducible refine (refIs_yes _ _ k1).mono ?_); rintro e w' ⟨rfl, rfl⟩) | (go_at_call 9; (with_reducible refine (refIs_no _ _ k2).mono ?_); rintro e w' ⟨rfl, rfl⟩))
  go_loop [8] (fun k => ∃ j : Nat, j ≤ 1 ∧ k = .int .i64 j) (fun k => 1 - (intOf k).toNat)
  case atStart => exact ⟨0, by omega, rfl⟩
  case round =>
    obtain ⟨j, hj, rfl⟩ := hrel
    obtain rfl | rfl : j = 0 ∨ j = 1 := by omega
    · rw [show ((0 : Nat) : Int) = 0 from rfl]
      go_wp2_with (first | (go_at_call 8; (with_reducible refine (shown_any _).mono ?_); rintro e w' ⟨rfl, rfl⟩) | (go_at_call 9; (with_reducible refine (refIs_yes _ _ k0).mono ?_); rintro e w' ⟨rfl, rfl⟩) | (go_at_call 9; (with_reducible refine (refIs_yes _ _ k1).mono ?_); rintro e w' ⟨rfl, rfl⟩) | (go_at_call 9; (with_reducible refine (refIs_no _ _ k2).mono ?_); rintro e w' ⟨rfl, rfl⟩))
      go_round
      case rel => exact ⟨0 + 1, by omega, by first | rfl | go_num⟩
      case measure => simp [intOf]
    · rw [show ((1 : Nat) : Int) = 1 from rfl]
      go_wp2_with (first | (go_at_call 8; (with_reducible refine (shown_any _).mono ?_); rintro e w' ⟨rfl, rfl⟩) | (go_at_call 9; (with_reducible refine (refIs_yes _ _ k0).mono ?_); rintro e w' ⟨rfl, rfl⟩) | (go_at_call 9; (with_reducible refine (refIs_yes _ _ k1).mono ?_); rintro e w' ⟨rfl, rfl⟩) | (go_at_call 9; (with_reducible refine (refIs_no _ _ k2).mono ?_); rintro e w' ⟨rfl, rfl⟩))
      go_ret
      exact ⟨rfl, (((Below.refl _ w).alloc (Nat.le_refl _) _).alloc (by simp) _).alloc (by simp; omega) _⟩
set_option maxRecDepth 100000 in
set_option maxHeartbeats 4000000 in
theorem walkN3 (a0 a1 b0 b1 : Int) (s0 s1 : Nat) (k0 : isRef a0) (k1 : isRef b0) (k2 : isRef a1) (k3 : ¬ isRef b1) (w : World) :
    Calls Try.prog 5 #[.agg #[.int .i64 a0, .int .i64 a1], .agg #[.int .i64 b0, .int .i64 b1], .agg #[.int .u64 (s0 : Int), .int .u64 (s1 : Int)]] w fun e w' => e = .returned (.bool true) ∧ Below w.heap.size w w' := by
  go_enter Try.func5, Try.ntmps5
  go_wp2_with (first | (go_at_call 8; (with_reducible refine (shown_any _).mono ?_); rintro e w' ⟨rfl, rfl⟩) | (go_at_call 9; (with_reducible refine (refIs_yes _ _ k0).mono ?_); rintro e w' ⟨rfl, rfl⟩) | (go_at_call 9; (with_reducible refine (refIs_yes _ _ k1).mono ?_); rintro e w' ⟨rfl, rfl⟩) | (go_at_call 9; (with_reducible refine (refIs_yes _ _ k2).mono ?_); rintro e w' ⟨rfl, rfl⟩) | (go_at_call 9; (with_reducible refine (refIs_no _ _ k3).mono ?_); rintro e w' ⟨rfl, rfl⟩))
  go_loop [8] (fun k => ∃ j : Nat, j ≤ 1 ∧ k = .int .i64 j) (fun k => 1 - (intOf k).toNat)
  case atStart => exact ⟨0, by omega, rfl⟩
  case round =>
    obtain ⟨j, hj, rfl⟩ := hrel
    obtain rfl | rfl : j = 0 ∨ j = 1 := by omega
    · rw [show ((0 : Nat) : Int) = 0 from rfl]
      go_wp2_with (first | (go_at_call 8; (with_reducible refine (shown_any _).mono ?_); rintro e w' ⟨rfl, rfl⟩) | (go_at_call 9; (with_reducible refine (refIs_yes _ _ k0).mono ?_); rintro e w' ⟨rfl, rfl⟩) | (go_at_call 9; (with_reducible refine (refIs_yes _ _ k1).mono ?_); rintro e w' ⟨rfl, rfl⟩) | (go_at_call 9; (with_reducible refine (refIs_yes _ _ k2).mono ?_); rintro e w' ⟨rfl, rfl⟩) | (go_at_call 9; (with_reducible refine (refIs_no _ _ k3).mono ?_); rintro e w' ⟨rfl, rfl⟩))
      go_round
      case rel => exact ⟨0 + 1, by omega, by first | rfl | go_num⟩
      case measure => simp [intOf]
    · rw [show ((1 : Nat) : Int) = 1 from rfl]
      go_wp2_with (first | (go_at_call 8; (with_reducible refine (shown_any _).mono ?_); rintro e w' ⟨rfl, rfl⟩) | (go_at_call 9; (with_reducible refine (refIs_yes _ _ k0).mono ?_); rintro e w' ⟨rfl, rfl⟩) | (go_at_call 9; (with_reducible refine (refIs_yes _ _ k1).mono ?_); rintro e w' ⟨rfl, rfl⟩) | (go_at_call 9; (with_reducible refine (refIs_yes _ _ k2).mono ?_); rintro e w' ⟨rfl, rfl⟩) | (go_at_call 9; (with_reducible refine (refIs_no _ _ k3).mono ?_); rintro e w' ⟨rfl, rfl⟩))
      go_ret
      exact ⟨rfl, (((Below.refl _ w).alloc (Nat.le_refl _) _).alloc (by simp) _).alloc (by simp; omega) _⟩
theorem run_eq2 (a0 a1 b0 b1 : Int) (W : World) : (binOp .eql 42 (.agg #[.int .i64 a0, .int .i64 a1]) (.agg #[.int .i64 b0, .int .i64 b1])).run Try.prog W = .ok (.bool (a0 == b0 && a1 == b1)) W := by
  have hc : Try.prog.cellsOf 3 = 1 := by kernel_rfl
  rw [run_eql_struct, run_equalIn_array (d := 9999) (e := 3) (n := 2) (hu := Try.underlying42) (hi := rfl)]
  rw [show List.range 2 = [0, 1] from rfl, hc]
  have p : ∀ (x y : Int) (w : World), (part 3 #[.int .i64 x, .int .i64 y] 0).run Try.prog w = .ok (.int .i64 x) w := by
    intro x y w
    simp [part, isAgg, run_underlying Try.underlying3]
  have q : ∀ (x y : Int) (w : World), (part 3 #[.int .i64 x, .int .i64 y] 1).run Try.prog w = .ok (.int .i64 y) w := by
    intro x y w
    simp [part, isAgg, run_underlying Try.underlying3]
  have e : ∀ (x y : Int) (w : World), (Op.equalIn 9999 3 (.int .i64 x) (.int .i64 y)).run Try.prog w = .ok (x == y) w := fun x y w => run_equalIn_int w 9998 3 .i64 .i64 x y Try.underlying3
  simp only [Op.eqItems, Sem.run_bind, Nat.mul_one, p, e, Result.andThen_ok]
  cases (a0 == b0)
  · simp
  · simp [q, e]
    by_cases h1 : a1 = b1 <;> simp [h1]
theorem walk (a0 a1 b0 b1 s0 s1 : Nat) (k0 : a0 < 1048576) (k1 : a1 < 1048576) (k2 : b0 < 1048576) (k3 : b1 < 1048576) (hs0 : s0 < 18446744073709551616) (hs1 : s1 < 18446744073709551616) (w : World) :
    Calls Try.prog 5 #[.agg #[.int .i64 (a0 : Int), .int .i64 (a1 : Int)], .agg #[.int .i64 (b0 : Int), .int .i64 (b1 : Int)], .agg #[.int .u64 (s0 : Int), .int .u64 (s1 : Int)]] w fun e w' => e = .returned (.bool true) ∧ Below w.heap.size w w' := by
  have b1' := bitsN_lt ((a1 % 4 : Nat) : Int)
  have b2' := bitsN_lt ((b1 % 4 : Nat) : Int)
  have fa : flagN (s0 / 1048576) ((a1 % 4 : Nat) : Int) = 4 * (s0 / 1048576) + a1 % 4 := by unfold flagN bitsN; omega
  have fb : flagN (s1 / 1048576) ((b1 % 4 : Nat) : Int) = 4 * (s1 / 1048576) + b1 % 4 := by unfold flagN bitsN; omega
  have hT : (((topN a0 (s0 / 1048576) : Nat) : Int) == ((topN b0 (s1 / 1048576) : Nat) : Int)) = (((a0 : Int) == (b0 : Int)) && (((s0 / 1048576 : Nat) : Int) == ((s1 / 1048576 : Nat) : Int))) := by
    rw [Bool.eq_iff_iff, beq_iff_eq, Bool.and_eq_true, beq_iff_eq, beq_iff_eq]; unfold topN; omega
  have hF : (((flagN (s0 / 1048576) ((a1 % 4 : Nat) : Int) : Nat) : Int) == ((flagN (s1 / 1048576) ((b1 % 4 : Nat) : Int) : Nat) : Int)) = ((((s0 / 1048576 : Nat) : Int) == ((s1 / 1048576 : Nat) : Int)) && (((a1 % 4 : Nat) : Int) == ((b1 % 4 : Nat) : Int))) := by
    rw [fa, fb]; rw [Bool.eq_iff_iff, beq_iff_eq, Bool.and_eq_true, beq_iff_eq, beq_iff_eq]; omega
  have hL : (((linkN a0 ((a1 : Int) % 2 == 1) : Nat) : Int) == ((linkN b0 ((b1 : Int) % 2 == 1) : Nat) : Int)) = (((a0 : Int) == (b0 : Int)) && ((a1 : Int) % 2 == (b1 : Int) % 2)) := by
    rw [Bool.eq_iff_iff, beq_iff_eq, Bool.and_eq_true, beq_iff_eq, beq_iff_eq]
    unfold linkN
    by_cases c1 : (a1 : Int) % 2 = 1 <;> by_cases c2 : (b1 : Int) % 2 = 1 <;> simp [c1, c2] <;> omega
  cases h0 : ((a0 : Int) == (b0 : Int)) <;> cases h1 : (((s0 / 1048576 : Nat) : Int) == ((s1 / 1048576 : Nat) : Int))
  · refine walk1ff a0 a1 b0 b1 s0 s1 (s0 / 1048576) (s1 / 1048576) (a1 % 4) (b1 % 4) (endsN a0 a1) (endsN b0 b1) (topN a0 (s0 / 1048576)) (topN b0 (s1 / 1048576)) (flagN (s0 / 1048576) ((a1 % 4 : Nat) : Int)) (flagN (s1 / 1048576) ((b1 % 4 : Nat) : Int)) (linkN a0 ((a1 : Int) % 2 == 1)) (linkN b0 ((b1 : Int) % 2 == 1))
      ((a1 : Int) % 2 == 1) ((b1 : Int) % 2 == 1) ((a0 : Int) == (b0 : Int) && (a1 : Int) == (b1 : Int)) (((a1 % 4 : Nat) : Int) == ((b1 % 4 : Nat) : Int)) ((a1 : Int) % 2 == (b1 : Int) % 2)
      ⟨by omega, by omega⟩ ⟨by omega, by omega⟩ ⟨by omega, by omega⟩ ⟨by omega, by omega⟩ (by omega) (by omega) (by omega) (by omega) rfl rfl (fun W => run_eq2 _ _ _ _ W) (by rw [Bool.eq_iff_iff, beq_iff_eq, Bool.and_eq_true, beq_iff_eq, beq_iff_eq]; unfold endsN; omega) h0 h1 (hT.trans (by rw [h0, h1])) rfl (hF.trans (by rw [h1])) rfl (hL.trans (by rw [h0]))
      (ends_any a0 a1 k0 k1) (ends_any b0 b1 k2 k3) (top_any a0 _ k0) (top_any b0 _ k2) (flag_any _ _) (flag_any _ _) (link_any a0 _ (by omega)) (link_any b0 _ (by omega)) w
  · refine walk1ft a0 a1 b0 b1 s0 s1 (s0 / 1048576) (s1 / 1048576) (a1 % 4) (b1 % 4) (endsN a0 a1) (endsN b0 b1) (topN a0 (s0 / 1048576)) (topN b0 (s1 / 1048576)) (flagN (s0 / 1048576) ((a1 % 4 : Nat) : Int)) (flagN (s1 / 1048576) ((b1 % 4 : Nat) : Int)) (linkN a0 ((a1 : Int) % 2 == 1)) (linkN b0 ((b1 : Int) % 2 == 1))
      ((a1 : Int) % 2 == 1) ((b1 : Int) % 2 == 1) ((a0 : Int) == (b0 : Int) && (a1 : Int) == (b1 : Int)) (((a1 % 4 : Nat) : Int) == ((b1 % 4 : Nat) : Int)) ((a1 : Int) % 2 == (b1 : Int) % 2)
      ⟨by omega, by omega⟩ ⟨by omega, by omega⟩ ⟨by omega, by omega⟩ ⟨by omega, by omega⟩ (by omega) (by omega) (by omega) (by omega) rfl rfl (fun W => run_eq2 _ _ _ _ W) (by rw [Bool.eq_iff_iff, beq_iff_eq, Bool.and_eq_true, beq_iff_eq, beq_iff_eq]; unfold endsN; omega) h0 h1 (hT.trans (by rw [h0, h1])) rfl (hF.trans (by rw [h1])) rfl (hL.trans (by rw [h0]))
      (ends_any a0 a1 k0 k1) (ends_any b0 b1 k2 k3) (top_any a0 _ k0) (top_any b0 _ k2) (flag_any _ _) (flag_any _ _) (link_any a0 _ (by omega)) (link_any b0 _ (by omega)) w
  · refine walk1tf a0 a1 b0 b1 s0 s1 (s0 / 1048576) (s1 / 1048576) (a1 % 4) (b1 % 4) (endsN a0 a1) (endsN b0 b1) (topN a0 (s0 / 1048576)) (topN b0 (s1 / 1048576)) (flagN (s0 / 1048576) ((a1 % 4 : Nat) : Int)) (flagN (s1 / 1048576) ((b1 % 4 : Nat) : Int)) (linkN a0 ((a1 : Int) % 2 == 1)) (linkN b0 ((b1 : Int) % 2 == 1))
      ((a1 : Int) % 2 == 1) ((b1 : Int) % 2 == 1) ((a0 : Int) == (b0 : Int) && (a1 : Int) == (b1 : Int)) (((a1 % 4 : Nat) : Int) == ((b1 % 4 : Nat) : Int)) ((a1 : Int) % 2 == (b1 : Int) % 2)
      ⟨by omega, by omega⟩ ⟨by omega, by omega⟩ ⟨by omega, by omega⟩ ⟨by omega, by omega⟩ (by omega) (by omega) (by omega) (by omega) rfl rfl (fun W => run_eq2 _ _ _ _ W) (by rw [Bool.eq_iff_iff, beq_iff_eq, Bool.and_eq_true, beq_iff_eq, beq_iff_eq]; unfold endsN; omega) h0 h1 (hT.trans (by rw [h0, h1])) rfl (hF.trans (by rw [h1])) rfl (hL.trans (by rw [h0]))
      (ends_any a0 a1 k0 k1) (ends_any b0 b1 k2 k3) (top_any a0 _ k0) (top_any b0 _ k2) (flag_any _ _) (flag_any _ _) (link_any a0 _ (by omega)) (link_any b0 _ (by omega)) w
  · refine walk1tt a0 a1 b0 b1 s0 s1 (s0 / 1048576) (s1 / 1048576) (a1 % 4) (b1 % 4) (endsN a0 a1) (endsN b0 b1) (topN a0 (s0 / 1048576)) (topN b0 (s1 / 1048576)) (flagN (s0 / 1048576) ((a1 % 4 : Nat) : Int)) (flagN (s1 / 1048576) ((b1 % 4 : Nat) : Int)) (linkN a0 ((a1 : Int) % 2 == 1)) (linkN b0 ((b1 : Int) % 2 == 1))
      ((a1 : Int) % 2 == 1) ((b1 : Int) % 2 == 1) ((a0 : Int) == (b0 : Int) && (a1 : Int) == (b1 : Int)) (((a1 % 4 : Nat) : Int) == ((b1 % 4 : Nat) : Int)) ((a1 : Int) % 2 == (b1 : Int) % 2)
      ⟨by omega, by omega⟩ ⟨by omega, by omega⟩ ⟨by omega, by omega⟩ ⟨by omega, by omega⟩ (by omega) (by omega) (by omega) (by omega) rfl rfl (fun W => run_eq2 _ _ _ _ W) (by rw [Bool.eq_iff_iff, beq_iff_eq, Bool.and_eq_true, beq_iff_eq, beq_iff_eq]; unfold endsN; omega) h0 h1 (hT.trans (by rw [h0, h1])) rfl (hF.trans (by rw [h1])) rfl (hL.trans (by rw [h0]))
      (ends_any a0 a1 k0 k1) (ends_any b0 b1 k2 k3) (top_any a0 _ k0) (top_any b0 _ k2) (flag_any _ _) (flag_any _ _) (link_any a0 _ (by omega)) (link_any b0 _ (by omega)) w
section
variable {H : Type} {enc : TypeId × Value → H} {w : World}
theorem open_a {v : Value} {d : DataW H} {ps : List MemPlace} {base : Nat} (hval : Value.okWide Try.prog w .any base 42 v) (h : DataW.Trod enc Try.prog w 0 (fun _ => true) true 42 v d ps) (hs : Sized Try.prog 42 d) (hlt : ∀ z ∈ ps, z.block < w.heap.size) :
    ∃ (a0 : Int) (a1 : Int), v = .agg #[.int .i64 a0, .int .i64 a1] ∧ (-9223372036854775808 ≤ a0 ∧ a0 < 9223372036854775808) ∧ (-9223372036854775808 ≤ a1 ∧ a1 < 9223372036854775808) := by
  obtain ⟨cs, rfl, hsz⟩ := okWide_array Try.underlying42 hval
  obtain ⟨fuel, hf⟩ := h
  have hcs : (Value.agg cs).cells.toList = cs.toList := rfl
  rw [hcs] at hf
  have hcl : cs.toList.length = 2 := by rw [Array.length_toList, hsz]; kernel_rfl
  obtain ⟨c0, c1, hL⟩ : ∃ c0 c1, cs.toList = [c0, c1] := ⟨_, _, cells_of hcl .nilIface⟩
  rw [hL] at hf
  rw [list_agg hL]
  clear hcl hL hsz hcs
  obtain ⟨y0, n0, g0, s0, q0⟩ := elem_at Try.underlying42 hf 0 (by decide) 1 [c0] (by kernel_rfl) rfl hs hlt
  obtain ⟨a0, e1, ha0⟩ := leaf_i64 Try.underlying3 g0
  cases e1
  obtain ⟨y2, n2, g2, s2, q2⟩ := elem_at Try.underlying42 hf 1 (by decide) 1 [c1] (by kernel_rfl) rfl hs hlt
  obtain ⟨a1, e3, ha1⟩ := leaf_i64 Try.underlying3 g2
  cases e3
  exact ⟨a0, a1, rfl, ha0, ha1⟩
theorem open_b {v : Value} {d : DataW H} {ps : List MemPlace} {base : Nat} (hval : Value.okWide Try.prog w .any base 42 v) (h : DataW.Trod enc Try.prog w 0 (fun _ => true) true 42 v d ps) (hs : Sized Try.prog 42 d) (hlt : ∀ z ∈ ps, z.block < w.heap.size) :
    ∃ (b0 : Int) (b1 : Int), v = .agg #[.int .i64 b0, .int .i64 b1] ∧ (-9223372036854775808 ≤ b0 ∧ b0 < 9223372036854775808) ∧ (-9223372036854775808 ≤ b1 ∧ b1 < 9223372036854775808) := by
  obtain ⟨cs, rfl, hsz⟩ := okWide_array Try.underlying42 hval
  obtain ⟨fuel, hf⟩ := h
  have hcs : (Value.agg cs).cells.toList = cs.toList := rfl
  rw [hcs] at hf
  have hcl : cs.toList.length = 2 := by rw [Array.length_toList, hsz]; kernel_rfl
  obtain ⟨c0, c1, hL⟩ : ∃ c0 c1, cs.toList = [c0, c1] := ⟨_, _, cells_of hcl .nilIface⟩
  rw [hL] at hf
  rw [list_agg hL]
  clear hcl hL hsz hcs
  obtain ⟨y0, n0, g0, s0, q0⟩ := elem_at Try.underlying42 hf 0 (by decide) 1 [c0] (by kernel_rfl) rfl hs hlt
  obtain ⟨b0, e1, hb0⟩ := leaf_i64 Try.underlying3 g0
  cases e1
  obtain ⟨y2, n2, g2, s2, q2⟩ := elem_at Try.underlying42 hf 1 (by decide) 1 [c1] (by kernel_rfl) rfl hs hlt
  obtain ⟨b1, e3, hb1⟩ := leaf_i64 Try.underlying3 g2
  cases e3
  exact ⟨b0, b1, rfl, hb0, hb1⟩
theorem open_s {v : Value} {d : DataW H} {ps : List MemPlace} {base : Nat} (hval : Value.okWide Try.prog w .any base 43 v) (h : DataW.Trod enc Try.prog w 0 (fun _ => true) true 43 v d ps) (hs : Sized Try.prog 43 d) (hlt : ∀ z ∈ ps, z.block < w.heap.size) :
    ∃ (s0 : Nat) (s1 : Nat), v = .agg #[.int .u64 (s0 : Int), .int .u64 (s1 : Int)] ∧ s0 < 18446744073709551616 ∧ s1 < 18446744073709551616 := by
  obtain ⟨cs, rfl, hsz⟩ := okWide_array Try.underlying43 hval
  obtain ⟨fuel, hf⟩ := h
  have hcs : (Value.agg cs).cells.toList = cs.toList := rfl
  rw [hcs] at hf
  have hcl : cs.toList.length = 2 := by rw [Array.length_toList, hsz]; kernel_rfl
  obtain ⟨c0, c1, hL⟩ : ∃ c0 c1, cs.toList = [c0, c1] := ⟨_, _, cells_of hcl .nilIface⟩
  rw [hL] at hf
  rw [list_agg hL]
  clear hcl hL hsz hcs
  obtain ⟨y0, n0, g0, s0, q0⟩ := elem_at Try.underlying43 hf 0 (by decide) 1 [c0] (by kernel_rfl) rfl hs hlt
  obtain ⟨s0, e1, hs0⟩ := leaf_u64 Try.underlying22 g0
  cases e1
  obtain ⟨y2, n2, g2, s2, q2⟩ := elem_at Try.underlying43 hf 1 (by decide) 1 [c1] (by kernel_rfl) rfl hs hlt
  obtain ⟨s1, e3, hs1⟩ := leaf_u64 Try.underlying22 g2
  cases e3
  exact ⟨s0, s1, rfl, hs0, hs1⟩
end

set_option maxRecDepth 100000 in
theorem lifted (os : Os) (started : os.Started) (H : Type) (enc : TypeId × Value → H) :
    ReturnsInHanded {} Try.checked os 5 .any (Rows.wordApartSpec.pre6 enc Try.prog Try.f5 Rows.wordApartRow.domain false) (Rows.wordApartSpec.post enc Try.prog Try.f5 false true false false) := by
  refine law_lifted (C := Try.checked) own started (by kernel_rfl) Try.func5
    (ChangeSpec.witness6 (enc := enc) (C := Try.checked) false ⟨#[], #[.agg #[.int .i64 0, .int .i64 0], .agg #[.int .i64 0, .int .i64 0], .agg #[.int .u64 0, .int .u64 0]], []⟩ 8 (by kernel_rfl) (by kernel_rfl) (by kernel_rfl) (by kernel_rfl))
    (by kernel_rfl) (by kernel_rfl) Try.underlying4 rfl (by kernel_rfl) ?_
  intro W base args ds before hval hA hwt hlt
  have hA' : DataW.TrodAll enc Try.prog W 0 (fun _ => true) true Try.f5.params.toList args.toList ds before := hA
  have hval' : ∀ (j : Nat) t v, Try.f5.params[j]? = some t → args[j]? = some v → Value.okWide Try.prog W .any base t v := hval
  have hwt' : (DataW.weightsEach Try.prog Try.f5.params.toList ds).all (· ≤ reachBytes) = true := hwt
  rw [Try.params5] at hA' hval' hwt'
  obtain ⟨v0, vs0, d0, ds0, p0, q0, hargs, rfl, rfl, k0, r0⟩ := trodAll_cons hA'
  obtain ⟨v1, vs1, d1, ds1, p1, q1, rfl, rfl, rfl, k1, r1⟩ := trodAll_cons r0
  obtain ⟨v2, vs2, d2, ds2, p2, q2, rfl, rfl, rfl, k2, r2⟩ := trodAll_cons r1
  obtain ⟨rfl, rfl, rfl⟩ := trodAll_nil r2
  obtain rfl : args = #[v0, v1, v2] := by cases args; simp_all
  obtain ⟨a0, a1, rfl, ha0, ha1⟩ := open_a (hval' 0 42 v0 rfl rfl) k0 (sized_of hwt' (j := 0) (t := 42) rfl rfl) (fun x hx => hlt x (by simp [hx]))
  obtain ⟨b0, b1, rfl, hb0, hb1⟩ := open_b (hval' 1 42 v1 rfl rfl) k1 (sized_of hwt' (j := 1) (t := 42) rfl rfl) (fun x hx => hlt x (by simp [hx]))
  obtain ⟨s0, s1, rfl, hs0, hs1⟩ := open_s (hval' 2 43 v2 rfl rfl) k2 (sized_of hwt' (j := 2) (t := 43) rfl rfl) (fun x hx => hlt x (by simp [hx]))
  refine ⟨rfl, ?_⟩
  by_cases k0 : isRef a0
  · by_cases k2 : isRef b0
    · by_cases k1 : isRef a1
      · by_cases k3 : isRef b1
        · obtain ⟨p0, p1⟩ := k0
          obtain ⟨q0, q1⟩ := k1
          obtain ⟨r0, r1⟩ := k2
          obtain ⟨t0, t1⟩ := k3
          obtain ⟨a0, rfl⟩ := Int.eq_ofNat_of_zero_le p0
          obtain ⟨a1, rfl⟩ := Int.eq_ofNat_of_zero_le q0
          obtain ⟨b0, rfl⟩ := Int.eq_ofNat_of_zero_le r0
          obtain ⟨b1, rfl⟩ := Int.eq_ofNat_of_zero_le t0
          exact walk a0 a1 b0 b1 s0 s1 (by omega) (by omega) (by omega) (by omega) hs0 hs1 W
        · exact walkN3 a0 a1 b0 b1 s0 s1 k0 k2 k1 k3 W
      · exact walkN2 a0 a1 b0 b1 s0 s1 k0 k2 k1 W
    · exact walkN1 a0 a1 b0 b1 s0 s1 k0 k2 W
  · exact walkN0 a0 a1 b0 b1 s0 s1 k0 W

theorem over : Rows.wordApartRow.holds Try.pinned (OpenSpec.ofChange Rows.wordApartSpec) :=
  OpenClaim.holds_of_wide 5 Try.f5 rfl rfl rfl rfl rfl rfl rfl ⟨rfl, rfl, rfl, rfl, rfl⟩ rfl rfl rfl rfl rfl (by kernel_rfl) Try.func5 (by kernel_rfl)
    (of_decide_eq_true (by kernel_rfl)) (by unfold Func.isWrapper; first | (rw [if_pos (by decide +kernel)]; kernel_rfl) | (rw [if_neg (by decide +kernel)]; exact ⟨rfl, rfl⟩))
    (fun os started H enc _ => lifted os started H enc)

/-- The statement. -/
theorem proved : Rows.WordApartSaid :=
  over
#print axioms proved
end Go.Proofs.Ytpliipmbgblbaaa.wordApart
