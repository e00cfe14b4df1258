/-
  The document's example of layer 5: the function that asks it answers yes, and lays at most new memory.
-/
import Derived.Test.YtioheffdolnciaaEntAll
import Derived.Test.YtioheffdolnciaaEntRefMay
namespace Go.Proofs.Ytioheffdolnciaa
open Go.ChangeShapes Go.WideShapes Go.ChangeAt Go.RowKit
set_option linter.unusedVariables false

theorem str_death : strN [2, 7, 0, 0, 0, 0, 0, 0, 0] = ⟨#[2, 7, 0, 0, 0, 0, 0, 0, 0]⟩ := by decide +kernel
theorem shown_encode (w : World) : Calls Try.prog 8 #[.agg #[.int .i64 2, .int .u64 7, .int .u64 0, .int .u64 0, .int .u64 0, .int .u64 0]] w (EncPost w 9 [2, 7, 0, 0, 0, 0, 0, 0, 0]) :=
  encode_yes 2 7 0 0 0 0 (by simp [Ent.fit]) (by decide +kernel) 9 _ (by decide +kernel) (by decide +kernel) w
theorem shown_decode (A : Option Addr) (cap : Nat) (hl : 9 ≤ cap) (w : World) (hA : Hid (AtB w A 9 [2, 7, 0, 0, 0, 0, 0, 0, 0])) :
    Calls Try.prog 10 #[.slice A 9 cap] w (DecPost w 2 7 0 0 0 0 0) := by
  have h := decode_at A 9 cap _ hl w hA
  rw [show decN [2, 7, 0, 0, 0, 0, 0, 0, 0] = ⟨2, 7, 0, 0, 0, 0⟩ by decide +kernel, show decE [2, 7, 0, 0, 0, 0, 0, 0, 0] = 0 by decide +kernel] at h
  exact h
theorem shown_encode_no (w : World) : Calls Try.prog 8 #[.agg #[.int .i64 0, .int .u64 0, .int .u64 0, .int .u64 0, .int .u64 0, .int .u64 0]] w (Kept w (.tuple #[.slice none 0 0, .int .i64 1])) :=
  encode_no 0 0 0 0 0 0 (by decide) (by decide +kernel) w
theorem shown_decode_no (A : Option Addr) (cap : Nat) (hl : 1 ≤ cap) (w : World) (hA : Hid (AtB w A 1 [4])) :
    Calls Try.prog 10 #[.slice A 1 cap] w (DecPost w 0 0 0 0 0 0 2) := by
  have h := decode_at A 1 cap _ hl w hA
  rw [show decN [4] = ⟨0, 0, 0, 0, 0, 0⟩ by decide +kernel, show decE [4] = 2 by decide +kernel] at h
  exact h
theorem shown_may (w : World) : Calls Try.prog 12 #[.agg #[.int .i64 1, .int .u64 1, .int .u64 2147483648, .int .u64 0, .int .u64 0, .int .u64 5]] w (Kept w (.bool true)) := by
  have h := may_any 1 1 2147483648 0 0 5 (by decide) w
  rw [show (Ent.mk 1 1 2147483648 0 0 5).mayB = true by decide +kernel] at h
  exact h
theorem shown_may_no (w : World) : Calls Try.prog 12 #[.agg #[.int .i64 1, .int .u64 1, .int .u64 1, .int .u64 1, .int .u64 0, .int .u64 0]] w (Kept w (.bool false)) := by
  have h := may_any 1 1 1 1 0 0 (by decide) w
  rw [show (Ent.mk 1 1 1 1 0 0).mayB = false by decide +kernel] at h
  exact h

set_option maxRecDepth 100000 in
set_option maxHeartbeats 4000000 in
theorem shown_below (w : World) :
    Calls Try.prog 7 #[] w fun e w' => e = .returned (.bool true) ∧ Below w.heap.size w w' := by
  go_enter Try.func7, Try.ntmps7
  go_wp2_with fail
  refine (shown_encode _).mono ?_
  rintro e w1 ⟨v1, rfl, hO1, hB1⟩
  obtain ⟨A1, k1, rfl, hk1, hat1⟩ := hO1.at_ (by omega)
  have B1 := Lib.hid hB1
  have HA1 := Lib.hid hat1
  clear hO1 hat1 hB1
  go_wp2_with fail
  refine (shown_decode A1 k1 hk1 _ HA1).mono ?_
  rintro e w2 ⟨rfl, hB2⟩
  have B2 := Lib.hid (B1.out.trans (hB2.mono B1.out.size))
  have HA2 := Lib.hid (AtB.later HA1 hB2)
  clear hB2 HA1 B1
  go_wp2_with fail
  refine (shown_encode_no _).mono ?_
  rintro e w3 ⟨rfl, hB3⟩
  have B3 := Lib.hid (B2.out.trans ((below_box hB3).mono B2.out.size))
  have HA3 := Lib.hid (AtB.later HA2 (below_box hB3))
  have HE3 : Hid (EntAt w3 w2.heap.size 2 7 0 0 0 0) := Lib.hid ((EntAt.box w2 2 7 0 0 0 0).below hB3)
  have hz3 := HE3.out.1
  clear hB3 HA2 B2
  go_wp2_with fail
  refine (shown_decode_no _ 1 (by omega) _ (Lib.hid (AtB.one (x := 4) (by decide) (by simp)))).mono ?_
  rintro e w4 ⟨rfl, hB4⟩
  have B4 := Lib.hid (B3.out.trans ((below_box hB4).mono B3.out.size))
  have HA4 := Lib.hid (AtB.later HA3 (below_box hB4))
  have HE4 := Lib.hid (HE3.out.below (below_box hB4))
  clear hB4 HA3 HE3 B3 hz3
  obtain ⟨hz4, hc0, hc1, hc2, hc3, hc4, hc5⟩ := HE4.out
  have hA5 : AtB ((w4.alloc (.cells #[.int .i64 0, .int .u64 0, .int .u64 0, .int .u64 0, .int .u64 0, .int .u64 0] 24)).alloc (.cells #[.int .i64 1, .int .u64 1, .int .u64 2147483648, .int .u64 0, .int .u64 0, .int .u64 5] 24)) A1 9 [2, 7, 0, 0, 0, 0, 0, 0, 0] :=
    AtB.later HA4 (below_two _ _)
  have s1 := run_str hA5 k1
  rw [str_death] at s1
  clear hA5
  go_wp2_with (first
    | (go_at_call 12; (with_reducible refine (shown_may _).mono ?_); rintro e w5 ⟨rfl, hb5⟩; have B5 := Lib.hid (B4.out.trans ((below_box (below_box hb5)).mono B4.out.size)); clear hb5)
    | (go_at_call 12; (with_reducible refine (shown_may_no _).mono ?_); rintro e w6 ⟨rfl, hb6⟩; have B6 := Lib.hid (B5.out.trans (hb6.mono B5.out.size)); clear hb6))
  go_ret
  exact ⟨rfl, B6.out⟩
end Go.Proofs.Ytioheffdolnciaa
