/-
  EntryTells: which entries may be, their bytes, and entries of bytes, are as the document says; for every entry and every row of bytes (of up to 100). No condition.
-/
import Derived.Test.YtioheffdolnciaaEntEq
import Derived.Test.YtioheffdolnciaaEntRefEnc
import Derived.Test.YtioheffdolnciaaEntRefDec
import Derived.Test.YtioheffdolnciaaLaw
import Derived.Test.YtioheffdolnciaaEntOpen
import Derived.Deep.RegionHeld3
namespace Go.Proofs.Ytioheffdolnciaa.entryTells
open Go.ChangeShapes Go.WideShapes Go.ChangeAt Go.RowKit
set_option linter.unusedVariables false
theorem own : ownKnob Try.prog.godebug = none := by kernel_rfl

theorem walkLong (A : Option Addr) (len cap : Nat) (l1 : 100 < len) (k : Int) (s y u v x : Nat) (w : World) :
    Calls Try.prog 3 #[.agg #[.int .i64 k, .int .u64 (s : Int), .int .u64 (y : Int), .int .u64 (u : Int), .int .u64 (v : Int), .int .u64 (x : Int)], .slice A len cap] w fun e w' => e = .returned (.bool true) ∧ Below w.heap.size w w' := by
  have d1 : decide ((100 : Int) < (len : Int)) = true := by rw [decide_eq_true_iff]; omega
  go_enter Try.func3, Try.ntmps3
  go_wp2_with fail
  refine (shown_below _).mono ?_
  rintro e w1 ⟨rfl, hb⟩
  have HB1 := Lib.hid (below_box hb)
  clear hb
  go_wp2_with fail
  go_ret
  exact ⟨rfl, HB1.out⟩

set_option maxRecDepth 100000 in
set_option maxHeartbeats 8000000 in
theorem walkMay (A : Option Addr) (len cap : Nat) (xs : List Nat) (hl : len ≤ cap) (l1 : len ≤ 100) (k : Int) (s y u v x : Nat) (hf : (Ent.mk k s y u v x).fit) (hm : (Ent.mk k s y u v x).mayB = true) (w : World) (hA : Hid (AtB w A len xs)) :
    Calls Try.prog 3 #[.agg #[.int .i64 k, .int .u64 (s : Int), .int .u64 (y : Int), .int .u64 (u : Int), .int .u64 (v : Int), .int .u64 (x : Int)], .slice A len cap] w fun e w' => e = .returned (.bool true) ∧ Below w.heap.size w w' := by
  have d1 : decide ((100 : Int) < (len : Int)) = false := by rw [decide_eq_false_iff_not]; omega
  have HM := fun w => refMay_any k s y u v x hf.2.1 w
  have HC := fun w => may_any k s y u v x hf.2.1 w
  rw [hm] at HM HC
  have HD : ∀ w', Hid (AtB w' A len xs) → Calls Try.prog 10 #[.slice A len cap] w' (DecPost w' (decN xs).k (decN xs).s (decN xs).y (decN xs).u (decN xs).v (decN xs).x (decE xs)) := fun w' h => decode_at A len cap xs hl w' h
  have HRD : ∀ w', Hid (AtB w' A len xs) → Calls Try.prog 11 #[.slice A len cap] w' (DecPost w' (decN xs).k (decN xs).s (decN xs).y (decN xs).u (decN xs).v (decN xs).x (decE xs)) := fun w' h => refDecode_at A len cap xs w' h
  generalize decN xs = D at *
  generalize decE xs = code at *
  obtain ⟨dk, ds, dy, du, dv, dx⟩ := D
  have hby := Ent.bytes_pos (Ent.mk k s y u v x)
  have HEN := fun w => encode_yes k s y u v x hf hm _ _ rfl rfl w
  have HRN := fun w => refEncode_yes k s y u v x hf hm _ _ rfl rfl w
  generalize (Ent.mk k s y u v x).bytes = ys at *
  generalize ys.length = n at *
  clear hm hf
  go_enter Try.func3, Try.ntmps3
  go_wp2_with fail
  refine (shown_below _).mono ?_
  rintro e w1 ⟨rfl, hb⟩
  have HB1 := Lib.hid (below_box hb)
  have HE1 := Lib.hid ((EntAt.box w k s y u v x).below hb)
  have HX1 := Lib.hid (AtB.later hA (below_box hb))
  clear hb hA
  obtain ⟨hz1, hc10, hc11, hc12, hc13, hc14, hc15⟩ := HE1.out
  go_wp2_with fail
  refine (HEN _).mono ?_
  rintro e w2 ⟨v2, rfl, hO, hb⟩
  obtain ⟨A2, k2, rfl, hk2, hat2⟩ := hO.at_ (by omega)
  have HA2 := Lib.hid hat2
  clear hO hat2
  clear hz1 hc10 hc11 hc12 hc13 hc14 hc15
  have HB2 := Lib.hid (HB1.out.trans ((hb).mono HB1.out.size))
  have HE2 := Lib.hid (HE1.out.below (hb))
  have HX2 := Lib.hid (AtB.later HX1 (hb))
  clear hb HB1 HE1 HX1
  obtain ⟨hz2, hc20, hc21, hc22, hc23, hc24, hc25⟩ := HE2.out
  go_wp2_with fail
  refine (HRN _).mono ?_
  rintro e w3 ⟨v3, rfl, hO, hb⟩
  obtain ⟨A3, k3, rfl, hk3, hat3⟩ := hO.at_ (by omega)
  have HA3 := Lib.hid hat3
  have HP3 := Lib.hid (AtB.later HA2 hb)
  clear hO hat3 HA2
  clear hz2 hc20 hc21 hc22 hc23 hc24 hc25
  have HB3 := Lib.hid (HB2.out.trans ((hb).mono HB2.out.size))
  have HE3 := Lib.hid (HE2.out.below (hb))
  have HX3 := Lib.hid (AtB.later HX2 (hb))
  clear hb HB2 HE2 HX2
  go_wp2_with fail
  refine (HD _ HX3).mono ?_
  rintro e w4 ⟨rfl, hb⟩
  have HA4 := Lib.hid (AtB.later HA3 hb)
  have HP4 := Lib.hid (AtB.later HP3 hb)
  clear HA3 HP3
  have HB4 := Lib.hid (HB3.out.trans ((hb).mono HB3.out.size))
  have HE4 := Lib.hid (HE3.out.below (hb))
  have HX4 := Lib.hid (AtB.later HX3 (hb))
  clear hb HB3 HE3 HX3
  go_wp2_with fail
  have hal : Below w4.heap.size w4 (w4.alloc (entO dk ds dy du dv dx)) := below_al (Below.refl _ _)
  have HX4' := Lib.hid (AtB.later HX4 hal)
  refine (HRD _ HX4').mono ?_
  rintro e w5 ⟨rfl, hb⟩
  have HQ5 := Lib.hid ((EntAt.box w4 dk ds dy du dv dx).below hb)
  have HA5 := Lib.hid (AtB.later HA4 (below_box hb))
  have HP5 := Lib.hid (AtB.later HP4 (below_box hb))
  clear hal HX4' HA4 HP4
  have HB5 := Lib.hid (HB4.out.trans ((below_box hb).mono HB4.out.size))
  have HE5 := Lib.hid (HE4.out.below (below_box hb))
  have HX5 := Lib.hid (AtB.later HX4 (below_box hb))
  clear hb HB4 HE4 HX4
  obtain ⟨w7, hw7⟩ : ∃ w7, w5.alloc (entO dk ds dy du dv dx) = w7 := ⟨_, rfl⟩
  have hal : Below w5.heap.size w5 w7 := by rw [← hw7]; exact below_al (Below.refl _ _)
  have HQ7 := Lib.hid (HQ5.out.below hal)
  have HR7 : Hid (EntAt w7 w5.heap.size dk ds dy du dv dx) := Lib.hid (by rw [← hw7]; exact EntAt.box w5 dk ds dy du dv dx)
  have HA7 := Lib.hid (AtB.later HA5 hal)
  have HP7 := Lib.hid (AtB.later HP5 hal)
  clear HQ5 HA5 HP5
  have HB7 := Lib.hid (HB5.out.trans ((hal).mono HB5.out.size))
  have HE7 := Lib.hid (HE5.out.below (hal))
  have HX7 := Lib.hid (AtB.later HX5 (hal))
  clear hal HB5 HE5 HX5
  have hC0 : ∀ w', Below w7.heap.size w7 w' → w'.cell? ⟨w.heap.size, 0, none⟩ = some (.int .i64 k) := fun w' hb => (HE7.out.below hb).2.1
  have hC1 : ∀ w', Below w7.heap.size w7 w' → w'.cell? ⟨w.heap.size, 1, none⟩ = some (.int .u64 (s : Int)) := fun w' hb => (HE7.out.below hb).2.2.1
  have hC2 : ∀ w', Below w7.heap.size w7 w' → w'.cell? ⟨w.heap.size, 2, none⟩ = some (.int .u64 (y : Int)) := fun w' hb => (HE7.out.below hb).2.2.2.1
  have hC3 : ∀ w', Below w7.heap.size w7 w' → w'.cell? ⟨w.heap.size, 3, none⟩ = some (.int .u64 (u : Int)) := fun w' hb => (HE7.out.below hb).2.2.2.2.1
  have hC4 : ∀ w', Below w7.heap.size w7 w' → w'.cell? ⟨w.heap.size, 4, none⟩ = some (.int .u64 (v : Int)) := fun w' hb => (HE7.out.below hb).2.2.2.2.2.1
  have hC5 : ∀ w', Below w7.heap.size w7 w' → w'.cell? ⟨w.heap.size, 5, none⟩ = some (.int .u64 (x : Int)) := fun w' hb => (HE7.out.below hb).2.2.2.2.2.2
  have hQ0 : ∀ w', Below w7.heap.size w7 w' → w'.cell? ⟨w4.heap.size, 0, none⟩ = some (.int .i64 dk) := fun w' hb => (HQ7.out.below hb).2.1
  have hQ1 : ∀ w', Below w7.heap.size w7 w' → w'.cell? ⟨w4.heap.size, 1, none⟩ = some (.int .u64 (ds : Int)) := fun w' hb => (HQ7.out.below hb).2.2.1
  have hQ2 : ∀ w', Below w7.heap.size w7 w' → w'.cell? ⟨w4.heap.size, 2, none⟩ = some (.int .u64 (dy : Int)) := fun w' hb => (HQ7.out.below hb).2.2.2.1
  have hQ3 : ∀ w', Below w7.heap.size w7 w' → w'.cell? ⟨w4.heap.size, 3, none⟩ = some (.int .u64 (du : Int)) := fun w' hb => (HQ7.out.below hb).2.2.2.2.1
  have hQ4 : ∀ w', Below w7.heap.size w7 w' → w'.cell? ⟨w4.heap.size, 4, none⟩ = some (.int .u64 (dv : Int)) := fun w' hb => (HQ7.out.below hb).2.2.2.2.2.1
  have hQ5 : ∀ w', Below w7.heap.size w7 w' → w'.cell? ⟨w4.heap.size, 5, none⟩ = some (.int .u64 (dx : Int)) := fun w' hb => (HQ7.out.below hb).2.2.2.2.2.2
  have hR0 : ∀ w', Below w7.heap.size w7 w' → w'.cell? ⟨w5.heap.size, 0, none⟩ = some (.int .i64 dk) := fun w' hb => (HR7.out.below hb).2.1
  have hR1 : ∀ w', Below w7.heap.size w7 w' → w'.cell? ⟨w5.heap.size, 1, none⟩ = some (.int .u64 (ds : Int)) := fun w' hb => (HR7.out.below hb).2.2.1
  have hR2 : ∀ w', Below w7.heap.size w7 w' → w'.cell? ⟨w5.heap.size, 2, none⟩ = some (.int .u64 (dy : Int)) := fun w' hb => (HR7.out.below hb).2.2.2.1
  have hR3 : ∀ w', Below w7.heap.size w7 w' → w'.cell? ⟨w5.heap.size, 3, none⟩ = some (.int .u64 (du : Int)) := fun w' hb => (HR7.out.below hb).2.2.2.2.1
  have hR4 : ∀ w', Below w7.heap.size w7 w' → w'.cell? ⟨w5.heap.size, 4, none⟩ = some (.int .u64 (dv : Int)) := fun w' hb => (HR7.out.below hb).2.2.2.2.2.1
  have hR5 : ∀ w', Below w7.heap.size w7 w' → w'.cell? ⟨w5.heap.size, 5, none⟩ = some (.int .u64 (dx : Int)) := fun w' hb => (HR7.out.below hb).2.2.2.2.2.2
  have s1 : ∀ w', Below w7.heap.size w7 w' → (convert 25 9 (.slice A2 n k2)).run Try.prog w' = .ok (.string (strN ys)) w' := fun w' hb => run_str (AtB.later HP7 hb) k2
  have s2 : ∀ w', Below w7.heap.size w7 w' → (convert 25 9 (.slice A3 n k3)).run Try.prog w' = .ok (.string (strN ys)) w' := fun w' hb => run_str (AtB.later HA7 hb) k3
  generalize strN ys = S at *
  have hB0 : Below w7.heap.size w7 w7 := Below.refl _ _
  go_wp2_with fail
  try rw [hw7]
  clear hw7
  go_region_held3 (fun w' => Below w7.heap.size w7 w') (first | assumption | (exact Below.drew (by assumption)) | (exact Below.drew (Below.refl _ _)))
    (first
      | (go_at_call 12; (with_reducible refine (HC _).mono ?_); rintro e w8 ⟨rfl, hb8⟩; have hB8 : Below w7.heap.size w7 w8 := below_step hb8 (by first | assumption | (exact Below.drew (Below.refl _ _)) | (exact Below.drew (by assumption))); clear hb8)
      | (go_at_call 13; (with_reducible refine (HM _).mono ?_); rintro e w9 ⟨rfl, hb9⟩; have hB9 : Below w7.heap.size w7 w9 := below_step hb9 (by first | assumption | (exact Below.drew (Below.refl _ _)) | (exact Below.drew (by assumption))); clear hb9))
  go_wp2_with fail
  go_ret
  exact ⟨rfl, HB7.out.trans (hB9.mono HB7.out.size)⟩

set_option maxRecDepth 100000 in
set_option maxHeartbeats 8000000 in
theorem walkNot (A : Option Addr) (len cap : Nat) (xs : List Nat) (hl : len ≤ cap) (l1 : len ≤ 100) (k : Int) (s y u v x : Nat) (hf : (Ent.mk k s y u v x).fit) (hm : (Ent.mk k s y u v x).mayB = false) (w : World) (hA : Hid (AtB w A len xs)) :
    Calls Try.prog 3 #[.agg #[.int .i64 k, .int .u64 (s : Int), .int .u64 (y : Int), .int .u64 (u : Int), .int .u64 (v : Int), .int .u64 (x : Int)], .slice A len cap] w fun e w' => e = .returned (.bool true) ∧ Below w.heap.size w w' := by
  have d1 : decide ((100 : Int) < (len : Int)) = false := by rw [decide_eq_false_iff_not]; omega
  have HM := fun w => refMay_any k s y u v x hf.2.1 w
  have HC := fun w => may_any k s y u v x hf.2.1 w
  rw [hm] at HM HC
  have HD : ∀ w', Hid (AtB w' A len xs) → Calls Try.prog 10 #[.slice A len cap] w' (DecPost w' (decN xs).k (decN xs).s (decN xs).y (decN xs).u (decN xs).v (decN xs).x (decE xs)) := fun w' h => decode_at A len cap xs hl w' h
  have HRD : ∀ w', Hid (AtB w' A len xs) → Calls Try.prog 11 #[.slice A len cap] w' (DecPost w' (decN xs).k (decN xs).s (decN xs).y (decN xs).u (decN xs).v (decN xs).x (decE xs)) := fun w' h => refDecode_at A len cap xs w' h
  generalize decN xs = D at *
  generalize decE xs = code at *
  obtain ⟨dk, ds, dy, du, dv, dx⟩ := D
  have HEN := fun w => encode_no k s y u v x hf.2.1 hm w
  have HRN := fun w => refEncode_no k s y u v x hf.2.1 hm w
  clear hm hf
  go_enter Try.func3, Try.ntmps3
  go_wp2_with fail
  refine (shown_below _).mono ?_
  rintro e w1 ⟨rfl, hb⟩
  have HB1 := Lib.hid (below_box hb)
  have HE1 := Lib.hid ((EntAt.box w k s y u v x).below hb)
  have HX1 := Lib.hid (AtB.later hA (below_box hb))
  clear hb hA
  obtain ⟨hz1, hc10, hc11, hc12, hc13, hc14, hc15⟩ := HE1.out
  go_wp2_with fail
  (with_reducible refine (HEN _).mono ?_)
  rintro e w2 ⟨rfl, hb⟩
  clear hz1 hc10 hc11 hc12 hc13 hc14 hc15
  have HB2 := Lib.hid (HB1.out.trans ((hb).mono HB1.out.size))
  have HE2 := Lib.hid (HE1.out.below (hb))
  have HX2 := Lib.hid (AtB.later HX1 (hb))
  clear hb HB1 HE1 HX1
  obtain ⟨hz2, hc20, hc21, hc22, hc23, hc24, hc25⟩ := HE2.out
  go_wp2_with fail
  (with_reducible refine (HRN _).mono ?_)
  rintro e w3 ⟨rfl, hb⟩
  clear hz2 hc20 hc21 hc22 hc23 hc24 hc25
  have HB3 := Lib.hid (HB2.out.trans ((hb).mono HB2.out.size))
  have HE3 := Lib.hid (HE2.out.below (hb))
  have HX3 := Lib.hid (AtB.later HX2 (hb))
  clear hb HB2 HE2 HX2
  have HA3 := Lib.hid (AtB.nil w3 none)
  have HP3 := Lib.hid (AtB.nil w3 none)
  go_wp2_with fail
  refine (HD _ HX3).mono ?_
  rintro e w4 ⟨rfl, hb⟩
  have HA4 := Lib.hid (AtB.later HA3 hb)
  have HP4 := Lib.hid (AtB.later HP3 hb)
  clear HA3 HP3
  have HB4 := Lib.hid (HB3.out.trans ((hb).mono HB3.out.size))
  have HE4 := Lib.hid (HE3.out.below (hb))
  have HX4 := Lib.hid (AtB.later HX3 (hb))
  clear hb HB3 HE3 HX3
  go_wp2_with fail
  have hal : Below w4.heap.size w4 (w4.alloc (entO dk ds dy du dv dx)) := below_al (Below.refl _ _)
  have HX4' := Lib.hid (AtB.later HX4 hal)
  refine (HRD _ HX4').mono ?_
  rintro e w5 ⟨rfl, hb⟩
  have HQ5 := Lib.hid ((EntAt.box w4 dk ds dy du dv dx).below hb)
  have HA5 := Lib.hid (AtB.later HA4 (below_box hb))
  have HP5 := Lib.hid (AtB.later HP4 (below_box hb))
  clear hal HX4' HA4 HP4
  have HB5 := Lib.hid (HB4.out.trans ((below_box hb).mono HB4.out.size))
  have HE5 := Lib.hid (HE4.out.below (below_box hb))
  have HX5 := Lib.hid (AtB.later HX4 (below_box hb))
  clear hb HB4 HE4 HX4
  obtain ⟨w7, hw7⟩ : ∃ w7, w5.alloc (entO dk ds dy du dv dx) = w7 := ⟨_, rfl⟩
  have hal : Below w5.heap.size w5 w7 := by rw [← hw7]; exact below_al (Below.refl _ _)
  have HQ7 := Lib.hid (HQ5.out.below hal)
  have HR7 : Hid (EntAt w7 w5.heap.size dk ds dy du dv dx) := Lib.hid (by rw [← hw7]; exact EntAt.box w5 dk ds dy du dv dx)
  have HA7 := Lib.hid (AtB.later HA5 hal)
  have HP7 := Lib.hid (AtB.later HP5 hal)
  clear HQ5 HA5 HP5
  have HB7 := Lib.hid (HB5.out.trans ((hal).mono HB5.out.size))
  have HE7 := Lib.hid (HE5.out.below (hal))
  have HX7 := Lib.hid (AtB.later HX5 (hal))
  clear hal HB5 HE5 HX5
  have hC0 : ∀ w', Below w7.heap.size w7 w' → w'.cell? ⟨w.heap.size, 0, none⟩ = some (.int .i64 k) := fun w' hb => (HE7.out.below hb).2.1
  have hC1 : ∀ w', Below w7.heap.size w7 w' → w'.cell? ⟨w.heap.size, 1, none⟩ = some (.int .u64 (s : Int)) := fun w' hb => (HE7.out.below hb).2.2.1
  have hC2 : ∀ w', Below w7.heap.size w7 w' → w'.cell? ⟨w.heap.size, 2, none⟩ = some (.int .u64 (y : Int)) := fun w' hb => (HE7.out.below hb).2.2.2.1
  have hC3 : ∀ w', Below w7.heap.size w7 w' → w'.cell? ⟨w.heap.size, 3, none⟩ = some (.int .u64 (u : Int)) := fun w' hb => (HE7.out.below hb).2.2.2.2.1
  have hC4 : ∀ w', Below w7.heap.size w7 w' → w'.cell? ⟨w.heap.size, 4, none⟩ = some (.int .u64 (v : Int)) := fun w' hb => (HE7.out.below hb).2.2.2.2.2.1
  have hC5 : ∀ w', Below w7.heap.size w7 w' → w'.cell? ⟨w.heap.size, 5, none⟩ = some (.int .u64 (x : Int)) := fun w' hb => (HE7.out.below hb).2.2.2.2.2.2
  have hQ0 : ∀ w', Below w7.heap.size w7 w' → w'.cell? ⟨w4.heap.size, 0, none⟩ = some (.int .i64 dk) := fun w' hb => (HQ7.out.below hb).2.1
  have hQ1 : ∀ w', Below w7.heap.size w7 w' → w'.cell? ⟨w4.heap.size, 1, none⟩ = some (.int .u64 (ds : Int)) := fun w' hb => (HQ7.out.below hb).2.2.1
  have hQ2 : ∀ w', Below w7.heap.size w7 w' → w'.cell? ⟨w4.heap.size, 2, none⟩ = some (.int .u64 (dy : Int)) := fun w' hb => (HQ7.out.below hb).2.2.2.1
  have hQ3 : ∀ w', Below w7.heap.size w7 w' → w'.cell? ⟨w4.heap.size, 3, none⟩ = some (.int .u64 (du : Int)) := fun w' hb => (HQ7.out.below hb).2.2.2.2.1
  have hQ4 : ∀ w', Below w7.heap.size w7 w' → w'.cell? ⟨w4.heap.size, 4, none⟩ = some (.int .u64 (dv : Int)) := fun w' hb => (HQ7.out.below hb).2.2.2.2.2.1
  have hQ5 : ∀ w', Below w7.heap.size w7 w' → w'.cell? ⟨w4.heap.size, 5, none⟩ = some (.int .u64 (dx : Int)) := fun w' hb => (HQ7.out.below hb).2.2.2.2.2.2
  have hR0 : ∀ w', Below w7.heap.size w7 w' → w'.cell? ⟨w5.heap.size, 0, none⟩ = some (.int .i64 dk) := fun w' hb => (HR7.out.below hb).2.1
  have hR1 : ∀ w', Below w7.heap.size w7 w' → w'.cell? ⟨w5.heap.size, 1, none⟩ = some (.int .u64 (ds : Int)) := fun w' hb => (HR7.out.below hb).2.2.1
  have hR2 : ∀ w', Below w7.heap.size w7 w' → w'.cell? ⟨w5.heap.size, 2, none⟩ = some (.int .u64 (dy : Int)) := fun w' hb => (HR7.out.below hb).2.2.2.1
  have hR3 : ∀ w', Below w7.heap.size w7 w' → w'.cell? ⟨w5.heap.size, 3, none⟩ = some (.int .u64 (du : Int)) := fun w' hb => (HR7.out.below hb).2.2.2.2.1
  have hR4 : ∀ w', Below w7.heap.size w7 w' → w'.cell? ⟨w5.heap.size, 4, none⟩ = some (.int .u64 (dv : Int)) := fun w' hb => (HR7.out.below hb).2.2.2.2.2.1
  have hR5 : ∀ w', Below w7.heap.size w7 w' → w'.cell? ⟨w5.heap.size, 5, none⟩ = some (.int .u64 (dx : Int)) := fun w' hb => (HR7.out.below hb).2.2.2.2.2.2
  have s1 : ∀ w', Below w7.heap.size w7 w' → (convert 25 9 (.slice none 0 0)).run Try.prog w' = .ok (.string (strN [])) w' := fun w' hb => run_str (AtB.later HP7 hb) 0
  generalize strN [] = S at *
  have hB0 : Below w7.heap.size w7 w7 := Below.refl _ _
  go_wp2_with fail
  try rw [hw7]
  clear hw7
  go_region_held3 (fun w' => Below w7.heap.size w7 w') (first | assumption | (exact Below.drew (by assumption)) | (exact Below.drew (Below.refl _ _)))
    (first
      | (go_at_call 12; (with_reducible refine (HC _).mono ?_); rintro e w8 ⟨rfl, hb8⟩; have hB8 : Below w7.heap.size w7 w8 := below_step hb8 (by first | assumption | (exact Below.drew (Below.refl _ _)) | (exact Below.drew (by assumption))); clear hb8)
      | (go_at_call 13; (with_reducible refine (HM _).mono ?_); rintro e w9 ⟨rfl, hb9⟩; have hB9 : Below w7.heap.size w7 w9 := below_step hb9 (by first | assumption | (exact Below.drew (Below.refl _ _)) | (exact Below.drew (by assumption))); clear hb9))
  go_wp2_with fail
  go_ret
  exact ⟨rfl, HB7.out.trans (hB9.mono HB7.out.size)⟩

set_option maxRecDepth 100000 in
theorem lifted (os : Os) (started : os.Started) (H : Type) (enc : TypeId × Value → H) :
    ReturnsInHanded {} Try.checked os 3 .any (Rows.entryTellsSpec.pre6 enc Try.prog Try.f3 Rows.entryTellsRow.domain false) (Rows.entryTellsSpec.post enc Try.prog Try.f3 false true false false) := by
  refine law_lifted (C := Try.checked) own started (by kernel_rfl) Try.func3
    (ChangeSpec.witness6 (enc := enc) (C := Try.checked) false ⟨#[], #[.agg #[.int .i64 0, .int .u64 0, .int .u64 0, .int .u64 0, .int .u64 0, .int .u64 0], .slice none 0 0], []⟩ 8 (by kernel_rfl) (by kernel_rfl) (by kernel_rfl) (by kernel_rfl))
    (by kernel_rfl) (by kernel_rfl) Try.underlying4 rfl (by kernel_rfl) ?_
  intro W base args ds before hval hA _ hlt
  have hA' : DataW.TrodAll enc Try.prog W 0 (fun _ => true) true Try.f3.params.toList args.toList ds before := hA
  have hval' : ∀ (j : Nat) t v, Try.f3.params[j]? = some t → args[j]? = some v → Value.okWide Try.prog W .any base t v := hval
  rw [Try.params3] at hA' hval'
  obtain ⟨v0, vs0, d0, ds0, p0, q0, hargs, rfl, rfl, h0, r0⟩ := trodAll_cons hA'
  obtain ⟨v1, vs1, d1, ds1, p1, q1, rfl, rfl, rfl, h1, r1⟩ := trodAll_cons r0
  obtain ⟨rfl, rfl, rfl⟩ := trodAll_nil r1
  obtain rfl : args = #[v0, v1] := by cases args; simp_all
  obtain ⟨ek, es, ey, eu, ev, ex, rfl, eb, ef⟩ := open_ent (hval' 0 24 v0 rfl rfl) h0
  obtain ⟨Axs, lenxs, capxs, xs, rfl, hcxs, hatxs⟩ := open_at2 (hval' 1 25 v1 rfl rfl) h1 (fun x hx => hlt x (by simp [hx]))
  refine ⟨rfl, ?_⟩
  by_cases h : 100 < lenxs
  · exact walkLong Axs lenxs capxs h ek es ey eu ev ex W
  · by_cases hm : (Ent.mk ek es ey eu ev ex).mayB = true
    · exact walkMay Axs lenxs capxs xs hcxs (by omega) ek es ey eu ev ex ef hm W (Lib.hid hatxs)
    · exact walkNot Axs lenxs capxs xs hcxs (by omega) ek es ey eu ev ex ef (by simpa using hm) W (Lib.hid hatxs)

theorem over : Rows.entryTellsRow.holds Try.pinned (OpenSpec.ofChange Rows.entryTellsSpec) :=
  OpenClaim.holds_of_wide 3 Try.f3 rfl rfl rfl rfl rfl rfl rfl ⟨rfl, rfl, rfl, rfl, rfl⟩ rfl rfl rfl rfl rfl (by kernel_rfl) Try.func3 (by kernel_rfl)
    (of_decide_eq_true (by kernel_rfl)) (by unfold Func.isWrapper; first | (rw [if_pos (by decide +kernel)]; kernel_rfl) | (rw [if_neg (by decide +kernel)]; exact ⟨rfl, rfl⟩))
    (fun os started H enc _ => lifted os started H enc)

/-- The statement. -/
theorem proved : Rows.EntryTellsSaid :=
  over
#print axioms proved
end Go.Proofs.Ytioheffdolnciaa.entryTells
