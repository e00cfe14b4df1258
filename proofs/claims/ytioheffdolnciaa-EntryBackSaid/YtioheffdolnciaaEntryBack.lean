/-
  EntryBack: for every entry and every row of bytes (of up to 100): what is encoded is decoded as it was, what is decoded is encoded as it was; an entry is encoded just if it may be. No condition.
-/
import Derived.Test.YtioheffdolnciaaEntEq
import Derived.Test.YtioheffdolnciaaLaw
import Derived.Test.YtioheffdolnciaaEntOpen
namespace Go.Proofs.Ytioheffdolnciaa.entryBack
open Go.ChangeShapes Go.WideShapes Go.ChangeAt Go.RowKit
set_option linter.unusedVariables false
theorem own : ownKnob Try.prog.godebug = none := by kernel_rfl

theorem walkLong (A : Option Addr) (len cap : Nat) (l1 : 100 < len) (k : Int) (s y u v x : Nat) (w : World) :
    Calls Try.prog 4 #[.agg #[.int .i64 k, .int .u64 (s : Int), .int .u64 (y : Int), .int .u64 (u : Int), .int .u64 (v : Int), .int .u64 (x : Int)], .slice A len cap] w fun e w' => e = .returned (.bool true) ∧ Below w.heap.size w w' := by
  have d1 : decide ((100 : Int) < (len : Int)) = true := by rw [decide_eq_true_iff]; omega
  go_enter Try.func4, Try.ntmps4
  go_wp2_with fail
  refine (shown_below _).mono ?_
  rintro e w1 ⟨rfl, hb⟩
  have HB1 := Lib.hid (below_box hb)
  clear hb
  go_wp2_with fail
  go_ret
  exact ⟨rfl, HB1.out⟩

set_option maxRecDepth 100000 in
set_option maxHeartbeats 4000000 in
theorem walkMayReads (A : Option Addr) (len cap : Nat) (xs : List Nat) (hl : len ≤ cap) (l1 : len ≤ 100) (k : Int) (s y u v x : Nat) (hf : (Ent.mk k s y u v x).fit) (hm : (Ent.mk k s y u v x).mayB = true) (hr : Reads xs) (w : World) (hA : Hid (AtB w A len xs)) :
    Calls Try.prog 4 #[.agg #[.int .i64 k, .int .u64 (s : Int), .int .u64 (y : Int), .int .u64 (u : Int), .int .u64 (v : Int), .int .u64 (x : Int)], .slice A len cap] w fun e w' => e = .returned (.bool true) ∧ Below w.heap.size w w' := by
  have d1 : decide ((100 : Int) < (len : Int)) = false := by rw [decide_eq_false_iff_not]; omega
  have HM := fun w => refMay_any k s y u v x hf.2.1 w
  rw [hm] at HM
  have HXB := hA.out.2.1
  have HXL := hA.out.1
  have hrm : (rawN xs).mayB = true := Ent.mayB_yes hr.2.2
  have hrf := raw_fit HXB
  have hrb := bytes_raw HXB hr
  have HD : ∀ w', Hid (AtB w' A len xs) → Calls Try.prog 10 #[.slice A len cap] w' (DecPost w' (rawN xs).k (rawN xs).s (rawN xs).y (rawN xs).u (rawN xs).v (rawN xs).x 0) := fun w' h => by
    have := decode_at A len cap xs hl w' h
    rw [(dec_yes hr).1, (dec_yes hr).2] at this
    exact this
  generalize rawN xs = D at *
  obtain ⟨dk, ds, dy, du, dv, dx⟩ := D
  have HDE : ∀ w, Calls Try.prog 8 #[.agg #[.int .i64 dk, .int .u64 (ds : Int), .int .u64 (dy : Int), .int .u64 (du : Int), .int .u64 (dv : Int), .int .u64 (dx : Int)]] w (EncPost w len xs) := fun w => encode_yes dk ds dy du dv dx hrf hrm len xs (by rw [hrb]; exact HXL) hrb w
  clear hrm hrf hrb hr
  have hmm : (Ent.mk k s y u v x).may := of_decide_eq_true hm
  have hdb := dec_bytes hmm hf
  have hby := Ent.bytes_pos (Ent.mk k s y u v x)
  have HEN := fun w => encode_yes k s y u v x hf hm _ _ rfl rfl w
  have HDD : ∀ (A : Option Addr) (c : Nat) w', (Ent.mk k s y u v x).bytes.length ≤ c → Hid (AtB w' A (Ent.mk k s y u v x).bytes.length (Ent.mk k s y u v x).bytes) → Calls Try.prog 10 #[.slice A (Ent.mk k s y u v x).bytes.length c] w' (DecPost w' k s y u v x 0) := fun A c w' hc h => by
    have := decode_at A _ c _ hc w' h
    rw [hdb.1, hdb.2] at this
    exact this
  clear hdb hmm
  generalize (Ent.mk k s y u v x).bytes = ys at *
  generalize ys.length = n at *
  clear hm HXB HXL
  go_enter Try.func4, Try.ntmps4
  go_wp2_with fail
  refine (shown_below _).mono ?_
  rintro e w1 ⟨rfl, hb⟩
  have HB1 := Lib.hid (below_box hb)
  have HE1 := Lib.hid ((EntAt.box w k s y u v x).below hb)
  have HX1 := Lib.hid (AtB.later hA (below_box hb))
  clear hb hA
  obtain ⟨hz1, hc10, hc11, hc12, hc13, hc14, hc15⟩ := HE1.out
  go_wp2_with fail
  refine (HEN _).mono ?_
  rintro e w2 ⟨v2, rfl, hO, hb⟩
  obtain ⟨A2, k2, rfl, hk2, hat2⟩ := hO.at_ (by omega)
  have HA2 := Lib.hid hat2
  clear hO hat2
  clear hz1 hc10 hc11 hc12 hc13 hc14 hc15
  have HB2 := Lib.hid (HB1.out.trans ((hb).mono HB1.out.size))
  have HE2 := Lib.hid (HE1.out.below (hb))
  have HX2 := Lib.hid (AtB.later HX1 (hb))
  clear hb HB1 HE1 HX1
  obtain ⟨hz2, hc20, hc21, hc22, hc23, hc24, hc25⟩ := HE2.out
  go_wp2_with fail
  (with_reducible refine (HM _).mono ?_)
  rintro e w3 ⟨rfl, hb⟩
  have HA3 := Lib.hid (AtB.later HA2 hb)
  clear HA2
  clear hz2 hc20 hc21 hc22 hc23 hc24 hc25
  have HB3 := Lib.hid (HB2.out.trans ((hb).mono HB2.out.size))
  have HE3 := Lib.hid (HE2.out.below (hb))
  have HX3 := Lib.hid (AtB.later HX2 (hb))
  clear hb HB2 HE2 HX2
  obtain ⟨hz3, hc30, hc31, hc32, hc33, hc34, hc35⟩ := HE3.out
  go_wp2_with fail
  (with_reducible refine (HDD _ _ _ hk2 HA3).mono ?_)
  rintro e w4 ⟨rfl, hb⟩
  clear HA3
  clear hz3 hc30 hc31 hc32 hc33 hc34 hc35
  have HB4 := Lib.hid (HB3.out.trans ((hb).mono HB3.out.size))
  have HE4 := Lib.hid (HE3.out.below (hb))
  have HX4 := Lib.hid (AtB.later HX3 (hb))
  clear hb HB3 HE3 HX3
  obtain ⟨hz4, hc40, hc41, hc42, hc43, hc44, hc45⟩ := HE4.out
  go_wp2_with fail
  have HX4' := Lib.hid (AtB.later HX4 (below_al (o := entO k s y u v x) (Below.refl _ _)))
  refine (HD _ HX4').mono ?_
  rintro e w5 ⟨rfl, hb⟩
  clear HX4'
  clear hz4 hc40 hc41 hc42 hc43 hc44 hc45
  have HB5 := Lib.hid (HB4.out.trans ((below_box hb).mono HB4.out.size))
  have HE5 := Lib.hid (HE4.out.below (below_box hb))
  have HX5 := Lib.hid (AtB.later HX4 (below_box hb))
  clear hb HB4 HE4 HX4
  go_wp2_with fail
  refine (HDE _).mono ?_
  rintro e w6 ⟨v6, rfl, hO, hb⟩
  obtain ⟨A6, k6, rfl, hk6, hat6⟩ := hO.at_ (by omega)
  have s1 := run_str hat6 k6
  clear hO hat6
  have HB6 := Lib.hid (HB5.out.trans ((below_box hb).mono HB5.out.size))
  have HE6 := Lib.hid (HE5.out.below (below_box hb))
  have HX6 := Lib.hid (AtB.later HX5 (below_box hb))
  clear hb HB5 HE5 HX5
  have s2 := run_str HX6.out cap
  generalize strN xs = S at *
  go_wp2_with fail
  try go_quiet (fail)
  try go_wp2_with fail
  go_ret
  exact ⟨rfl, HB6.out⟩

set_option maxRecDepth 100000 in
set_option maxHeartbeats 4000000 in
theorem walkMayNo (A : Option Addr) (len cap : Nat) (xs : List Nat) (hl : len ≤ cap) (l1 : len ≤ 100) (k : Int) (s y u v x : Nat) (hf : (Ent.mk k s y u v x).fit) (hm : (Ent.mk k s y u v x).mayB = true) (hr : ¬ Reads xs) (w : World) (hA : Hid (AtB w A len xs)) :
    Calls Try.prog 4 #[.agg #[.int .i64 k, .int .u64 (s : Int), .int .u64 (y : Int), .int .u64 (u : Int), .int .u64 (v : Int), .int .u64 (x : Int)], .slice A len cap] w fun e w' => e = .returned (.bool true) ∧ Below w.heap.size w w' := by
  have d1 : decide ((100 : Int) < (len : Int)) = false := by rw [decide_eq_false_iff_not]; omega
  have HM := fun w => refMay_any k s y u v x hf.2.1 w
  rw [hm] at HM
  have HXB := hA.out.2.1
  have HXL := hA.out.1
  have HD : ∀ w', Hid (AtB w' A len xs) → Calls Try.prog 10 #[.slice A len cap] w' (DecPost w' 0 0 0 0 0 0 2) := fun w' h => by
    have := decode_at A len cap xs hl w' h
    rw [(dec_no hr).1, (dec_no hr).2] at this
    exact this
  clear hr
  have hmm : (Ent.mk k s y u v x).may := of_decide_eq_true hm
  have hdb := dec_bytes hmm hf
  have hby := Ent.bytes_pos (Ent.mk k s y u v x)
  have HEN := fun w => encode_yes k s y u v x hf hm _ _ rfl rfl w
  have HDD : ∀ (A : Option Addr) (c : Nat) w', (Ent.mk k s y u v x).bytes.length ≤ c → Hid (AtB w' A (Ent.mk k s y u v x).bytes.length (Ent.mk k s y u v x).bytes) → Calls Try.prog 10 #[.slice A (Ent.mk k s y u v x).bytes.length c] w' (DecPost w' k s y u v x 0) := fun A c w' hc h => by
    have := decode_at A _ c _ hc w' h
    rw [hdb.1, hdb.2] at this
    exact this
  clear hdb hmm
  generalize (Ent.mk k s y u v x).bytes = ys at *
  generalize ys.length = n at *
  clear hm HXB HXL
  go_enter Try.func4, Try.ntmps4
  go_wp2_with fail
  refine (shown_below _).mono ?_
  rintro e w1 ⟨rfl, hb⟩
  have HB1 := Lib.hid (below_box hb)
  have HE1 := Lib.hid ((EntAt.box w k s y u v x).below hb)
  have HX1 := Lib.hid (AtB.later hA (below_box hb))
  clear hb hA
  obtain ⟨hz1, hc10, hc11, hc12, hc13, hc14, hc15⟩ := HE1.out
  go_wp2_with fail
  refine (HEN _).mono ?_
  rintro e w2 ⟨v2, rfl, hO, hb⟩
  obtain ⟨A2, k2, rfl, hk2, hat2⟩ := hO.at_ (by omega)
  have HA2 := Lib.hid hat2
  clear hO hat2
  clear hz1 hc10 hc11 hc12 hc13 hc14 hc15
  have HB2 := Lib.hid (HB1.out.trans ((hb).mono HB1.out.size))
  have HE2 := Lib.hid (HE1.out.below (hb))
  have HX2 := Lib.hid (AtB.later HX1 (hb))
  clear hb HB1 HE1 HX1
  obtain ⟨hz2, hc20, hc21, hc22, hc23, hc24, hc25⟩ := HE2.out
  go_wp2_with fail
  (with_reducible refine (HM _).mono ?_)
  rintro e w3 ⟨rfl, hb⟩
  have HA3 := Lib.hid (AtB.later HA2 hb)
  clear HA2
  clear hz2 hc20 hc21 hc22 hc23 hc24 hc25
  have HB3 := Lib.hid (HB2.out.trans ((hb).mono HB2.out.size))
  have HE3 := Lib.hid (HE2.out.below (hb))
  have HX3 := Lib.hid (AtB.later HX2 (hb))
  clear hb HB2 HE2 HX2
  obtain ⟨hz3, hc30, hc31, hc32, hc33, hc34, hc35⟩ := HE3.out
  go_wp2_with fail
  (with_reducible refine (HDD _ _ _ hk2 HA3).mono ?_)
  rintro e w4 ⟨rfl, hb⟩
  clear HA3
  clear hz3 hc30 hc31 hc32 hc33 hc34 hc35
  have HB4 := Lib.hid (HB3.out.trans ((hb).mono HB3.out.size))
  have HE4 := Lib.hid (HE3.out.below (hb))
  have HX4 := Lib.hid (AtB.later HX3 (hb))
  clear hb HB3 HE3 HX3
  obtain ⟨hz4, hc40, hc41, hc42, hc43, hc44, hc45⟩ := HE4.out
  go_wp2_with fail
  have HX4' := Lib.hid (AtB.later HX4 (below_al (o := entO k s y u v x) (Below.refl _ _)))
  refine (HD _ HX4').mono ?_
  rintro e w5 ⟨rfl, hb⟩
  clear HX4'
  clear hz4 hc40 hc41 hc42 hc43 hc44 hc45
  have HB5 := Lib.hid (HB4.out.trans ((below_box hb).mono HB4.out.size))
  have HE5 := Lib.hid (HE4.out.below (below_box hb))
  have HX5 := Lib.hid (AtB.later HX4 (below_box hb))
  clear hb HB4 HE4 HX4
  go_wp2_with fail
  go_ret
  exact ⟨rfl, HB5.out.alloc HB5.out.size _⟩

set_option maxRecDepth 100000 in
set_option maxHeartbeats 4000000 in
theorem walkNotReads (A : Option Addr) (len cap : Nat) (xs : List Nat) (hl : len ≤ cap) (l1 : len ≤ 100) (k : Int) (s y u v x : Nat) (hf : (Ent.mk k s y u v x).fit) (hm : (Ent.mk k s y u v x).mayB = false) (hr : Reads xs) (w : World) (hA : Hid (AtB w A len xs)) :
    Calls Try.prog 4 #[.agg #[.int .i64 k, .int .u64 (s : Int), .int .u64 (y : Int), .int .u64 (u : Int), .int .u64 (v : Int), .int .u64 (x : Int)], .slice A len cap] w fun e w' => e = .returned (.bool true) ∧ Below w.heap.size w w' := by
  have d1 : decide ((100 : Int) < (len : Int)) = false := by rw [decide_eq_false_iff_not]; omega
  have HM := fun w => refMay_any k s y u v x hf.2.1 w
  rw [hm] at HM
  have HXB := hA.out.2.1
  have HXL := hA.out.1
  have hrm : (rawN xs).mayB = true := Ent.mayB_yes hr.2.2
  have hrf := raw_fit HXB
  have hrb := bytes_raw HXB hr
  have HD : ∀ w', Hid (AtB w' A len xs) → Calls Try.prog 10 #[.slice A len cap] w' (DecPost w' (rawN xs).k (rawN xs).s (rawN xs).y (rawN xs).u (rawN xs).v (rawN xs).x 0) := fun w' h => by
    have := decode_at A len cap xs hl w' h
    rw [(dec_yes hr).1, (dec_yes hr).2] at this
    exact this
  generalize rawN xs = D at *
  obtain ⟨dk, ds, dy, du, dv, dx⟩ := D
  have HDE : ∀ w, Calls Try.prog 8 #[.agg #[.int .i64 dk, .int .u64 (ds : Int), .int .u64 (dy : Int), .int .u64 (du : Int), .int .u64 (dv : Int), .int .u64 (dx : Int)]] w (EncPost w len xs) := fun w => encode_yes dk ds dy du dv dx hrf hrm len xs (by rw [hrb]; exact HXL) hrb w
  clear hrm hrf hrb hr
  have HEN := fun w => encode_no k s y u v x hf.2.1 hm w
  clear hm HXB HXL
  go_enter Try.func4, Try.ntmps4
  go_wp2_with fail
  refine (shown_below _).mono ?_
  rintro e w1 ⟨rfl, hb⟩
  have HB1 := Lib.hid (below_box hb)
  have HE1 := Lib.hid ((EntAt.box w k s y u v x).below hb)
  have HX1 := Lib.hid (AtB.later hA (below_box hb))
  clear hb hA
  obtain ⟨hz1, hc10, hc11, hc12, hc13, hc14, hc15⟩ := HE1.out
  go_wp2_with fail
  (with_reducible refine (HEN _).mono ?_)
  rintro e w2 ⟨rfl, hb⟩
  clear hz1 hc10 hc11 hc12 hc13 hc14 hc15
  have HB2 := Lib.hid (HB1.out.trans ((hb).mono HB1.out.size))
  have HE2 := Lib.hid (HE1.out.below (hb))
  have HX2 := Lib.hid (AtB.later HX1 (hb))
  clear hb HB1 HE1 HX1
  obtain ⟨hz2, hc20, hc21, hc22, hc23, hc24, hc25⟩ := HE2.out
  go_wp2_with fail
  (with_reducible refine (HM _).mono ?_)
  rintro e w4 ⟨rfl, hb⟩
  clear hz2 hc20 hc21 hc22 hc23 hc24 hc25
  have HB4 := Lib.hid (HB2.out.trans ((hb).mono HB2.out.size))
  have HE4 := Lib.hid (HE2.out.below (hb))
  have HX4 := Lib.hid (AtB.later HX2 (hb))
  clear hb HB2 HE2 HX2
  go_wp2_with fail
  refine (HD _ HX4).mono ?_
  rintro e w5 ⟨rfl, hb⟩
  have HB5 := Lib.hid (HB4.out.trans ((hb).mono HB4.out.size))
  have HE5 := Lib.hid (HE4.out.below (hb))
  have HX5 := Lib.hid (AtB.later HX4 (hb))
  clear hb HB4 HE4 HX4
  go_wp2_with fail
  refine (HDE _).mono ?_
  rintro e w6 ⟨v6, rfl, hO, hb⟩
  obtain ⟨A6, k6, rfl, hk6, hat6⟩ := hO.at_ (by omega)
  have s1 := run_str hat6 k6
  clear hO hat6
  have HB6 := Lib.hid (HB5.out.trans ((below_box hb).mono HB5.out.size))
  have HE6 := Lib.hid (HE5.out.below (below_box hb))
  have HX6 := Lib.hid (AtB.later HX5 (below_box hb))
  clear hb HB5 HE5 HX5
  have s2 := run_str HX6.out cap
  generalize strN xs = S at *
  go_wp2_with fail
  try go_quiet (fail)
  try go_wp2_with fail
  go_ret
  exact ⟨rfl, HB6.out⟩

set_option maxRecDepth 100000 in
set_option maxHeartbeats 4000000 in
theorem walkNotNo (A : Option Addr) (len cap : Nat) (xs : List Nat) (hl : len ≤ cap) (l1 : len ≤ 100) (k : Int) (s y u v x : Nat) (hf : (Ent.mk k s y u v x).fit) (hm : (Ent.mk k s y u v x).mayB = false) (hr : ¬ Reads xs) (w : World) (hA : Hid (AtB w A len xs)) :
    Calls Try.prog 4 #[.agg #[.int .i64 k, .int .u64 (s : Int), .int .u64 (y : Int), .int .u64 (u : Int), .int .u64 (v : Int), .int .u64 (x : Int)], .slice A len cap] w fun e w' => e = .returned (.bool true) ∧ Below w.heap.size w w' := by
  have d1 : decide ((100 : Int) < (len : Int)) = false := by rw [decide_eq_false_iff_not]; omega
  have HM := fun w => refMay_any k s y u v x hf.2.1 w
  rw [hm] at HM
  have HXB := hA.out.2.1
  have HXL := hA.out.1
  have HD : ∀ w', Hid (AtB w' A len xs) → Calls Try.prog 10 #[.slice A len cap] w' (DecPost w' 0 0 0 0 0 0 2) := fun w' h => by
    have := decode_at A len cap xs hl w' h
    rw [(dec_no hr).1, (dec_no hr).2] at this
    exact this
  clear hr
  have HEN := fun w => encode_no k s y u v x hf.2.1 hm w
  clear hm HXB HXL
  go_enter Try.func4, Try.ntmps4
  go_wp2_with fail
  refine (shown_below _).mono ?_
  rintro e w1 ⟨rfl, hb⟩
  have HB1 := Lib.hid (below_box hb)
  have HE1 := Lib.hid ((EntAt.box w k s y u v x).below hb)
  have HX1 := Lib.hid (AtB.later hA (below_box hb))
  clear hb hA
  obtain ⟨hz1, hc10, hc11, hc12, hc13, hc14, hc15⟩ := HE1.out
  go_wp2_with fail
  (with_reducible refine (HEN _).mono ?_)
  rintro e w2 ⟨rfl, hb⟩
  clear hz1 hc10 hc11 hc12 hc13 hc14 hc15
  have HB2 := Lib.hid (HB1.out.trans ((hb).mono HB1.out.size))
  have HE2 := Lib.hid (HE1.out.below (hb))
  have HX2 := Lib.hid (AtB.later HX1 (hb))
  clear hb HB1 HE1 HX1
  obtain ⟨hz2, hc20, hc21, hc22, hc23, hc24, hc25⟩ := HE2.out
  go_wp2_with fail
  (with_reducible refine (HM _).mono ?_)
  rintro e w4 ⟨rfl, hb⟩
  clear hz2 hc20 hc21 hc22 hc23 hc24 hc25
  have HB4 := Lib.hid (HB2.out.trans ((hb).mono HB2.out.size))
  have HE4 := Lib.hid (HE2.out.below (hb))
  have HX4 := Lib.hid (AtB.later HX2 (hb))
  clear hb HB2 HE2 HX2
  go_wp2_with fail
  refine (HD _ HX4).mono ?_
  rintro e w5 ⟨rfl, hb⟩
  have HB5 := Lib.hid (HB4.out.trans ((hb).mono HB4.out.size))
  have HE5 := Lib.hid (HE4.out.below (hb))
  have HX5 := Lib.hid (AtB.later HX4 (hb))
  clear hb HB4 HE4 HX4
  go_wp2_with fail
  go_ret
  exact ⟨rfl, HB5.out.alloc HB5.out.size _⟩

set_option maxRecDepth 100000 in
theorem lifted (os : Os) (started : os.Started) (H : Type) (enc : TypeId × Value → H) :
    ReturnsInHanded {} Try.checked os 4 .any (Rows.entryBackSpec.pre6 enc Try.prog Try.f4 Rows.entryBackRow.domain false) (Rows.entryBackSpec.post enc Try.prog Try.f4 false true false false) := by
  refine law_lifted (C := Try.checked) own started (by kernel_rfl) Try.func4
    (ChangeSpec.witness6 (enc := enc) (C := Try.checked) false ⟨#[], #[.agg #[.int .i64 0, .int .u64 0, .int .u64 0, .int .u64 0, .int .u64 0, .int .u64 0], .slice none 0 0], []⟩ 8 (by kernel_rfl) (by kernel_rfl) (by kernel_rfl) (by kernel_rfl))
    (by kernel_rfl) (by kernel_rfl) Try.underlying4 rfl (by kernel_rfl) ?_
  intro W base args ds before hval hA _ hlt
  have hA' : DataW.TrodAll enc Try.prog W 0 (fun _ => true) true Try.f4.params.toList args.toList ds before := hA
  have hval' : ∀ (j : Nat) t v, Try.f4.params[j]? = some t → args[j]? = some v → Value.okWide Try.prog W .any base t v := hval
  rw [Try.params4] at hA' hval'
  obtain ⟨v0, vs0, d0, ds0, p0, q0, hargs, rfl, rfl, h0, r0⟩ := trodAll_cons hA'
  obtain ⟨v1, vs1, d1, ds1, p1, q1, rfl, rfl, rfl, h1, r1⟩ := trodAll_cons r0
  obtain ⟨rfl, rfl, rfl⟩ := trodAll_nil r1
  obtain rfl : args = #[v0, v1] := by cases args; simp_all
  obtain ⟨ek, es, ey, eu, ev, ex, rfl, eb, ef⟩ := open_ent (hval' 0 24 v0 rfl rfl) h0
  obtain ⟨Axs, lenxs, capxs, xs, rfl, hcxs, hatxs⟩ := open_at2 (hval' 1 25 v1 rfl rfl) h1 (fun x hx => hlt x (by simp [hx]))
  refine ⟨rfl, ?_⟩
  by_cases h : 100 < lenxs
  · exact walkLong Axs lenxs capxs h ek es ey eu ev ex W
  · by_cases hm : (Ent.mk ek es ey eu ev ex).mayB = true <;> by_cases hr : Reads xs
    · exact walkMayReads Axs lenxs capxs xs hcxs (by omega) ek es ey eu ev ex ef hm hr W (Lib.hid hatxs)
    · exact walkMayNo Axs lenxs capxs xs hcxs (by omega) ek es ey eu ev ex ef hm hr W (Lib.hid hatxs)
    · exact walkNotReads Axs lenxs capxs xs hcxs (by omega) ek es ey eu ev ex ef (by simpa using hm) hr W (Lib.hid hatxs)
    · exact walkNotNo Axs lenxs capxs xs hcxs (by omega) ek es ey eu ev ex ef (by simpa using hm) hr W (Lib.hid hatxs)

theorem over : Rows.entryBackRow.holds Try.pinned (OpenSpec.ofChange Rows.entryBackSpec) :=
  OpenClaim.holds_of_wide 4 Try.f4 rfl rfl rfl rfl rfl rfl rfl ⟨rfl, rfl, rfl, rfl, rfl⟩ rfl rfl rfl rfl rfl (by kernel_rfl) Try.func4 (by kernel_rfl)
    (of_decide_eq_true (by kernel_rfl)) (by unfold Func.isWrapper; first | (rw [if_pos (by decide +kernel)]; kernel_rfl) | (rw [if_neg (by decide +kernel)]; exact ⟨rfl, rfl⟩))
    (fun os started H enc _ => lifted os started H enc)

/-- The statement. -/
theorem proved : Rows.EntryBackSaid :=
  over
#print axioms proved
end Go.Proofs.Ytioheffdolnciaa.entryBack
