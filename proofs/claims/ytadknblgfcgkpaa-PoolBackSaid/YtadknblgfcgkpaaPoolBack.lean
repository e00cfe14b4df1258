/-
  PoolBack: alone, a record that is pushed is popped next; what was free stays so, in its order; for 9 records. No condition beyond the statement's own.
-/
import Derived.Test.YtadknblgfcgkpaaPolShown
import Derived.Test.YtadknblgfcgkpaaPolFree
import Derived.Test.YtadknblgfcgkpaaLaw
import Derived.Test.YtadknblgfcgkpaaFields
import Derived.Deep.Cut
import Derived.Deep.CutRange
namespace Go.Proofs.Ytadknblgfcgkpaa.poolBack
open Go.ChangeShapes Go.WideShapes Go.ChangeAt Go.RowKit Go.Deep Go.BigFrame
set_option linter.unusedVariables false
theorem own : ownKnob Try.prog.godebug = none := by kernel_rfl

theorem range_pop (i c : Nat) (h : i < c) : List.range' (i + 1) (c - i) = (i + 1) :: List.range' (i + 1 + 1) (c - (i + 1)) := by
  rw [show c - i = (c - (i + 1)) + 1 by omega]
  rfl
theorem range_le (i c : Nat) (h : i ≤ c) : (∀ a ∈ List.range' (i + 1) (c - i), a ≤ c) ∧ (List.range' (i + 1) (c - i)).length ≤ c := by
  refine ⟨fun a ha => ?_, by rw [List.length_range']; omega⟩
  rw [List.mem_range'_1] at ha
  omega
set_option maxRecDepth 100000 in
set_option maxHeartbeats 16000000 in
theorem walk (c0 k0 : Nat) (hc0 : c0 < 256) (hk0 : k0 < 256) (w : World) :
    Calls Try.prog 6 #[.int .u8 (c0 : Int), .int .u8 (k0 : Int)] w fun e w' => e = .returned (.bool true) ∧ Below w.heap.size w w' := by
  obtain ⟨r, hr⟩ : ∃ r : Nat, r = 0 := ⟨0, rfl⟩
  obtain ⟨c, hc⟩ : ∃ c, 1 + c0 % 9 = c := ⟨_, rfl⟩
  obtain ⟨k, hk⟩ : ∃ k, 1 + k0 % c = k := ⟨_, rfl⟩
  have hc1 : 1 ≤ c ∧ c ≤ 9 := by omega
  have hk1 : 1 ≤ k ∧ k ≤ c := by have := Nat.mod_lt k0 (show 0 < c by omega); omega
  have q1 : (1 : Int) + (c0 : Int) % 9 = (c : Int) := by omega
  have q2 : wrap64 (1 + (k0 : Int) % (c : Int)) = (k : Int) := by
    rw [show (1 : Int) + (k0 : Int) % (c : Int) = (k : Int) by rw [← hk]; simp]
    simp only [wrap64]
    omega
  have HNEW : ∀ w, Calls Try.prog 14 #[.int .i64 1, .int .i64 (c : Int)] w (NewWdR w 1 c 1 (sizeN 1 c) (newF 1 c) r) := fun w => newWdR 1 c (by decide) (by decide) (by omega) hr w
  have HF0 : Hid (FreeIs 1 (newF 1 c) (List.range' 1 c)) := Lib.hid (new_free (by omega))
  have HPOP := fun G hG a l hF ha A ka R ra S sa w h0 h1 h2 => poolPop c r (by omega) G hG A ka R ra S sa w h0 h1 h2 a l hF ha
  have HPUSH := fun G hG q hq1 hq A ka R ra S sa w h0 h1 h2 => poolPush c r (by omega) G hG A ka R ra S sa w h0 h1 h2 q hq1 hq
  have HFREE : ∀ (A : Option Addr) (ka : Nat) (G : Nat → Nat) (l : List Nat), FreeIs 1 G l → (∀ a ∈ l, a ≤ c) → l.length ≤ c → ∀ w, Hid (AtW w A (sizeN 1 c) G) → Calls Try.prog 16 #[.agg #[.int .i64 1, .int .i64 (c : Int), .slice A (sizeN 1 c) ka]] w (FreePost w l) := fun A ka G l hF hl hll w hA => free_at 1 c (by decide) (by omega) A (sizeN 1 c) ka rfl G l hF hl hll w hA
  have HSZ : Hid (1 < sizeN 1 c) := Lib.hid size_pos
  have HCK := Lib.hid (And.intro hc1 hk1)
  have BW : Hid (w.heap.size ≤ w.heap.size) := Lib.hid (Nat.le_refl _)
  generalize newF 1 c = G0 at *
  generalize hn : sizeN 1 c = n at *
  clear hr hc hk hn
  go_enter Try.func6, Try.ntmps6
  go_wp2_with fail
  (with_reducible refine (poolShown _).mono ?_)
  rintro e w1 ⟨rfl, hb⟩
  have BB := Lib.hid hb
  clear hb
  have BWn : Hid (w.heap.size ≤ w1.heap.size) := Lib.hid BB.out.size
  clear BW; have BW := BWn; clear BWn
  go_wp2_with fail
  rw [q2]
  (with_reducible refine (HNEW _).mono ?_)
  clear HNEW q1 q2
  rintro e w0 ⟨A0, ka0, R0, ra0, S0, sa0, rfl, ha, hs0, hs1, hb, hP⟩
  go_upto_region 5 with fail
  have hal := al_below w0 (.cells #[.int .i64 1, .int .i64 (c : Int), .slice A0 n ka0, .int .u64 (r : Int), .slice R0 1 ra0, .slice S0 1 sa0] 51)
  have hbn := hb.trans (hal.mono hb.size)
  have W0 : Hid (WdFrom (fun b => b ≠ w0.heap.size) (fun _ => False) (w0.alloc (.cells #[.int .i64 1, .int .i64 (c : Int), .slice A0 n ka0, .int .u64 (r : Int), .slice R0 1 ra0, .slice S0 1 sa0] 51)) w0.heap.size 1 (c : Int) n r 1 G0 (zerosS 1) (zerosS 1)) := Lib.hid ⟨A0, ka0, R0, ra0, S0, sa0, WdAt.made0 (t := 1) (c := (c : Int)) (k := ka0) (r := r) (ra := ra0) (sa := sa0) w0 51 ha hs0 hs1, ha.old.mono fun b hb => (by omega), (hs0.old.mono fun b hb => (by omega : b ≠ w0.heap.size)).later hs0 hal, (hs1.old.mono fun b hb => (by omega : b ≠ w0.heap.size)).later hs1 hal, fun P h => h.elim⟩
  generalize w0.alloc (.cells #[.int .i64 1, .int .i64 (c : Int), .slice A0 n ka0, .int .u64 (r : Int), .slice R0 1 ra0, .slice S0 1 sa0] 51) = x0 at hal hbn W0 ⊢
  have BBn := Lib.hid (BB.out.trans (hbn.mono BB.out.size)); clear BB; have BB := BBn; clear BBn
  have HG0 : Hid (w.heap.size ≤ w0.heap.size) := Lib.hid (Nat.le_trans BW.out hb.size)
  generalize w0.heap.size = b0 at W0 HG0 ⊢
  clear ha hs0 hs1 hb hP hal hbn
  have HZ : Hid (WdFrom (fun b => b ≠ b0) (fun _ => False) x0 b0 1 c n r 1 G0 (zerosS 1) (zerosS 1) ∧ Below w.heap.size w x0) := Lib.hid ⟨W0.out, BB.out⟩
  clear W0 BB
  go_wp2_with fail
  go_loopw [9] (fun u9 wr => ∃ (i : Nat) (G : Nat → Nat), i ≤ k ∧ u9 = .int .i64 (i : Int) ∧ FreeIs 1 G (List.range' (i + 1) (c - i)) ∧ WdFrom (fun b => b ≠ b0) (fun _ => False) wr b0 1 c n r 1 G (zerosS 1) (zerosS 1) ∧ Below w.heap.size w wr) (fun u _ => k - (intOf u).toNat)
  case atStart => exact ⟨0, G0, Nat.zero_le _, rfl, HF0.out, HZ.out.1, HZ.out.2⟩
  case round =>
    clear HZ HF0
    clear x0
    obtain ⟨i, G, hik, rfl, hF, hwd, hbl⟩ := hrel
    have HWD := Lib.hid hwd
    have BB := Lib.hid hbl
    have HF := Lib.hid hF
    clear hwd hbl hF
    obtain ⟨A1, ka1, R1, ra1, S1, sa1, hW, o0, o1, o2, _⟩ := HWD.out
    have W1 := Lib.hid hW
    have O1 := Lib.hid (And.intro o0 (And.intro o1 o2))
    obtain ⟨c0, c1, c2, c3, c4, c5⟩ := hW.cells
    have HGlt := Lib.hid hW.1.1
    clear hW o0 o1 o2
    have hk9 : k ≤ 9 := by have := HCK.out; omega
    by_cases hlt : i < k
    · have d1 : decide ((i : Int) < (k : Int)) = true := by rw [decide_eq_true_iff]; omega
      have d1' : decide (i < k) = true := by rw [decide_eq_true_iff]; omega
      obtain ⟨a, ha⟩ : ∃ a, a = i + 1 := ⟨_, rfl⟩
      have hF2 := HF.out
      rw [range_pop i c (by have := HCK.out; omega), ← ha] at hF2
      have dn : ((a : Int) != (i : Int) + 1) = false := by rw [bne_eq_false_iff_eq]; omega
      have HAL := HPOP G W1.out.2.1.1 a _ hF2 (by have := HCK.out; omega)
      have HF3 := Lib.hid hF2.pop
      have HA := Lib.hid ha
      clear hF2 ha HF
      have WV := Lib.hid W1.out.1
      go_wp2_with fail
      (with_reducible refine (HAL A1 ka1 R1 ra1 S1 sa1 _ W1.out.gA W1.out.g0 W1.out.g1).mono ?_)
      clear HAL c0 c1 c2 c3 c4 c5
      rintro e w3 ⟨A3, ka3, R3, ra3, S3, sa3, rfl, ha, hs0, hs1, hb, hP⟩
      go_upto_region 9 with fail
      have hbx : Below w3.heap.size w3 ((w3.alloc (.cells #[.int .i64 1, .int .i64 (c : Int), .slice A3 n ka3, .int .u64 (r : Int), .slice R3 1 ra3, .slice S3 1 sa3] 51)).alloc (.cells #[.int .i64 0, .bool false, .int .i64 (a : Int), .int .u64 0, .slice none 0 0] 37)) := below_pair _ _ _
      have W3 := Lib.hid (WdAt.made (t := 1) (c := (c : Int)) (k := ka3) (r := r) (ra := ra3) (sa := sa3) w3 (.cells #[.int .i64 0, .bool false, .int .i64 (a : Int), .int .u64 0, .slice none 0 0] 37) 51 ha hs0 hs1)
      have O3 := Lib.hid (VarAt.made1 w3 (.cells #[.int .i64 1, .int .i64 (c : Int), .slice A3 n ka3, .int .u64 (r : Int), .slice R3 1 ra3, .slice S3 1 sa3] 51) #[.int .i64 0, .bool false, .int .i64 (a : Int), .int .u64 0, .slice none 0 0] 37)
      have hbn := hb.trans (hbx.mono hb.size)
      have HS3 := Lib.hid (And.intro hs0 hs1)
      have HX3 := Lib.hid hbx
      have HB3 := Lib.hid hb
      have HP3 := Lib.hid hP
      generalize (w3.alloc (.cells #[.int .i64 1, .int .i64 (c : Int), .slice A3 n ka3, .int .u64 (r : Int), .slice R3 1 ra3, .slice S3 1 sa3] 51)).alloc (.cells #[.int .i64 0, .bool false, .int .i64 (a : Int), .int .u64 0, .slice none 0 0] 37) = x3 at hbx hbn W3 O3 HX3 ⊢
      have WVn := Lib.hid (WV.out.below hbn); clear WV; have WV := WVn; clear WVn
      have BBn := Lib.hid (BB.out.trans (hbn.mono BB.out.size)); clear BB; have BB := BBn; clear BBn
      clear ha hs0 hs1 hb hP hbx hbn
      obtain ⟨_, ⟨p1, p2, p3, p4, p5⟩, _⟩ := O3.out.five
      have hgx : b0 < x3.heap.size := WV.out.1
      have nb : ¬ (w3.heap.size = b0) := by have := HB3.out.size; have := HGlt.out; omega
      have nb' : ¬ (b0 = w3.heap.size) := fun e => nb e.symm
      have OF3 : Hid (OffW (fun b => b ≠ b0) A3 n ∧ OffS (fun b => b ≠ b0) x3 R3 1 ∧ OffS (fun b => b ≠ b0) x3 S3 1) := Lib.hid (by
        obtain ⟨q0, q1, q2⟩ := HP3.out (fun b => b ≠ b0) ⟨fun b hb => by have := HGlt.out; omega, O1.out.1, O1.out.2.1, O1.out.2.2⟩
        exact ⟨q0, q1.later HS3.out.1 HX3.out, q2.later HS3.out.2 HX3.out⟩)
      obtain ⟨_, ⟨e0, e1, e2, e3, e4, e5⟩, _⟩ := W3.out.1.six
      obtain ⟨zx, ⟨y0, y1, y2, y3, y4, y5⟩, f0, f1, f2, f3, f4, f5⟩ := WV.out.six
      go_upto_region 11 with fail
      go_wp2_with fail
      have hbb := BB.out
      have hg0 := HG0.out
      have hf3 := HF3.out
      have haa := HA.out
      rw [haa] at hf3
      go_roundw
      case rel => exact ⟨i + 1, popG 1 G, by omega, by go_num, hf3, ⟨A3, ka3, R3, ra3, S3, sa3, ⟨VarAt.of6 (by simp; omega) (by go_simp) (by go_simp) (by go_simp) (by go_simp) (by go_simp) (by go_simp) (by go_simp) (by go_simp) (by go_simp) (by go_simp) (by go_simp) (by go_simp), W3.out.2.1.keep (Q := fun b => b ≠ b0) (by repeat (first | with_reducible exact Keep.refl _ _ | with_reducible refine Keep.drew ?_ | with_reducible refine Keep.alloc ?_ _ | (with_reducible refine Keep.set ?_ _ _ _ (by omega)))) OF3.out.1, W3.out.2.2.1.keep (Q := fun b => b ≠ b0) (by repeat (first | with_reducible exact Keep.refl _ _ | with_reducible refine Keep.drew ?_ | with_reducible refine Keep.alloc ?_ _ | (with_reducible refine Keep.set ?_ _ _ _ (by omega)))) OF3.out.2.1, W3.out.2.2.2.keep (Q := fun b => b ≠ b0) (by repeat (first | with_reducible exact Keep.refl _ _ | with_reducible refine Keep.drew ?_ | with_reducible refine Keep.alloc ?_ _ | (with_reducible refine Keep.set ?_ _ _ _ (by omega)))) OF3.out.2.2⟩, OF3.out.1, OF3.out.2.1.keep W3.out.2.2.1 (Q := fun b => b ≠ b0) (by repeat (first | with_reducible exact Keep.refl _ _ | with_reducible refine Keep.drew ?_ | with_reducible refine Keep.alloc ?_ _ | (with_reducible refine Keep.set ?_ _ _ _ (by omega)))) OF3.out.2.1, OF3.out.2.2.keep W3.out.2.2.2 (Q := fun b => b ≠ b0) (by repeat (first | with_reducible exact Keep.refl _ _ | with_reducible refine Keep.drew ?_ | with_reducible refine Keep.alloc ?_ _ | (with_reducible refine Keep.set ?_ _ _ _ (by omega)))) OF3.out.2.2, fun P h => h.elim⟩, (by repeat (first | with_reducible assumption | with_reducible refine Below.drew ?_ | with_reducible refine below_al ?_ | (with_reducible refine below_set1 (by omega) _ ?_)))⟩
      case measure => simp [intOf]; omega
    · obtain rfl : i = k := by omega
      have d1 : decide ((i : Int) < (i : Int)) = false := by rw [decide_eq_false_iff_not]; omega
      have d1' : decide (i < i) = false := by rw [decide_eq_false_iff_not]; omega
      have hrl := range_le i c HCK.out.2.2
      have hno : i ∉ List.range' (i + 1) (c - i) := by rw [List.mem_range'_1]; omega
      have hG := W1.out.2.1.1
      have HFR := HFREE A1 ka1 G _ HF.out hrl.1 hrl.2
      have HPU := HPUSH G hG i HCK.out.2.1 HCK.out.2.2
      have hF4 := HF.out.push HCK.out.2.1 (by have := HCK.out; omega) hno
      have hG4 : ∀ j, pushG 1 i G j < 18446744073709551616 := pushG_lt (by have := HCK.out; omega) hG
      have HPO := HPOP (pushG 1 i G) hG4 i _ hF4 HCK.out.2.2
      have HFR2 := fun A ka => HFREE A ka (popG 1 (pushG 1 i G)) _ hF4.pop hrl.1 hrl.2
      have HLL := Lib.hid hrl.2
      generalize List.range' (i + 1) (c - i) = l at *
      generalize popG 1 (pushG 1 i G) = G6 at *
      generalize pushG 1 i G = G5 at *
      clear hrl hno hG hF4 hG4 HPOP HPUSH HFREE HF
      go_wp2_with fail
      (with_reducible refine (HFR _ W1.out.gA).mono ?_)
      clear HFR c0 c1 c2 c3 c4 c5
      rintro e w2 ⟨v13, rfl, hown, hb⟩
      have W1n := Lib.hid (W1.out.later hb); clear W1; have W1 := W1n; clear W1n
      have BBn := Lib.hid (BB.out.trans (hb.mono BB.out.size)); clear BB; have BB := BBn; clear BBn
      have HV := Lib.hid hown
      clear hown hb
      obtain ⟨c0, c1, c2, c3, c4, c5⟩ := W1.out.cells
      go_wp2_with fail
      (with_reducible refine (HPU A1 ka1 R1 ra1 S1 sa1 _ W1.out.gA W1.out.g0 W1.out.g1).mono ?_)
      clear HPU c0 c1 c2 c3 c4 c5
      rintro e w5 ⟨A5, ka5, R5, ra5, S5, sa5, rfl, ha, hs0, hs1, hb, hP⟩
      go_upto_region 14 with fail
      have hbx : Below w5.heap.size w5 ((w5.alloc (.cells #[.int .i64 1, .int .i64 (c : Int), .slice A5 n ka5, .int .u64 (r : Int), .slice R5 1 ra5, .slice S5 1 sa5] 51)).alloc (.cells #[.int .i64 0, .bool false, .int .i64 0, .int .u64 0, .slice none 0 0] 37)) := below_pair _ _ _
      have W5 := Lib.hid (WdAt.made (t := 1) (c := (c : Int)) (k := ka5) (r := r) (ra := ra5) (sa := sa5) w5 (.cells #[.int .i64 0, .bool false, .int .i64 0, .int .u64 0, .slice none 0 0] 37) 51 ha hs0 hs1)
      have O5 := Lib.hid (VarAt.made1 w5 (.cells #[.int .i64 1, .int .i64 (c : Int), .slice A5 n ka5, .int .u64 (r : Int), .slice R5 1 ra5, .slice S5 1 sa5] 51) #[.int .i64 0, .bool false, .int .i64 0, .int .u64 0, .slice none 0 0] 37)
      have hbn := hb.trans (hbx.mono hb.size)
      have HS5 := Lib.hid (And.intro hs0 hs1)
      have HX5 := Lib.hid hbx
      have HB5 := Lib.hid hb
      have HP5 := Lib.hid hP
      generalize (w5.alloc (.cells #[.int .i64 1, .int .i64 (c : Int), .slice A5 n ka5, .int .u64 (r : Int), .slice R5 1 ra5, .slice S5 1 sa5] 51)).alloc (.cells #[.int .i64 0, .bool false, .int .i64 0, .int .u64 0, .slice none 0 0] 37) = x5 at hbx hbn W5 O5 HX5 ⊢
      have HVn := Lib.hid (HV.out.later hbn); clear HV; have HV := HVn; clear HVn
      have BBn := Lib.hid (BB.out.trans (hbn.mono BB.out.size)); clear BB; have BB := BBn; clear BBn
      clear ha hs0 hs1 hb hP hbx hbn
      clear W1 HGlt O1
      obtain ⟨c0, c1, c2, c3, c4, c5⟩ := W5.out.cells
      go_wp2_with fail
      (with_reducible refine (HPO A5 ka5 R5 ra5 S5 sa5 _ W5.out.gA W5.out.g0 W5.out.g1).mono ?_)
      clear HPO c0 c1 c2 c3 c4 c5
      rintro e w6 ⟨A6, ka6, R6, ra6, S6, sa6, rfl, ha, hs0, hs1, hb, hP⟩
      go_upto_region 15 with fail
      have hbx : Below w6.heap.size w6 ((w6.alloc (.cells #[.int .i64 1, .int .i64 (c : Int), .slice A6 n ka6, .int .u64 (r : Int), .slice R6 1 ra6, .slice S6 1 sa6] 51)).alloc (.cells #[.int .i64 0, .bool false, .int .i64 (i : Int), .int .u64 0, .slice none 0 0] 37)) := below_pair _ _ _
      have W6 := Lib.hid (WdAt.made (t := 1) (c := (c : Int)) (k := ka6) (r := r) (ra := ra6) (sa := sa6) w6 (.cells #[.int .i64 0, .bool false, .int .i64 (i : Int), .int .u64 0, .slice none 0 0] 37) 51 ha hs0 hs1)
      have O6 := Lib.hid (VarAt.made1 w6 (.cells #[.int .i64 1, .int .i64 (c : Int), .slice A6 n ka6, .int .u64 (r : Int), .slice R6 1 ra6, .slice S6 1 sa6] 51) #[.int .i64 0, .bool false, .int .i64 (i : Int), .int .u64 0, .slice none 0 0] 37)
      have hbn := hb.trans (hbx.mono hb.size)
      have HS6 := Lib.hid (And.intro hs0 hs1)
      have HX6 := Lib.hid hbx
      have HB6 := Lib.hid hb
      have HP6 := Lib.hid hP
      generalize (w6.alloc (.cells #[.int .i64 1, .int .i64 (c : Int), .slice A6 n ka6, .int .u64 (r : Int), .slice R6 1 ra6, .slice S6 1 sa6] 51)).alloc (.cells #[.int .i64 0, .bool false, .int .i64 (i : Int), .int .u64 0, .slice none 0 0] 37) = x6 at hbx hbn W6 O6 HX6 ⊢
      have HVn := Lib.hid (HV.out.later hbn); clear HV; have HV := HVn; clear HVn
      have BBn := Lib.hid (BB.out.trans (hbn.mono BB.out.size)); clear BB; have BB := BBn; clear BBn
      clear ha hs0 hs1 hb hP hbx hbn
      obtain ⟨c0, c1, c2, c3, c4, c5⟩ := W6.out.cells
      go_wp2_with fail
      (with_reducible refine (HFR2 _ _ _ W6.out.gA).mono ?_)
      clear HFR2 c0 c1 c2 c3 c4 c5
      rintro e w7 ⟨v20, rfl, hown, hb⟩
      have HVn := Lib.hid (HV.out.later hb); clear HV; have HV := HVn; clear HVn
      have BBn := Lib.hid (BB.out.trans (hb.mono BB.out.size)); clear BB; have BB := BBn; clear BBn
      obtain ⟨_, ⟨p1, p2, p3, p4, p5⟩, _⟩ := (O6.out.below hb).five
      obtain ⟨a13, cap13, rfl, _, _, hc13⟩ := HV.out.form
      obtain ⟨a20, cap20, rfl, _, _, hc20⟩ := hown.form
      have HC := Lib.hid (And.intro hc13 hc20)
      clear hown hb hc13 hc20 HV
      go_wp2_with fail
      go_loopw [21] (fun u wr => ∃ j : Nat, j ≤ l.length ∧ u = .int .i64 (j : Int) ∧ Below w7.heap.size w7 wr) (fun u _ => l.length - (intOf u).toNat)
      case atStart => exact ⟨0, Nat.zero_le _, rfl, Below.refl _ _⟩
      case round =>
        obtain ⟨j, hj, rfl, hbr⟩ := hrel
        have HBR := Lib.hid hbr
        clear hbr
        have hlb : l.length ≤ 9 := by have := HLL.out; have := HCK.out; omega
        by_cases hlt2 : j < l.length
        · have d3 : decide ((j : Int) < (l.length : Int)) = true := by rw [decide_eq_true_iff]; omega
          have d3' : decide (j < l.length) = true := by rw [decide_eq_true_iff]; omega
          obtain ⟨x, hx⟩ : ∃ x, l[j]? = some x := ⟨_, List.getElem?_eq_getElem hlt2⟩
          obtain ⟨g1, rfl, _, hz1, hq1⟩ := HC.out.1 j x hx
          obtain ⟨g2, rfl, _, hz2, hq2⟩ := HC.out.2 j x hx
          have r1 := (HBR.out.cell (p := ⟨g1, j, none⟩) hz1).trans hq1
          have r2 := (HBR.out.cell (p := ⟨g2, j, none⟩) hz2).trans hq2
          have i0 : (0 : Int) ≤ (j : Int) := by omega
          have i1 : (j : Int) < (l.length : Int) := by omega
          clear hq1 hq2 hz1 hz2 hx
          go_wp2_with fail
          go_quiet (fail)
          go_wp2_with fail
          go_roundw
          case rel => exact ⟨j + 1, by omega, by go_num, below_draw HBR.out _⟩
          case measure => simp [intOf]; omega
        · obtain rfl : j = l.length := by omega
          have d3 : decide ((l.length : Int) < (l.length : Int)) = false := by rw [decide_eq_false_iff_not]; omega
          have d3' : decide (l.length < l.length) = false := by rw [decide_eq_false_iff_not]; omega
          go_wp2_with fail
          go_ret
          exact ⟨rfl, BB.out.trans (HBR.out.mono BB.out.size)⟩
section
set_option maxRecDepth 100000
set_option maxHeartbeats 2000000
variable {H : Type} {enc : TypeId × Value → H} {w : World}
theorem open_a {v : Value} {d : DataW H} {ps : List MemPlace} {base : Nat} (hval : Value.okWide Try.prog w .any base 5 v) (h : DataW.Trod enc Try.prog w 0 (fun _ => true) true 5 v d ps) (hs : Sized Try.prog 5 d) (hlt : ∀ z ∈ ps, z.block < w.heap.size) :
    ∃ (a : Nat), v = .int .u8 (a : Int) ∧ a < 256 := by
  obtain ⟨a0, rfl⟩ := okWide_int Try.underlying5 hval
  obtain ⟨fuel, hf0⟩ := h
  have hf : DataW.trod enc Try.prog w 0 (fun _ => true) true fuel 5 [.int .u8 a0] = some (d, ps) := hf0
  obtain ⟨a, e0, ha⟩ := leaf_u8 Try.underlying5 hf
  cases e0
  exact ⟨_, rfl, ha⟩
theorem open_b {v : Value} {d : DataW H} {ps : List MemPlace} {base : Nat} (hval : Value.okWide Try.prog w .any base 5 v) (h : DataW.Trod enc Try.prog w 0 (fun _ => true) true 5 v d ps) (hs : Sized Try.prog 5 d) (hlt : ∀ z ∈ ps, z.block < w.heap.size) :
    ∃ (b : Nat), v = .int .u8 (b : Int) ∧ b < 256 := by
  obtain ⟨a0, rfl⟩ := okWide_int Try.underlying5 hval
  obtain ⟨fuel, hf0⟩ := h
  have hf : DataW.trod enc Try.prog w 0 (fun _ => true) true fuel 5 [.int .u8 a0] = some (d, ps) := hf0
  obtain ⟨b, e0, hb⟩ := leaf_u8 Try.underlying5 hf
  cases e0
  exact ⟨_, rfl, hb⟩
end

set_option maxRecDepth 100000 in
set_option maxHeartbeats 8000000 in
theorem lifted (os : Os) (started : os.Started) (H : Type) (enc : TypeId × Value → H) :
    ReturnsInHanded {} Try.checked os 6 .any (Rows.poolBackSpec.pre6 enc Try.prog Try.f6 Rows.poolBackRow.domain false) (Rows.poolBackSpec.post enc Try.prog Try.f6 false true false false) := by
  refine law_lifted (C := Try.checked) own started (by kernel_rfl) Try.func6
    (ChangeSpec.witness6 (enc := enc) (C := Try.checked) false ⟨#[], #[.int .u8 0, .int .u8 0], []⟩ 8 (by kernel_rfl) (by kernel_rfl) (by kernel_rfl) (by kernel_rfl))
    (by kernel_rfl) (by kernel_rfl) Try.underlying4 rfl (by kernel_rfl) ?_
  intro W base args ds before hval hA hwt hlt
  have hA' : DataW.TrodAll enc Try.prog W 0 (fun _ => true) true Try.f6.params.toList args.toList ds before := hA
  have hval' : ∀ (j : Nat) t v, Try.f6.params[j]? = some t → args[j]? = some v → Value.okWide Try.prog W .any base t v := hval
  have hwt' : (DataW.weightsEach Try.prog Try.f6.params.toList ds).all (· ≤ reachBytes) = true := hwt
  rw [Try.params6] at hA' hval' hwt'
  obtain ⟨v0, vs0, d0, ds0, p0, q0, hargs, rfl, rfl, k0, r0⟩ := trodAll_cons hA'
  obtain ⟨v1, vs1, d1, ds1, p1, q1, rfl, rfl, rfl, k1, r1⟩ := trodAll_cons r0
  obtain ⟨rfl, rfl, rfl⟩ := trodAll_nil r1
  obtain rfl : args = #[v0, v1] := by cases args; simp_all
  obtain ⟨a, rfl, ha⟩ := open_a (hval' 0 5 v0 rfl rfl) k0 (sized_of hwt' (j := 0) (t := 5) rfl rfl) (fun x hx => hlt x (by simp [hx]))
  obtain ⟨b, rfl, hb⟩ := open_b (hval' 1 5 v1 rfl rfl) k1 (sized_of hwt' (j := 1) (t := 5) rfl rfl) (fun x hx => hlt x (by simp [hx]))
  refine ⟨rfl, ?_⟩
  exact walk a b ha hb W

theorem over : Rows.poolBackRow.holds Try.pinned (OpenSpec.ofChange Rows.poolBackSpec) :=
  OpenClaim.holds_of_wide 6 Try.f6 rfl rfl rfl rfl rfl rfl rfl ⟨rfl, rfl, rfl, rfl, rfl⟩ rfl rfl rfl rfl rfl (by kernel_rfl) Try.func6 (by kernel_rfl)
    (of_decide_eq_true (by kernel_rfl)) (by unfold Func.isWrapper; first | (rw [if_pos (by decide +kernel)]; kernel_rfl) | (rw [if_neg (by decide +kernel)]; exact ⟨rfl, rfl⟩))
    (fun os started H enc _ => lifted os started H enc)

/-- The statement. -/
theorem proved : Rows.PoolBackSaid :=
  over
#print axioms proved
end Go.Proofs.Ytadknblgfcgkpaa.poolBack
