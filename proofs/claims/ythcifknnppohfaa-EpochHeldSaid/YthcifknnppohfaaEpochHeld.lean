/-
  EpochHeld: while a thread stays pinned, an epoch is gone on by once at most, whoever tries how often; once it is out, again; for 3 threads, 30 tries. No condition beyond the statement's own.
-/
import Derived.Test.YthcifknnppohfaaEpcHeld
import Derived.Test.YthcifknnppohfaaAccLeaf
import Derived.Test.YthcifknnppohfaaLaw
import Derived.Test.YthcifknnppohfaaFields
import Derived.Deep.Cut
import Derived.Deep.CutRange
namespace Go.Proofs.Ythcifknnppohfaa.epochHeld
open Go.ChangeShapes Go.WideShapes Go.ChangeAt Go.RowKit Go.Deep Go.BigFrame
set_option linter.unusedVariables false
theorem own : ownKnob Try.prog.godebug = none := by kernel_rfl

set_option maxRecDepth 100000 in
set_option maxHeartbeats 16000000 in
theorem walkA (c0 : Nat) (hc0 : c0 < 256) (LA : Option Addr) (ln lc : Nat) (xs : List Nat) (hln : 30 < ln) (w : World) (HL : Hid (AtB w LA ln xs)) :
    Calls Try.prog 6 #[.int .u8 (c0 : Int), .slice LA ln lc] w fun e w' => e = .returned (.bool true) ∧ Below w.heap.size w w' := by
  obtain ⟨r, hr⟩ : ∃ r : Nat, r = 0 := ⟨0, rfl⟩
  obtain ⟨e, he⟩ : ∃ e, c0 % 5 = e := ⟨_, rfl⟩
  have he5 : e < 5 := by omega
  have q1 : (c0 : Int) % 5 = (e : Int) := by omega
  have dl0 : decide ((30 : Int) < (ln : Int)) = true := by rw [decide_eq_true_iff]; omega
  have dl0' : decide (30 < ln) = true := by rw [decide_eq_true_iff]; omega
  have HNEW : ∀ w, Calls Try.prog 15 #[.int .i64 3, .int .i64 2] w (NewWdR w 3 2 3 (sizeN 3 2) (newF 3 2) r) := fun w => newWdR 3 2 (by decide) (by decide) (by decide) hr w
  have HB0 : Hid (H1 0 (newF 3 2)) := Lib.hid H1.start
  have HOPS := fun (me : Nat) (k u : Int) (d : Nat) (er : Int) (oi : Bool) (NI : Int) (G GF : Nat → Nat) (s most : Nat) (hme : me < 3) (h : Ops 3 me k u (sizeN 3 2) G d GF s) (hs : s ≤ most) (hmo : most ≤ 1000) (hu : k = 5 → 1 ≤ u ∧ u < 1048576) (he : eErr k = er) (ho : eIs k d = oi) (hN : (eN k d : Int) = NI) => opsAlone (c := 2) (by decide) (by decide) (by decide) hme h hs hmo hu he ho hN r
  have HE5 := Lib.hid he5
  have BW : Hid (w.heap.size ≤ w.heap.size) := Lib.hid (Nat.le_refl _)
  have HST1 := fun i G (h : H1 i G) (hi : i < 5) => h.step hi
  have HPIN := fun G (h : H1 e G) => h.pin he5
  have HGO := fun me G (h : H2 e 0 G) => h.go (me := me) he5
  have HHELD := fun me G (h : H2 e 1 G) => h.held (me := me) he5
  have HEND := fun on G (h : H2 e on G) (ho : on ≤ 1) => h.end_ he5 ho
  have n3 : 3 < sizeN 3 2 := by decide
  have ni3 : (3 : Int) < (sizeN 3 2 : Int) := by decide
  generalize newF 3 2 = G0 at *
  generalize hn : sizeN 3 2 = n at *
  clear hr he hn
  go_enter Try.func6, Try.ntmps6
  go_wp2_with fail
  (with_reducible refine (epcShown _).mono ?_)
  rintro e w1 ⟨rfl, hb⟩
  have BB := Lib.hid hb
  clear hb
  have BWn : Hid (w.heap.size ≤ w1.heap.size) := Lib.hid BB.out.size
  clear BW; have BW := BWn; clear BWn
  go_wp2_with fail
  go_ret
  exact ⟨rfl, BB.out⟩

set_option maxRecDepth 100000 in
set_option maxHeartbeats 16000000 in
theorem walk (c0 : Nat) (hc0 : c0 < 256) (LA : Option Addr) (ln lc : Nat) (xs : List Nat) (hln : ln ≤ 30) (w : World) (HL : Hid (AtB w LA ln xs)) :
    Calls Try.prog 6 #[.int .u8 (c0 : Int), .slice LA ln lc] w fun e w' => e = .returned (.bool true) ∧ Below w.heap.size w w' := by
  obtain ⟨r, hr⟩ : ∃ r : Nat, r = 0 := ⟨0, rfl⟩
  obtain ⟨e, he⟩ : ∃ e, c0 % 5 = e := ⟨_, rfl⟩
  have he5 : e < 5 := by omega
  have q1 : (c0 : Int) % 5 = (e : Int) := by omega
  have dl0 : decide ((30 : Int) < (ln : Int)) = false := by rw [decide_eq_false_iff_not]; omega
  have dl0' : decide (30 < ln) = false := by rw [decide_eq_false_iff_not]; omega
  have HNEW : ∀ w, Calls Try.prog 15 #[.int .i64 3, .int .i64 2] w (NewWdR w 3 2 3 (sizeN 3 2) (newF 3 2) r) := fun w => newWdR 3 2 (by decide) (by decide) (by decide) hr w
  have HB0 : Hid (H1 0 (newF 3 2)) := Lib.hid H1.start
  have HOPS := fun (me : Nat) (k u : Int) (d : Nat) (er : Int) (oi : Bool) (NI : Int) (G GF : Nat → Nat) (s most : Nat) (hme : me < 3) (h : Ops 3 me k u (sizeN 3 2) G d GF s) (hs : s ≤ most) (hmo : most ≤ 1000) (hu : k = 5 → 1 ≤ u ∧ u < 1048576) (he : eErr k = er) (ho : eIs k d = oi) (hN : (eN k d : Int) = NI) => opsAlone (c := 2) (by decide) (by decide) (by decide) hme h hs hmo hu he ho hN r
  have HE5 := Lib.hid he5
  have BW : Hid (w.heap.size ≤ w.heap.size) := Lib.hid (Nat.le_refl _)
  have HST1 := fun i G (h : H1 i G) (hi : i < 5) => h.step hi
  have HPIN := fun G (h : H1 e G) => h.pin he5
  have HGO := fun me G (h : H2 e 0 G) => h.go (me := me) he5
  have HHELD := fun me G (h : H2 e 1 G) => h.held (me := me) he5
  have HEND := fun on G (h : H2 e on G) (ho : on ≤ 1) => h.end_ he5 ho
  have n3 : 3 < sizeN 3 2 := by decide
  have ni3 : (3 : Int) < (sizeN 3 2 : Int) := by decide
  generalize newF 3 2 = G0 at *
  generalize hn : sizeN 3 2 = n at *
  have HLN : Hid (ln ≤ 30) := Lib.hid hln
  clear hr he hn hln
  go_enter Try.func6, Try.ntmps6
  go_wp2_with fail
  (with_reducible refine (epcShown _).mono ?_)
  rintro e w1 ⟨rfl, hb⟩
  have BB := Lib.hid hb
  clear hb
  have BWn : Hid (w.heap.size ≤ w1.heap.size) := Lib.hid BB.out.size
  clear BW; have BW := BWn; clear BWn
  go_wp2_with fail
  (with_reducible refine (HNEW _).mono ?_)
  clear HNEW
  rintro e w0 ⟨A0, ka0, R0, ra0, S0, sa0, rfl, ha, hs0, hs1, hb, hP⟩
  go_upto_region 5 with fail
  have hal := al_below w0 (.cells #[.int .i64 3, .int .i64 2, .slice A0 n ka0, .int .u64 (r : Int), .slice R0 3 ra0, .slice S0 3 sa0] 51)
  have hbn := hb.trans (hal.mono hb.size)
  have W0 : Hid (WdFrom (fun b => b ≠ w0.heap.size) (fun _ => False) (w0.alloc (.cells #[.int .i64 3, .int .i64 2, .slice A0 n ka0, .int .u64 (r : Int), .slice R0 3 ra0, .slice S0 3 sa0] 51)) w0.heap.size 3 2 n r 3 G0 (zerosS 3) (zerosS 3)) := Lib.hid ⟨A0, ka0, R0, ra0, S0, sa0, WdAt.made0 (t := 3) (c := 2) (k := ka0) (r := r) (ra := ra0) (sa := sa0) w0 51 ha hs0 hs1, ha.old.mono fun b hb => (by omega), (hs0.old.mono fun b hb => (by omega : b ≠ w0.heap.size)).later hs0 hal, (hs1.old.mono fun b hb => (by omega : b ≠ w0.heap.size)).later hs1 hal, fun P h => h.elim⟩
  generalize w0.alloc (.cells #[.int .i64 3, .int .i64 2, .slice A0 n ka0, .int .u64 (r : Int), .slice R0 3 ra0, .slice S0 3 sa0] 51) = x0 at hal hbn W0 ⊢
  have BBn := Lib.hid (BB.out.trans (hbn.mono BB.out.size)); clear BB; have BB := BBn; clear BBn
  have HG0 : Hid (w.heap.size ≤ w0.heap.size) := Lib.hid (Nat.le_trans BW.out hb.size)
  generalize w0.heap.size = b0 at W0 HG0 ⊢
  clear ha hs0 hs1 hb hP hal hbn
  have HZ : Hid (WdFrom (fun b => b ≠ b0) (fun _ => False) x0 b0 3 2 n r 3 G0 (zerosS 3) (zerosS 3) ∧ Below w.heap.size w x0) := Lib.hid ⟨W0.out, BB.out⟩
  clear W0 BB
  go_wp2_with fail
  clear dl0 dl0'
  go_loopw [7] (fun u wr => ∃ (i : Nat) (G : Nat → Nat), i ≤ e ∧ u = .int .i64 (i : Int) ∧ H1 i G ∧ WdFrom (fun b => b ≠ b0) (fun _ => False) wr b0 3 2 n r 3 G (zerosS 3) (zerosS 3) ∧ Below w.heap.size w wr) (fun u _ => e - (intOf u).toNat)
  case atStart => exact ⟨0, G0, by omega, rfl, HB0.out, HZ.out.1, HZ.out.2⟩
  case round =>
    clear HZ
    obtain ⟨i, G, hik, rfl, hst, hwd, hbl⟩ := hrel
    have HWD := Lib.hid hwd
    have BB := Lib.hid hbl
    have HST := Lib.hid hst
    have hcc := HE5.out
    clear hwd hbl hst
    by_cases hlt : i < e
    case pos =>
      obtain ⟨G5, hops, hnx⟩ := HST1 i G HST.out (by omega)
      have HNX := Lib.hid hnx
      clear hnx
      have d1 : decide ((i : Int) < (e : Int)) = true := by rw [decide_eq_true_iff]; omega
      have d1' : decide (i < e) = true := by rw [decide_eq_true_iff]; omega
      have HAL : ∀ (A : Option Addr) (ka : Nat) (R : Option Addr) (ra : Nat) (S : Option Addr) (sa : Nat) (w : World), Hid (AtW w A n G) → Hid (StmsAt w R 3 (zerosS 3)) → Hid (StmsAt w S 3 (zerosS 3)) →
          Calls Try.prog 16 #[.agg #[.int .i64 3, .int .i64 2, .slice A n ka, .int .u64 (r : Int), .slice R 3 ra, .slice S 3 sa], .int .i64 1, .agg #[.int .i64 19, .int .i64 0, .int .i64 0, .int .u64 0], .int .i64 99] w (AloneEndE w 3 2 A n r R S 3 G5 (zerosS 3) (zerosS 3) 0 true 0) := HOPS 1 19 0 1 0 true 0 G G5 99 99 (by decide) hops (Nat.le_refl _) (by decide) (by decide) rfl rfl rfl
      obtain ⟨A1, ka1, R1, ra1, S1, sa1, hW, o0, o1, o2, _⟩ := HWD.out
      have W1 := Lib.hid hW
      have O1 := Lib.hid (And.intro o0 (And.intro o1 o2))
      obtain ⟨c0, c1, c2, c3, c4, c5⟩ := hW.cells
      have HGlt := Lib.hid hW.1.1
      clear hW o0 o1 o2
      have WV := Lib.hid W1.out.1
      go_wp2_with fail
      (with_reducible refine (HAL A1 ka1 R1 ra1 S1 sa1 _ W1.out.gA W1.out.g0 W1.out.g1).mono ?_)
      clear HAL c0 c1 c2 c3 c4 c5
      rintro e w3 ⟨A3, ka3, R3, ra3, S3, sa3, rfl, ha, hs0, hs1, hb, hP⟩
      go_upto_region 9 with fail
      have hbx : Below w3.heap.size w3 ((w3.alloc (.cells #[.int .i64 3, .int .i64 2, .slice A3 n ka3, .int .u64 (r : Int), .slice R3 3 ra3, .slice S3 3 sa3] 51)).alloc (.cells #[.int .i64 0, .bool true, .int .i64 0, .int .u64 0, .slice none 0 0] 37)) := below_pair _ _ _
      have W3 := Lib.hid (WdAt.made (t := 3) (c := 2) (k := ka3) (r := r) (ra := ra3) (sa := sa3) w3 (.cells #[.int .i64 0, .bool true, .int .i64 0, .int .u64 0, .slice none 0 0] 37) 51 ha hs0 hs1)
      have O3 := Lib.hid (VarAt.made1 w3 (.cells #[.int .i64 3, .int .i64 2, .slice A3 n ka3, .int .u64 (r : Int), .slice R3 3 ra3, .slice S3 3 sa3] 51) #[.int .i64 0, .bool true, .int .i64 0, .int .u64 0, .slice none 0 0] 37)
      have hbn := hb.trans (hbx.mono hb.size)
      have HS3 := Lib.hid (And.intro hs0 hs1)
      have HX3 := Lib.hid hbx
      have HB3 := Lib.hid hb
      have HP3 := Lib.hid hP
      generalize (w3.alloc (.cells #[.int .i64 3, .int .i64 2, .slice A3 n ka3, .int .u64 (r : Int), .slice R3 3 ra3, .slice S3 3 sa3] 51)).alloc (.cells #[.int .i64 0, .bool true, .int .i64 0, .int .u64 0, .slice none 0 0] 37) = x3 at hbx hbn W3 O3 HX3 ⊢
      have WVn := Lib.hid (WV.out.below hbn); clear WV; have WV := WVn; clear WVn
      have BBn := Lib.hid (BB.out.trans (hbn.mono BB.out.size)); clear BB; have BB := BBn; clear BBn
      clear ha hs0 hs1 hb hP hbx hbn
      obtain ⟨_, ⟨p1, p2, p3, p4, p5⟩, _⟩ := O3.out.five
      have hgx : b0 < x3.heap.size := WV.out.1
      have nb : ¬ (w3.heap.size = b0) := by have := HB3.out.size; have := HGlt.out; omega
      have nb' : ¬ (b0 = w3.heap.size) := fun e => nb e.symm
      have OF3 : Hid (OffW (fun b => b ≠ b0) A3 n ∧ OffS (fun b => b ≠ b0) x3 R3 3 ∧ OffS (fun b => b ≠ b0) x3 S3 3) := Lib.hid (by
        obtain ⟨q0, q1, q2⟩ := HP3.out (fun b => b ≠ b0) ⟨fun b hb => by have := HGlt.out; omega, O1.out.1, O1.out.2.1, O1.out.2.2⟩
        exact ⟨q0, q1.later HS3.out.1 HX3.out, q2.later HS3.out.2 HX3.out⟩)
      obtain ⟨_, ⟨e0, e1, e2, e3, e4, e5⟩, _⟩ := W3.out.1.six
      obtain ⟨zx, ⟨y0, y1, y2, y3, y4, y5⟩, f0, f1, f2, f3, f4, f5⟩ := WV.out.six
      clear hops HST
      go_wp2_with fail
      have hbb := BB.out
      have hg0 := HG0.out
      go_roundw
      case rel => exact ⟨i + 1, G5, by omega, by go_num, HNX.out, ⟨A3, ka3, R3, ra3, S3, sa3, ⟨VarAt.of6 (by simp; omega) (by go_simp) (by go_simp) (by go_simp) (by go_simp) (by go_simp) (by go_simp) (by go_simp) (by go_simp) (by go_simp) (by go_simp) (by go_simp) (by go_simp), W3.out.2.1.keep (Q := fun b => b ≠ b0) (by repeat (first | with_reducible exact Keep.refl _ _ | with_reducible refine Keep.drew ?_ | with_reducible refine Keep.alloc ?_ _ | (with_reducible refine Keep.set ?_ _ _ _ (by omega)))) OF3.out.1, W3.out.2.2.1.keep (Q := fun b => b ≠ b0) (by repeat (first | with_reducible exact Keep.refl _ _ | with_reducible refine Keep.drew ?_ | with_reducible refine Keep.alloc ?_ _ | (with_reducible refine Keep.set ?_ _ _ _ (by omega)))) OF3.out.2.1, W3.out.2.2.2.keep (Q := fun b => b ≠ b0) (by repeat (first | with_reducible exact Keep.refl _ _ | with_reducible refine Keep.drew ?_ | with_reducible refine Keep.alloc ?_ _ | (with_reducible refine Keep.set ?_ _ _ _ (by omega)))) OF3.out.2.2⟩, OF3.out.1, OF3.out.2.1.keep W3.out.2.2.1 (Q := fun b => b ≠ b0) (by repeat (first | with_reducible exact Keep.refl _ _ | with_reducible refine Keep.drew ?_ | with_reducible refine Keep.alloc ?_ _ | (with_reducible refine Keep.set ?_ _ _ _ (by omega)))) OF3.out.2.1, OF3.out.2.2.keep W3.out.2.2.2 (Q := fun b => b ≠ b0) (by repeat (first | with_reducible exact Keep.refl _ _ | with_reducible refine Keep.drew ?_ | with_reducible refine Keep.alloc ?_ _ | (with_reducible refine Keep.set ?_ _ _ _ (by omega)))) OF3.out.2.2, fun P h => h.elim⟩, (by repeat (first | with_reducible assumption | with_reducible refine Below.drew ?_ | with_reducible refine below_al ?_ | (with_reducible refine below_set1 (by omega) _ ?_)))⟩
      case measure => simp [intOf]; omega
    case neg =>
      obtain rfl : e = i := by omega
      have d1 : decide ((e : Int) < (e : Int)) = false := by rw [decide_eq_false_iff_not]; omega
      have d1' : decide (e < e) = false := by rw [decide_eq_false_iff_not]; omega
      obtain ⟨G5, hops, hnx⟩ := HPIN G HST.out
      have HNX := Lib.hid hnx
      clear hnx
      have HAL : ∀ (A : Option Addr) (ka : Nat) (R : Option Addr) (ra : Nat) (S : Option Addr) (sa : Nat) (w : World), Hid (AtW w A n G) → Hid (StmsAt w R 3 (zerosS 3)) → Hid (StmsAt w S 3 (zerosS 3)) →
          Calls Try.prog 16 #[.agg #[.int .i64 3, .int .i64 2, .slice A n ka, .int .u64 (r : Int), .slice R 3 ra, .slice S 3 sa], .int .i64 0, .agg #[.int .i64 3, .int .i64 0, .int .i64 0, .int .u64 0], .int .i64 9] w (AloneEndE w 3 2 A n r R S 3 G5 (zerosS 3) (zerosS 3) 0 false 0) := HOPS 0 3 0 0 0 false 0 G G5 9 9 (by decide) hops (Nat.le_refl _) (by decide) (by decide) rfl rfl rfl
      obtain ⟨A1, ka1, R1, ra1, S1, sa1, hW, o0, o1, o2, _⟩ := HWD.out
      have W1 := Lib.hid hW
      have O1 := Lib.hid (And.intro o0 (And.intro o1 o2))
      obtain ⟨c0, c1, c2, c3, c4, c5⟩ := hW.cells
      have HGlt := Lib.hid hW.1.1
      clear hW o0 o1 o2
      have WV := Lib.hid W1.out.1
      go_wp2_with fail
      (with_reducible refine (HAL A1 ka1 R1 ra1 S1 sa1 _ W1.out.gA W1.out.g0 W1.out.g1).mono ?_)
      clear HAL c0 c1 c2 c3 c4 c5
      rintro e w3 ⟨A3, ka3, R3, ra3, S3, sa3, rfl, ha, hs0, hs1, hb, hP⟩
      go_upto_region 13 with fail
      have hbx : Below w3.heap.size w3 ((w3.alloc (.cells #[.int .i64 3, .int .i64 2, .slice A3 n ka3, .int .u64 (r : Int), .slice R3 3 ra3, .slice S3 3 sa3] 51)).alloc (.cells #[.int .i64 0, .bool false, .int .i64 0, .int .u64 0, .slice none 0 0] 37)) := below_pair _ _ _
      have W3 := Lib.hid (WdAt.made (t := 3) (c := 2) (k := ka3) (r := r) (ra := ra3) (sa := sa3) w3 (.cells #[.int .i64 0, .bool false, .int .i64 0, .int .u64 0, .slice none 0 0] 37) 51 ha hs0 hs1)
      have O3 := Lib.hid (VarAt.made1 w3 (.cells #[.int .i64 3, .int .i64 2, .slice A3 n ka3, .int .u64 (r : Int), .slice R3 3 ra3, .slice S3 3 sa3] 51) #[.int .i64 0, .bool false, .int .i64 0, .int .u64 0, .slice none 0 0] 37)
      have hbn := hb.trans (hbx.mono hb.size)
      have HS3 := Lib.hid (And.intro hs0 hs1)
      have HX3 := Lib.hid hbx
      have HB3 := Lib.hid hb
      have HP3 := Lib.hid hP
      generalize (w3.alloc (.cells #[.int .i64 3, .int .i64 2, .slice A3 n ka3, .int .u64 (r : Int), .slice R3 3 ra3, .slice S3 3 sa3] 51)).alloc (.cells #[.int .i64 0, .bool false, .int .i64 0, .int .u64 0, .slice none 0 0] 37) = x3 at hbx hbn W3 O3 HX3 ⊢
      have WVn := Lib.hid (WV.out.below hbn); clear WV; have WV := WVn; clear WVn
      have BBn := Lib.hid (BB.out.trans (hbn.mono BB.out.size)); clear BB; have BB := BBn; clear BBn
      clear ha hs0 hs1 hb hP hbx hbn
      obtain ⟨_, ⟨p1, p2, p3, p4, p5⟩, _⟩ := O3.out.five
      have hgx : b0 < x3.heap.size := WV.out.1
      have nb : ¬ (w3.heap.size = b0) := by have := HB3.out.size; have := HGlt.out; omega
      have nb' : ¬ (b0 = w3.heap.size) := fun e => nb e.symm
      have OF3 : Hid (OffW (fun b => b ≠ b0) A3 n ∧ OffS (fun b => b ≠ b0) x3 R3 3 ∧ OffS (fun b => b ≠ b0) x3 S3 3) := Lib.hid (by
        obtain ⟨q0, q1, q2⟩ := HP3.out (fun b => b ≠ b0) ⟨fun b hb => by have := HGlt.out; omega, O1.out.1, O1.out.2.1, O1.out.2.2⟩
        exact ⟨q0, q1.later HS3.out.1 HX3.out, q2.later HS3.out.2 HX3.out⟩)
      obtain ⟨_, ⟨e0, e1, e2, e3, e4, e5⟩, _⟩ := W3.out.1.six
      obtain ⟨zx, ⟨y0, y1, y2, y3, y4, y5⟩, f0, f1, f2, f3, f4, f5⟩ := WV.out.six
      clear hops HST
      go_upto_region 16 with fail
      have hbb := BB.out
      have hg0 := HG0.out
      refine gen_w (P := fun W => Code.wp _ _ _ _ W) (fun z => WdFrom (fun b => b ≠ b0) (fun _ => False) z b0 3 2 n r 3 G5 (zerosS 3) (zerosS 3) ∧ Below w.heap.size w z) ⟨⟨A3, ka3, R3, ra3, S3, sa3, ⟨VarAt.of6 (by simp; omega) (by go_simp) (by go_simp) (by go_simp) (by go_simp) (by go_simp) (by go_simp) (by go_simp) (by go_simp) (by go_simp) (by go_simp) (by go_simp) (by go_simp), W3.out.2.1.keep (Q := fun b => b ≠ b0) (by repeat (first | with_reducible exact Keep.refl _ _ | with_reducible refine Keep.drew ?_ | with_reducible refine Keep.alloc ?_ _ | (with_reducible refine Keep.set ?_ _ _ _ (by omega)))) OF3.out.1, W3.out.2.2.1.keep (Q := fun b => b ≠ b0) (by repeat (first | with_reducible exact Keep.refl _ _ | with_reducible refine Keep.drew ?_ | with_reducible refine Keep.alloc ?_ _ | (with_reducible refine Keep.set ?_ _ _ _ (by omega)))) OF3.out.2.1, W3.out.2.2.2.keep (Q := fun b => b ≠ b0) (by repeat (first | with_reducible exact Keep.refl _ _ | with_reducible refine Keep.drew ?_ | with_reducible refine Keep.alloc ?_ _ | (with_reducible refine Keep.set ?_ _ _ _ (by omega)))) OF3.out.2.2⟩, OF3.out.1, OF3.out.2.1.keep W3.out.2.2.1 (Q := fun b => b ≠ b0) (by repeat (first | with_reducible exact Keep.refl _ _ | with_reducible refine Keep.drew ?_ | with_reducible refine Keep.alloc ?_ _ | (with_reducible refine Keep.set ?_ _ _ _ (by omega)))) OF3.out.2.1, OF3.out.2.2.keep W3.out.2.2.2 (Q := fun b => b ≠ b0) (by repeat (first | with_reducible exact Keep.refl _ _ | with_reducible refine Keep.drew ?_ | with_reducible refine Keep.alloc ?_ _ | (with_reducible refine Keep.set ?_ _ _ _ (by omega)))) OF3.out.2.2, fun P h => h.elim⟩, (by repeat (first | with_reducible assumption | with_reducible refine Below.drew ?_ | with_reducible refine below_al ?_ | (with_reducible refine below_set1 (by omega) _ ?_)))⟩ ?_
      rintro z ⟨hz, hbz⟩
      clear W3 O3 HS3 HX3 HB3 HP3 OF3 WV W1 O1 HGlt e0 e1 e2 e3 e4 e5 y0 y1 y2 y3 y4 y5 f0 f1 f2 f3 f4 f5 zx nb nb' hgx p1 p2 p3 p4 p5 hbb hg0 BB HWD
      have HWD := Lib.hid hz
      have BB := Lib.hid hbz
      have h3 : G5 3 = e := by obtain ⟨_, _, _, _, _, _, h⟩ := HNX.out; exact h
      clear hz hbz
      generalize G5 = G at *
      obtain ⟨A1, ka1, R1, ra1, S1, sa1, hW, _, _, _, _⟩ := HWD.out
      obtain ⟨c0, c1, c2, c3, c4, c5⟩ := hW.cells
      obtain ⟨ba, bo, rfl, hw⟩ := hW.2.1.word (by omega)
      have hw3 := hw 3 n3
      rw [h3] at hw3
      have HST := HNX
      clear hw hW h3 HNX
      go_wp2_with fail
      clear c0 c1 c2 c3 c4 c5 hw3
      go_loopw [15, 16] (fun u v wr => ∃ (i on : Nat) (G : Nat → Nat), i ≤ ln ∧ u = .int .i64 (on : Int) ∧ v = .int .i64 (i : Int) ∧ on = min i 1 ∧ H2 e on G ∧ WdFrom (fun b => b ≠ b0) (fun _ => False) wr b0 3 2 n r 3 G (zerosS 3) (zerosS 3) ∧ Below w.heap.size w wr) (fun _ v _ => ln - (intOf v).toNat)
      case atStart => exact ⟨0, 0, G, by omega, rfl, rfl, rfl, HST.out, HWD.out, BB.out⟩
      case round =>
        clear HWD BB HST
        obtain ⟨i, on, G, hik, rfl, rfl, hon, hst, hwd, hbl⟩ := hrel
        have HWD := Lib.hid hwd
        have BB := Lib.hid hbl
        have HST := Lib.hid hst
        have HON := Lib.hid hon
        have hcc := HLN.out
        clear hwd hbl hst hon
        by_cases hlt : i < ln
        case pos =>
          obtain ⟨lb, lo, hLA, hlb, hlc⟩ := (AtB.later HL BB.out).2.2.2 (by omega)
          have hx := hlc i (by omega)
          have hxb : xs.getD i 0 < 256 := by
            have h1 := HL.out.2.1
            have h2 := HL.out.1
            rw [List.getD_eq_getElem?_getD, List.getElem?_eq_getElem (by omega)]
            exact h1 _ (List.getElem_mem _)
          have i0 : (0 : Int) ≤ (i : Int) := by omega
          have i1 : (i : Int) < (ln : Int) := by omega
          rw [hLA]
          generalize xs.getD i 0 = x at hx hxb
          have rL : ∀ w', Below wr.heap.size wr w' → w'.cell? ⟨lb, lo + i, none⟩ = some (.int .u8 (x : Int)) := fun w' hb => (hb.cell (p := ⟨lb, lo + i, none⟩) hlb).trans hx
          clear hlc hlb hx
          by_cases hi0 : i = 0
          case pos =>
            obtain rfl : on = 0 := by have := HON.out; omega
            clear HON hi0
            have d1 : decide ((i : Int) < (ln : Int)) = true := by rw [decide_eq_true_iff]; omega
            have d1' : decide (i < ln) = true := by rw [decide_eq_true_iff]; omega
            obtain ⟨G5, hops, hnx⟩ := HGO (1 + x % 2) G HST.out
            have HNX := Lib.hid hnx
            clear hnx
            have HAL : ∀ (A : Option Addr) (ka : Nat) (R : Option Addr) (ra : Nat) (S : Option Addr) (sa : Nat) (w : World), Hid (AtW w A n G) → Hid (StmsAt w R 3 (zerosS 3)) → Hid (StmsAt w S 3 (zerosS 3)) →
                Calls Try.prog 16 #[.agg #[.int .i64 3, .int .i64 2, .slice A n ka, .int .u64 (r : Int), .slice R 3 ra, .slice S 3 sa], .int .i64 (IntKind.i64.wrap (1 + (IntKind.i64.wrap (x : Int)).tmod 2)), .agg #[.int .i64 19, .int .i64 0, .int .i64 0, .int .u64 0], .int .i64 99] w (AloneEndE w 3 2 A n r R S 3 G5 (zerosS 3) (zerosS 3) 0 true 0) := by
              have h := HOPS (1 + x % 2) 19 0 1 0 true 0 G G5 99 99 (by omega) hops (Nat.le_refl _) (by decide) (by decide) rfl rfl rfl
              rwa [show (((1 + x % 2 : Nat)) : Int) = IntKind.i64.wrap (1 + (IntKind.i64.wrap (x : Int)).tmod 2) by rw [wrapI (z := (x : Int)) (by omega) (by omega), Int.tmod_eq_emod_of_nonneg (by omega), wrapI (by omega) (by omega)]; omega] at h
            obtain ⟨A1, ka1, R1, ra1, S1, sa1, hW, o0, o1, o2, _⟩ := HWD.out
            have W1 := Lib.hid hW
            have O1 := Lib.hid (And.intro o0 (And.intro o1 o2))
            obtain ⟨c0, c1, c2, c3, c4, c5⟩ := hW.cells
            have HGlt := Lib.hid hW.1.1
            clear hW o0 o1 o2
            clear hops c0 c1 c2 c3 c4 c5
            go_upto_region 21 with fail
            have rC0 := fun w' (hb : Below wr.heap.size wr w') => (W1.out.later hb).cells.1
            have rC1 := fun w' (hb : Below wr.heap.size wr w') => (W1.out.later hb).cells.2.1
            have rC2 := fun w' (hb : Below wr.heap.size wr w') => (W1.out.later hb).cells.2.2.1
            have rC3 := fun w' (hb : Below wr.heap.size wr w') => (W1.out.later hb).cells.2.2.2.1
            have rC4 := fun w' (hb : Below wr.heap.size wr w') => (W1.out.later hb).cells.2.2.2.2.1
            have rC5 := fun w' (hb : Below wr.heap.size wr w') => (W1.out.later hb).cells.2.2.2.2.2
            have HB0 : Below wr.heap.size wr wr := Below.refl _ _
            have HQN : Hid (∀ b, wr.heap.size ≤ b → (fun b => b ≠ b0) b) := Lib.hid (fun b hb => by have := HGlt.out; simp only []; omega)
            go_cut [17, 18, 19] from 70 to 83 (fun s17 s18 s19 wx => AlCut (fun b => b ≠ b0) 3 2 n r 3 G5 0 true 0 wr b0 [.int .i64 3, .int .i64 2, .slice A1 n ka1, .int .u64 (r : Int), .slice R1 3 ra1, .slice S1 3 sa1] s17 s18 s19 wx)
            case first =>
              go_region_held3 (fun w' => Below wr.heap.size wr w') (repeat (first | with_reducible assumption | with_reducible refine Below.drew ?_ | with_reducible refine below_al ?_ | (with_reducible refine below_set1 (by omega) _ ?_)))
                (first | (go_at_call 16; (with_reducible refine (HAL A1 ka1 R1 ra1 S1 sa1 _ (W1.out.later (by repeat (first | with_reducible assumption | with_reducible refine Below.drew ?_ | with_reducible refine below_al ?_))).gA (W1.out.later (by repeat (first | with_reducible assumption | with_reducible refine Below.drew ?_ | with_reducible refine below_al ?_))).g0 (W1.out.later (by repeat (first | with_reducible assumption | with_reducible refine Below.drew ?_ | with_reducible refine below_al ?_))).g1).mono ?_); rintro e w4 ⟨A4, ka4, R4, ra4, S4, sa4, rfl, ha, hs0, hs1, hb, hP⟩; have hBw4 : Below wr.heap.size wr w4 := below_step hb (by repeat (first | with_reducible assumption | with_reducible refine Below.drew ?_ | with_reducible refine below_al ?_)); have hz4 := hBw4.size; have HA4 := Lib.hid ha; have HS4 := Lib.hid hs0; have HT4 := Lib.hid hs1; have HQ := Lib.hid (alone_arm (Q := (fun b => b ≠ b0)) (by repeat (first | with_reducible assumption | with_reducible refine Below.drew ?_ | with_reducible refine below_al ?_)) hb hP W1.out.2.1 W1.out.2.2.1 W1.out.2.2.2 O1.out.1 O1.out.2.1 O1.out.2.2 HQN.out); (try (have VBa : VarAt w4 wr.heap.size [.int .i64 0, .int .i64 0, .slice none 0 0, .int .u64 0, .slice none 0 0, .slice none 0 0] := VarAt.onto hb (VarAt.made wr #[.int .i64 0, .int .i64 0, .slice none 0 0, .int .u64 0, .slice none 0 0, .slice none 0 0] 51) rfl; obtain ⟨_, ⟨va0, va1, va2, va3, va4, va5⟩, wa0, wa1, wa2, wa3, wa4, wa5⟩ := VBa.six)); (try (have VBb : VarAt w4 wr.heap.size [.int .i64 0, .bool false, .int .i64 0, .int .u64 0, .slice none 0 0] := VarAt.onto hb (VarAt.made wr #[.int .i64 0, .bool false, .int .i64 0, .int .u64 0, .slice none 0 0] 37) rfl; obtain ⟨_, ⟨vb0, vb1, vb2, vb3, vb4⟩, wb0, wb1, wb2, wb3, wb4⟩ := VBb.five)); (try (have VBc : VarAt w4 (wr.heap.size + 1) [.int .i64 0, .bool false, .int .i64 0, .int .u64 0, .slice none 0 0] := VarAt.onto hb (VarAt.made1 wr (.cells #[.int .i64 0, .int .i64 0, .slice none 0 0, .int .u64 0, .slice none 0 0, .slice none 0 0] 51) #[.int .i64 0, .bool false, .int .i64 0, .int .u64 0, .slice none 0 0] 37) rfl; obtain ⟨_, ⟨vc0, vc1, vc2, vc3, vc4⟩, wc0, wc1, wc2, wc3, wc4⟩ := VBc.five)); (try (have VBd : VarAt w4 (wr.heap.size + 1) [.int .i64 0, .int .i64 0, .slice none 0 0, .int .u64 0, .slice none 0 0, .slice none 0 0] := VarAt.onto hb (VarAt.made1 wr (.cells #[.int .i64 0, .bool false, .int .i64 0, .int .u64 0, .slice none 0 0] 37) #[.int .i64 0, .int .i64 0, .slice none 0 0, .int .u64 0, .slice none 0 0, .slice none 0 0] 51) rfl; obtain ⟨_, ⟨vd0, vd1, vd2, vd3, vd4, vd5⟩, wd0, wd1, wd2, wd3, wd4, wd5⟩ := VBd.six)); (try (have VBe : VarAt w4 wr.heap.size [.int .i64 0, .int .i64 0, .slice none 0 0, .int .u64 0, .slice none 0 0, .slice none 0 0] := VarAt.onto hb ((VarAt.made wr #[.int .i64 0, .int .i64 0, .slice none 0 0, .int .u64 0, .slice none 0 0, .slice none 0 0] 51).below (al_below _ (.cells #[.int .i64 0, .bool false, .int .i64 0, .int .u64 0, .slice none 0 0] 37))) rfl; obtain ⟨_, ⟨ve0, ve1, ve2, ve3, ve4, ve5⟩, we0, we1, we2, we3, we4, we5⟩ := VBe.six)); (try (have VBf : VarAt w4 wr.heap.size [.int .i64 0, .bool false, .int .i64 0, .int .u64 0, .slice none 0 0] := VarAt.onto hb ((VarAt.made wr #[.int .i64 0, .bool false, .int .i64 0, .int .u64 0, .slice none 0 0] 37).below (al_below _ (.cells #[.int .i64 0, .int .i64 0, .slice none 0 0, .int .u64 0, .slice none 0 0, .slice none 0 0] 51))) rfl; obtain ⟨_, ⟨vf0, vf1, vf2, vf3, vf4⟩, wf0, wf1, wf2, wf3, wf4⟩ := VBf.five)); clear ha hs0 hs1 hb hP))
              all_goals
                go_wp2_with fail
                go_meet
                obtain ⟨N2, hN2, hN3, hN4, o0, o1, o2⟩ := HQ.out
                have hgz := HGlt.out
                simp at hN2
                obtain ⟨_, ⟨c0, c1, c2, c3, c4, c5⟩, q0, q1, q2, q3, q4, q5⟩ := (W1.out.later hBw4).1.six
                exact AlCut.of (N2 := N2) (w4 := w4) (ka := ka4) (ra := ra4) (sa := sa4) (by repeat (first | with_reducible exact Keep.refl _ _ | with_reducible refine Keep.drew ?_ | with_reducible refine Keep.alloc ?_ _ | (with_reducible refine Keep.set ?_ _ _ _ (by unfold Qc; omega)))) (by omega) (by omega) (VarAt.of6 (by first | (simp; done) | (simp; omega) | omega) (by go_simp) (by go_simp) (by go_simp) (by go_simp) (by go_simp) (by go_simp) (by go_simp) (by go_simp) (by go_simp) (by go_simp) (by go_simp) (by go_simp)) (VarAt.mk5 (by first | (simp; done) | (simp; omega) | omega) (by go_simp) (by go_simp) (by go_simp) (by go_simp) (by go_simp) (by go_simp) (by go_simp) (by go_simp) (by go_simp) (by go_simp)) (VarAt.of6 (by first | (simp; done) | (simp; omega) | omega) (by go_simp) (by go_simp) (by go_simp) (by go_simp) (by go_simp) (by go_simp) (by go_simp) (by go_simp) (by go_simp) (by go_simp) (by go_simp) (by go_simp)) HA4.out HS4.out HT4.out o0 o1 o2 (by repeat (first | with_reducible assumption | with_reducible refine Below.drew ?_ | with_reducible refine below_al ?_ | (with_reducible refine below_set1 (by omega) _ ?_)))
            case rest =>
              obtain ⟨b1, b2, rfl, rfl, rfl, n1, n2, ⟨A3, ka3, R3, ra3, S3, sa3, hw3, o0, o1, o2⟩, hv2, hvg, hby⟩ := hcut
              clear HAL rC0 rC1 rC2 rC3 rC4 rC5 HB0 HQN rL
              have hlt0 := HGlt.out
              have m1 : ¬ (b1 = b0) := by omega
              have m2 : ¬ (b0 = b1) := by omega
              have m3 : ¬ (b2 = b0) := by omega
              have m4 : ¬ (b0 = b2) := by omega
              have W3 := Lib.hid hw3
              have OF3 := Lib.hid (And.intro o0 (And.intro o1 o2))
              have HV2 := Lib.hid hv2
              have HVG := Lib.hid hvg
              have BBn := Lib.hid (BB.out.trans (hby.mono BB.out.size)); clear BB; have BB := BBn; clear BBn
              obtain ⟨_, ⟨e0, e1, e2, e3, e4, e5⟩, _⟩ := hw3.1.six
              obtain ⟨zx, ⟨y0, y1, y2, y3, y4, y5⟩, f0, f1, f2, f3, f4, f5⟩ := hvg.six
              obtain ⟨_, ⟨p1, p2, p3, p4, p5⟩, _⟩ := hv2.five
              have hg0 := HG0.out
              clear hw3 hv2 hvg hby n1 n2 o0 o1 o2 W1 O1 HGlt
              go_upto_region 25 with fail
              have hbb := BB.out
              refine gen_w (P := fun W => Code.wp _ _ _ _ W) (fun z => WdFrom (fun b => b ≠ b0) (fun _ => False) z b0 3 2 n r 3 G5 (zerosS 3) (zerosS 3) ∧ VarAt z b2 [.int .i64 0, .bool true, .int .i64 0, .int .u64 0, .slice none 0 0] ∧ Below w.heap.size w z) ⟨⟨A3, ka3, R3, ra3, S3, sa3, ⟨VarAt.of6 (by simp; omega) (by go_simp) (by go_simp) (by go_simp) (by go_simp) (by go_simp) (by go_simp) (by go_simp) (by go_simp) (by go_simp) (by go_simp) (by go_simp) (by go_simp), W3.out.2.1.keep (Q := fun b => b ≠ b0) (by repeat (first | with_reducible exact Keep.refl _ _ | with_reducible refine Keep.drew ?_ | with_reducible refine Keep.alloc ?_ _ | (with_reducible refine Keep.set ?_ _ _ _ (by omega)))) OF3.out.1, W3.out.2.2.1.keep (Q := fun b => b ≠ b0) (by repeat (first | with_reducible exact Keep.refl _ _ | with_reducible refine Keep.drew ?_ | with_reducible refine Keep.alloc ?_ _ | (with_reducible refine Keep.set ?_ _ _ _ (by omega)))) OF3.out.2.1, W3.out.2.2.2.keep (Q := fun b => b ≠ b0) (by repeat (first | with_reducible exact Keep.refl _ _ | with_reducible refine Keep.drew ?_ | with_reducible refine Keep.alloc ?_ _ | (with_reducible refine Keep.set ?_ _ _ _ (by omega)))) OF3.out.2.2⟩, OF3.out.1, OF3.out.2.1.keep W3.out.2.2.1 (Q := fun b => b ≠ b0) (by repeat (first | with_reducible exact Keep.refl _ _ | with_reducible refine Keep.drew ?_ | with_reducible refine Keep.alloc ?_ _ | (with_reducible refine Keep.set ?_ _ _ _ (by omega)))) OF3.out.2.1, OF3.out.2.2.keep W3.out.2.2.2 (Q := fun b => b ≠ b0) (by repeat (first | with_reducible exact Keep.refl _ _ | with_reducible refine Keep.drew ?_ | with_reducible refine Keep.alloc ?_ _ | (with_reducible refine Keep.set ?_ _ _ _ (by omega)))) OF3.out.2.2, fun P h => h.elim⟩, (by repeat (first | with_reducible exact HV2.out | (with_reducible refine VarAt.apart ?_ _ _ (by omega)))), (by repeat (first | with_reducible assumption | with_reducible refine Below.drew ?_ | with_reducible refine below_al ?_ | (with_reducible refine below_set1 (by omega) _ ?_)))⟩ ?_
              rintro z ⟨hz, hz2, hbz⟩
              clear W3 OF3 HV2 HVG e0 e1 e2 e3 e4 e5 y0 y1 y2 y3 y4 y5 f0 f1 f2 f3 f4 f5 zx p1 p2 p3 p4 p5 hbb hg0 BB HWD
              have HWD := Lib.hid hz
              have BB := Lib.hid hbz
              obtain ⟨_, ⟨p1, p2, p3, p4, p5⟩, _⟩ := hz2.five
              have h3 : G5 3 = e + 1 := by obtain ⟨_, _, _, _, _, _, h⟩ := HNX.out; exact h
              clear hz hz2 hbz
              obtain ⟨A1, ka1, R1, ra1, S1, sa1, hW, _, _, _, _⟩ := HWD.out
              obtain ⟨c0, c1, c2, c3, c4, c5⟩ := hW.cells
              obtain ⟨ba, bo, rfl, hw⟩ := hW.2.1.word (by omega)
              have hw3 := hw 3 n3
              rw [h3] at hw3
              have he5 := HE5.out
              have q2 : (((e + 1 : Nat)) : Int) = (e : Int) + 1 := by omega
              rw [q2] at hw3
              clear hw hW h3
              go_wp2_with fail
              go_roundw
              case rel => exact ⟨i + 1, 1, G5, by omega, by go_num, by go_num, by omega, HNX.out, HWD.out, BB.out⟩
              case measure => simp [intOf]; omega
          case neg =>
            obtain rfl : on = 1 := by have := HON.out; omega
            clear HON hi0
            have d1 : decide ((i : Int) < (ln : Int)) = true := by rw [decide_eq_true_iff]; omega
            have d1' : decide (i < ln) = true := by rw [decide_eq_true_iff]; omega
            have hops := HHELD (1 + x % 2) G HST.out
            have HNX := HST
            obtain ⟨G5, hG5⟩ : ∃ G5, G5 = G := ⟨G, rfl⟩
            rw [← hG5] at HNX
            have hops := (show Ops 3 (1 + x % 2) 19 0 n G 0 G5 99 from hG5 ▸ hops)
            clear hG5
            have HAL : ∀ (A : Option Addr) (ka : Nat) (R : Option Addr) (ra : Nat) (S : Option Addr) (sa : Nat) (w : World), Hid (AtW w A n G) → Hid (StmsAt w R 3 (zerosS 3)) → Hid (StmsAt w S 3 (zerosS 3)) →
                Calls Try.prog 16 #[.agg #[.int .i64 3, .int .i64 2, .slice A n ka, .int .u64 (r : Int), .slice R 3 ra, .slice S 3 sa], .int .i64 (IntKind.i64.wrap (1 + (IntKind.i64.wrap (x : Int)).tmod 2)), .agg #[.int .i64 19, .int .i64 0, .int .i64 0, .int .u64 0], .int .i64 99] w (AloneEndE w 3 2 A n r R S 3 G5 (zerosS 3) (zerosS 3) 0 false 0) := by
              have h := HOPS (1 + x % 2) 19 0 0 0 false 0 G G5 99 99 (by omega) hops (Nat.le_refl _) (by decide) (by decide) rfl rfl rfl
              rwa [show (((1 + x % 2 : Nat)) : Int) = IntKind.i64.wrap (1 + (IntKind.i64.wrap (x : Int)).tmod 2) by rw [wrapI (z := (x : Int)) (by omega) (by omega), Int.tmod_eq_emod_of_nonneg (by omega), wrapI (by omega) (by omega)]; omega] at h
            obtain ⟨A1, ka1, R1, ra1, S1, sa1, hW, o0, o1, o2, _⟩ := HWD.out
            have W1 := Lib.hid hW
            have O1 := Lib.hid (And.intro o0 (And.intro o1 o2))
            obtain ⟨c0, c1, c2, c3, c4, c5⟩ := hW.cells
            have HGlt := Lib.hid hW.1.1
            clear hW o0 o1 o2
            clear hops c0 c1 c2 c3 c4 c5
            go_upto_region 21 with fail
            have rC0 := fun w' (hb : Below wr.heap.size wr w') => (W1.out.later hb).cells.1
            have rC1 := fun w' (hb : Below wr.heap.size wr w') => (W1.out.later hb).cells.2.1
            have rC2 := fun w' (hb : Below wr.heap.size wr w') => (W1.out.later hb).cells.2.2.1
            have rC3 := fun w' (hb : Below wr.heap.size wr w') => (W1.out.later hb).cells.2.2.2.1
            have rC4 := fun w' (hb : Below wr.heap.size wr w') => (W1.out.later hb).cells.2.2.2.2.1
            have rC5 := fun w' (hb : Below wr.heap.size wr w') => (W1.out.later hb).cells.2.2.2.2.2
            have HB0 : Below wr.heap.size wr wr := Below.refl _ _
            have HQN : Hid (∀ b, wr.heap.size ≤ b → (fun b => b ≠ b0) b) := Lib.hid (fun b hb => by have := HGlt.out; simp only []; omega)
            go_cut [17, 18, 19] from 70 to 83 (fun s17 s18 s19 wx => AlCut (fun b => b ≠ b0) 3 2 n r 3 G5 0 false 0 wr b0 [.int .i64 3, .int .i64 2, .slice A1 n ka1, .int .u64 (r : Int), .slice R1 3 ra1, .slice S1 3 sa1] s17 s18 s19 wx)
            case first =>
              go_region_held3 (fun w' => Below wr.heap.size wr w') (repeat (first | with_reducible assumption | with_reducible refine Below.drew ?_ | with_reducible refine below_al ?_ | (with_reducible refine below_set1 (by omega) _ ?_)))
                (first | (go_at_call 16; (with_reducible refine (HAL A1 ka1 R1 ra1 S1 sa1 _ (W1.out.later (by repeat (first | with_reducible assumption | with_reducible refine Below.drew ?_ | with_reducible refine below_al ?_))).gA (W1.out.later (by repeat (first | with_reducible assumption | with_reducible refine Below.drew ?_ | with_reducible refine below_al ?_))).g0 (W1.out.later (by repeat (first | with_reducible assumption | with_reducible refine Below.drew ?_ | with_reducible refine below_al ?_))).g1).mono ?_); rintro e w4 ⟨A4, ka4, R4, ra4, S4, sa4, rfl, ha, hs0, hs1, hb, hP⟩; have hBw4 : Below wr.heap.size wr w4 := below_step hb (by repeat (first | with_reducible assumption | with_reducible refine Below.drew ?_ | with_reducible refine below_al ?_)); have hz4 := hBw4.size; have HA4 := Lib.hid ha; have HS4 := Lib.hid hs0; have HT4 := Lib.hid hs1; have HQ := Lib.hid (alone_arm (Q := (fun b => b ≠ b0)) (by repeat (first | with_reducible assumption | with_reducible refine Below.drew ?_ | with_reducible refine below_al ?_)) hb hP W1.out.2.1 W1.out.2.2.1 W1.out.2.2.2 O1.out.1 O1.out.2.1 O1.out.2.2 HQN.out); (try (have VBa : VarAt w4 wr.heap.size [.int .i64 0, .int .i64 0, .slice none 0 0, .int .u64 0, .slice none 0 0, .slice none 0 0] := VarAt.onto hb (VarAt.made wr #[.int .i64 0, .int .i64 0, .slice none 0 0, .int .u64 0, .slice none 0 0, .slice none 0 0] 51) rfl; obtain ⟨_, ⟨va0, va1, va2, va3, va4, va5⟩, wa0, wa1, wa2, wa3, wa4, wa5⟩ := VBa.six)); (try (have VBb : VarAt w4 wr.heap.size [.int .i64 0, .bool false, .int .i64 0, .int .u64 0, .slice none 0 0] := VarAt.onto hb (VarAt.made wr #[.int .i64 0, .bool false, .int .i64 0, .int .u64 0, .slice none 0 0] 37) rfl; obtain ⟨_, ⟨vb0, vb1, vb2, vb3, vb4⟩, wb0, wb1, wb2, wb3, wb4⟩ := VBb.five)); (try (have VBc : VarAt w4 (wr.heap.size + 1) [.int .i64 0, .bool false, .int .i64 0, .int .u64 0, .slice none 0 0] := VarAt.onto hb (VarAt.made1 wr (.cells #[.int .i64 0, .int .i64 0, .slice none 0 0, .int .u64 0, .slice none 0 0, .slice none 0 0] 51) #[.int .i64 0, .bool false, .int .i64 0, .int .u64 0, .slice none 0 0] 37) rfl; obtain ⟨_, ⟨vc0, vc1, vc2, vc3, vc4⟩, wc0, wc1, wc2, wc3, wc4⟩ := VBc.five)); (try (have VBd : VarAt w4 (wr.heap.size + 1) [.int .i64 0, .int .i64 0, .slice none 0 0, .int .u64 0, .slice none 0 0, .slice none 0 0] := VarAt.onto hb (VarAt.made1 wr (.cells #[.int .i64 0, .bool false, .int .i64 0, .int .u64 0, .slice none 0 0] 37) #[.int .i64 0, .int .i64 0, .slice none 0 0, .int .u64 0, .slice none 0 0, .slice none 0 0] 51) rfl; obtain ⟨_, ⟨vd0, vd1, vd2, vd3, vd4, vd5⟩, wd0, wd1, wd2, wd3, wd4, wd5⟩ := VBd.six)); (try (have VBe : VarAt w4 wr.heap.size [.int .i64 0, .int .i64 0, .slice none 0 0, .int .u64 0, .slice none 0 0, .slice none 0 0] := VarAt.onto hb ((VarAt.made wr #[.int .i64 0, .int .i64 0, .slice none 0 0, .int .u64 0, .slice none 0 0, .slice none 0 0] 51).below (al_below _ (.cells #[.int .i64 0, .bool false, .int .i64 0, .int .u64 0, .slice none 0 0] 37))) rfl; obtain ⟨_, ⟨ve0, ve1, ve2, ve3, ve4, ve5⟩, we0, we1, we2, we3, we4, we5⟩ := VBe.six)); (try (have VBf : VarAt w4 wr.heap.size [.int .i64 0, .bool false, .int .i64 0, .int .u64 0, .slice none 0 0] := VarAt.onto hb ((VarAt.made wr #[.int .i64 0, .bool false, .int .i64 0, .int .u64 0, .slice none 0 0] 37).below (al_below _ (.cells #[.int .i64 0, .int .i64 0, .slice none 0 0, .int .u64 0, .slice none 0 0, .slice none 0 0] 51))) rfl; obtain ⟨_, ⟨vf0, vf1, vf2, vf3, vf4⟩, wf0, wf1, wf2, wf3, wf4⟩ := VBf.five)); clear ha hs0 hs1 hb hP))
              all_goals
                go_wp2_with fail
                go_meet
                obtain ⟨N2, hN2, hN3, hN4, o0, o1, o2⟩ := HQ.out
                have hgz := HGlt.out
                simp at hN2
                obtain ⟨_, ⟨c0, c1, c2, c3, c4, c5⟩, q0, q1, q2, q3, q4, q5⟩ := (W1.out.later hBw4).1.six
                exact AlCut.of (N2 := N2) (w4 := w4) (ka := ka4) (ra := ra4) (sa := sa4) (by repeat (first | with_reducible exact Keep.refl _ _ | with_reducible refine Keep.drew ?_ | with_reducible refine Keep.alloc ?_ _ | (with_reducible refine Keep.set ?_ _ _ _ (by unfold Qc; omega)))) (by omega) (by omega) (VarAt.of6 (by first | (simp; done) | (simp; omega) | omega) (by go_simp) (by go_simp) (by go_simp) (by go_simp) (by go_simp) (by go_simp) (by go_simp) (by go_simp) (by go_simp) (by go_simp) (by go_simp) (by go_simp)) (VarAt.mk5 (by first | (simp; done) | (simp; omega) | omega) (by go_simp) (by go_simp) (by go_simp) (by go_simp) (by go_simp) (by go_simp) (by go_simp) (by go_simp) (by go_simp) (by go_simp)) (VarAt.of6 (by first | (simp; done) | (simp; omega) | omega) (by go_simp) (by go_simp) (by go_simp) (by go_simp) (by go_simp) (by go_simp) (by go_simp) (by go_simp) (by go_simp) (by go_simp) (by go_simp) (by go_simp)) HA4.out HS4.out HT4.out o0 o1 o2 (by repeat (first | with_reducible assumption | with_reducible refine Below.drew ?_ | with_reducible refine below_al ?_ | (with_reducible refine below_set1 (by omega) _ ?_)))
            case rest =>
              obtain ⟨b1, b2, rfl, rfl, rfl, n1, n2, ⟨A3, ka3, R3, ra3, S3, sa3, hw3, o0, o1, o2⟩, hv2, hvg, hby⟩ := hcut
              clear HAL rC0 rC1 rC2 rC3 rC4 rC5 HB0 HQN rL
              have hlt0 := HGlt.out
              have m1 : ¬ (b1 = b0) := by omega
              have m2 : ¬ (b0 = b1) := by omega
              have m3 : ¬ (b2 = b0) := by omega
              have m4 : ¬ (b0 = b2) := by omega
              have W3 := Lib.hid hw3
              have OF3 := Lib.hid (And.intro o0 (And.intro o1 o2))
              have HV2 := Lib.hid hv2
              have HVG := Lib.hid hvg
              have BBn := Lib.hid (BB.out.trans (hby.mono BB.out.size)); clear BB; have BB := BBn; clear BBn
              obtain ⟨_, ⟨e0, e1, e2, e3, e4, e5⟩, _⟩ := hw3.1.six
              obtain ⟨zx, ⟨y0, y1, y2, y3, y4, y5⟩, f0, f1, f2, f3, f4, f5⟩ := hvg.six
              obtain ⟨_, ⟨p1, p2, p3, p4, p5⟩, _⟩ := hv2.five
              have hg0 := HG0.out
              clear hw3 hv2 hvg hby n1 n2 o0 o1 o2 W1 O1 HGlt
              go_upto_region 25 with fail
              have hbb := BB.out
              refine gen_w (P := fun W => Code.wp _ _ _ _ W) (fun z => WdFrom (fun b => b ≠ b0) (fun _ => False) z b0 3 2 n r 3 G5 (zerosS 3) (zerosS 3) ∧ VarAt z b2 [.int .i64 0, .bool false, .int .i64 0, .int .u64 0, .slice none 0 0] ∧ Below w.heap.size w z) ⟨⟨A3, ka3, R3, ra3, S3, sa3, ⟨VarAt.of6 (by simp; omega) (by go_simp) (by go_simp) (by go_simp) (by go_simp) (by go_simp) (by go_simp) (by go_simp) (by go_simp) (by go_simp) (by go_simp) (by go_simp) (by go_simp), W3.out.2.1.keep (Q := fun b => b ≠ b0) (by repeat (first | with_reducible exact Keep.refl _ _ | with_reducible refine Keep.drew ?_ | with_reducible refine Keep.alloc ?_ _ | (with_reducible refine Keep.set ?_ _ _ _ (by omega)))) OF3.out.1, W3.out.2.2.1.keep (Q := fun b => b ≠ b0) (by repeat (first | with_reducible exact Keep.refl _ _ | with_reducible refine Keep.drew ?_ | with_reducible refine Keep.alloc ?_ _ | (with_reducible refine Keep.set ?_ _ _ _ (by omega)))) OF3.out.2.1, W3.out.2.2.2.keep (Q := fun b => b ≠ b0) (by repeat (first | with_reducible exact Keep.refl _ _ | with_reducible refine Keep.drew ?_ | with_reducible refine Keep.alloc ?_ _ | (with_reducible refine Keep.set ?_ _ _ _ (by omega)))) OF3.out.2.2⟩, OF3.out.1, OF3.out.2.1.keep W3.out.2.2.1 (Q := fun b => b ≠ b0) (by repeat (first | with_reducible exact Keep.refl _ _ | with_reducible refine Keep.drew ?_ | with_reducible refine Keep.alloc ?_ _ | (with_reducible refine Keep.set ?_ _ _ _ (by omega)))) OF3.out.2.1, OF3.out.2.2.keep W3.out.2.2.2 (Q := fun b => b ≠ b0) (by repeat (first | with_reducible exact Keep.refl _ _ | with_reducible refine Keep.drew ?_ | with_reducible refine Keep.alloc ?_ _ | (with_reducible refine Keep.set ?_ _ _ _ (by omega)))) OF3.out.2.2, fun P h => h.elim⟩, (by repeat (first | with_reducible exact HV2.out | (with_reducible refine VarAt.apart ?_ _ _ (by omega)))), (by repeat (first | with_reducible assumption | with_reducible refine Below.drew ?_ | with_reducible refine below_al ?_ | (with_reducible refine below_set1 (by omega) _ ?_)))⟩ ?_
              rintro z ⟨hz, hz2, hbz⟩
              clear W3 OF3 HV2 HVG e0 e1 e2 e3 e4 e5 y0 y1 y2 y3 y4 y5 f0 f1 f2 f3 f4 f5 zx p1 p2 p3 p4 p5 hbb hg0 BB HWD
              have HWD := Lib.hid hz
              have BB := Lib.hid hbz
              obtain ⟨_, ⟨p1, p2, p3, p4, p5⟩, _⟩ := hz2.five
              have h3 : G5 3 = e + 1 := by obtain ⟨_, _, _, _, _, _, h⟩ := HNX.out; exact h
              clear hz hz2 hbz
              obtain ⟨A1, ka1, R1, ra1, S1, sa1, hW, _, _, _, _⟩ := HWD.out
              obtain ⟨c0, c1, c2, c3, c4, c5⟩ := hW.cells
              obtain ⟨ba, bo, rfl, hw⟩ := hW.2.1.word (by omega)
              have hw3 := hw 3 n3
              rw [h3] at hw3
              have he5 := HE5.out
              have q2 : (((e + 1 : Nat)) : Int) = (e : Int) + 1 := by omega
              rw [q2] at hw3
              clear hw hW h3
              go_wp2_with fail
              go_roundw
              case rel => exact ⟨i + 1, 1, G5, by omega, by go_num, by go_num, by omega, HNX.out, HWD.out, BB.out⟩
              case measure => simp [intOf]; omega
        case neg =>
          obtain rfl : ln = i := by omega
          have d1 : decide ((ln : Int) < (ln : Int)) = false := by rw [decide_eq_false_iff_not]; omega
          have d1' : decide (ln < ln) = false := by rw [decide_eq_false_iff_not]; omega
          obtain ⟨G7, hops, G8, hops2⟩ := HEND on G HST.out (by have := HON.out; omega)
          have qm : min (ln : Int) 1 = (on : Int) := by have := HON.out; omega
          have qm' : min ln 1 = on := by have := HON.out; omega
          have HAL : ∀ (A : Option Addr) (ka : Nat) (R : Option Addr) (ra : Nat) (S : Option Addr) (sa : Nat) (w : World), Hid (AtW w A n G) → Hid (StmsAt w R 3 (zerosS 3)) → Hid (StmsAt w S 3 (zerosS 3)) →
              Calls Try.prog 16 #[.agg #[.int .i64 3, .int .i64 2, .slice A n ka, .int .u64 (r : Int), .slice R 3 ra, .slice S 3 sa], .int .i64 0, .agg #[.int .i64 4, .int .i64 0, .int .i64 0, .int .u64 0], .int .i64 9] w (AloneEndE w 3 2 A n r R S 3 G7 (zerosS 3) (zerosS 3) 0 false 0) := HOPS 0 4 0 0 0 false 0 G G7 9 9 (by decide) hops (Nat.le_refl _) (by decide) (by decide) rfl rfl rfl
          obtain ⟨A1, ka1, R1, ra1, S1, sa1, hW, o0, o1, o2, _⟩ := HWD.out
          have W1 := Lib.hid hW
          have O1 := Lib.hid (And.intro o0 (And.intro o1 o2))
          obtain ⟨c0, c1, c2, c3, c4, c5⟩ := hW.cells
          have HGlt := Lib.hid hW.1.1
          clear hW o0 o1 o2
          have WV := Lib.hid W1.out.1
          go_wp2_with fail
          (with_reducible refine (HAL A1 ka1 R1 ra1 S1 sa1 _ W1.out.gA W1.out.g0 W1.out.g1).mono ?_)
          clear HAL c0 c1 c2 c3 c4 c5
          rintro e w3 ⟨A3, ka3, R3, ra3, S3, sa3, rfl, ha, hs0, hs1, hb, hP⟩
          go_upto_region 30 with fail
          have hbx : Below w3.heap.size w3 ((w3.alloc (.cells #[.int .i64 3, .int .i64 2, .slice A3 n ka3, .int .u64 (r : Int), .slice R3 3 ra3, .slice S3 3 sa3] 51)).alloc (.cells #[.int .i64 0, .bool false, .int .i64 0, .int .u64 0, .slice none 0 0] 37)) := below_pair _ _ _
          have W3 := Lib.hid (WdAt.made (t := 3) (c := 2) (k := ka3) (r := r) (ra := ra3) (sa := sa3) w3 (.cells #[.int .i64 0, .bool false, .int .i64 0, .int .u64 0, .slice none 0 0] 37) 51 ha hs0 hs1)
          have O3 := Lib.hid (VarAt.made1 w3 (.cells #[.int .i64 3, .int .i64 2, .slice A3 n ka3, .int .u64 (r : Int), .slice R3 3 ra3, .slice S3 3 sa3] 51) #[.int .i64 0, .bool false, .int .i64 0, .int .u64 0, .slice none 0 0] 37)
          have hbn := hb.trans (hbx.mono hb.size)
          have HS3 := Lib.hid (And.intro hs0 hs1)
          have HX3 := Lib.hid hbx
          have HB3 := Lib.hid hb
          have HP3 := Lib.hid hP
          generalize (w3.alloc (.cells #[.int .i64 3, .int .i64 2, .slice A3 n ka3, .int .u64 (r : Int), .slice R3 3 ra3, .slice S3 3 sa3] 51)).alloc (.cells #[.int .i64 0, .bool false, .int .i64 0, .int .u64 0, .slice none 0 0] 37) = x3 at hbx hbn W3 O3 HX3 ⊢
          have WVn := Lib.hid (WV.out.below hbn); clear WV; have WV := WVn; clear WVn
          have BBn := Lib.hid (BB.out.trans (hbn.mono BB.out.size)); clear BB; have BB := BBn; clear BBn
          clear ha hs0 hs1 hb hP hbx hbn
          obtain ⟨_, ⟨p1, p2, p3, p4, p5⟩, _⟩ := O3.out.five
          have hgx : b0 < x3.heap.size := WV.out.1
          have nb : ¬ (w3.heap.size = b0) := by have := HB3.out.size; have := HGlt.out; omega
          have nb' : ¬ (b0 = w3.heap.size) := fun e => nb e.symm
          have OF3 : Hid (OffW (fun b => b ≠ b0) A3 n ∧ OffS (fun b => b ≠ b0) x3 R3 3 ∧ OffS (fun b => b ≠ b0) x3 S3 3) := Lib.hid (by
            obtain ⟨q0, q1, q2⟩ := HP3.out (fun b => b ≠ b0) ⟨fun b hb => by have := HGlt.out; omega, O1.out.1, O1.out.2.1, O1.out.2.2⟩
            exact ⟨q0, q1.later HS3.out.1 HX3.out, q2.later HS3.out.2 HX3.out⟩)
          obtain ⟨_, ⟨e0, e1, e2, e3, e4, e5⟩, _⟩ := W3.out.1.six
          obtain ⟨zx, ⟨y0, y1, y2, y3, y4, y5⟩, f0, f1, f2, f3, f4, f5⟩ := WV.out.six
          have HAL2 : ∀ (A : Option Addr) (ka : Nat) (R : Option Addr) (ra : Nat) (S : Option Addr) (sa : Nat) (w : World), Hid (AtW w A n G7) → Hid (StmsAt w R 3 (zerosS 3)) → Hid (StmsAt w S 3 (zerosS 3)) →
              Calls Try.prog 16 #[.agg #[.int .i64 3, .int .i64 2, .slice A n ka, .int .u64 (r : Int), .slice R 3 ra, .slice S 3 sa], .int .i64 1, .agg #[.int .i64 19, .int .i64 0, .int .i64 0, .int .u64 0], .int .i64 99] w (AloneEndE w 3 2 A n r R S 3 G8 (zerosS 3) (zerosS 3) 0 true 0) := HOPS 1 19 0 1 0 true 0 G7 G8 99 99 (by decide) hops2 (Nat.le_refl _) (by decide) (by decide) rfl rfl rfl
          clear hops hops2 y0 y1 y2 y3 y4 y5 f0 f1 f2 f3 f4 f5 p1 p2 p3 p4 p5 zx
          go_wp2_with fail
          (with_reducible refine (HAL2 A3 ka3 R3 ra3 S3 sa3 _ W3.out.gA W3.out.g0 W3.out.g1).mono ?_)
          clear HAL2 e0 e1 e2 e3 e4 e5
          rintro e w4 ⟨A4, ka4, R4, ra4, S4, sa4, rfl, ha, hs0, hs1, hb, hP⟩
          go_upto_region 31 with fail
          have hbx : Below w4.heap.size w4 ((w4.alloc (.cells #[.int .i64 3, .int .i64 2, .slice A4 n ka4, .int .u64 (r : Int), .slice R4 3 ra4, .slice S4 3 sa4] 51)).alloc (.cells #[.int .i64 0, .bool true, .int .i64 0, .int .u64 0, .slice none 0 0] 37)) := below_pair _ _ _
          have W4 := Lib.hid (WdAt.made (t := 3) (c := 2) (k := ka4) (r := r) (ra := ra4) (sa := sa4) w4 (.cells #[.int .i64 0, .bool true, .int .i64 0, .int .u64 0, .slice none 0 0] 37) 51 ha hs0 hs1)
          have O4 := Lib.hid (VarAt.made1 w4 (.cells #[.int .i64 3, .int .i64 2, .slice A4 n ka4, .int .u64 (r : Int), .slice R4 3 ra4, .slice S4 3 sa4] 51) #[.int .i64 0, .bool true, .int .i64 0, .int .u64 0, .slice none 0 0] 37)
          have hbn := hb.trans (hbx.mono hb.size)
          have HS4 := Lib.hid (And.intro hs0 hs1)
          have HX4 := Lib.hid hbx
          have HB4 := Lib.hid hb
          have HP4 := Lib.hid hP
          generalize (w4.alloc (.cells #[.int .i64 3, .int .i64 2, .slice A4 n ka4, .int .u64 (r : Int), .slice R4 3 ra4, .slice S4 3 sa4] 51)).alloc (.cells #[.int .i64 0, .bool true, .int .i64 0, .int .u64 0, .slice none 0 0] 37) = x4 at hbx hbn W4 O4 HX4 ⊢
          have BBn := Lib.hid (BB.out.trans (hbn.mono BB.out.size)); clear BB; have BB := BBn; clear BBn
          clear ha hs0 hs1 hb hP hbx hbn
          obtain ⟨_, ⟨p1, p2, p3, p4, p5⟩, _⟩ := O4.out.five
          have hon := HON.out
          clear HON
          by_cases hl0 : ln = 0
          · have qm : min (ln : Int) 1 = 0 := by omega
            have qm' : min ln 1 = 0 := by omega
            obtain rfl : on = 0 := by omega
            subst hl0
            clear hon qm qm'
            go_wp2_with fail
            go_ret
            exact ⟨rfl, BB.out⟩
          · obtain rfl : on = 1 := by omega
            clear qm qm' hon
            by_cases hl1 : ln = 1
            · subst hl1
              go_wp2_with fail
              go_ret
              exact ⟨rfl, BB.out⟩
            · have g0 : 1 < ln := by omega
              have g1 : (1 : Int) < (ln : Int) := by omega
              have g2 : ¬ ((ln : Int) < 1) := by omega
              have g4 : ¬ (ln < 1) := by omega
              have g3 : ¬ ((ln : Int) ≤ 1) := by omega
              go_wp2_with fail
              all_goals
                go_ret
                exact ⟨rfl, BB.out⟩
section
set_option maxRecDepth 100000
set_option maxHeartbeats 2000000
variable {H : Type} {enc : TypeId × Value → H} {w : World}
theorem open_a {v : Value} {d : DataW H} {ps : List MemPlace} {base : Nat} (hval : Value.okWide Try.prog w .any base 5 v) (h : DataW.Trod enc Try.prog w 0 (fun _ => true) true 5 v d ps) (hs : Sized Try.prog 5 d) (hlt : ∀ z ∈ ps, z.block < w.heap.size) :
    ∃ (a : Nat), v = .int .u8 (a : Int) ∧ a < 256 := by
  obtain ⟨a0, rfl⟩ := okWide_int Try.underlying5 hval
  obtain ⟨fuel, hf0⟩ := h
  have hf : DataW.trod enc Try.prog w 0 (fun _ => true) true fuel 5 [.int .u8 a0] = some (d, ps) := hf0
  obtain ⟨a, e0, ha⟩ := leaf_u8 Try.underlying5 hf
  cases e0
  exact ⟨_, rfl, ha⟩
theorem open_b {v : Value} {d : DataW H} {ps : List MemPlace} {base : Nat} (hval : Value.okWide Try.prog w .any base 30 v) (h : DataW.Trod enc Try.prog w 0 (fun _ => true) true 30 v d ps) (hs : Sized Try.prog 30 d) (hlt : ∀ z ∈ ps, z.block < w.heap.size) :
    ∃ (bA : Option Addr) (bL bC : Nat) (bx : List Nat), v = .slice bA bL bC ∧ (bL ≤ bC ∧ bL ≤ 140737488355328 ∧ AtB w bA bL bx) := by
  obtain ⟨a0, len, cap, rfl⟩ := okWide_slice Try.underlying30 hval
  obtain ⟨fuel, hf0⟩ := h
  have hf : DataW.trod enc Try.prog w 0 (fun _ => true) true fuel 30 [.slice a0 len cap] = some (d, ps) := hf0
  obtain ⟨bA, bL, bC, bx, e0, hb⟩ := leaf_bytes hf hs hlt
  cases e0
  exact ⟨_, _, _, _, rfl, hb⟩
end

set_option maxRecDepth 100000 in
set_option maxHeartbeats 8000000 in
theorem lifted (os : Os) (started : os.Started) (H : Type) (enc : TypeId × Value → H) :
    ReturnsInHanded {} Try.checked os 6 .any (Rows.epochHeldSpec.pre6 enc Try.prog Try.f6 Rows.epochHeldRow.domain false) (Rows.epochHeldSpec.post enc Try.prog Try.f6 false true false false) := by
  refine law_lifted (C := Try.checked) own started (by kernel_rfl) Try.func6
    (ChangeSpec.witness6 (enc := enc) (C := Try.checked) false ⟨#[], #[.int .u8 0, .slice none 0 0], []⟩ 8 (by kernel_rfl) (by kernel_rfl) (by kernel_rfl) (by kernel_rfl))
    (by kernel_rfl) (by kernel_rfl) Try.underlying4 rfl (by kernel_rfl) ?_
  intro W base args ds before hval hA hwt hlt
  have hA' : DataW.TrodAll enc Try.prog W 0 (fun _ => true) true Try.f6.params.toList args.toList ds before := hA
  have hval' : ∀ (j : Nat) t v, Try.f6.params[j]? = some t → args[j]? = some v → Value.okWide Try.prog W .any base t v := hval
  have hwt' : (DataW.weightsEach Try.prog Try.f6.params.toList ds).all (· ≤ reachBytes) = true := hwt
  rw [Try.params6] at hA' hval' hwt'
  obtain ⟨v0, vs0, d0, ds0, p0, q0, hargs, rfl, rfl, k0, r0⟩ := trodAll_cons hA'
  obtain ⟨v1, vs1, d1, ds1, p1, q1, rfl, rfl, rfl, k1, r1⟩ := trodAll_cons r0
  obtain ⟨rfl, rfl, rfl⟩ := trodAll_nil r1
  obtain rfl : args = #[v0, v1] := by cases args; simp_all
  obtain ⟨a, rfl, ha⟩ := open_a (hval' 0 5 v0 rfl rfl) k0 (sized_of hwt' (j := 0) (t := 5) rfl rfl) (fun x hx => hlt x (by simp [hx]))
  obtain ⟨bA, bL, bC, bx, rfl, hb⟩ := open_b (hval' 1 30 v1 rfl rfl) k1 (sized_of hwt' (j := 1) (t := 30) rfl rfl) (fun x hx => hlt x (by simp [hx]))
  refine ⟨rfl, ?_⟩
  obtain ⟨hbc, hb9, hbat⟩ := hb
  by_cases hln : bL ≤ 30
  · exact walk a ha bA bL bC bx hln W (Lib.hid hbat)
  · exact walkA a ha bA bL bC bx (by omega) W (Lib.hid hbat)

theorem over : Rows.epochHeldRow.holds Try.pinned (OpenSpec.ofChange Rows.epochHeldSpec) :=
  OpenClaim.holds_of_wide 6 Try.f6 rfl rfl rfl rfl rfl rfl rfl ⟨rfl, rfl, rfl, rfl, rfl⟩ rfl rfl rfl rfl rfl (by kernel_rfl) Try.func6 (by kernel_rfl)
    (of_decide_eq_true (by kernel_rfl)) (by unfold Func.isWrapper; first | (rw [if_pos (by decide +kernel)]; kernel_rfl) | (rw [if_neg (by decide +kernel)]; exact ⟨rfl, rfl⟩))
    (fun os started H enc _ => lifted os started H enc)

/-- The statement. -/
theorem proved : Rows.EpochHeldSaid :=
  over
#print axioms proved
end Go.Proofs.Ythcifknnppohfaa.epochHeld
