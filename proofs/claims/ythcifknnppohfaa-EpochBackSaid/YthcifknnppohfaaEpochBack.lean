/-
  EpochBack: alone, and nobody pinned, three advances give back all that was retired: it is free then, each record once; for 8 records. No condition beyond the statement's own.
-/
import Derived.Test.YthcifknnppohfaaEpcLaw
import Derived.Test.YthcifknnppohfaaAccLeaf
import Derived.Test.YthcifknnppohfaaLaw
import Derived.Test.YthcifknnppohfaaFields
import Derived.Deep.Cut
import Derived.Deep.CutRange
namespace Go.Proofs.Ythcifknnppohfaa.epochBack
open Go.ChangeShapes Go.WideShapes Go.ChangeAt Go.RowKit Go.Deep Go.BigFrame
set_option linter.unusedVariables false
theorem own : ownKnob Try.prog.godebug = none := by kernel_rfl

set_option maxRecDepth 100000 in
set_option maxHeartbeats 16000000 in
theorem walkA (c0 : Nat) (hc0 : c0 < 256) (LA : Option Addr) (ln lc : Nat) (xs : List Nat) (hln : ln < c0 % 9) (w : World) (HL : Hid (AtB w LA ln xs)) :
    Calls Try.prog 7 #[.int .u8 (c0 : Int), .slice LA ln lc] w fun e w' => e = .returned (.bool true) ∧ Below w.heap.size w w' := by
  obtain ⟨r, hr⟩ : ∃ r : Nat, r = 0 := ⟨0, rfl⟩
  obtain ⟨c, hc⟩ : ∃ c, c0 % 9 = c := ⟨_, rfl⟩
  have hc1 : c ≤ 8 := by omega
  have q1 : (c0 : Int) % 9 = (c : Int) := by omega
  have dl0 : decide ((ln : Int) < (c : Int)) = true := by rw [decide_eq_true_iff]; omega
  have dl0' : decide (ln < c) = true := by rw [decide_eq_true_iff]; omega
  have HNEW : ∀ w, Calls Try.prog 15 #[.int .i64 2, .int .i64 (c : Int)] w (NewWdR w 2 c 2 (sizeN 2 c) (newF 2 c) r) := fun w => newWdR 2 c (by decide) (by decide) (by omega) hr w
  have HB0 : Hid (B1 c 0 (newF 2 c)) := Lib.hid (B1.start (by omega))
  have HFREE : ∀ (A : Option Addr) (ka : Nat) (G : Nat → Nat) (l : List Nat), FreeIs 2 G l → (∀ a ∈ l, a ≤ c) → l.length ≤ c → ∀ w, Hid (AtW w A (sizeN 2 c) G) → Calls Try.prog 19 #[.agg #[.int .i64 2, .int .i64 (c : Int), .slice A (sizeN 2 c) ka]] w (FreePost w l) := fun A ka G l hF hl hll w hA => free_at 2 c (by decide) (by omega) A (sizeN 2 c) ka rfl G l hF hl hll w hA
  have HOPS := fun (me : Nat) (k u : Int) (d : Nat) (er : Int) (oi : Bool) (NI : Int) (G GF : Nat → Nat) (s most : Nat) (hme : me < 2) (h : Ops 2 me k u (sizeN 2 c) G d GF s) (hs : s ≤ most) (hmo : most ≤ 1000) (hu : k = 5 → 1 ≤ u ∧ u < 1048576) (he : eErr k = er) (ho : eIs k d = oi) (hN : (eN k d : Int) = NI) => opsAlone (by decide) (by decide) (by omega) hme h hs hmo hu he ho hN r
  have HCK := Lib.hid hc1
  have BW : Hid (w.heap.size ≤ w.heap.size) := Lib.hid (Nat.le_refl _)
  have HST1 := fun i G (h : B1 c i G) (hi : i < c) => h.step hi
  have HST2 := fun i G (h : B2 c i G) (hi : i < c) => h.retire hi (by omega)
  have HST2a := fun i G (h : B2 c (i + 1) G) (hi : G 3 ≤ i) (hic : i < c) => h.adv hi (by omega) hic
  have HST3 := fun i G (h : B3 c i G) (hi : i < 3) => h.step (by omega) hi
  generalize newF 2 c = G0 at *
  generalize hn : sizeN 2 c = n at *
  clear hr hc hn
  go_enter Try.func7, Try.ntmps7
  go_wp2_with fail
  (with_reducible refine (epcShown _).mono ?_)
  rintro e w1 ⟨rfl, hb⟩
  have BB := Lib.hid hb
  clear hb
  have BWn : Hid (w.heap.size ≤ w1.heap.size) := Lib.hid BB.out.size
  clear BW; have BW := BWn; clear BWn
  go_wp2_with fail
  try rw [q1]
  (with_reducible refine (HNEW _).mono ?_)
  clear HNEW q1
  rintro e w0 ⟨A0, ka0, R0, ra0, S0, sa0, rfl, ha, hs0, hs1, hb, hP⟩
  go_upto_region 4 with fail
  have hal := al_below w0 (.cells #[.int .i64 2, .int .i64 (c : Int), .slice A0 n ka0, .int .u64 (r : Int), .slice R0 2 ra0, .slice S0 2 sa0] 51)
  have hbn := hb.trans (hal.mono hb.size)
  have W0 : Hid (WdFrom (fun b => b ≠ w0.heap.size) (fun _ => False) (w0.alloc (.cells #[.int .i64 2, .int .i64 (c : Int), .slice A0 n ka0, .int .u64 (r : Int), .slice R0 2 ra0, .slice S0 2 sa0] 51)) w0.heap.size 2 (c : Int) n r 2 G0 (zerosS 2) (zerosS 2)) := Lib.hid ⟨A0, ka0, R0, ra0, S0, sa0, WdAt.made0 (t := 2) (c := (c : Int)) (k := ka0) (r := r) (ra := ra0) (sa := sa0) w0 51 ha hs0 hs1, ha.old.mono fun b hb => (by omega), (hs0.old.mono fun b hb => (by omega : b ≠ w0.heap.size)).later hs0 hal, (hs1.old.mono fun b hb => (by omega : b ≠ w0.heap.size)).later hs1 hal, fun P h => h.elim⟩
  generalize w0.alloc (.cells #[.int .i64 2, .int .i64 (c : Int), .slice A0 n ka0, .int .u64 (r : Int), .slice R0 2 ra0, .slice S0 2 sa0] 51) = x0 at hal hbn W0 ⊢
  have BBn := Lib.hid (BB.out.trans (hbn.mono BB.out.size)); clear BB; have BB := BBn; clear BBn
  have HG0 : Hid (w.heap.size ≤ w0.heap.size) := Lib.hid (Nat.le_trans BW.out hb.size)
  generalize w0.heap.size = b0 at W0 HG0 ⊢
  clear ha hs0 hs1 hb hP hal hbn
  go_wp2_with fail
  go_ret
  exact ⟨rfl, BB.out⟩

set_option maxRecDepth 100000 in
set_option maxHeartbeats 16000000 in
theorem walk (c0 : Nat) (hc0 : c0 < 256) (LA : Option Addr) (ln lc : Nat) (xs : List Nat) (hln : c0 % 9 ≤ ln) (w : World) (HL : Hid (AtB w LA ln xs)) :
    Calls Try.prog 7 #[.int .u8 (c0 : Int), .slice LA ln lc] w fun e w' => e = .returned (.bool true) ∧ Below w.heap.size w w' := by
  obtain ⟨r, hr⟩ : ∃ r : Nat, r = 0 := ⟨0, rfl⟩
  obtain ⟨c, hc⟩ : ∃ c, c0 % 9 = c := ⟨_, rfl⟩
  have hc1 : c ≤ 8 := by omega
  have q1 : (c0 : Int) % 9 = (c : Int) := by omega
  have dl0 : decide ((ln : Int) < (c : Int)) = false := by rw [decide_eq_false_iff_not]; omega
  have dl0' : decide (ln < c) = false := by rw [decide_eq_false_iff_not]; omega
  have HNEW : ∀ w, Calls Try.prog 15 #[.int .i64 2, .int .i64 (c : Int)] w (NewWdR w 2 c 2 (sizeN 2 c) (newF 2 c) r) := fun w => newWdR 2 c (by decide) (by decide) (by omega) hr w
  have HB0 : Hid (B1 c 0 (newF 2 c)) := Lib.hid (B1.start (by omega))
  have HFREE : ∀ (A : Option Addr) (ka : Nat) (G : Nat → Nat) (l : List Nat), FreeIs 2 G l → (∀ a ∈ l, a ≤ c) → l.length ≤ c → ∀ w, Hid (AtW w A (sizeN 2 c) G) → Calls Try.prog 19 #[.agg #[.int .i64 2, .int .i64 (c : Int), .slice A (sizeN 2 c) ka]] w (FreePost w l) := fun A ka G l hF hl hll w hA => free_at 2 c (by decide) (by omega) A (sizeN 2 c) ka rfl G l hF hl hll w hA
  have HOPS := fun (me : Nat) (k u : Int) (d : Nat) (er : Int) (oi : Bool) (NI : Int) (G GF : Nat → Nat) (s most : Nat) (hme : me < 2) (h : Ops 2 me k u (sizeN 2 c) G d GF s) (hs : s ≤ most) (hmo : most ≤ 1000) (hu : k = 5 → 1 ≤ u ∧ u < 1048576) (he : eErr k = er) (ho : eIs k d = oi) (hN : (eN k d : Int) = NI) => opsAlone (by decide) (by decide) (by omega) hme h hs hmo hu he ho hN r
  have HCK := Lib.hid hc1
  have BW : Hid (w.heap.size ≤ w.heap.size) := Lib.hid (Nat.le_refl _)
  have HST1 := fun i G (h : B1 c i G) (hi : i < c) => h.step hi
  have HST2 := fun i G (h : B2 c i G) (hi : i < c) => h.retire hi (by omega)
  have HST2a := fun i G (h : B2 c (i + 1) G) (hi : G 3 ≤ i) (hic : i < c) => h.adv hi (by omega) hic
  have HST3 := fun i G (h : B3 c i G) (hi : i < 3) => h.step (by omega) hi
  generalize newF 2 c = G0 at *
  generalize hn : sizeN 2 c = n at *
  have HLN : Hid (c ≤ ln) := Lib.hid (by omega)
  clear hr hc hn hln
  go_enter Try.func7, Try.ntmps7
  go_wp2_with fail
  (with_reducible refine (epcShown _).mono ?_)
  rintro e w1 ⟨rfl, hb⟩
  have BB := Lib.hid hb
  clear hb
  have BWn : Hid (w.heap.size ≤ w1.heap.size) := Lib.hid BB.out.size
  clear BW; have BW := BWn; clear BWn
  go_wp2_with fail
  try rw [q1]
  (with_reducible refine (HNEW _).mono ?_)
  clear HNEW q1
  rintro e w0 ⟨A0, ka0, R0, ra0, S0, sa0, rfl, ha, hs0, hs1, hb, hP⟩
  go_upto_region 4 with fail
  have hal := al_below w0 (.cells #[.int .i64 2, .int .i64 (c : Int), .slice A0 n ka0, .int .u64 (r : Int), .slice R0 2 ra0, .slice S0 2 sa0] 51)
  have hbn := hb.trans (hal.mono hb.size)
  have W0 : Hid (WdFrom (fun b => b ≠ w0.heap.size) (fun _ => False) (w0.alloc (.cells #[.int .i64 2, .int .i64 (c : Int), .slice A0 n ka0, .int .u64 (r : Int), .slice R0 2 ra0, .slice S0 2 sa0] 51)) w0.heap.size 2 (c : Int) n r 2 G0 (zerosS 2) (zerosS 2)) := Lib.hid ⟨A0, ka0, R0, ra0, S0, sa0, WdAt.made0 (t := 2) (c := (c : Int)) (k := ka0) (r := r) (ra := ra0) (sa := sa0) w0 51 ha hs0 hs1, ha.old.mono fun b hb => (by omega), (hs0.old.mono fun b hb => (by omega : b ≠ w0.heap.size)).later hs0 hal, (hs1.old.mono fun b hb => (by omega : b ≠ w0.heap.size)).later hs1 hal, fun P h => h.elim⟩
  generalize w0.alloc (.cells #[.int .i64 2, .int .i64 (c : Int), .slice A0 n ka0, .int .u64 (r : Int), .slice R0 2 ra0, .slice S0 2 sa0] 51) = x0 at hal hbn W0 ⊢
  have BBn := Lib.hid (BB.out.trans (hbn.mono BB.out.size)); clear BB; have BB := BBn; clear BBn
  have HG0 : Hid (w.heap.size ≤ w0.heap.size) := Lib.hid (Nat.le_trans BW.out hb.size)
  generalize w0.heap.size = b0 at W0 HG0 ⊢
  clear ha hs0 hs1 hb hP hal hbn
  have HZ : Hid (WdFrom (fun b => b ≠ b0) (fun _ => False) x0 b0 2 (c : Int) n r 2 G0 (zerosS 2) (zerosS 2) ∧ Below w.heap.size w x0) := Lib.hid ⟨W0.out, BB.out⟩
  clear W0 BB
  go_wp2_with fail
  clear dl0 dl0'
  go_loopw [8] (fun u wr => ∃ (i : Nat) (G : Nat → Nat), i ≤ c ∧ u = .int .i64 (i : Int) ∧ B1 c i G ∧ WdFrom (fun b => b ≠ b0) (fun _ => False) wr b0 2 (c : Int) n r 2 G (zerosS 2) (zerosS 2) ∧ Below w.heap.size w wr) (fun u _ => c - (intOf u).toNat)
  case atStart => exact ⟨0, G0, by omega, rfl, HB0.out, HZ.out.1, HZ.out.2⟩
  case round =>
    clear HZ
    obtain ⟨i, G, hik, rfl, hst, hwd, hbl⟩ := hrel
    have HWD := Lib.hid hwd
    have BB := Lib.hid hbl
    have HST := Lib.hid hst
    have hcc := HCK.out
    clear hwd hbl hst
    by_cases hlt : i < c
    case pos =>
      obtain ⟨hops, hnx⟩ := HST1 i G HST.out hlt
      have HNX := Lib.hid hnx
      generalize popG 2 G = G5 at *
      have dn : (((i : Int) + 1) != (i : Int) + 1) = false := by simp
      clear hnx
      have d1 : decide ((i : Int) < (c : Int)) = true := by rw [decide_eq_true_iff]; omega
      have d1' : decide (i < c) = true := by rw [decide_eq_true_iff]; omega
      have HAL : ∀ (A : Option Addr) (ka : Nat) (R : Option Addr) (ra : Nat) (S : Option Addr) (sa : Nat) (w : World), Hid (AtW w A n G) → Hid (StmsAt w R 2 (zerosS 2)) → Hid (StmsAt w S 2 (zerosS 2)) →
          Calls Try.prog 16 #[.agg #[.int .i64 2, .int .i64 (c : Int), .slice A n ka, .int .u64 (r : Int), .slice R 2 ra, .slice S 2 sa], .int .i64 0, .agg #[.int .i64 6, .int .i64 0, .int .i64 0, .int .u64 0], .int .i64 200] w (AloneEndE w 2 (c : Int) A n r R S 2 G5 (zerosS 2) (zerosS 2) 0 false ((i : Int) + 1)) := HOPS 0 6 0 (i + 1) 0 false ((i : Int) + 1) G G5 200 200 (by decide) hops (Nat.le_refl _) (by decide) (by decide) rfl rfl rfl
      obtain ⟨A1, ka1, R1, ra1, S1, sa1, hW, o0, o1, o2, _⟩ := HWD.out
      have W1 := Lib.hid hW
      have O1 := Lib.hid (And.intro o0 (And.intro o1 o2))
      obtain ⟨c0, c1, c2, c3, c4, c5⟩ := hW.cells
      have HGlt := Lib.hid hW.1.1
      clear hW o0 o1 o2
      have WV := Lib.hid W1.out.1
      go_wp2_with fail
      (with_reducible refine (HAL A1 ka1 R1 ra1 S1 sa1 _ W1.out.gA W1.out.g0 W1.out.g1).mono ?_)
      clear HAL c0 c1 c2 c3 c4 c5
      rintro e w3 ⟨A3, ka3, R3, ra3, S3, sa3, rfl, ha, hs0, hs1, hb, hP⟩
      go_upto_region 10 with fail
      have hbx : Below w3.heap.size w3 ((w3.alloc (.cells #[.int .i64 2, .int .i64 (c : Int), .slice A3 n ka3, .int .u64 (r : Int), .slice R3 2 ra3, .slice S3 2 sa3] 51)).alloc (.cells #[.int .i64 0, .bool false, .int .i64 ((i : Int) + 1), .int .u64 0, .slice none 0 0] 37)) := below_pair _ _ _
      have W3 := Lib.hid (WdAt.made (t := 2) (c := (c : Int)) (k := ka3) (r := r) (ra := ra3) (sa := sa3) w3 (.cells #[.int .i64 0, .bool false, .int .i64 ((i : Int) + 1), .int .u64 0, .slice none 0 0] 37) 51 ha hs0 hs1)
      have O3 := Lib.hid (VarAt.made1 w3 (.cells #[.int .i64 2, .int .i64 (c : Int), .slice A3 n ka3, .int .u64 (r : Int), .slice R3 2 ra3, .slice S3 2 sa3] 51) #[.int .i64 0, .bool false, .int .i64 ((i : Int) + 1), .int .u64 0, .slice none 0 0] 37)
      have hbn := hb.trans (hbx.mono hb.size)
      have HS3 := Lib.hid (And.intro hs0 hs1)
      have HX3 := Lib.hid hbx
      have HB3 := Lib.hid hb
      have HP3 := Lib.hid hP
      generalize (w3.alloc (.cells #[.int .i64 2, .int .i64 (c : Int), .slice A3 n ka3, .int .u64 (r : Int), .slice R3 2 ra3, .slice S3 2 sa3] 51)).alloc (.cells #[.int .i64 0, .bool false, .int .i64 ((i : Int) + 1), .int .u64 0, .slice none 0 0] 37) = x3 at hbx hbn W3 O3 HX3 ⊢
      have WVn := Lib.hid (WV.out.below hbn); clear WV; have WV := WVn; clear WVn
      have BBn := Lib.hid (BB.out.trans (hbn.mono BB.out.size)); clear BB; have BB := BBn; clear BBn
      clear ha hs0 hs1 hb hP hbx hbn
      obtain ⟨_, ⟨p1, p2, p3, p4, p5⟩, _⟩ := O3.out.five
      have hgx : b0 < x3.heap.size := WV.out.1
      have nb : ¬ (w3.heap.size = b0) := by have := HB3.out.size; have := HGlt.out; omega
      have nb' : ¬ (b0 = w3.heap.size) := fun e => nb e.symm
      have OF3 : Hid (OffW (fun b => b ≠ b0) A3 n ∧ OffS (fun b => b ≠ b0) x3 R3 2 ∧ OffS (fun b => b ≠ b0) x3 S3 2) := Lib.hid (by
        obtain ⟨q0, q1, q2⟩ := HP3.out (fun b => b ≠ b0) ⟨fun b hb => by have := HGlt.out; omega, O1.out.1, O1.out.2.1, O1.out.2.2⟩
        exact ⟨q0, q1.later HS3.out.1 HX3.out, q2.later HS3.out.2 HX3.out⟩)
      obtain ⟨_, ⟨e0, e1, e2, e3, e4, e5⟩, _⟩ := W3.out.1.six
      obtain ⟨zx, ⟨y0, y1, y2, y3, y4, y5⟩, f0, f1, f2, f3, f4, f5⟩ := WV.out.six
      clear hops HST
      go_wp2_with fail
      have hbb := BB.out
      have hg0 := HG0.out
      go_roundw
      case rel => exact ⟨i + 1, G5, by omega, by go_num, HNX.out, ⟨A3, ka3, R3, ra3, S3, sa3, ⟨VarAt.of6 (by simp; omega) (by go_simp) (by go_simp) (by go_simp) (by go_simp) (by go_simp) (by go_simp) (by go_simp) (by go_simp) (by go_simp) (by go_simp) (by go_simp) (by go_simp), W3.out.2.1.keep (Q := fun b => b ≠ b0) (by repeat (first | with_reducible exact Keep.refl _ _ | with_reducible refine Keep.drew ?_ | with_reducible refine Keep.alloc ?_ _ | (with_reducible refine Keep.set ?_ _ _ _ (by omega)))) OF3.out.1, W3.out.2.2.1.keep (Q := fun b => b ≠ b0) (by repeat (first | with_reducible exact Keep.refl _ _ | with_reducible refine Keep.drew ?_ | with_reducible refine Keep.alloc ?_ _ | (with_reducible refine Keep.set ?_ _ _ _ (by omega)))) OF3.out.2.1, W3.out.2.2.2.keep (Q := fun b => b ≠ b0) (by repeat (first | with_reducible exact Keep.refl _ _ | with_reducible refine Keep.drew ?_ | with_reducible refine Keep.alloc ?_ _ | (with_reducible refine Keep.set ?_ _ _ _ (by omega)))) OF3.out.2.2⟩, OF3.out.1, OF3.out.2.1.keep W3.out.2.2.1 (Q := fun b => b ≠ b0) (by repeat (first | with_reducible exact Keep.refl _ _ | with_reducible refine Keep.drew ?_ | with_reducible refine Keep.alloc ?_ _ | (with_reducible refine Keep.set ?_ _ _ _ (by omega)))) OF3.out.2.1, OF3.out.2.2.keep W3.out.2.2.2 (Q := fun b => b ≠ b0) (by repeat (first | with_reducible exact Keep.refl _ _ | with_reducible refine Keep.drew ?_ | with_reducible refine Keep.alloc ?_ _ | (with_reducible refine Keep.set ?_ _ _ _ (by omega)))) OF3.out.2.2, fun P h => h.elim⟩, (by repeat (first | with_reducible assumption | with_reducible refine Below.drew ?_ | with_reducible refine below_al ?_ | (with_reducible refine below_set1 (by omega) _ ?_)))⟩
      case measure => simp [intOf]; omega
    case neg =>
      obtain rfl : c = i := by omega
      have d1 : decide ((c : Int) < (c : Int)) = false := by rw [decide_eq_false_iff_not]; omega
      have d1' : decide (c < c) = false := by rw [decide_eq_false_iff_not]; omega
      have HZ : Hid (WdFrom (fun b => b ≠ b0) (fun _ => False) wr b0 2 (c : Int) n r 2 G (zerosS 2) (zerosS 2) ∧ Below w.heap.size w wr) := Lib.hid ⟨HWD.out, BB.out⟩
      clear HWD BB hcc hik hlt
      go_wp2_with fail
      go_loopw [12] (fun u wr => ∃ (i : Nat) (G : Nat → Nat), i ≤ c ∧ u = .int .i64 (i : Int) ∧ B2 c i G ∧ WdFrom (fun b => b ≠ b0) (fun _ => False) wr b0 2 (c : Int) n r 2 G (zerosS 2) (zerosS 2) ∧ Below w.heap.size w wr) (fun u _ => c - (intOf u).toNat)
      case atStart => exact ⟨0, G, by omega, rfl, HST.out.end_, HZ.out.1, HZ.out.2⟩
      case round =>
        clear HZ
        obtain ⟨i, G, hik, rfl, hst, hwd, hbl⟩ := hrel
        have HWD := Lib.hid hwd
        have BB := Lib.hid hbl
        have HST := Lib.hid hst
        have hcc := HCK.out
        clear hwd hbl hst
        by_cases hlt : i < c
        case pos =>
          obtain ⟨hops, hnx⟩ := HST2 i G HST.out hlt
          have HNX := Lib.hid hnx
          have HE5 : Hid (retG 2 (i + 1) G 3 ≤ i) := Lib.hid (by rw [retG_three]; obtain ⟨_, _, _, _, h⟩ := HST.out; exact h)
          generalize retG 2 (i + 1) G = G5 at *
          have i0 : (0 : Int) ≤ (i : Int) := by omega
          have i1 : (i : Int) < (ln : Int) := by have := HLN.out; omega
          clear hnx
          have d1 : decide ((i : Int) < (c : Int)) = true := by rw [decide_eq_true_iff]; omega
          have d1' : decide (i < c) = true := by rw [decide_eq_true_iff]; omega
          have HAL : ∀ (A : Option Addr) (ka : Nat) (R : Option Addr) (ra : Nat) (S : Option Addr) (sa : Nat) (w : World), Hid (AtW w A n G) → Hid (StmsAt w R 2 (zerosS 2)) → Hid (StmsAt w S 2 (zerosS 2)) →
              Calls Try.prog 16 #[.agg #[.int .i64 2, .int .i64 (c : Int), .slice A n ka, .int .u64 (r : Int), .slice R 2 ra, .slice S 2 sa], .int .i64 1, .agg #[.int .i64 5, .int .i64 ((i : Int) + 1), .int .i64 0, .int .u64 0], .int .i64 9] w (AloneEndE w 2 (c : Int) A n r R S 2 G5 (zerosS 2) (zerosS 2) 0 false 0) := HOPS 1 5 ((i : Int) + 1) 0 0 false 0 G G5 9 9 (by decide) hops (Nat.le_refl _) (by decide) (fun _ => ⟨by omega, by omega⟩) rfl rfl rfl
          obtain ⟨A1, ka1, R1, ra1, S1, sa1, hW, o0, o1, o2, _⟩ := HWD.out
          have W1 := Lib.hid hW
          have O1 := Lib.hid (And.intro o0 (And.intro o1 o2))
          obtain ⟨c0, c1, c2, c3, c4, c5⟩ := hW.cells
          have HGlt := Lib.hid hW.1.1
          clear hW o0 o1 o2
          have WV := Lib.hid W1.out.1
          go_wp2_with fail
          (with_reducible refine (HAL A1 ka1 R1 ra1 S1 sa1 _ W1.out.gA W1.out.g0 W1.out.g1).mono ?_)
          clear HAL c0 c1 c2 c3 c4 c5
          rintro e w3 ⟨A3, ka3, R3, ra3, S3, sa3, rfl, ha, hs0, hs1, hb, hP⟩
          go_upto_region 17 with fail
          have hbx : Below w3.heap.size w3 ((w3.alloc (.cells #[.int .i64 2, .int .i64 (c : Int), .slice A3 n ka3, .int .u64 (r : Int), .slice R3 2 ra3, .slice S3 2 sa3] 51)).alloc (.cells #[.int .i64 0, .bool false, .int .i64 0, .int .u64 0, .slice none 0 0] 37)) := below_pair _ _ _
          have W3 := Lib.hid (WdAt.made (t := 2) (c := (c : Int)) (k := ka3) (r := r) (ra := ra3) (sa := sa3) w3 (.cells #[.int .i64 0, .bool false, .int .i64 0, .int .u64 0, .slice none 0 0] 37) 51 ha hs0 hs1)
          have O3 := Lib.hid (VarAt.made1 w3 (.cells #[.int .i64 2, .int .i64 (c : Int), .slice A3 n ka3, .int .u64 (r : Int), .slice R3 2 ra3, .slice S3 2 sa3] 51) #[.int .i64 0, .bool false, .int .i64 0, .int .u64 0, .slice none 0 0] 37)
          have hbn := hb.trans (hbx.mono hb.size)
          have HS3 := Lib.hid (And.intro hs0 hs1)
          have HX3 := Lib.hid hbx
          have HB3 := Lib.hid hb
          have HP3 := Lib.hid hP
          generalize (w3.alloc (.cells #[.int .i64 2, .int .i64 (c : Int), .slice A3 n ka3, .int .u64 (r : Int), .slice R3 2 ra3, .slice S3 2 sa3] 51)).alloc (.cells #[.int .i64 0, .bool false, .int .i64 0, .int .u64 0, .slice none 0 0] 37) = x3 at hbx hbn W3 O3 HX3 ⊢
          have WVn := Lib.hid (WV.out.below hbn); clear WV; have WV := WVn; clear WVn
          have BBn := Lib.hid (BB.out.trans (hbn.mono BB.out.size)); clear BB; have BB := BBn; clear BBn
          clear ha hs0 hs1 hb hP hbx hbn
          obtain ⟨_, ⟨p1, p2, p3, p4, p5⟩, _⟩ := O3.out.five
          have hgx : b0 < x3.heap.size := WV.out.1
          have nb : ¬ (w3.heap.size = b0) := by have := HB3.out.size; have := HGlt.out; omega
          have nb' : ¬ (b0 = w3.heap.size) := fun e => nb e.symm
          have OF3 : Hid (OffW (fun b => b ≠ b0) A3 n ∧ OffS (fun b => b ≠ b0) x3 R3 2 ∧ OffS (fun b => b ≠ b0) x3 S3 2) := Lib.hid (by
            obtain ⟨q0, q1, q2⟩ := HP3.out (fun b => b ≠ b0) ⟨fun b hb => by have := HGlt.out; omega, O1.out.1, O1.out.2.1, O1.out.2.2⟩
            exact ⟨q0, q1.later HS3.out.1 HX3.out, q2.later HS3.out.2 HX3.out⟩)
          obtain ⟨_, ⟨e0, e1, e2, e3, e4, e5⟩, _⟩ := W3.out.1.six
          obtain ⟨zx, ⟨y0, y1, y2, y3, y4, y5⟩, f0, f1, f2, f3, f4, f5⟩ := WV.out.six
          clear hops HST
          go_upto_region 20 with fail
          have hbb := BB.out
          have hg0 := HG0.out
          refine gen_w (P := fun W => Code.wp _ _ _ _ W) (fun z => WdFrom (fun b => b ≠ b0) (fun _ => False) z b0 2 (c : Int) n r 2 G5 (zerosS 2) (zerosS 2) ∧ Below w.heap.size w z) ⟨⟨A3, ka3, R3, ra3, S3, sa3, ⟨VarAt.of6 (by simp; omega) (by go_simp) (by go_simp) (by go_simp) (by go_simp) (by go_simp) (by go_simp) (by go_simp) (by go_simp) (by go_simp) (by go_simp) (by go_simp) (by go_simp), W3.out.2.1.keep (Q := fun b => b ≠ b0) (by repeat (first | with_reducible exact Keep.refl _ _ | with_reducible refine Keep.drew ?_ | with_reducible refine Keep.alloc ?_ _ | (with_reducible refine Keep.set ?_ _ _ _ (by omega)))) OF3.out.1, W3.out.2.2.1.keep (Q := fun b => b ≠ b0) (by repeat (first | with_reducible exact Keep.refl _ _ | with_reducible refine Keep.drew ?_ | with_reducible refine Keep.alloc ?_ _ | (with_reducible refine Keep.set ?_ _ _ _ (by omega)))) OF3.out.2.1, W3.out.2.2.2.keep (Q := fun b => b ≠ b0) (by repeat (first | with_reducible exact Keep.refl _ _ | with_reducible refine Keep.drew ?_ | with_reducible refine Keep.alloc ?_ _ | (with_reducible refine Keep.set ?_ _ _ _ (by omega)))) OF3.out.2.2⟩, OF3.out.1, OF3.out.2.1.keep W3.out.2.2.1 (Q := fun b => b ≠ b0) (by repeat (first | with_reducible exact Keep.refl _ _ | with_reducible refine Keep.drew ?_ | with_reducible refine Keep.alloc ?_ _ | (with_reducible refine Keep.set ?_ _ _ _ (by omega)))) OF3.out.2.1, OF3.out.2.2.keep W3.out.2.2.2 (Q := fun b => b ≠ b0) (by repeat (first | with_reducible exact Keep.refl _ _ | with_reducible refine Keep.drew ?_ | with_reducible refine Keep.alloc ?_ _ | (with_reducible refine Keep.set ?_ _ _ _ (by omega)))) OF3.out.2.2, fun P h => h.elim⟩, (by repeat (first | with_reducible assumption | with_reducible refine Below.drew ?_ | with_reducible refine below_al ?_ | (with_reducible refine below_set1 (by omega) _ ?_)))⟩ ?_
          rintro z ⟨hz, hbz⟩
          clear W3 O3 HS3 HX3 HB3 HP3 OF3 WV W1 O1 HGlt e0 e1 e2 e3 e4 e5 y0 y1 y2 y3 y4 y5 f0 f1 f2 f3 f4 f5 zx nb nb' hgx p1 p2 p3 p4 p5 hbb hg0 BB HWD
          have HWD := Lib.hid hz
          have BB := Lib.hid hbz
          obtain ⟨lb, lo, rfl, hlb, hlc⟩ := (AtB.later HL hbz).2.2.2 (by omega)
          have hx := hlc i (by omega)
          have hxb : xs.getD i 0 < 256 := by
            have h1 := HL.out.2.1
            have h2 := HL.out.1
            rw [List.getD_eq_getElem?_getD, List.getElem?_eq_getElem (by omega)]
            exact h1 _ (List.getElem_mem _)
          generalize xs.getD i 0 = x at hx hxb
          clear hlc hz hbz hlb
          by_cases hx3 : x % 3 = 0
          case neg =>
            have dx : ((x : Int) % 3 == 0) = false := by rw [beq_eq_false_iff_ne]; omega
            clear hx3
            go_wp2_with fail
            go_roundw
            case rel => exact ⟨i + 1, G5, by omega, by go_num, HNX.out, HWD.out, BB.out⟩
            case measure => simp [intOf]; omega
          case pos =>
            have dx : ((x : Int) % 3 == 0) = true := by rw [beq_iff_eq]; omega
            clear hx3
            obtain ⟨G6, hops, hnx⟩ := HST2a i G5 HNX.out HE5.out hlt
            have HNX2 := Lib.hid hnx
            clear hnx
            have HAL : ∀ (A : Option Addr) (ka : Nat) (R : Option Addr) (ra : Nat) (S : Option Addr) (sa : Nat) (w : World), Hid (AtW w A n G5) → Hid (StmsAt w R 2 (zerosS 2)) → Hid (StmsAt w S 2 (zerosS 2)) →
                Calls Try.prog 16 #[.agg #[.int .i64 2, .int .i64 (c : Int), .slice A n ka, .int .u64 (r : Int), .slice R 2 ra, .slice S 2 sa], .int .i64 1, .agg #[.int .i64 19, .int .i64 0, .int .i64 0, .int .u64 0], .int .i64 200] w (AloneEndE w 2 (c : Int) A n r R S 2 G6 (zerosS 2) (zerosS 2) 0 true 0) := HOPS 1 19 0 1 0 true 0 G5 G6 200 200 (by decide) hops (Nat.le_refl _) (by decide) (by decide) rfl rfl rfl
            obtain ⟨A1, ka1, R1, ra1, S1, sa1, hW, o0, o1, o2, _⟩ := HWD.out
            have W1 := Lib.hid hW
            have O1 := Lib.hid (And.intro o0 (And.intro o1 o2))
            obtain ⟨c0, c1, c2, c3, c4, c5⟩ := hW.cells
            have HGlt := Lib.hid hW.1.1
            clear hW o0 o1 o2
            have WV := Lib.hid W1.out.1
            go_wp2_with fail
            (with_reducible refine (HAL A1 ka1 R1 ra1 S1 sa1 _ W1.out.gA W1.out.g0 W1.out.g1).mono ?_)
            clear HAL c0 c1 c2 c3 c4 c5
            rintro e w3 ⟨A3, ka3, R3, ra3, S3, sa3, rfl, ha, hs0, hs1, hb, hP⟩
            go_upto_region 22 with fail
            have hbx : Below w3.heap.size w3 ((w3.alloc (.cells #[.int .i64 2, .int .i64 (c : Int), .slice A3 n ka3, .int .u64 (r : Int), .slice R3 2 ra3, .slice S3 2 sa3] 51)).alloc (.cells #[.int .i64 0, .bool true, .int .i64 0, .int .u64 0, .slice none 0 0] 37)) := below_pair _ _ _
            have W3 := Lib.hid (WdAt.made (t := 2) (c := (c : Int)) (k := ka3) (r := r) (ra := ra3) (sa := sa3) w3 (.cells #[.int .i64 0, .bool true, .int .i64 0, .int .u64 0, .slice none 0 0] 37) 51 ha hs0 hs1)
            have O3 := Lib.hid (VarAt.made1 w3 (.cells #[.int .i64 2, .int .i64 (c : Int), .slice A3 n ka3, .int .u64 (r : Int), .slice R3 2 ra3, .slice S3 2 sa3] 51) #[.int .i64 0, .bool true, .int .i64 0, .int .u64 0, .slice none 0 0] 37)
            have hbn := hb.trans (hbx.mono hb.size)
            have HS3 := Lib.hid (And.intro hs0 hs1)
            have HX3 := Lib.hid hbx
            have HB3 := Lib.hid hb
            have HP3 := Lib.hid hP
            generalize (w3.alloc (.cells #[.int .i64 2, .int .i64 (c : Int), .slice A3 n ka3, .int .u64 (r : Int), .slice R3 2 ra3, .slice S3 2 sa3] 51)).alloc (.cells #[.int .i64 0, .bool true, .int .i64 0, .int .u64 0, .slice none 0 0] 37) = x3 at hbx hbn W3 O3 HX3 ⊢
            have WVn := Lib.hid (WV.out.below hbn); clear WV; have WV := WVn; clear WVn
            have BBn := Lib.hid (BB.out.trans (hbn.mono BB.out.size)); clear BB; have BB := BBn; clear BBn
            clear ha hs0 hs1 hb hP hbx hbn
            obtain ⟨_, ⟨p1, p2, p3, p4, p5⟩, _⟩ := O3.out.five
            have hgx : b0 < x3.heap.size := WV.out.1
            have nb : ¬ (w3.heap.size = b0) := by have := HB3.out.size; have := HGlt.out; omega
            have nb' : ¬ (b0 = w3.heap.size) := fun e => nb e.symm
            have OF3 : Hid (OffW (fun b => b ≠ b0) A3 n ∧ OffS (fun b => b ≠ b0) x3 R3 2 ∧ OffS (fun b => b ≠ b0) x3 S3 2) := Lib.hid (by
              obtain ⟨q0, q1, q2⟩ := HP3.out (fun b => b ≠ b0) ⟨fun b hb => by have := HGlt.out; omega, O1.out.1, O1.out.2.1, O1.out.2.2⟩
              exact ⟨q0, q1.later HS3.out.1 HX3.out, q2.later HS3.out.2 HX3.out⟩)
            obtain ⟨_, ⟨e0, e1, e2, e3, e4, e5⟩, _⟩ := W3.out.1.six
            obtain ⟨zx, ⟨y0, y1, y2, y3, y4, y5⟩, f0, f1, f2, f3, f4, f5⟩ := WV.out.six
            clear hops HNX
            go_wp2_with fail
            have hbb := BB.out
            have hg0 := HG0.out
            go_roundw
            case rel => exact ⟨i + 1, G6, by omega, by go_num, HNX2.out, ⟨A3, ka3, R3, ra3, S3, sa3, ⟨VarAt.of6 (by simp; omega) (by go_simp) (by go_simp) (by go_simp) (by go_simp) (by go_simp) (by go_simp) (by go_simp) (by go_simp) (by go_simp) (by go_simp) (by go_simp) (by go_simp), W3.out.2.1.keep (Q := fun b => b ≠ b0) (by repeat (first | with_reducible exact Keep.refl _ _ | with_reducible refine Keep.drew ?_ | with_reducible refine Keep.alloc ?_ _ | (with_reducible refine Keep.set ?_ _ _ _ (by omega)))) OF3.out.1, W3.out.2.2.1.keep (Q := fun b => b ≠ b0) (by repeat (first | with_reducible exact Keep.refl _ _ | with_reducible refine Keep.drew ?_ | with_reducible refine Keep.alloc ?_ _ | (with_reducible refine Keep.set ?_ _ _ _ (by omega)))) OF3.out.2.1, W3.out.2.2.2.keep (Q := fun b => b ≠ b0) (by repeat (first | with_reducible exact Keep.refl _ _ | with_reducible refine Keep.drew ?_ | with_reducible refine Keep.alloc ?_ _ | (with_reducible refine Keep.set ?_ _ _ _ (by omega)))) OF3.out.2.2⟩, OF3.out.1, OF3.out.2.1.keep W3.out.2.2.1 (Q := fun b => b ≠ b0) (by repeat (first | with_reducible exact Keep.refl _ _ | with_reducible refine Keep.drew ?_ | with_reducible refine Keep.alloc ?_ _ | (with_reducible refine Keep.set ?_ _ _ _ (by omega)))) OF3.out.2.1, OF3.out.2.2.keep W3.out.2.2.2 (Q := fun b => b ≠ b0) (by repeat (first | with_reducible exact Keep.refl _ _ | with_reducible refine Keep.drew ?_ | with_reducible refine Keep.alloc ?_ _ | (with_reducible refine Keep.set ?_ _ _ _ (by omega)))) OF3.out.2.2, fun P h => h.elim⟩, (by repeat (first | with_reducible assumption | with_reducible refine Below.drew ?_ | with_reducible refine below_al ?_ | (with_reducible refine below_set1 (by omega) _ ?_)))⟩
            case measure => simp [intOf]; omega
        case neg =>
          obtain rfl : c = i := by omega
          have d1 : decide ((c : Int) < (c : Int)) = false := by rw [decide_eq_false_iff_not]; omega
          have d1' : decide (c < c) = false := by rw [decide_eq_false_iff_not]; omega
          have HZ : Hid (WdFrom (fun b => b ≠ b0) (fun _ => False) wr b0 2 (c : Int) n r 2 G (zerosS 2) (zerosS 2) ∧ Below w.heap.size w wr) := Lib.hid ⟨HWD.out, BB.out⟩
          clear HWD BB hcc hik hlt
          go_wp2_with fail
          go_loopw [19] (fun u wr => ∃ (i : Nat) (G : Nat → Nat), i ≤ 3 ∧ u = .int .i64 (i : Int) ∧ B3 c i G ∧ WdFrom (fun b => b ≠ b0) (fun _ => False) wr b0 2 (c : Int) n r 2 G (zerosS 2) (zerosS 2) ∧ Below w.heap.size w wr) (fun u _ => 3 - (intOf u).toNat)
          case atStart => exact ⟨0, G, by omega, rfl, HST.out.end_, HZ.out.1, HZ.out.2⟩
          case round =>
            clear HZ
            obtain ⟨i, G, hik, rfl, hst, hwd, hbl⟩ := hrel
            have HWD := Lib.hid hwd
            have BB := Lib.hid hbl
            have HST := Lib.hid hst
            have hcc := HCK.out
            clear hwd hbl hst
            by_cases hlt : i < 3
            case pos =>
              obtain ⟨G5, hops, hnx⟩ := HST3 i G HST.out hlt
              have HNX := Lib.hid hnx
              have d1 : decide ((i : Int) < (3 : Int)) = true := by rw [decide_eq_true_iff]; omega
              have d1' : decide (i < 3) = true := by rw [decide_eq_true_iff]; omega
              have HAL : ∀ (A : Option Addr) (ka : Nat) (R : Option Addr) (ra : Nat) (S : Option Addr) (sa : Nat) (w : World), Hid (AtW w A n G) → Hid (StmsAt w R 2 (zerosS 2)) → Hid (StmsAt w S 2 (zerosS 2)) →
                  Calls Try.prog 16 #[.agg #[.int .i64 2, .int .i64 (c : Int), .slice A n ka, .int .u64 (r : Int), .slice R 2 ra, .slice S 2 sa], .int .i64 0, .agg #[.int .i64 19, .int .i64 0, .int .i64 0, .int .u64 0], .int .i64 200] w (AloneEndE w 2 (c : Int) A n r R S 2 G5 (zerosS 2) (zerosS 2) 0 true 0) := HOPS 0 19 0 1 0 true 0 G G5 200 200 (by decide) hops (Nat.le_refl _) (by decide) (by decide) rfl rfl rfl
              obtain ⟨A1, ka1, R1, ra1, S1, sa1, hW, o0, o1, o2, _⟩ := HWD.out
              have W1 := Lib.hid hW
              have O1 := Lib.hid (And.intro o0 (And.intro o1 o2))
              obtain ⟨c0, c1, c2, c3, c4, c5⟩ := hW.cells
              have HGlt := Lib.hid hW.1.1
              clear hW o0 o1 o2
              have WV := Lib.hid W1.out.1
              go_wp2_with fail
              (with_reducible refine (HAL A1 ka1 R1 ra1 S1 sa1 _ W1.out.gA W1.out.g0 W1.out.g1).mono ?_)
              clear HAL c0 c1 c2 c3 c4 c5
              rintro e w3 ⟨A3, ka3, R3, ra3, S3, sa3, rfl, ha, hs0, hs1, hb, hP⟩
              go_upto_region 29 with fail
              have hbx : Below w3.heap.size w3 ((w3.alloc (.cells #[.int .i64 2, .int .i64 (c : Int), .slice A3 n ka3, .int .u64 (r : Int), .slice R3 2 ra3, .slice S3 2 sa3] 51)).alloc (.cells #[.int .i64 0, .bool true, .int .i64 0, .int .u64 0, .slice none 0 0] 37)) := below_pair _ _ _
              have W3 := Lib.hid (WdAt.made (t := 2) (c := (c : Int)) (k := ka3) (r := r) (ra := ra3) (sa := sa3) w3 (.cells #[.int .i64 0, .bool true, .int .i64 0, .int .u64 0, .slice none 0 0] 37) 51 ha hs0 hs1)
              have O3 := Lib.hid (VarAt.made1 w3 (.cells #[.int .i64 2, .int .i64 (c : Int), .slice A3 n ka3, .int .u64 (r : Int), .slice R3 2 ra3, .slice S3 2 sa3] 51) #[.int .i64 0, .bool true, .int .i64 0, .int .u64 0, .slice none 0 0] 37)
              have hbn := hb.trans (hbx.mono hb.size)
              have HS3 := Lib.hid (And.intro hs0 hs1)
              have HX3 := Lib.hid hbx
              have HB3 := Lib.hid hb
              have HP3 := Lib.hid hP
              generalize (w3.alloc (.cells #[.int .i64 2, .int .i64 (c : Int), .slice A3 n ka3, .int .u64 (r : Int), .slice R3 2 ra3, .slice S3 2 sa3] 51)).alloc (.cells #[.int .i64 0, .bool true, .int .i64 0, .int .u64 0, .slice none 0 0] 37) = x3 at hbx hbn W3 O3 HX3 ⊢
              have WVn := Lib.hid (WV.out.below hbn); clear WV; have WV := WVn; clear WVn
              have BBn := Lib.hid (BB.out.trans (hbn.mono BB.out.size)); clear BB; have BB := BBn; clear BBn
              clear ha hs0 hs1 hb hP hbx hbn
              obtain ⟨_, ⟨p1, p2, p3, p4, p5⟩, _⟩ := O3.out.five
              have hgx : b0 < x3.heap.size := WV.out.1
              have nb : ¬ (w3.heap.size = b0) := by have := HB3.out.size; have := HGlt.out; omega
              have nb' : ¬ (b0 = w3.heap.size) := fun e => nb e.symm
              have OF3 : Hid (OffW (fun b => b ≠ b0) A3 n ∧ OffS (fun b => b ≠ b0) x3 R3 2 ∧ OffS (fun b => b ≠ b0) x3 S3 2) := Lib.hid (by
                obtain ⟨q0, q1, q2⟩ := HP3.out (fun b => b ≠ b0) ⟨fun b hb => by have := HGlt.out; omega, O1.out.1, O1.out.2.1, O1.out.2.2⟩
                exact ⟨q0, q1.later HS3.out.1 HX3.out, q2.later HS3.out.2 HX3.out⟩)
              obtain ⟨_, ⟨e0, e1, e2, e3, e4, e5⟩, _⟩ := W3.out.1.six
              obtain ⟨zx, ⟨y0, y1, y2, y3, y4, y5⟩, f0, f1, f2, f3, f4, f5⟩ := WV.out.six
              clear hops hnx HST
              go_wp2_with fail
              have hbb := BB.out
              have hg0 := HG0.out
              go_roundw
              case rel => exact ⟨i + 1, G5, by omega, by go_num, HNX.out, ⟨A3, ka3, R3, ra3, S3, sa3, ⟨VarAt.of6 (by simp; omega) (by go_simp) (by go_simp) (by go_simp) (by go_simp) (by go_simp) (by go_simp) (by go_simp) (by go_simp) (by go_simp) (by go_simp) (by go_simp) (by go_simp), W3.out.2.1.keep (Q := fun b => b ≠ b0) (by repeat (first | with_reducible exact Keep.refl _ _ | with_reducible refine Keep.drew ?_ | with_reducible refine Keep.alloc ?_ _ | (with_reducible refine Keep.set ?_ _ _ _ (by omega)))) OF3.out.1, W3.out.2.2.1.keep (Q := fun b => b ≠ b0) (by repeat (first | with_reducible exact Keep.refl _ _ | with_reducible refine Keep.drew ?_ | with_reducible refine Keep.alloc ?_ _ | (with_reducible refine Keep.set ?_ _ _ _ (by omega)))) OF3.out.2.1, W3.out.2.2.2.keep (Q := fun b => b ≠ b0) (by repeat (first | with_reducible exact Keep.refl _ _ | with_reducible refine Keep.drew ?_ | with_reducible refine Keep.alloc ?_ _ | (with_reducible refine Keep.set ?_ _ _ _ (by omega)))) OF3.out.2.2⟩, OF3.out.1, OF3.out.2.1.keep W3.out.2.2.1 (Q := fun b => b ≠ b0) (by repeat (first | with_reducible exact Keep.refl _ _ | with_reducible refine Keep.drew ?_ | with_reducible refine Keep.alloc ?_ _ | (with_reducible refine Keep.set ?_ _ _ _ (by omega)))) OF3.out.2.1, OF3.out.2.2.keep W3.out.2.2.2 (Q := fun b => b ≠ b0) (by repeat (first | with_reducible exact Keep.refl _ _ | with_reducible refine Keep.drew ?_ | with_reducible refine Keep.alloc ?_ _ | (with_reducible refine Keep.set ?_ _ _ _ (by omega)))) OF3.out.2.2, fun P h => h.elim⟩, (by repeat (first | with_reducible assumption | with_reducible refine Below.drew ?_ | with_reducible refine below_al ?_ | (with_reducible refine below_set1 (by omega) _ ?_)))⟩
              case measure => simp [intOf]; omega
            case neg =>
              obtain rfl : 3 = i := by omega
              have d1 : decide ((3 : Int) < (3 : Int)) = false := by rw [decide_eq_false_iff_not]; omega
              have d1' : decide (3 < 3) = false := by rw [decide_eq_false_iff_not]; omega
              obtain ⟨A1, ka1, R1, ra1, S1, sa1, hW, o0, o1, o2, _⟩ := HWD.out
              have W1 := Lib.hid hW
              have O1 := Lib.hid (And.intro o0 (And.intro o1 o2))
              obtain ⟨c0, c1, c2, c3, c4, c5⟩ := hW.cells
              have HGlt := Lib.hid hW.1.1
              clear hW o0 o1 o2
              obtain ⟨free, hF, hlen, hle, hall⟩ := HST.out.end_
              have HFR := HFREE A1 ka1 G free hF hle (by omega)
              have HALL := Lib.hid hall
              have HLEN := Lib.hid hlen
              clear hF hlen hle hall HST HFREE HST1 HST2 HST2a HST3 HOPS
              go_wp2_with fail
              (with_reducible refine (HFR _ W1.out.gA).mono ?_)
              clear HFR c0 c1 c2 c3 c4 c5
              rintro e w2 ⟨v23, rfl, hown, hb⟩
              have BBn := Lib.hid (BB.out.trans (hb.mono BB.out.size)); clear BB; have BB := BBn; clear BBn
              obtain ⟨fa, fcap, rfl, _, _, _⟩ := hown.form
              have HOW := Lib.hid hown
              rw [HLEN.out] at HOW ⊢
              clear hown hb
              have dl : ((c : Int) == (c : Int)) = true := by rw [beq_iff_eq]
              go_wp2_with fail
              go_loopw [24] (fun u wr => ∃ q : Nat, 1 ≤ q ∧ q ≤ c + 1 ∧ u = .int .i64 (q : Int) ∧ wr = w2) (fun u _ => c + 1 - (intOf u).toNat)
              case atStart => exact ⟨1, by omega, by omega, rfl, rfl⟩
              case round =>
                obtain ⟨q, hq1, hq2, rfl, rfl⟩ := hrel
                by_cases hqc : q ≤ c
                case pos =>
                  have dq : decide ((q : Int) ≤ (c : Int)) = true := by rw [decide_eq_true_iff]; omega
                  have dq' : decide (q ≤ c) = true := by rw [decide_eq_true_iff]; omega
                  have HIN : ∀ w', w' = wr → Calls Try.prog 17 #[.slice fa c fcap, .int .i64 (q : Int)] w' fun e w'' => e = .returned (.bool true) ∧ w' = w'' := fun w' hw => by
                    subst hw
                    have h := in_at fa c fcap free _ q w' HOW (by rw [HLEN.out]; omega)
                    rwa [decide_eq_true (HALL.out q hq1 hqc)] at h
                  go_wp2_with fail
                  (with_reducible refine (HIN _ rfl).mono ?_)
                  rintro e w' ⟨rfl, rfl⟩
                  go_wp2_with fail
                  go_roundw
                  case rel => exact ⟨q + 1, by omega, by omega, by go_num, trivial⟩
                  case measure => simp [intOf]; omega
                case neg =>
                  obtain rfl : q = c + 1 := by omega
                  have dq : decide (((c + 1 : Nat) : Int) ≤ (c : Int)) = false := by rw [decide_eq_false_iff_not]; omega
                  have dq' : decide (c + 1 ≤ c) = false := by rw [decide_eq_false_iff_not]; omega
                  go_wp2_with fail
                  go_ret
                  exact ⟨rfl, BB.out⟩
section
set_option maxRecDepth 100000
set_option maxHeartbeats 2000000
variable {H : Type} {enc : TypeId × Value → H} {w : World}
theorem open_a {v : Value} {d : DataW H} {ps : List MemPlace} {base : Nat} (hval : Value.okWide Try.prog w .any base 5 v) (h : DataW.Trod enc Try.prog w 0 (fun _ => true) true 5 v d ps) (hs : Sized Try.prog 5 d) (hlt : ∀ z ∈ ps, z.block < w.heap.size) :
    ∃ (a : Nat), v = .int .u8 (a : Int) ∧ a < 256 := by
  obtain ⟨a0, rfl⟩ := okWide_int Try.underlying5 hval
  obtain ⟨fuel, hf0⟩ := h
  have hf : DataW.trod enc Try.prog w 0 (fun _ => true) true fuel 5 [.int .u8 a0] = some (d, ps) := hf0
  obtain ⟨a, e0, ha⟩ := leaf_u8 Try.underlying5 hf
  cases e0
  exact ⟨_, rfl, ha⟩
theorem open_b {v : Value} {d : DataW H} {ps : List MemPlace} {base : Nat} (hval : Value.okWide Try.prog w .any base 30 v) (h : DataW.Trod enc Try.prog w 0 (fun _ => true) true 30 v d ps) (hs : Sized Try.prog 30 d) (hlt : ∀ z ∈ ps, z.block < w.heap.size) :
    ∃ (bA : Option Addr) (bL bC : Nat) (bx : List Nat), v = .slice bA bL bC ∧ (bL ≤ bC ∧ bL ≤ 140737488355328 ∧ AtB w bA bL bx) := by
  obtain ⟨a0, len, cap, rfl⟩ := okWide_slice Try.underlying30 hval
  obtain ⟨fuel, hf0⟩ := h
  have hf : DataW.trod enc Try.prog w 0 (fun _ => true) true fuel 30 [.slice a0 len cap] = some (d, ps) := hf0
  obtain ⟨bA, bL, bC, bx, e0, hb⟩ := leaf_bytes hf hs hlt
  cases e0
  exact ⟨_, _, _, _, rfl, hb⟩
end

set_option maxRecDepth 100000 in
set_option maxHeartbeats 8000000 in
theorem lifted (os : Os) (started : os.Started) (H : Type) (enc : TypeId × Value → H) :
    ReturnsInHanded {} Try.checked os 7 .any (Rows.epochBackSpec.pre6 enc Try.prog Try.f7 Rows.epochBackRow.domain false) (Rows.epochBackSpec.post enc Try.prog Try.f7 false true false false) := by
  refine law_lifted (C := Try.checked) own started (by kernel_rfl) Try.func7
    (ChangeSpec.witness6 (enc := enc) (C := Try.checked) false ⟨#[], #[.int .u8 0, .slice none 0 0], []⟩ 8 (by kernel_rfl) (by kernel_rfl) (by kernel_rfl) (by kernel_rfl))
    (by kernel_rfl) (by kernel_rfl) Try.underlying4 rfl (by kernel_rfl) ?_
  intro W base args ds before hval hA hwt hlt
  have hA' : DataW.TrodAll enc Try.prog W 0 (fun _ => true) true Try.f7.params.toList args.toList ds before := hA
  have hval' : ∀ (j : Nat) t v, Try.f7.params[j]? = some t → args[j]? = some v → Value.okWide Try.prog W .any base t v := hval
  have hwt' : (DataW.weightsEach Try.prog Try.f7.params.toList ds).all (· ≤ reachBytes) = true := hwt
  rw [Try.params7] at hA' hval' hwt'
  obtain ⟨v0, vs0, d0, ds0, p0, q0, hargs, rfl, rfl, k0, r0⟩ := trodAll_cons hA'
  obtain ⟨v1, vs1, d1, ds1, p1, q1, rfl, rfl, rfl, k1, r1⟩ := trodAll_cons r0
  obtain ⟨rfl, rfl, rfl⟩ := trodAll_nil r1
  obtain rfl : args = #[v0, v1] := by cases args; simp_all
  obtain ⟨a, rfl, ha⟩ := open_a (hval' 0 5 v0 rfl rfl) k0 (sized_of hwt' (j := 0) (t := 5) rfl rfl) (fun x hx => hlt x (by simp [hx]))
  obtain ⟨bA, bL, bC, bx, rfl, hb⟩ := open_b (hval' 1 30 v1 rfl rfl) k1 (sized_of hwt' (j := 1) (t := 30) rfl rfl) (fun x hx => hlt x (by simp [hx]))
  refine ⟨rfl, ?_⟩
  obtain ⟨hbc, hb9, hbat⟩ := hb
  by_cases hln : bL < a % 9
  · exact walkA a ha bA bL bC bx hln W (Lib.hid hbat)
  · exact walk a ha bA bL bC bx (by omega) W (Lib.hid hbat)

theorem over : Rows.epochBackRow.holds Try.pinned (OpenSpec.ofChange Rows.epochBackSpec) :=
  OpenClaim.holds_of_wide 7 Try.f7 rfl rfl rfl rfl rfl rfl rfl ⟨rfl, rfl, rfl, rfl, rfl⟩ rfl rfl rfl rfl rfl (by kernel_rfl) Try.func7 (by kernel_rfl)
    (of_decide_eq_true (by kernel_rfl)) (by unfold Func.isWrapper; first | (rw [if_pos (by decide +kernel)]; kernel_rfl) | (rw [if_neg (by decide +kernel)]; exact ⟨rfl, rfl⟩))
    (fun os started H enc _ => lifted os started H enc)

/-- The statement. -/
theorem proved : Rows.EpochBackSaid :=
  over
#print axioms proved
end Go.Proofs.Ythcifknnppohfaa.epochBack
